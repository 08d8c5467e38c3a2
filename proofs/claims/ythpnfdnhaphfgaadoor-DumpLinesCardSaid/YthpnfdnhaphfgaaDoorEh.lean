/- The document's signs of a byte, and its Put. -/
import Derived.Deep.QuietTactic
import Derived.BigQuiet
import Derived.Laws.BitsLemmas
import Derived.Test.YthpnfdnhaphfgaaDoorEe0
import Derived.Test.YthpnfdnhaphfgaaDoorEt
namespace Go.Proofs.YthpnfdnhaphfgaaDoor
open Go.RowKit

set_option maxRecDepth 100000 in
set_option maxHeartbeats 1000000 in
theorem sign_self (n : Nat) (b : UInt8) (hn : b.toNat = n) (h1 : 33 ≤ n) (h2 : n ≤ 126) (h3 : n ≠ 92) (w : World) :
    Calls Tryd.prog 53 #[.int .u8 (n : Int), .bool false] w fun e w' => e = .returned (.string (tx [b])) ∧ Below w.heap.size w w' := by
  have k3 : ((n : Int) == 92) = false := by simp; omega
  have k4 : ((n : Int) != 92) = true := by simp; omega
  have hcv : (convert 53 9 (.slice (some ⟨w.heap.size, 0, none⟩) 1 1)).run Tryd.prog (w.alloc (.cells #[.int .u8 (n : Int)] 5)) = .ok (.string (tx [b])) (w.alloc (.cells #[.int .u8 (n : Int)] 5)) := by
    have h := reads_one w 5 b
    have e : bv b = .int .u8 (n : Int) := by unfold bv; rw [hn]
    rw [e] at h
    exact conv_reads Tryd.underlying53 Tryd.underlying5 Tryd.underlying9 h
  clear hn
  go_enter Tryd.func53, Tryd.ntmps53
  go_wp2
  go_ret
  exact ⟨rfl, (Below.refl _ _).alloc (Nat.le_refl _) _⟩

set_option maxRecDepth 100000 in
set_option maxHeartbeats 1000000 in
theorem sign_three (n : Nat) (all : Bool) (hn8 : n < 256) (h : all = true ∨ n < 33 ∨ 126 < n ∨ n = 92) (w : World) :
    Calls Tryd.prog 53 #[.int .u8 (n : Int), .bool all] w fun e w' => e = .returned (.string (tx [92, dig (n / 16), dig (n % 16)])) ∧ Below w.heap.size w w' := by
  have H : ∀ (Q : Exit → Act → World → Prop) (a : Act), True := fun _ _ => trivial
  clear H
  have hrd : Hid (∀ W : World, Reads (W.alloc (.cells #[.int .u8 92, .int .u8 ((dig (n / 16)).toNat : Int), .int .u8 ((dig (n % 16)).toNat : Int)] 5)) (W.heap.size + 1) 1 (some ⟨W.heap.size, 0, none⟩) 3 ([92, dig (n / 16), dig (n % 16)].map bv)) := fun W => reads_three W 5 92 (dig (n / 16)) (dig (n % 16))
  have hx : all = true ∨ (all = false ∧ n < 33) ∨ (all = false ∧ 33 ≤ n ∧ 126 < n) ∨ (all = false ∧ n = 92) := by
    cases all
    · rcases h with h | h | h | h
      · cases h
      · exact .inr (.inl ⟨rfl, h⟩)
      · exact .inr (.inr (.inl ⟨rfl, by omega, h⟩))
      · exact .inr (.inr (.inr ⟨rfl, h⟩))
    · exact .inl rfl
  clear h
  rcases hx with rfl | ⟨rfl, h⟩ | ⟨rfl, h, h5⟩ | ⟨rfl, rfl⟩
  · go_enter Tryd.func53, Tryd.ntmps53
    go_wp2
    refine wp_region_held (S := fun _ => True) (by kernel_rfl) ?_
    refine h_take 0 (.string { data := #[48, 49, 50, 51, 52, 53, 54, 55, 56, 57, 97, 98, 99, 100, 101, 102] }) rfl (by kernel_rfl) (by kernel_rfl) (by kernel_rfl) (fun _ _ _ h => h) (by kernel_rfl) trivial (fun _ _ => by kernel_rfl) ?_
    refine h_take 1 (.int .u8 (n : Int)) rfl (by kernel_rfl) (by kernel_rfl) (by kernel_rfl) (fun _ _ _ h => h) (by kernel_rfl) trivial (fun _ _ => by kernel_rfl) ?_
    refine h_take 2 (.int .u8 ((n / 16 : Nat) : Int)) rfl (by kernel_rfl) (by kernel_rfl) (by kernel_rfl) (fun _ _ _ h => h) (by kernel_rfl) trivial (by intro v hv; go_simp; exact wraps_u8 _ (by omega) (by omega)) ?_
    refine h_take 3 (.int .u8 ((dig (n / 16)).toNat : Int)) rfl (by kernel_rfl) (by kernel_rfl) (by kernel_rfl) (fun _ _ _ h => h) (by kernel_rfl) trivial (by intro v hv; go_simp; exact digs_ix _ _ (by omega) (by omega) _ _ _) ?_
    refine h_take 4 (.string { data := #[48, 49, 50, 51, 52, 53, 54, 55, 56, 57, 97, 98, 99, 100, 101, 102] }) rfl (by kernel_rfl) (by kernel_rfl) (by kernel_rfl) (fun _ _ _ h => h) (by kernel_rfl) trivial (fun _ _ => by kernel_rfl) ?_
    refine h_take 5 (.int .u8 (n : Int)) rfl (by kernel_rfl) (by kernel_rfl) (by kernel_rfl) (fun _ _ _ h => h) (by kernel_rfl) trivial (fun _ _ => by kernel_rfl) ?_
    refine h_take 6 (.int .u8 ((n % 16 : Nat) : Int)) rfl (by kernel_rfl) (by kernel_rfl) (by kernel_rfl) (fun _ _ _ h => h) (by kernel_rfl) trivial (by intro v hv; go_simp; exact Int.tmod_eq_emod_of_nonneg (by omega)) ?_
    refine h_take 7 (.int .u8 ((dig (n % 16)).toNat : Int)) rfl (by kernel_rfl) (by kernel_rfl) (by kernel_rfl) (fun _ _ _ h => h) (by kernel_rfl) trivial (by intro v hv; go_simp; exact digs_ix _ _ (by omega) (by omega) _ _ _) ?_
    refine h_one 8 rfl (by kernel_rfl) (by kernel_rfl) (fun K hK => ?_)
    go_simp
    refine hK _ _ trivial ?_
    clear hK K
    refine h_one 9 rfl (by kernel_rfl) (by kernel_rfl) (fun K hK => ?_)
    have hcv : (convert 53 9 (.slice (some ⟨w.heap.size, 0, none⟩) 3 3)).run Tryd.prog (w.alloc (.cells #[.int .u8 92, .int .u8 ((dig (n / 16)).toNat : Int), .int .u8 ((dig (n % 16)).toNat : Int)] 5)).drew = .ok (.string (tx [92, dig (n / 16), dig (n % 16)])) (w.alloc (.cells #[.int .u8 92, .int .u8 ((dig (n / 16)).toNat : Int), .int .u8 ((dig (n % 16)).toNat : Int)] 5)).drew := conv_reads (P := Tryd.prog) (src := 53) (dst := 9) (c := 3) Tryd.underlying53 Tryd.underlying5 Tryd.underlying9 (hrd.out w).drew
    go_simp
    refine hK _ _ trivial ?_
    clear hK K
    refine h_take 10 (.string (tx [92, dig (n / 16), dig (n % 16)])) rfl (by kernel_rfl) (by kernel_rfl) (by kernel_rfl) (fun _ _ _ h => h) (by kernel_rfl) trivial (fun _ _ => by kernel_rfl) ?_
    refine wpAnyH_done (by kernel_rfl) ?_ _
    go_simp
    go_wp2
    go_ret
    exact ⟨rfl, ((Below.refl _ w).alloc (Nat.le_refl _) _).drew⟩
  · go_enter Tryd.func53, Tryd.ntmps53
    go_wp2
    refine wp_region_held (S := fun _ => True) (by kernel_rfl) ?_
    refine h_take 0 (.string { data := #[48, 49, 50, 51, 52, 53, 54, 55, 56, 57, 97, 98, 99, 100, 101, 102] }) rfl (by kernel_rfl) (by kernel_rfl) (by kernel_rfl) (fun _ _ _ h => h) (by kernel_rfl) trivial (fun _ _ => by kernel_rfl) ?_
    refine h_take 1 (.int .u8 (n : Int)) rfl (by kernel_rfl) (by kernel_rfl) (by kernel_rfl) (fun _ _ _ h => h) (by kernel_rfl) trivial (fun _ _ => by kernel_rfl) ?_
    refine h_take 2 (.int .u8 ((n / 16 : Nat) : Int)) rfl (by kernel_rfl) (by kernel_rfl) (by kernel_rfl) (fun _ _ _ h => h) (by kernel_rfl) trivial (by intro v hv; go_simp; exact wraps_u8 _ (by omega) (by omega)) ?_
    refine h_take 3 (.int .u8 ((dig (n / 16)).toNat : Int)) rfl (by kernel_rfl) (by kernel_rfl) (by kernel_rfl) (fun _ _ _ h => h) (by kernel_rfl) trivial (by intro v hv; go_simp; exact digs_ix _ _ (by omega) (by omega) _ _ _) ?_
    refine h_take 4 (.string { data := #[48, 49, 50, 51, 52, 53, 54, 55, 56, 57, 97, 98, 99, 100, 101, 102] }) rfl (by kernel_rfl) (by kernel_rfl) (by kernel_rfl) (fun _ _ _ h => h) (by kernel_rfl) trivial (fun _ _ => by kernel_rfl) ?_
    refine h_take 5 (.int .u8 (n : Int)) rfl (by kernel_rfl) (by kernel_rfl) (by kernel_rfl) (fun _ _ _ h => h) (by kernel_rfl) trivial (fun _ _ => by kernel_rfl) ?_
    refine h_take 6 (.int .u8 ((n % 16 : Nat) : Int)) rfl (by kernel_rfl) (by kernel_rfl) (by kernel_rfl) (fun _ _ _ h => h) (by kernel_rfl) trivial (by intro v hv; go_simp; exact Int.tmod_eq_emod_of_nonneg (by omega)) ?_
    refine h_take 7 (.int .u8 ((dig (n % 16)).toNat : Int)) rfl (by kernel_rfl) (by kernel_rfl) (by kernel_rfl) (fun _ _ _ h => h) (by kernel_rfl) trivial (by intro v hv; go_simp; exact digs_ix _ _ (by omega) (by omega) _ _ _) ?_
    refine h_one 8 rfl (by kernel_rfl) (by kernel_rfl) (fun K hK => ?_)
    go_simp
    refine hK _ _ trivial ?_
    clear hK K
    refine h_one 9 rfl (by kernel_rfl) (by kernel_rfl) (fun K hK => ?_)
    have hcv : (convert 53 9 (.slice (some ⟨w.heap.size, 0, none⟩) 3 3)).run Tryd.prog (w.alloc (.cells #[.int .u8 92, .int .u8 ((dig (n / 16)).toNat : Int), .int .u8 ((dig (n % 16)).toNat : Int)] 5)).drew = .ok (.string (tx [92, dig (n / 16), dig (n % 16)])) (w.alloc (.cells #[.int .u8 92, .int .u8 ((dig (n / 16)).toNat : Int), .int .u8 ((dig (n % 16)).toNat : Int)] 5)).drew := conv_reads (P := Tryd.prog) (src := 53) (dst := 9) (c := 3) Tryd.underlying53 Tryd.underlying5 Tryd.underlying9 (hrd.out w).drew
    go_simp
    refine hK _ _ trivial ?_
    clear hK K
    refine h_take 10 (.string (tx [92, dig (n / 16), dig (n % 16)])) rfl (by kernel_rfl) (by kernel_rfl) (by kernel_rfl) (fun _ _ _ h => h) (by kernel_rfl) trivial (fun _ _ => by kernel_rfl) ?_
    refine wpAnyH_done (by kernel_rfl) ?_ _
    go_simp
    go_wp2
    go_ret
    exact ⟨rfl, ((Below.refl _ w).alloc (Nat.le_refl _) _).drew⟩
  · go_enter Tryd.func53, Tryd.ntmps53
    go_wp2
    refine wp_region_held (S := fun _ => True) (by kernel_rfl) ?_
    refine h_take 0 (.string { data := #[48, 49, 50, 51, 52, 53, 54, 55, 56, 57, 97, 98, 99, 100, 101, 102] }) rfl (by kernel_rfl) (by kernel_rfl) (by kernel_rfl) (fun _ _ _ h => h) (by kernel_rfl) trivial (fun _ _ => by kernel_rfl) ?_
    refine h_take 1 (.int .u8 (n : Int)) rfl (by kernel_rfl) (by kernel_rfl) (by kernel_rfl) (fun _ _ _ h => h) (by kernel_rfl) trivial (fun _ _ => by kernel_rfl) ?_
    refine h_take 2 (.int .u8 ((n / 16 : Nat) : Int)) rfl (by kernel_rfl) (by kernel_rfl) (by kernel_rfl) (fun _ _ _ h => h) (by kernel_rfl) trivial (by intro v hv; go_simp; exact wraps_u8 _ (by omega) (by omega)) ?_
    refine h_take 3 (.int .u8 ((dig (n / 16)).toNat : Int)) rfl (by kernel_rfl) (by kernel_rfl) (by kernel_rfl) (fun _ _ _ h => h) (by kernel_rfl) trivial (by intro v hv; go_simp; exact digs_ix _ _ (by omega) (by omega) _ _ _) ?_
    refine h_take 4 (.string { data := #[48, 49, 50, 51, 52, 53, 54, 55, 56, 57, 97, 98, 99, 100, 101, 102] }) rfl (by kernel_rfl) (by kernel_rfl) (by kernel_rfl) (fun _ _ _ h => h) (by kernel_rfl) trivial (fun _ _ => by kernel_rfl) ?_
    refine h_take 5 (.int .u8 (n : Int)) rfl (by kernel_rfl) (by kernel_rfl) (by kernel_rfl) (fun _ _ _ h => h) (by kernel_rfl) trivial (fun _ _ => by kernel_rfl) ?_
    refine h_take 6 (.int .u8 ((n % 16 : Nat) : Int)) rfl (by kernel_rfl) (by kernel_rfl) (by kernel_rfl) (fun _ _ _ h => h) (by kernel_rfl) trivial (by intro v hv; go_simp; exact Int.tmod_eq_emod_of_nonneg (by omega)) ?_
    refine h_take 7 (.int .u8 ((dig (n % 16)).toNat : Int)) rfl (by kernel_rfl) (by kernel_rfl) (by kernel_rfl) (fun _ _ _ h => h) (by kernel_rfl) trivial (by intro v hv; go_simp; exact digs_ix _ _ (by omega) (by omega) _ _ _) ?_
    refine h_one 8 rfl (by kernel_rfl) (by kernel_rfl) (fun K hK => ?_)
    go_simp
    refine hK _ _ trivial ?_
    clear hK K
    refine h_one 9 rfl (by kernel_rfl) (by kernel_rfl) (fun K hK => ?_)
    have hcv : (convert 53 9 (.slice (some ⟨w.heap.size, 0, none⟩) 3 3)).run Tryd.prog (w.alloc (.cells #[.int .u8 92, .int .u8 ((dig (n / 16)).toNat : Int), .int .u8 ((dig (n % 16)).toNat : Int)] 5)).drew = .ok (.string (tx [92, dig (n / 16), dig (n % 16)])) (w.alloc (.cells #[.int .u8 92, .int .u8 ((dig (n / 16)).toNat : Int), .int .u8 ((dig (n % 16)).toNat : Int)] 5)).drew := conv_reads (P := Tryd.prog) (src := 53) (dst := 9) (c := 3) Tryd.underlying53 Tryd.underlying5 Tryd.underlying9 (hrd.out w).drew
    go_simp
    refine hK _ _ trivial ?_
    clear hK K
    refine h_take 10 (.string (tx [92, dig (n / 16), dig (n % 16)])) rfl (by kernel_rfl) (by kernel_rfl) (by kernel_rfl) (fun _ _ _ h => h) (by kernel_rfl) trivial (fun _ _ => by kernel_rfl) ?_
    refine wpAnyH_done (by kernel_rfl) ?_ _
    go_simp
    go_wp2
    go_ret
    exact ⟨rfl, ((Below.refl _ w).alloc (Nat.le_refl _) _).drew⟩
  · go_enter Tryd.func53, Tryd.ntmps53
    go_wp2
    refine wp_region_held (S := fun _ => True) (by kernel_rfl) ?_
    refine h_take 0 (.string { data := #[48, 49, 50, 51, 52, 53, 54, 55, 56, 57, 97, 98, 99, 100, 101, 102] }) rfl (by kernel_rfl) (by kernel_rfl) (by kernel_rfl) (fun _ _ _ h => h) (by kernel_rfl) trivial (fun _ _ => by kernel_rfl) ?_
    refine h_take 1 (.int .u8 92) rfl (by kernel_rfl) (by kernel_rfl) (by kernel_rfl) (fun _ _ _ h => h) (by kernel_rfl) trivial (fun _ _ => by kernel_rfl) ?_
    refine h_take 2 (.int .u8 5) rfl (by kernel_rfl) (by kernel_rfl) (by kernel_rfl) (fun _ _ _ h => h) (by kernel_rfl) trivial (fun _ _ => by kernel_rfl) ?_
    refine h_take 3 (.int .u8 53) rfl (by kernel_rfl) (by kernel_rfl) (by kernel_rfl) (fun _ _ _ h => h) (by kernel_rfl) trivial (fun _ _ => by kernel_rfl) ?_
    refine h_take 4 (.string { data := #[48, 49, 50, 51, 52, 53, 54, 55, 56, 57, 97, 98, 99, 100, 101, 102] }) rfl (by kernel_rfl) (by kernel_rfl) (by kernel_rfl) (fun _ _ _ h => h) (by kernel_rfl) trivial (fun _ _ => by kernel_rfl) ?_
    refine h_take 5 (.int .u8 92) rfl (by kernel_rfl) (by kernel_rfl) (by kernel_rfl) (fun _ _ _ h => h) (by kernel_rfl) trivial (fun _ _ => by kernel_rfl) ?_
    refine h_take 6 (.int .u8 12) rfl (by kernel_rfl) (by kernel_rfl) (by kernel_rfl) (fun _ _ _ h => h) (by kernel_rfl) trivial (fun _ _ => by kernel_rfl) ?_
    refine h_take 7 (.int .u8 99) rfl (by kernel_rfl) (by kernel_rfl) (by kernel_rfl) (fun _ _ _ h => h) (by kernel_rfl) trivial (fun _ _ => by kernel_rfl) ?_
    refine h_one 8 rfl (by kernel_rfl) (by kernel_rfl) (fun K hK => ?_)
    go_simp
    refine hK _ _ trivial ?_
    clear hK K
    refine h_one 9 rfl (by kernel_rfl) (by kernel_rfl) (fun K hK => ?_)
    have hcv : (convert 53 9 (.slice (some ⟨w.heap.size, 0, none⟩) 3 3)).run Tryd.prog (w.alloc (.cells #[.int .u8 92, .int .u8 53, .int .u8 99] 5)).drew = .ok (.string (tx [92, dig (92 / 16), dig (92 % 16)])) (w.alloc (.cells #[.int .u8 92, .int .u8 53, .int .u8 99] 5)).drew := conv_reads (P := Tryd.prog) (src := 53) (dst := 9) (c := 3) Tryd.underlying53 Tryd.underlying5 Tryd.underlying9 (hrd.out w).drew
    go_simp
    refine hK _ _ trivial ?_
    clear hK K
    refine h_take 10 (.string (tx [92, dig (92 / 16), dig (92 % 16)])) rfl (by kernel_rfl) (by kernel_rfl) (by kernel_rfl) (fun _ _ _ h => h) (by kernel_rfl) trivial (fun _ _ => by kernel_rfl) ?_
    refine wpAnyH_done (by kernel_rfl) ?_ _
    go_simp
    go_wp2
    go_ret
    exact ⟨rfl, ((Below.refl _ w).alloc (Nat.le_refl _) _).drew⟩

theorem sign_any (b : UInt8) (all : Bool) (w : World) :
    Calls Tryd.prog 53 #[.int .u8 (b.toNat : Int), .bool all] w fun e w' => e = .returned (.string (tx (sgn all b))) ∧ Below w.heap.size w w' := by
  have h8 := b.toNat_lt
  by_cases h : all = false ∧ okb b = true
  · obtain ⟨rfl, hok⟩ := h
    rw [sgn_self hok]
    have := of_decide_eq_true hok
    exact sign_self _ b rfl this.1 this.2.1 this.2.2 w
  · rw [sgn_three h]
    refine sign_three _ all (by omega) ?_ w
    cases all
    · have h2 : ¬ okb b = true := fun h3 => h ⟨rfl, h3⟩
      have h4 : ¬ (33 ≤ b.toNat ∧ b.toNat ≤ 126 ∧ b.toNat ≠ 92) := fun h5 => h2 (decide_eq_true h5)
      omega
    · exact .inl rfl

end Go.Proofs.YthpnfdnhaphfgaaDoor
