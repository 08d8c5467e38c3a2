/- The walk of BlobPuts: it returns true at any bytes and any text. -/
import Derived.Test.YtffmbeggigohcaaBe
import Derived.Test.YtffmbeggigohcaaBf
import Derived.Test.YtffmbeggigohcaaH
namespace Go.Proofs.Ytffmbeggigohcaa
open Go.RowKit Go.Shelf

set_option maxRecDepth 100000 in
set_option maxHeartbeats 400000 in
theorem puts_long (A : Option Addr) (n c : Nat) (s : ByteArray) (h : 300 < n ∨ 300 < s.size) (w : World) :
    Calls Try.prog 3 #[.slice A n c, .string s] w fun e w' => e = .returned (.bool true) ∧ Below w.heap.size w w' := by
  by_cases h1 : 300 < n
  · clear h
    go_enter Try.func3, Try.ntmps3
    go_wp2_with (go_at_call 7; refine (fixed_any _).mono ?_; rintro e w3 ⟨rfl, hb3⟩)
    go_ret
    exact ⟨rfl, hb3⟩
  · have h2 : 300 < s.size := by omega
    clear h
    go_enter Try.func3, Try.ntmps3
    go_wp2_with (go_at_call 7; refine (fixed_any _).mono ?_; rintro e w3 ⟨rfl, hb3⟩)
    go_ret
    exact ⟨rfl, hb3⟩

set_option maxRecDepth 100000 in
set_option maxHeartbeats 1000000 in
theorem puts_short (A : Option Addr) (c : Nat) (bs t : List UInt8) (hn : bs.length ≤ 300) (ht : t.length ≤ 300) (w : World) (hr : Reads w w.heap.size 1 A bs.length (bs.map bv)) :
    Calls Try.prog 3 #[.slice A bs.length c, .string (tx t)] w fun e w' => e = .returned (.bool true) ∧ Below w.heap.size w w' := by
  have hcv := conv_reads (P := Try.prog) (src := 22) (dst := 9) (c := c) Try.underlying22 Try.underlying5 Try.underlying9 hr
  have hbl : (blob t).length ≤ 310 := by have := vb_len t.length (by unfold top; omega); rw [blob_len]; omega
  have hput := bput_any A bs.length c w.heap.size bs t (by omega) w (Nat.le_refl _) hr
  have href : Hid (∀ W, Calls Try.prog 10 #[.string (tx t)] W fun e w' => e = .returned (.string (tx (blob t))) ∧ Below W.heap.size W w') := fun W => rbput_any t (by omega) W
  have hbg : bg (t.length : Int) bs.length (bs ++ blob t) = (t, (bs ++ blob t).length, 0) := by
    have := bg_laid (t.length : Int) bs t [] (by unfold top; omega) (by omega)
    simp only [List.append_nil] at this
    rw [this, List.length_append]
  have hlen2 : (bs ++ blob t).length ≤ 610 := by rw [List.length_append]; omega
  have hle : bs.length ≤ (bs ++ blob t).length := by rw [List.length_append]; omega
  have HPUT := Lib.hid hput
  have HBG := Lib.hid hbg
  have HL2 := Lib.hid hlen2
  have HBL := Lib.hid hbl
  clear hput hbg hlen2 hbl
  obtain ⟨m, hm⟩ : ∃ m, m = t.length := ⟨_, rfl⟩
  obtain ⟨n, hn'⟩ : ∃ n, n = bs.length := ⟨_, rfl⟩
  have hsz : (tx t).size = m := by rw [tx_size, hm]
  rw [← hn'] at hn hr hcv HPUT HBG hle ⊢
  rw [← hm] at HBG ht
  have HN := Lib.hid hn'
  clear hn' hm
  obtain ⟨s, hs⟩ : ∃ s, s = tx t := ⟨_, rfl⟩
  rw [← hs] at HPUT href hsz ⊢
  have HREF := href
  have HS := Lib.hid hs
  have HR := Lib.hid hr
  clear hs hr href
  go_enter Try.func3, Try.ntmps3
  go_wp2_with fail
  refine HPUT.out.mono ?_
  rintro e w2 ⟨v, rfl, ho, hb2⟩
  obtain ⟨n2, hn2⟩ : ∃ n2, n2 = (bs ++ blob t).length := ⟨_, rfl⟩
  rw [← hn2] at ho hle
  obtain ⟨A2, c2, rfl, hc2, hr2⟩ := own_reads ho
  have hget := bget_any A2 n2 c2 n (m : Int) w2.heap.size (bs ++ blob t) hc2 (by have := HL2.out; omega) (by omega) hle w2 hr2
  rw [HBG.out, ← hn2, bres] at hget
  simp only at hget
  rw [← HS.out] at hget
  have HGET := Lib.hid hget
  have HN2 := Lib.hid hn2
  clear hget ho hn2 hle
  go_wp2_with (go_at_call 9; refine HGET.out.mono ?_; rintro e w' ⟨rfl, rfl⟩)
  have HCX : Hid (∀ w', Below w2.heap.size w2 w' → (convert 22 9 (.slice A2 n2 c2)).run Try.prog w' = .ok (.string (tx (bs ++ blob t))) w') :=
    fun w' hb => conv_reads Try.underlying22 Try.underlying5 Try.underlying9 (hr2.below hb)
  have HCB : Hid (∀ w', Below w2.heap.size w2 w' → (convert 22 9 (.slice A n c)).run Try.prog w' = .ok (.string (tx bs)) w') :=
    fun w' hb => conv_reads Try.underlying22 Try.underlying5 Try.underlying9 ((HR.out.below hb2).below (hb.mono hb2.size))
  have htl := tx_toList
  have hadd : ∀ W : World, (Op.stringOp .add (tx bs) (tx (blob t))).run Try.prog W = .ok (.string (tx (bs ++ blob t))) W := fun W => add_tx W bs (blob t) (by have := HN.out; have := HBL.out; omega)
  clear hcv
  refine wp_region_held (S := fun W => Below w2.heap.size w2 W) (by kernel_rfl) ?_
  refine h_one 0 rfl (by kernel_rfl) (by kernel_rfl) (fun K hK => ?_)
  go_simp
  refine (fixed_any _).mono ?_
  rintro e w3 ⟨rfl, hb3⟩
  have hS3 : Below w2.heap.size w2 w3 := (Below.refl _ w2).drew.trans hb3
  refine hK _ _ hS3 ?_
  clear hK K
  refine h_take 1 (.bool true) rfl (by kernel_rfl) (by kernel_rfl) (by kernel_rfl) (fun _ _ _ h => h) (by kernel_rfl) hS3 (fun _ _ => by kernel_rfl) ?_
  refine h_take 2 (.slice A2 n2 c2) rfl (by kernel_rfl) (by kernel_rfl) (by kernel_rfl) (fun _ _ _ h => h) (by kernel_rfl) hS3 (fun _ _ => by kernel_rfl) ?_
  refine h_take 4 (.string (tx bs)) rfl (by kernel_rfl) (by kernel_rfl) (by kernel_rfl) (fun _ _ _ h => h) (by kernel_rfl) hS3 (fun _ _ => by kernel_rfl) ?_
  refine h_take 5 (.string s) rfl (by kernel_rfl) (by kernel_rfl) (by kernel_rfl) (fun _ _ _ h => h) (by kernel_rfl) hS3 (fun _ _ => by kernel_rfl) ?_
  refine h_take 3 (.string (tx (bs ++ blob t))) rfl (by kernel_rfl) (by kernel_rfl) (by kernel_rfl) (fun _ _ _ h => h) (by kernel_rfl) hS3 (by intro w' hb; have hcv2 := HCX.out w' hb; go_simp) ?_
  refine h_one 6 rfl (by kernel_rfl) (by kernel_rfl) (fun K hK => ?_)
  go_simp
  refine (HREF.out _).mono ?_
  rintro e w4 ⟨rfl, hb4⟩
  have hS4 : Below w2.heap.size w2 w4 := hS3.trans (hb4.mono hS3.size)
  refine hK _ _ hS4 ?_
  clear hK K
  refine h_take 7 (.string (tx (bs ++ blob t))) rfl (by kernel_rfl) (by kernel_rfl) (by kernel_rfl) (fun _ _ _ h => h) (by kernel_rfl) hS4 (by intro w' hb; go_simp) ?_
  refine h_take 8 (.bool true) rfl (by kernel_rfl) (by kernel_rfl) (by kernel_rfl) (fun _ _ _ h => h) (by kernel_rfl) hS4 (by intro w' hb; go_simp) ?_
  refine h_take 9 (.bool true) rfl (by kernel_rfl) (by kernel_rfl) (by kernel_rfl) (fun _ _ _ h => h) (by kernel_rfl) hS4 (fun _ _ => by kernel_rfl) ?_
  refine h_take 10 (.bool true) rfl (by kernel_rfl) (by kernel_rfl) (by kernel_rfl) (fun _ _ _ h => h) (by kernel_rfl) hS4 (fun _ _ => by kernel_rfl) ?_
  refine h_take 11 (.string s) rfl (by kernel_rfl) (by kernel_rfl) (by kernel_rfl) (fun _ _ _ h => h) (by kernel_rfl) hS4 (fun _ _ => by kernel_rfl) ?_
  refine h_take 12 (.string s) rfl (by kernel_rfl) (by kernel_rfl) (by kernel_rfl) (fun _ _ _ h => h) (by kernel_rfl) hS4 (fun _ _ => by kernel_rfl) ?_
  refine h_take 13 (.bool true) rfl (by kernel_rfl) (by kernel_rfl) (by kernel_rfl) (fun _ _ _ h => h) (by kernel_rfl) hS4 (by intro w' hb; go_simp) ?_
  refine h_take 14 (.bool true) rfl (by kernel_rfl) (by kernel_rfl) (by kernel_rfl) (fun _ _ _ h => h) (by kernel_rfl) hS4 (fun _ _ => by kernel_rfl) ?_
  refine h_take 15 (.bool true) rfl (by kernel_rfl) (by kernel_rfl) (by kernel_rfl) (fun _ _ _ h => h) (by kernel_rfl) hS4 (fun _ _ => by kernel_rfl) ?_
  refine h_take 16 (.int .i64 (n2 : Int)) rfl (by kernel_rfl) (by kernel_rfl) (by kernel_rfl) (fun _ _ _ h => h) (by kernel_rfl) hS4 (fun _ _ => by kernel_rfl) ?_
  refine h_take 17 (.slice A2 n2 c2) rfl (by kernel_rfl) (by kernel_rfl) (by kernel_rfl) (fun _ _ _ h => h) (by kernel_rfl) hS4 (fun _ _ => by kernel_rfl) ?_
  refine h_take 18 (.int .i64 (n2 : Int)) rfl (by kernel_rfl) (by kernel_rfl) (by kernel_rfl) (fun _ _ _ h => h) (by kernel_rfl) hS4 (by intro w' hb; go_simp) ?_
  refine h_take 19 (.bool true) rfl (by kernel_rfl) (by kernel_rfl) (by kernel_rfl) (fun _ _ _ h => h) (by kernel_rfl) hS4 (by intro w' hb; go_simp) ?_
  refine h_take 20 (.bool true) rfl (by kernel_rfl) (by kernel_rfl) (by kernel_rfl) (fun _ _ _ h => h) (by kernel_rfl) hS4 (fun _ _ => by kernel_rfl) ?_
  refine h_take 21 (.bool true) rfl (by kernel_rfl) (by kernel_rfl) (by kernel_rfl) (fun _ _ _ h => h) (by kernel_rfl) hS4 (fun _ _ => by kernel_rfl) ?_
  refine h_take 22 (.int .i64 0) rfl (by kernel_rfl) (by kernel_rfl) (by kernel_rfl) (fun _ _ _ h => h) (by kernel_rfl) hS4 (fun _ _ => by kernel_rfl) ?_
  refine h_take 23 (.bool true) rfl (by kernel_rfl) (by kernel_rfl) (by kernel_rfl) (fun _ _ _ h => h) (by kernel_rfl) hS4 (by intro w' hb; go_simp) ?_
  refine h_take 24 (.bool true) rfl (by kernel_rfl) (by kernel_rfl) (by kernel_rfl) (fun _ _ _ h => h) (by kernel_rfl) hS4 (fun _ _ => by kernel_rfl) ?_
  refine h_take 25 (.bool true) rfl (by kernel_rfl) (by kernel_rfl) (by kernel_rfl) (fun _ _ _ h => h) (by kernel_rfl) hS4 (fun _ _ => by kernel_rfl) ?_
  refine h_take 26 (.slice A n c) rfl (by kernel_rfl) (by kernel_rfl) (by kernel_rfl) (fun _ _ _ h => h) (by kernel_rfl) hS4 (fun _ _ => by kernel_rfl) ?_
  refine h_take 27 (.string (tx bs)) rfl (by kernel_rfl) (by kernel_rfl) (by kernel_rfl) (fun _ _ _ h => h) (by kernel_rfl) hS4 (by intro w' hb; have hcv2 := HCB.out w' hb; go_simp) ?_
  refine h_take 28 (.string (tx bs)) rfl (by kernel_rfl) (by kernel_rfl) (by kernel_rfl) (fun _ _ _ h => h) (by kernel_rfl) hS4 (fun _ _ => by kernel_rfl) ?_
  refine h_take 29 (.bool true) rfl (by kernel_rfl) (by kernel_rfl) (by kernel_rfl) (fun _ _ _ h => h) (by kernel_rfl) hS4 (by intro w' hb; go_simp) ?_
  refine h_take 30 (.bool true) rfl (by kernel_rfl) (by kernel_rfl) (by kernel_rfl) (fun _ _ _ h => h) (by kernel_rfl) hS4 (fun _ _ => by kernel_rfl) ?_
  refine h_take 31 (.bool true) rfl (by kernel_rfl) (by kernel_rfl) (by kernel_rfl) (fun _ _ _ h => h) (by kernel_rfl) hS4 (fun _ _ => by kernel_rfl) ?_
  refine wpAnyH_done (by kernel_rfl) ?_ _
  go_simp
  go_wp2
  go_ret
  exact ⟨rfl, hb2.trans (hS4.mono hb2.size)⟩

theorem puts_any (A : Option Addr) (n c : Nat) (bs t : List UInt8) (w : World) (hr : Reads w w.heap.size 1 A n (bs.map bv)) :
    Calls Try.prog 3 #[.slice A n c, .string (tx t)] w fun e w' => e = .returned (.bool true) ∧ Below w.heap.size w w' := by
  have hl : bs.length = n := by have := hr.1; simpa using this
  by_cases h : 300 < n ∨ 300 < (tx t).size
  · exact puts_long A n c (tx t) h w
  · subst hl
    rw [tx_size] at h
    exact puts_short A c bs t (by omega) (by omega) w hr

end Go.Proofs.Ytffmbeggigohcaa
