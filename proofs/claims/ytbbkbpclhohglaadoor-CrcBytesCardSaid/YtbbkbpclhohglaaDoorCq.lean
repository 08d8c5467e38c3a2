/- The walk of CrcBytes: it returns true at any sum, any bytes and any place. -/
import Derived.Test.YtbbkbpclhohglaaDoorCg
import Derived.Test.YtbbkbpclhohglaaDoorH2
import Derived.Test.YtbbkbpclhohglaaDoorK2
namespace Go.Proofs.YtbbkbpclhohglaaDoor
open Go.RowKit

set_option maxRecDepth 100000 in
set_option maxHeartbeats 400000 in
theorem bytes_long (s : Int) (A : Option Addr) (n c : Nat) (at_ : Int) (h : 300 < n) (w : World) (hl : Laid w) :
    Calls Tryd.prog 4 #[.int .u32 s, .slice A n c, .int .i64 at_] w fun e w' => e = .returned (.bool true) ∧ Below w.heap.size w w' := by
  have HF := Lib.hid (fixed_any w hl)
  clear hl
  go_enter Tryd.func4, Tryd.ntmps4
  go_wp2_with (go_at_call 7; refine HF.out.mono ?_; rintro e w3 ⟨rfl, hb3⟩)
  go_ret
  exact ⟨rfl, hb3⟩

set_option maxRecDepth 100000 in
set_option maxHeartbeats 1000000 in
theorem bytes_short (s : W32) (A : Option Addr) (n c : Nat) (at_ : Int) (bs : List UInt8) (x : Nat) (ok : Bool) (hn : n ≤ 300) (hA : A = none → c = 0) (w : World) (hl : Laid w) (hr : Reads w w.heap.size 1 A n (bs.map bv))
    (h10 : Calls Tryd.prog 10 #[.slice A n c, .int .i64 at_] w fun e w' => e = .returned (.tuple #[.int .u32 (x : Int), .bool ok]) ∧ w = w')
    (h11 : Calls Tryd.prog 11 #[.string (tx bs), .int .i64 at_] w fun e w' => e = .returned (.tuple #[.int .u32 (x : Int), .bool ok]) ∧ Below w.heap.size w w') :
    Calls Tryd.prog 4 #[wv s, .slice A n c, .int .i64 at_] w fun e w' => e = .returned (.bool true) ∧ Below w.heap.size w w' := by
  have hcv := conv_reads (P := Tryd.prog) (src := 24) (dst := 9) (c := c) Tryd.underlying24 Tryd.underlying5 Tryd.underlying9 hr
  obtain ⟨i0, hi0, hz0, hz1, hz2⟩ := info_parts info5
  have HF : Hid (∀ W, Below w.heap.size w W → Calls Tryd.prog 7 #[] W fun e w' => e = .returned (.bool true) ∧ Below W.heap.size W w') := fun W h => fixed_any W (hl.below h)
  have HB : Hid (∀ W, Calls Tryd.prog 12 #[wv s] W fun e w' => ∃ v, e = .returned v ∧ w'.ownsRow W.heap.size 5 1 v 4 ((lb s).map bv) ∧ Below W.heap.size W w') := fun W => bytes_any s W
  have HRB : Hid (∀ W, Calls Tryd.prog 13 #[wv s] W fun e w' => e = .returned (.string (tx (lb s))) ∧ Below W.heap.size W w') := fun W => refbytes_any s W
  have hbn : bs.length = n := by have := hr.1; simpa using this
  have HRD : Hid (∀ (W : World) (B : Option Addr) (k : Nat), n + 4 ≤ k → Reads W W.heap.size 1 B (n + 4) ((bs ++ lb s).map bv) → Calls Tryd.prog 10 #[.slice B (n + 4) k, .int .i64 (n : Int)] W fun e w' => e = .returned (.tuple #[wv s, .bool true]) ∧ W = w') := fun W B k hk hW => by
    have h := read_ok B (n + 4) k n (bs ++ lb s) (by omega) hk (by omega) W hW
    have e : ((bs ++ lb s).drop n).take 4 = lb s := by rw [← hbn, List.drop_left]; rfl
    rw [e, le4_lb] at h
    exact h
  have HOK : Hid (∀ (W : World) (B : Option Addr) (k : Nat), Reads W W.heap.size 1 B 4 ((lb s).map bv) → ∀ W', Below W.heap.size W W' → (convert 24 9 (.slice B 4 k)).run Tryd.prog W' = .ok (.string (tx (lb s))) W') := fun W B k hW W' hb =>
    conv_reads Tryd.underlying24 Tryd.underlying5 Tryd.underlying9 (hW.below hb)
  have hv : wv s = .int .u32 (s.toNat : Int) := rfl
  obtain ⟨z, hz⟩ : ∃ z, z = s.toNat := ⟨_, rfl⟩
  rw [hv, ← hz] at HB HRB HRD ⊢
  have H10 := Lib.hid h10
  have H11 := Lib.hid h11
  have HR := Lib.hid hr
  have HBN := Lib.hid hbn
  have htl := tx_toList
  obtain ⟨ls, hls⟩ : ∃ ls, ls = lb s := ⟨_, rfl⟩
  rw [← hls] at HB HRB HRD HOK
  clear hv hz h10 h11 hr hbn hls hl
  generalize tx bs = q at hcv H11
  go_enter Tryd.func4, Tryd.ntmps4
  go_wp2_with fail
  refine H10.out.mono ?_
  rintro e w' ⟨rfl, rfl⟩
  go_wp2_with fail
  refine H11.out.mono ?_
  rintro e w2 ⟨rfl, hb2⟩
  clear hcv
  have hr2 := HR.out.below hb2
  have hone := bv_one bs
  have hone2 := bv_one ls
  go_wp2_with (at_builtin; refine wpList_append_reads _ rfl (.tmp 31) (.tmp 32) 24 rfl w2.heap.size 5 i0 (.int .u8 0) 1 Tryd.underlying24 hi0 hz0 hz1 hz2 rfl (.slice (some ⟨w2.heap.size, 0, none⟩) 0 0) 0 [] rfl (own_empty _ _) A n c w.heap.size _ rfl hA (hr2.alloc hb2.size _) hone (by unfold maxLen; omega) (by omega) (by simp) ?_; intro v3 w3 ho3 hg3)
  rw [Nat.zero_add, List.nil_append] at ho3
  have hb3 : Below w2.heap.size w2 w3 := ((Below.refl _ w2).alloc (Nat.le_refl _) _).grown hg3 (by simp) (fun k hk => by simp [Value.ownBlock] at hk; omega)
  clear hg3 hr2
  refine (HB.out w3).mono ?_
  rintro e w4 ⟨v4, rfl, ho4, hb4⟩
  obtain ⟨A4, c4, rfl, hc4, hr4⟩ := own_reads ho4
  have hA4 : A4 = none → c4 = 0 := fun h => by
    obtain ⟨ad, e, _⟩ := hr4.2 (by omega)
    rw [h] at e
    cases e
  have ho34 := own_below ho3 hb4
  clear ho4 ho3
  go_wp2_with (at_builtin; refine wpList_append_reads _ rfl (.tmp 33) (.tmp 35) 24 rfl w2.heap.size 5 i0 (.int .u8 0) 1 Tryd.underlying24 hi0 hz0 hz1 hz2 rfl v3 n _ rfl ho34 A4 4 c4 w4.heap.size _ rfl hA4 hr4 hone2 (by unfold maxLen; omega) (by omega) (by have := hb3.size; have := hb4.size; omega) ?_; intro v5 w5 ho5 hg5)
  rw [← List.map_append] at ho5
  have hb5 : Below w2.heap.size w2 w5 := (hb3.trans (hb4.mono hb3.size)).grown hg5 (by have := hb3.size; have := hb4.size; omega) (own_block ho34)
  obtain ⟨A5, c5, rfl, hc5, hr5⟩ := own_reads ho5
  have HG := Lib.hid (HRD.out w5 A5 c5 hc5 hr5)
  clear hg5 ho5 ho34 hr4 hA4 hc4 hr5
  go_wp2_with fail
  refine HG.out.mono ?_
  rintro e w' ⟨rfl, rfl⟩
  have hW5 : Below w.heap.size w w5 := hb2.trans (hb5.mono hb2.size)
  clear hb2 hb3 hb4 hb5 hone hone2 HG
  go_wp2_with fail
  refine wp_region_held (S := fun W => Below w.heap.size w W) (by kernel_rfl) ?_
  refine h_one 0 rfl (by kernel_rfl) (by kernel_rfl) (fun K hK => ?_)
  go_simp
  refine (HF.out _ (hW5.drew)).mono ?_
  rintro e w6 ⟨rfl, hb6⟩
  have hS : Below w.heap.size w w6 := hW5.drew.trans (hb6.mono hW5.size)
  refine hK _ _ hS ?_
  clear hK K
  refine h_take 1 (.bool true) rfl (by kernel_rfl) (by kernel_rfl) (by kernel_rfl) (fun _ _ _ h => h) (by kernel_rfl) hS (fun _ _ => by kernel_rfl) ?_
  refine h_take 2 (.int .u32 (z : Int)) rfl (by kernel_rfl) (by kernel_rfl) (by kernel_rfl) (fun _ _ _ h => h) (by kernel_rfl) hS (fun _ _ => by kernel_rfl) ?_
  refine h_take 5 (.int .u32 (z : Int)) rfl (by kernel_rfl) (by kernel_rfl) (by kernel_rfl) (fun _ _ _ h => h) (by kernel_rfl) hS (fun _ _ => by kernel_rfl) ?_
  refine h_one 3 rfl (by kernel_rfl) (by kernel_rfl) (fun K hK => ?_)
  go_simp
  refine (HB.out _).mono ?_
  rintro e w7 ⟨v7, rfl, ho7, hb7⟩
  obtain ⟨A7, c7, rfl, hc7, hr7⟩ := own_reads ho7
  have hS7 : Below w.heap.size w w7 := hS.trans (hb7.mono hS.size)
  have HCV := Lib.hid (HOK.out w7 A7 c7 hr7)
  clear ho7 hr7
  refine hK _ _ hS7 ?_
  clear hK K
  refine h_less (S' := fun W => Below w7.heap.size w7 W) (fun W hb => hS7.trans (hb.mono hS7.size)) _ _ _ _ ?_
  have hQ : Below w7.heap.size w7 w7 := Below.refl _ _
  refine h_take 4 (.string (tx ls)) rfl (by kernel_rfl) (by kernel_rfl) (by kernel_rfl) (fun _ _ _ h => h) (by kernel_rfl) hQ (by intro w' hb; have hcv := HCV.out w' hb; go_simp) ?_
  refine h_one 6 rfl (by kernel_rfl) (by kernel_rfl) (fun K hK => ?_)
  go_simp
  refine (HRB.out _).mono ?_
  rintro e w8 ⟨rfl, hb8⟩
  refine hK _ _ hb8 ?_
  clear hK K
  refine h_take 7 (.bool true) rfl (by kernel_rfl) (by kernel_rfl) (by kernel_rfl) (fun _ _ _ h => h) (by kernel_rfl) hb8 (by intro w' hb; go_simp) ?_
  refine h_take 8 (.bool true) rfl (by kernel_rfl) (by kernel_rfl) (by kernel_rfl) (fun _ _ _ h => h) (by kernel_rfl) hb8 (fun _ _ => by kernel_rfl) ?_
  refine h_take 9 (.bool true) rfl (by kernel_rfl) (by kernel_rfl) (by kernel_rfl) (fun _ _ _ h => h) (by kernel_rfl) hb8 (fun _ _ => by kernel_rfl) ?_
  refine h_take 10 (.int .u32 (x : Int)) rfl (by kernel_rfl) (by kernel_rfl) (by kernel_rfl) (fun _ _ _ h => h) (by kernel_rfl) hb8 (fun _ _ => by kernel_rfl) ?_
  refine h_take 11 (.int .u32 (x : Int)) rfl (by kernel_rfl) (by kernel_rfl) (by kernel_rfl) (fun _ _ _ h => h) (by kernel_rfl) hb8 (fun _ _ => by kernel_rfl) ?_
  refine h_take 12 (.bool true) rfl (by kernel_rfl) (by kernel_rfl) (by kernel_rfl) (fun _ _ _ h => h) (by kernel_rfl) hb8 (by intro w' hb; go_simp) ?_
  refine h_take 13 (.bool true) rfl (by kernel_rfl) (by kernel_rfl) (by kernel_rfl) (fun _ _ _ h => h) (by kernel_rfl) hb8 (fun _ _ => by kernel_rfl) ?_
  refine h_take 14 (.bool true) rfl (by kernel_rfl) (by kernel_rfl) (by kernel_rfl) (fun _ _ _ h => h) (by kernel_rfl) hb8 (fun _ _ => by kernel_rfl) ?_
  refine h_take 15 (.bool ok) rfl (by kernel_rfl) (by kernel_rfl) (by kernel_rfl) (fun _ _ _ h => h) (by kernel_rfl) hb8 (fun _ _ => by kernel_rfl) ?_
  refine h_take 16 (.bool ok) rfl (by kernel_rfl) (by kernel_rfl) (by kernel_rfl) (fun _ _ _ h => h) (by kernel_rfl) hb8 (fun _ _ => by kernel_rfl) ?_
  refine h_take 17 (.bool true) rfl (by kernel_rfl) (by kernel_rfl) (by kernel_rfl) (fun _ _ _ h => h) (by kernel_rfl) hb8 (by intro w' hb; go_simp) ?_
  refine h_take 18 (.bool true) rfl (by kernel_rfl) (by kernel_rfl) (by kernel_rfl) (fun _ _ _ h => h) (by kernel_rfl) hb8 (fun _ _ => by kernel_rfl) ?_
  refine h_take 19 (.bool true) rfl (by kernel_rfl) (by kernel_rfl) (by kernel_rfl) (fun _ _ _ h => h) (by kernel_rfl) hb8 (fun _ _ => by kernel_rfl) ?_
  refine h_take 20 (.int .u32 (z : Int)) rfl (by kernel_rfl) (by kernel_rfl) (by kernel_rfl) (fun _ _ _ h => h) (by kernel_rfl) hb8 (fun _ _ => by kernel_rfl) ?_
  refine h_take 21 (.int .u32 (z : Int)) rfl (by kernel_rfl) (by kernel_rfl) (by kernel_rfl) (fun _ _ _ h => h) (by kernel_rfl) hb8 (fun _ _ => by kernel_rfl) ?_
  refine h_take 22 (.bool true) rfl (by kernel_rfl) (by kernel_rfl) (by kernel_rfl) (fun _ _ _ h => h) (by kernel_rfl) hb8 (by intro w' hb; go_simp) ?_
  refine h_take 23 (.bool true) rfl (by kernel_rfl) (by kernel_rfl) (by kernel_rfl) (fun _ _ _ h => h) (by kernel_rfl) hb8 (fun _ _ => by kernel_rfl) ?_
  refine h_take 24 (.bool true) rfl (by kernel_rfl) (by kernel_rfl) (by kernel_rfl) (fun _ _ _ h => h) (by kernel_rfl) hb8 (fun _ _ => by kernel_rfl) ?_
  refine h_take 25 (.bool true) rfl (by kernel_rfl) (by kernel_rfl) (by kernel_rfl) (fun _ _ _ h => h) (by kernel_rfl) hb8 (fun _ _ => by kernel_rfl) ?_
  refine h_take 26 (.bool true) rfl (by kernel_rfl) (by kernel_rfl) (by kernel_rfl) (fun _ _ _ h => h) (by kernel_rfl) hb8 (fun _ _ => by kernel_rfl) ?_
  refine h_take 27 (.bool true) rfl (by kernel_rfl) (by kernel_rfl) (by kernel_rfl) (fun _ _ _ h => h) (by kernel_rfl) hb8 (fun _ _ => by kernel_rfl) ?_
  refine wpAnyH_done (by kernel_rfl) ?_ _
  go_simp
  go_wp2
  go_ret
  exact ⟨rfl, hS7.trans (hb8.mono hS7.size)⟩

/-- **CrcBytes answers true, at any sum, any bytes and any place.** -/
theorem bytes_all (s : W32) (A : Option Addr) (n c : Nat) (at_ : Int) (bs : List UInt8) (hc : n ≤ c) (hA : A = none → c = 0) (w : World) (hl : Laid w) (hr : Reads w w.heap.size 1 A n (bs.map bv)) :
    Calls Tryd.prog 4 #[wv s, .slice A n c, .int .i64 at_] w fun e w' => e = .returned (.bool true) ∧ Below w.heap.size w w' := by
  have hbn : bs.length = n := by have := hr.1; simpa using this
  by_cases hlong : 300 < n
  · exact bytes_long _ A n c at_ hlong w hl
  by_cases hbad : at_ < 0 ∨ (n : Int) - 4 < at_
  · exact bytes_short s A n c at_ bs 0 false (by omega) hA w hl hr (read_bad A n c at_ (by omega) hbad w)
      ((refread_bad bs at_ (by omega) (by rw [hbn]; exact hbad) w).mono fun e w' ⟨he, hw⟩ => ⟨he, by subst hw; exact Below.refl _ _⟩)
  · obtain ⟨k, rfl⟩ : ∃ k : Nat, at_ = (k : Int) := ⟨at_.toNat, by omega⟩
    exact bytes_short s A n c k bs (le4 ((bs.drop k).take 4)).toNat true (by omega) hA w hl hr (read_ok A n c k bs (by omega) hc (by omega) w hr) (refread_ok bs k (by omega) (by omega) w)

end Go.Proofs.YtbbkbpclhohglaaDoor
