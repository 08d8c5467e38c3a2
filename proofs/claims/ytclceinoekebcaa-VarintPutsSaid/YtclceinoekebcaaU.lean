/- The walk of VarintPuts: it returns true at any bytes and any number. -/
import Derived.Test.YtclceinoekebcaaR
import Derived.Test.YtclceinoekebcaaN
import Derived.Test.YtclceinoekebcaaF
import Derived.Test.YtclceinoekebcaaH
namespace Go.Proofs.Ytclceinoekebcaa
open Go.RowKit Go.Shelf

set_option maxRecDepth 100000 in
set_option maxHeartbeats 400000 in
theorem puts_long (A : Option Addr) (n c : Nat) (m : Int) (h : 200 < n) (w : World) :
    Calls Try.prog 3 #[.slice A n c, .int .u64 m] w fun e w' => e = .returned (.bool true) ∧ Below w.heap.size w w' := by
  go_enter Try.func3, Try.ntmps3
  go_wp2_with (go_at_call 7; refine (fixed_any _).mono ?_; rintro e w3 ⟨rfl, hb3⟩)
  go_ret
  exact ⟨rfl, hb3⟩

set_option maxRecDepth 100000 in
set_option maxHeartbeats 1000000 in
theorem puts_short (A : Option Addr) (c m : Nat) (bs : List UInt8) (hn : bs.length ≤ 200) (hm : m < top) (w : World) (hr : Reads w w.heap.size 1 A bs.length (bs.map bv)) :
    Calls Try.prog 3 #[.slice A bs.length c, .int .u64 (m : Int)] w fun e w' => e = .returned (.bool true) ∧ Below w.heap.size w w' := by
  have hcv := conv_reads (P := Try.prog) (src := 22) (dst := 9) (c := c) Try.underlying22 Try.underlying5 Try.underlying9 hr
  have hput := put_any A c m bs hm (by omega) w hr
  have HPUT := Lib.hid hput
  have HM := Lib.hid hm
  have hgr : gr 0 0 ((bs ++ vb m).drop bs.length) = (m, (vb m).length, 0) := by
    have := gr_laid0 [] m hm
    simpa using this
  have hlen2 : (bs ++ vb m).length = bs.length + (vb m).length := by simp
  have hvl := vb_len m hm
  have HVL := Lib.hid hvl
  have HGR := Lib.hid hgr
  have HL2 := Lib.hid hlen2
  clear hput hm hgr hlen2 hvl
  obtain ⟨n, hn'⟩ : ∃ n, n = bs.length := ⟨_, rfl⟩
  have HN := Lib.hid hn'
  rw [← hn'] at hn hr hcv HPUT HGR HL2 ⊢
  clear hn'
  go_enter Try.func3, Try.ntmps3
  go_wp2_with fail
  refine HPUT.out.mono ?_
  rintro e w2 ⟨v, rfl, ho, hb2⟩
  obtain ⟨n2, hn2⟩ : ∃ n2, n2 = (bs ++ vb m).length := ⟨_, rfl⟩
  rw [← hn2] at ho
  obtain ⟨A2, c2, rfl, hc2, hr2⟩ := own_reads ho
  have hget := get_any A2 n2 c2 n w2.heap.size (bs ++ vb m) hc2 (by have := HL2.out; have := HVL.out; omega) (by have := HL2.out; omega) w2 hr2
  rw [HGR.out] at hget
  have e2 : gres n (m, (vb m).length, 0) = .tuple #[.int .u64 (m : Int), .int .i64 (n2 : Int), .int .i64 0] := by
    rw [hn2, HL2.out]; rfl
  rw [e2] at hget
  have HGET := Lib.hid hget
  have HN2 := Lib.hid hn2
  clear hget hn2 e2 ho
  go_wp2_with (go_at_call 9; refine HGET.out.mono ?_; rintro e w' ⟨rfl, rfl⟩)
  have HCX : Hid (∀ w', Below w2.heap.size w2 w' → (convert 22 9 (.slice A2 n2 c2)).run Try.prog w' = .ok (.string (tx (bs ++ vb m))) w') :=
    fun w' hb => conv_reads Try.underlying22 Try.underlying5 Try.underlying9 (hr2.below hb)
  have HCB : Hid (∀ w', Below w2.heap.size w2 w' → (convert 22 9 (.slice A n c)).run Try.prog w' = .ok (.string (tx bs)) w') :=
    fun w' hb => conv_reads Try.underlying22 Try.underlying5 Try.underlying9 ((hr.below hb2).below (hb.mono hb2.size))
  have htl := tx_toList
  have hts := tx_size
  have hadd : ∀ W : World, (Op.stringOp .add (tx bs) (tx (vb m))).run Try.prog W = .ok (.string (tx (bs ++ vb m))) W := fun W => add_tx W bs (vb m) (by have := HN.out; have := HVL.out; omega)
  clear hcv
  refine wp_region_held (S := fun W => Below w2.heap.size w2 W) (by kernel_rfl) ?_
  refine h_one 0 rfl (by kernel_rfl) (by kernel_rfl) (fun K hK => ?_)
  go_simp
  refine (fixed_any _).mono ?_
  rintro e w3 ⟨rfl, hb3⟩
  have hS3 : Below w2.heap.size w2 w3 := (Below.refl _ w2).drew.trans hb3
  refine hK _ _ hS3 ?_
  clear hK K
  refine h_take 1 (.bool true) rfl (by kernel_rfl) (by kernel_rfl) (by kernel_rfl) (fun _ _ _ h => h) (by kernel_rfl) hS3 (fun _ _ => by kernel_rfl) ?_
  refine h_take 2 (.slice A2 n2 c2) rfl (by kernel_rfl) (by kernel_rfl) (by kernel_rfl) (fun _ _ _ h => h) (by kernel_rfl) hS3 (fun _ _ => by kernel_rfl) ?_
  refine h_take 4 (.string (tx bs)) rfl (by kernel_rfl) (by kernel_rfl) (by kernel_rfl) (fun _ _ _ h => h) (by kernel_rfl) hS3 (fun _ _ => by kernel_rfl) ?_
  refine h_take 5 (.int .u64 (m : Int)) rfl (by kernel_rfl) (by kernel_rfl) (by kernel_rfl) (fun _ _ _ h => h) (by kernel_rfl) hS3 (fun _ _ => by kernel_rfl) ?_
  refine h_take 3 (.string (tx (bs ++ vb m))) rfl (by kernel_rfl) (by kernel_rfl) (by kernel_rfl) (fun _ _ _ h => h) (by kernel_rfl) hS3 (by intro w' hb; have hcv2 := HCX.out w' hb; go_simp) ?_
  refine h_one 6 rfl (by kernel_rfl) (by kernel_rfl) (fun K hK => ?_)
  go_simp
  refine (refput_any m HM.out _).mono ?_
  rintro e w4 ⟨rfl, hb4⟩
  have hS4 : Below w2.heap.size w2 w4 := hS3.trans (hb4.mono hS3.size)
  refine hK _ _ hS4 ?_
  clear hK K
  refine h_take 7 (.string (tx (bs ++ vb m))) rfl (by kernel_rfl) (by kernel_rfl) (by kernel_rfl) (fun _ _ _ h => h) (by kernel_rfl) hS4 (by intro w' hb; go_simp) ?_
  refine h_take 8 (.bool true) rfl (by kernel_rfl) (by kernel_rfl) (by kernel_rfl) (fun _ _ _ h => h) (by kernel_rfl) hS4 (by intro w' hb; go_simp) ?_
  refine h_take 9 (.bool true) rfl (by kernel_rfl) (by kernel_rfl) (by kernel_rfl) (fun _ _ _ h => h) (by kernel_rfl) hS4 (fun _ _ => by kernel_rfl) ?_
  refine h_take 10 (.bool true) rfl (by kernel_rfl) (by kernel_rfl) (by kernel_rfl) (fun _ _ _ h => h) (by kernel_rfl) hS4 (fun _ _ => by kernel_rfl) ?_
  refine h_take 11 (.int .u64 (m : Int)) rfl (by kernel_rfl) (by kernel_rfl) (by kernel_rfl) (fun _ _ _ h => h) (by kernel_rfl) hS4 (fun _ _ => by kernel_rfl) ?_
  refine h_take 13 (.int .u64 (m : Int)) rfl (by kernel_rfl) (by kernel_rfl) (by kernel_rfl) (fun _ _ _ h => h) (by kernel_rfl) hS4 (fun _ _ => by kernel_rfl) ?_
  refine h_one 12 rfl (by kernel_rfl) (by kernel_rfl) (fun K hK => ?_)
  go_simp
  refine (size_any m HM.out _).mono ?_
  rintro e w5 ⟨rfl, hb5⟩
  have hS5 : Below w2.heap.size w2 w5 := hS4.trans (hb5.mono hS4.size)
  refine hK _ _ hS5 ?_
  clear hK K
  refine h_one 14 rfl (by kernel_rfl) (by kernel_rfl) (fun K hK => ?_)
  go_simp
  refine (refput_any m HM.out _).mono ?_
  rintro e w6 ⟨rfl, hb6⟩
  have hS6 : Below w2.heap.size w2 w6 := hS5.trans (hb6.mono hS5.size)
  refine hK _ _ hS6 ?_
  clear hK K
  refine h_take 15 (.int .i64 ((vb m).length : Int)) rfl (by kernel_rfl) (by kernel_rfl) (by kernel_rfl) (fun _ _ _ h => h) (by kernel_rfl) hS6 (by intro w' hb; go_simp) ?_
  refine h_take 16 (.bool true) rfl (by kernel_rfl) (by kernel_rfl) (by kernel_rfl) (fun _ _ _ h => h) (by kernel_rfl) hS6 (by intro w' hb; go_simp) ?_
  refine h_take 17 (.bool true) rfl (by kernel_rfl) (by kernel_rfl) (by kernel_rfl) (fun _ _ _ h => h) (by kernel_rfl) hS6 (fun _ _ => by kernel_rfl) ?_
  refine h_take 18 (.bool true) rfl (by kernel_rfl) (by kernel_rfl) (by kernel_rfl) (fun _ _ _ h => h) (by kernel_rfl) hS6 (fun _ _ => by kernel_rfl) ?_
  refine h_take 19 (.int .u64 (m : Int)) rfl (by kernel_rfl) (by kernel_rfl) (by kernel_rfl) (fun _ _ _ h => h) (by kernel_rfl) hS6 (fun _ _ => by kernel_rfl) ?_
  refine h_take 20 (.int .u64 (m : Int)) rfl (by kernel_rfl) (by kernel_rfl) (by kernel_rfl) (fun _ _ _ h => h) (by kernel_rfl) hS6 (fun _ _ => by kernel_rfl) ?_
  refine h_take 21 (.bool true) rfl (by kernel_rfl) (by kernel_rfl) (by kernel_rfl) (fun _ _ _ h => h) (by kernel_rfl) hS6 (by intro w' hb; go_simp) ?_
  refine h_take 22 (.bool true) rfl (by kernel_rfl) (by kernel_rfl) (by kernel_rfl) (fun _ _ _ h => h) (by kernel_rfl) hS6 (fun _ _ => by kernel_rfl) ?_
  refine h_take 23 (.bool true) rfl (by kernel_rfl) (by kernel_rfl) (by kernel_rfl) (fun _ _ _ h => h) (by kernel_rfl) hS6 (fun _ _ => by kernel_rfl) ?_
  refine h_take 24 (.int .i64 (n2 : Int)) rfl (by kernel_rfl) (by kernel_rfl) (by kernel_rfl) (fun _ _ _ h => h) (by kernel_rfl) hS6 (fun _ _ => by kernel_rfl) ?_
  refine h_take 25 (.slice A2 n2 c2) rfl (by kernel_rfl) (by kernel_rfl) (by kernel_rfl) (fun _ _ _ h => h) (by kernel_rfl) hS6 (fun _ _ => by kernel_rfl) ?_
  refine h_take 26 (.int .i64 (n2 : Int)) rfl (by kernel_rfl) (by kernel_rfl) (by kernel_rfl) (fun _ _ _ h => h) (by kernel_rfl) hS6 (by intro w' hb; go_simp) ?_
  refine h_take 27 (.bool true) rfl (by kernel_rfl) (by kernel_rfl) (by kernel_rfl) (fun _ _ _ h => h) (by kernel_rfl) hS6 (by intro w' hb; go_simp) ?_
  refine h_take 28 (.bool true) rfl (by kernel_rfl) (by kernel_rfl) (by kernel_rfl) (fun _ _ _ h => h) (by kernel_rfl) hS6 (fun _ _ => by kernel_rfl) ?_
  refine h_take 29 (.bool true) rfl (by kernel_rfl) (by kernel_rfl) (by kernel_rfl) (fun _ _ _ h => h) (by kernel_rfl) hS6 (fun _ _ => by kernel_rfl) ?_
  refine h_take 30 (.int .i64 0) rfl (by kernel_rfl) (by kernel_rfl) (by kernel_rfl) (fun _ _ _ h => h) (by kernel_rfl) hS6 (fun _ _ => by kernel_rfl) ?_
  refine h_take 31 (.bool true) rfl (by kernel_rfl) (by kernel_rfl) (by kernel_rfl) (fun _ _ _ h => h) (by kernel_rfl) hS6 (by intro w' hb; go_simp) ?_
  refine h_take 32 (.bool true) rfl (by kernel_rfl) (by kernel_rfl) (by kernel_rfl) (fun _ _ _ h => h) (by kernel_rfl) hS6 (fun _ _ => by kernel_rfl) ?_
  refine h_take 33 (.bool true) rfl (by kernel_rfl) (by kernel_rfl) (by kernel_rfl) (fun _ _ _ h => h) (by kernel_rfl) hS6 (fun _ _ => by kernel_rfl) ?_
  refine h_take 34 (.slice A n c) rfl (by kernel_rfl) (by kernel_rfl) (by kernel_rfl) (fun _ _ _ h => h) (by kernel_rfl) hS6 (fun _ _ => by kernel_rfl) ?_
  refine h_take 35 (.string (tx bs)) rfl (by kernel_rfl) (by kernel_rfl) (by kernel_rfl) (fun _ _ _ h => h) (by kernel_rfl) hS6 (by intro w' hb; have hcv2 := HCB.out w' hb; go_simp) ?_
  refine h_take 36 (.string (tx bs)) rfl (by kernel_rfl) (by kernel_rfl) (by kernel_rfl) (fun _ _ _ h => h) (by kernel_rfl) hS6 (fun _ _ => by kernel_rfl) ?_
  refine h_take 37 (.bool true) rfl (by kernel_rfl) (by kernel_rfl) (by kernel_rfl) (fun _ _ _ h => h) (by kernel_rfl) hS6 (by intro w' hb; go_simp) ?_
  refine h_take 38 (.bool true) rfl (by kernel_rfl) (by kernel_rfl) (by kernel_rfl) (fun _ _ _ h => h) (by kernel_rfl) hS6 (fun _ _ => by kernel_rfl) ?_
  refine h_take 39 (.bool true) rfl (by kernel_rfl) (by kernel_rfl) (by kernel_rfl) (fun _ _ _ h => h) (by kernel_rfl) hS6 (fun _ _ => by kernel_rfl) ?_
  refine wpAnyH_done (by kernel_rfl) ?_ _
  go_simp
  go_wp2
  go_ret
  exact ⟨rfl, hb2.trans (hS6.mono hb2.size)⟩

theorem puts_any (A : Option Addr) (n c m : Nat) (bs : List UInt8) (hm : m < top) (w : World) (hr : Reads w w.heap.size 1 A n (bs.map bv)) :
    Calls Try.prog 3 #[.slice A n c, .int .u64 (m : Int)] w fun e w' => e = .returned (.bool true) ∧ Below w.heap.size w w' := by
  have hl : bs.length = n := by have := hr.1; simpa using this
  by_cases h : 200 < n
  · exact puts_long A n c m h w
  · subst hl
    exact puts_short A c m bs (by omega) hm w hr

end Go.Proofs.Ytclceinoekebcaa
