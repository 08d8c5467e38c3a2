/- The walks of Get and Run of tephraref06. -/
import Derived.Test.YtoanmbhnhofoiaaDoorFe
namespace Go.Proofs.YtoanmbhnhofoiaaDoor
open Go.RowKit Go.Shelf

/-- What Get of the document answers. -/
def rres (r : List UInt8 × Nat × Nat) : Value := .tuple #[.string (tx r.1), .int .i64 (r.2.1 : Int), .int .i64 (r.2.2 : Int)]

set_option maxRecDepth 100000 in
set_option maxHeartbeats 400000 in
theorem rfget_bad (bs : List UInt8) (at_ : Int) (h : at_ < 0 ∨ (bs.length : Int) < at_) (w : World) :
    Calls Tryd.prog 16 #[.string (tx bs), .int .i64 at_] w fun e w' => e = .returned (rres ([], 0, 1)) ∧ w = w' := by
  have hsz : (tx bs).size = bs.length := tx_size bs
  obtain ⟨n, hnl⟩ : ∃ n, n = bs.length := ⟨_, rfl⟩
  rw [← hnl] at hsz h
  generalize tx bs = s at hsz ⊢
  have hres : rres ([], 0, 1) = .tuple #[.string ⟨#[]⟩, .int .i64 0, .int .i64 1] := rfl
  rw [hres]
  by_cases h0 : at_ < 0
  · clear h hnl hres
    go_enter Tryd.func16, Tryd.ntmps16
    go_wp2
    go_ret3
    exact ⟨rfl, rfl⟩
  · have h1 : (n : Int) < at_ := by omega
    clear h hnl hres
    go_enter Tryd.func16, Tryd.ntmps16
    go_wp2
    go_ret3
    exact ⟨rfl, rfl⟩

set_option maxRecDepth 100000 in
set_option maxHeartbeats 1000000 in
theorem rfget_any (bs : List UInt8) (at_ : Nat) (hn : bs.length ≤ 1073741824) (hat : at_ ≤ bs.length) (w : World) :
    Calls Tryd.prog 16 #[.string (tx bs), .int .i64 (at_ : Int)] w fun e w' => e = .returned (rres (fg at_ bs)) ∧ Below w.heap.size w w' := by
  obtain ⟨n, hnl⟩ : ∃ n, n = bs.length := ⟨_, rfl⟩
  rw [← hnl] at hn hat
  obtain ⟨s, hs⟩ : ∃ s, s = tx bs := ⟨_, rfl⟩
  have hsz : s.size = n := by rw [hs, tx_size, hnl]
  have n1 : ¬ ((at_ : Int) < 0) := by omega
  have n2 : ¬ ((n : Int) < (at_ : Int)) := by omega
  have HG0 := fun W => rbget_any at_ 2048 bs (by omega) (by omega) (by omega) W
  rw [← hs] at HG0 ⊢
  by_cases h0 : at_ = n
  · subst h0
    have e0 : rres (fg at_ bs) = .tuple #[.string ⟨#[]⟩, .int .i64 0, .int .i64 6] := by rw [hnl, fg_end]; rfl
    rw [e0]
    clear hnl hs e0 HG0
    go_enter Tryd.func16, Tryd.ntmps16
    go_wp2
    go_ret3
    exact ⟨rfl, Below.refl _ _⟩
  have hne : ((at_ : Int) == (n : Int)) = false := by rw [beq_eq_false_iff_ne]; omega
  have hnb : at_ ≠ bs.length := by omega
  have hfive : (∃ e0, (e0 = 2 ∨ e0 = 3 ∨ e0 = 5) ∧ bg 2048 at_ bs = ([], 0, e0)) ∨ ∃ s nx, bg 2048 at_ bs = (s, nx, 0) := by
    rcases bg_five (most := 2048) (at_ := at_) (bs := bs) with h | h | h | h
    · exact .inl ⟨2, by simp, h⟩
    · exact .inl ⟨3, by simp, h⟩
    · exact .inl ⟨5, by simp, h⟩
    · exact .inr h
  rcases hfive with ⟨e0, he0, hg⟩ | ⟨p, nx, hg⟩
  · rw [fg_err hnb hg (by omega)]
    rw [hg] at HG0
    clear hg hnl hs hnb
    rcases he0 with rfl | rfl | rfl
    all_goals
      have HG := Lib.hid HG0
      clear HG0
      go_enter Tryd.func16, Tryd.ntmps16
      go_wp2_with (go_at_call 32; refine (HG.out _).mono ?_; rintro e w1 ⟨rfl, rfl⟩; unfold bres)
      go_ret3
      exact ⟨rfl, Below.refl _ _⟩
  · rw [hg] at HG0
    have hb1 := bg_one hg
    have hm1 := bg_most hg
    by_cases hp : p = []
    · subst hp
      rw [fg_form hnb hg]
      have hem : (tx ([] : List UInt8)) = ⟨#[]⟩ := rfl
      have HG := Lib.hid HG0
      clear hg hnl hs hnb hb1 HG0
      go_enter Tryd.func16, Tryd.ntmps16
      go_wp2_with (go_at_call 32; refine (HG.out _).mono ?_; rintro e w1 ⟨rfl, rfl⟩; unfold bres; rw [hem])
      go_ret3
      exact ⟨rfl, Below.refl _ _⟩
    · have hpe : ((tx p).toList == []) = false := by rw [tx_toList]; simpa using hp
      have hbr : bres (p, nx, 0) = .tuple #[.string (tx p), .int .i64 (nx : Int), .int .i64 0] := rfl
      rw [hbr] at HG0
      have hnx1 : at_ < nx := hb1.1
      have hnx2 : nx ≤ n := by omega
      clear hbr hb1
      obtain ⟨m, hm⟩ : ∃ m, m = nx + 4 := ⟨_, rfl⟩
      have hm4 : (nx : Int) + 4 = (m : Int) := by omega
      by_cases hsh : n < nx + 4
      · rw [fg_short hnb hg hp (by omega)]
        have HG := Lib.hid HG0
        have HM : (n : Int) < (m : Int) := by omega
        clear HG0 hg hp hnl hs hnb hm
        generalize tx p = t at HG hpe
        go_enter Tryd.func16, Tryd.ntmps16
        go_wp2_with (go_at_call 32; refine (HG.out _).mono ?_; rintro e w1 ⟨rfl, rfl⟩)
        go_ret3
        exact ⟨rfl, Below.refl _ _⟩
      · have x1 : s.extract at_ nx = tx ((bs.drop at_).take (nx - at_)) := by rw [hs, tx_extract]
        have x2 : s.extract nx m = tx ((bs.drop nx).take 4) := by rw [hs, tx_extract, hm, show nx + 4 - nx = 4 by omega]
        have HS : Hid (∀ W : World, Calls Tryd.prog 25 #[.string (tx ((bs.drop at_).take (nx - at_)))] W fun e w' => e = .returned (wv (crc ((bs.drop at_).take (nx - at_)))) ∧ W = w') := fun W => refsum_any _ (by rw [List.length_take, List.length_drop]; omega) W
        obtain ⟨q, hq⟩ : ∃ q, q = crc ((bs.drop at_).take (nx - at_)) := ⟨_, rfl⟩
        have HB : Hid (∀ W : World, Calls Tryd.prog 24 #[wv q] W fun e w' => e = .returned (.string (tx (lb q))) ∧ Below W.heap.size W w') := fun W => refbytes_any q W
        have hsl1 : ∀ W : World, (Instr.slice 9 (.string s) (some (.int .i64 (at_ : Int))) (some (.int .i64 (nx : Int))) none).run Tryd.prog W = .ok (.string (tx ((bs.drop at_).take (nx - at_)))) W := fun W => by
          have h := run_slice_string (P := Tryd.prog) (w := W) 9 s .i64 .i64 (at_ : Int) (nx : Int) Tryd.underlying9 (by omega) (by omega) (by rw [hsz]; omega)
          rw [h, ← x1]; rfl
        have hsl2 : ∀ W : World, (Instr.slice 9 (.string s) (some (.int .i64 (nx : Int))) (some (.int .i64 (m : Int))) none).run Tryd.prog W = .ok (.string (tx ((bs.drop nx).take 4))) W := fun W => by
          have h := run_slice_string (P := Tryd.prog) (w := W) 9 s .i64 .i64 (nx : Int) (m : Int) Tryd.underlying9 (by omega) (by omega) (by rw [hsz]; omega)
          rw [h, ← x2]; rfl
        have hwm : IntKind.i64.wrap (m : Int) = (m : Int) := by rw [IntKind.wrap_i64]; omega
        have HM : ¬ ((n : Int) < (m : Int)) := by omega
        by_cases hc4 : lb q = (bs.drop nx).take 4
        · rw [fg_go hnb hg hp (by omega) (by rw [← hq]; exact hc4)]
          have hres : rres (p, nx + 4, 0) = .tuple #[.string (tx p), .int .i64 (m : Int), .int .i64 0] := by rw [hm]; rfl
          rw [hres]
          rw [← hc4] at hsl2
          rw [← hq] at HS
          have hself : ((tx (lb q)).toList == (tx (lb q)).toList) = true := by simp
          generalize tx (lb q) = t8 at hsl2 HB hself
          generalize tx ((bs.drop at_).take (nx - at_)) = t4 at hsl1 HS
          generalize wv q = q2 at HS HB
          generalize tx p = t at HG0 hpe ⊢
          have HG := Lib.hid HG0
          clear HG0 hg hp hnl hs hnb hm hc4 hq x1 x2 hres
          go_enter Tryd.func16, Tryd.ntmps16
          go_wp2_with fail
          refine (HG.out _).mono ?_
          rintro e w1 ⟨rfl, rfl⟩
          go_wp2_with fail
          have hS0 : Below w.heap.size w w.drew := (Below.refl _ w).drew
          refine wp_region_held (S := fun W => Below w.heap.size w W) (by kernel_rfl) ?_
          refine h_take 0 (.string s) rfl (by kernel_rfl) (by kernel_rfl) (by kernel_rfl) (fun _ _ _ h => h) (by kernel_rfl) hS0 (fun _ _ => by kernel_rfl) ?_
          refine h_take 1 (.int .i64 (at_ : Int)) rfl (by kernel_rfl) (by kernel_rfl) (by kernel_rfl) (fun _ _ _ h => h) (by kernel_rfl) hS0 (fun _ _ => by kernel_rfl) ?_
          refine h_take 2 (.int .i64 (nx : Int)) rfl (by kernel_rfl) (by kernel_rfl) (by kernel_rfl) (fun _ _ _ h => h) (by kernel_rfl) hS0 (fun _ _ => by kernel_rfl) ?_
          refine h_take 3 (.string t4) rfl (by kernel_rfl) (by kernel_rfl) (by kernel_rfl) (fun _ _ _ h => h) (by kernel_rfl) hS0 (by intro w' hb; go_simp) ?_
          refine h_take 6 (.string s) rfl (by kernel_rfl) (by kernel_rfl) (by kernel_rfl) (fun _ _ _ h => h) (by kernel_rfl) hS0 (fun _ _ => by kernel_rfl) ?_
          refine h_take 7 (.int .i64 (nx : Int)) rfl (by kernel_rfl) (by kernel_rfl) (by kernel_rfl) (fun _ _ _ h => h) (by kernel_rfl) hS0 (fun _ _ => by kernel_rfl) ?_
          refine h_take 8 (.int .i64 (nx : Int)) rfl (by kernel_rfl) (by kernel_rfl) (by kernel_rfl) (fun _ _ _ h => h) (by kernel_rfl) hS0 (fun _ _ => by kernel_rfl) ?_
          refine h_take 9 (.int .i64 (m : Int)) rfl (by kernel_rfl) (by kernel_rfl) (by kernel_rfl) (fun _ _ _ h => h) (by kernel_rfl) hS0 (by intro w' hb; go_simp) ?_
          refine h_take 10 (.string t8) rfl (by kernel_rfl) (by kernel_rfl) (by kernel_rfl) (fun _ _ _ h => h) (by kernel_rfl) hS0 (by intro w' hb; go_simp) ?_
          refine h_one 4 rfl (by kernel_rfl) (by kernel_rfl) (fun K hK => ?_)
          go_simp
          refine (HS.out _).mono ?_
          rintro e w6 ⟨rfl, rfl⟩
          refine hK _ _ hS0 ?_
          clear hK K
          refine h_one 5 rfl (by kernel_rfl) (by kernel_rfl) (fun K hK => ?_)
          go_simp
          refine (HB.out _).mono ?_
          rintro e w5 ⟨rfl, hb5⟩
          have hS5 : Below w.heap.size w w5 := hS0.trans (hb5.mono hS0.size)
          clear hb5
          refine hK _ _ hS5 ?_
          clear hK K
          refine h_take 11 (.bool false) rfl (by kernel_rfl) (by kernel_rfl) (by kernel_rfl) (fun _ _ _ h => h) (by kernel_rfl) hS5 (by intro w' hb; go_simp) ?_
          refine wpAnyH_done (by kernel_rfl) ?_ _
          go_simp
          go_wp2
          go_ret3
          exact ⟨rfl, hS5⟩
        · rw [fg_sum hnb hg hp (by omega) (by rw [← hq]; exact hc4)]
          rw [← hq] at HS
          have hne2 : ((tx (lb q)).toList == (tx ((bs.drop nx).take 4)).toList) = false := by rw [tx_toList, tx_toList]; simpa using hc4
          generalize tx (lb q) = t9 at HB hne2
          generalize tx ((bs.drop nx).take 4) = t8 at hsl2 hne2
          generalize tx ((bs.drop at_).take (nx - at_)) = t4 at hsl1 HS
          generalize wv q = q2 at HS HB
          generalize tx p = t at HG0 hpe
          have HG := Lib.hid HG0
          clear HG0 hg hp hnl hs hnb hm hc4 hq x1 x2
          go_enter Tryd.func16, Tryd.ntmps16
          go_wp2_with fail
          refine (HG.out _).mono ?_
          rintro e w1 ⟨rfl, rfl⟩
          go_wp2_with fail
          have hS0 : Below w.heap.size w w.drew := (Below.refl _ w).drew
          refine wp_region_held (S := fun W => Below w.heap.size w W) (by kernel_rfl) ?_
          refine h_take 0 (.string s) rfl (by kernel_rfl) (by kernel_rfl) (by kernel_rfl) (fun _ _ _ h => h) (by kernel_rfl) hS0 (fun _ _ => by kernel_rfl) ?_
          refine h_take 1 (.int .i64 (at_ : Int)) rfl (by kernel_rfl) (by kernel_rfl) (by kernel_rfl) (fun _ _ _ h => h) (by kernel_rfl) hS0 (fun _ _ => by kernel_rfl) ?_
          refine h_take 2 (.int .i64 (nx : Int)) rfl (by kernel_rfl) (by kernel_rfl) (by kernel_rfl) (fun _ _ _ h => h) (by kernel_rfl) hS0 (fun _ _ => by kernel_rfl) ?_
          refine h_take 3 (.string t4) rfl (by kernel_rfl) (by kernel_rfl) (by kernel_rfl) (fun _ _ _ h => h) (by kernel_rfl) hS0 (by intro w' hb; go_simp) ?_
          refine h_take 6 (.string s) rfl (by kernel_rfl) (by kernel_rfl) (by kernel_rfl) (fun _ _ _ h => h) (by kernel_rfl) hS0 (fun _ _ => by kernel_rfl) ?_
          refine h_take 7 (.int .i64 (nx : Int)) rfl (by kernel_rfl) (by kernel_rfl) (by kernel_rfl) (fun _ _ _ h => h) (by kernel_rfl) hS0 (fun _ _ => by kernel_rfl) ?_
          refine h_take 8 (.int .i64 (nx : Int)) rfl (by kernel_rfl) (by kernel_rfl) (by kernel_rfl) (fun _ _ _ h => h) (by kernel_rfl) hS0 (fun _ _ => by kernel_rfl) ?_
          refine h_take 9 (.int .i64 (m : Int)) rfl (by kernel_rfl) (by kernel_rfl) (by kernel_rfl) (fun _ _ _ h => h) (by kernel_rfl) hS0 (by intro w' hb; go_simp) ?_
          refine h_take 10 (.string t8) rfl (by kernel_rfl) (by kernel_rfl) (by kernel_rfl) (fun _ _ _ h => h) (by kernel_rfl) hS0 (by intro w' hb; go_simp) ?_
          refine h_one 4 rfl (by kernel_rfl) (by kernel_rfl) (fun K hK => ?_)
          go_simp
          refine (HS.out _).mono ?_
          rintro e w6 ⟨rfl, rfl⟩
          refine hK _ _ hS0 ?_
          clear hK K
          refine h_one 5 rfl (by kernel_rfl) (by kernel_rfl) (fun K hK => ?_)
          go_simp
          refine (HB.out _).mono ?_
          rintro e w5 ⟨rfl, hb5⟩
          have hS5 : Below w.heap.size w w5 := hS0.trans (hb5.mono hS0.size)
          clear hb5
          refine hK _ _ hS5 ?_
          clear hK K
          refine h_take 11 (.bool true) rfl (by kernel_rfl) (by kernel_rfl) (by kernel_rfl) (fun _ _ _ h => h) (by kernel_rfl) hS5 (by intro w' hb; go_simp) ?_
          refine wpAnyH_done (by kernel_rfl) ?_ _
          go_simp
          go_wp2
          go_ret3
          exact ⟨rfl, hS5⟩

end Go.Proofs.YtoanmbhnhofoiaaDoor
