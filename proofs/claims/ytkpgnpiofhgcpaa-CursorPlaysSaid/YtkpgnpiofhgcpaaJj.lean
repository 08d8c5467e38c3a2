/- The walks of the document's Numbers and Texts. -/
import Derived.Test.YtkpgnpiofhgcpaaJi
namespace Go.Proofs.Ytkpgnpiofhgcpaa
open Go.RowKit

theorem set3_drew2 {w : World} {g : Nat} {t : TypeId} {x y z : Value} (h : w.heap[g]? = some (.cells #[x, y, z] t (0, 0))) (a b c : Value) :
    (((w.drew.setCell ⟨g, 0, none⟩ a).setCell ⟨g, 1, none⟩ b).setCell ⟨g, 2, none⟩ c).heap[g]? = some (.cells #[a, b, c] t (0, 0)) := set3 (w := w.drew) h a b c
theorem own_set3 {w : World} {base n size g : Nat} {e : TypeId} {v a b c : Value} {xs : List Value} (h : w.ownsRow base e size v n xs) (hg : g < base) :
    (((w.setCell ⟨g, 0, none⟩ a).setCell ⟨g, 1, none⟩ b).setCell ⟨g, 2, none⟩ c).ownsRow base e size v n xs := by
  obtain ⟨h1, h2 | ⟨k, cap, cur, hv, hbg, hk, r⟩⟩ := h
  · exact ⟨h1, .inl h2⟩
  · exact ⟨h1, .inr ⟨k, cap, cur, hv, hbg, by rw [set3_other (by omega)]; exact hk, r⟩⟩

/-- Three blocks that were just made, the third a slice of none, in a world in which nothing of what was there has turned since. -/
theorem three_old {w w1 : World} {a b : Obj} {t : TypeId} (h : Below (((w.alloc a).alloc b).alloc (.cells #[] t)).heap.size (((w.alloc a).alloc b).alloc (.cells #[] t)) w1) :
    w1.heap[w.heap.size]? = some a ∧ w1.heap[w.heap.size + 1]? = some b ∧ Below w.heap.size w w1 ∧ w.heap.size + 3 ≤ w1.heap.size ∧ w1.ownsRow (w.heap.size + 2) t 1 (.slice (some ⟨w.heap.size + 2, 0, none⟩) 0 0) 0 [] := by
  have e : ((w.alloc a).alloc b).heap.size = w.heap.size + 2 := by simp
  have h0 : Below ((w.alloc a).alloc b).heap.size ((w.alloc a).alloc b) w1 := ((Below.refl _ _).alloc (Nat.le_refl _) _).trans (h.mono (by simp))
  obtain ⟨h1, h2, h3, _⟩ := two_old h0
  refine ⟨h1, h2, h3, by have := h.size; simpa using this, ?_⟩
  have := own_below (own_empty ((w.alloc a).alloc b) t) h
  rwa [e] at this

/-- At the head of a round of the document's Numbers. -/
def JNRel (one : Cu → Nat × Cu) (m : Nat) (c2 : Cu) (w : World) (v idx : Value) (wr : World) : Prop :=
  ∃ (d : Cu) (l : List Nat) (k : Nat), idx = .int .i64 (k : Int) ∧ Hid (Cu.MInv one m c2 d l k) ∧ Hid (wr.heap[w.heap.size]? = some (.cells #[.string (tx d.bs), .int .i64 (d.at_ : Int), .int .i64 d.e] 28 (0, 0))) ∧
    Hid (wr.heap[w.heap.size + 1]? = some (.cells #[.string ⟨#[]⟩, .int .i64 0, .int .i64 0] 28 (0, 0))) ∧ Hid (Below w.heap.size w wr) ∧ Hid (w.heap.size + 2 ≤ wr.heap.size) ∧ Hid (wr.ownsRow (w.heap.size + 2) 40 1 v l.length (l.map nv))

set_option maxRecDepth 100000 in
set_option maxHeartbeats 1600000 in
theorem refnums_any (c : Cu) (hok : c.ok) (hrm : c.bs.length ≤ 1000000) (most : Int) (hm : most < 9223372036854775808) (w : World) :
    Calls Try.prog 26 #[cuv c, .int .i64 most] w fun e w' => ∃ v, e = .returned (.tuple #[v, cuv (c.nums most).2]) ∧ w'.ownsRow w.heap.size 40 1 v (c.nums most).1.length ((c.nums most).1.map nv) ∧ Below w.heap.size w w' := by
  obtain ⟨i0, hi0, hz0, hz1, hz2⟩ := info_parts info64
  have hcnt := fun W => refcnt_any c hok hrm most hm W
  have hcto := Cu.cnt_to hok most
  have hmt : (c.cnt most).1 < 9223372036854775808 := by
    unfold Cu.cnt
    split
    · exact (by decide : 0 < 9223372036854775808)
    · simp only; omega
  have hres : ∀ (d : Cu) (l : List Nat) (k : Nat), Cu.MInv Cu.num (c.cnt most).1 (c.cnt most).2 d l k → (d.e ≠ 0 ∨ (c.cnt most).1 ≤ k) → (c.nums most) = (if d.e = 0 then l else [], d) := fun d l k hi hs => Cu.all_end rfl hi hs
  have hstart : Cu.MInv Cu.num (c.cnt most).1 (c.cnt most).2 (c.cnt most).2 [] 0 := Cu.MInv.start hcto.good
  have hbs : (c.cnt most).2.bs.length ≤ 1000000 := by rw [hcto.bs]; exact hrm
  generalize (c.cnt most).2 = c2 at *
  generalize (c.cnt most).1 = m at *
  generalize (c.nums most) = sp at *
  obtain ⟨s, x, z, hc⟩ := cuv_parts c
  rw [hc] at hcnt ⊢
  have HCNT := Lib.hid hcnt
  have HRES := Lib.hid hres
  have HSTART := Lib.hid hstart
  have HBS := Lib.hid hbs
  clear hcnt hres hstart hbs hcto hc hok hrm
  go_enter Try.func26, Try.ntmps26
  go_wp2_with fail
  refine (HCNT.out _).mono ?_
  rintro e w1 ⟨rfl, hb1⟩
  obtain ⟨hblk, hblk2, hbw, hsz, hown⟩ := three_old hb1
  have g0 := field_cell (i := 0) (u := .string s) hblk rfl
  have g1 := field_cell (i := 1) (u := .int .i64 x) hblk rfl
  have g2 := field_cell (i := 2) (u := .int .i64 z) hblk rfl
  have y0 := field_free (i := 0) hblk
  have y1 := field_free (i := 1) hblk
  have y2 := field_free (i := 2) hblk
  have HB := Lib.hid hblk
  have HB2 := Lib.hid hblk2
  have HBW := Lib.hid hbw
  have HSZ := Lib.hid hsz
  have HOWN := Lib.hid hown
  have hcv2 : cuv c2 = .agg #[.string (tx c2.bs), .int .i64 (c2.at_ : Int), .int .i64 c2.e] := rfl
  rw [hcv2]
  clear hb1 hblk hblk2 hbw hsz hown hcv2
  go_wp2
  go_loopw [6, 8] (fun v idx wr => JNRel Cu.num m c2 w v idx wr) (fun _ idx _ => m - (intOf idx).toNat)
  case atStart =>
    exact ⟨c2, [], 0, rfl, HSTART.out, set3 HB.out _ _ _, (set3_other (by omega)).trans HB2.out, set3_below HBW.out (Nat.le_refl _), by have := HSZ.out; simp only [Hid]; rw [set3_size]; omega, own_set3 HOWN.out (by omega)⟩
  case round =>
    obtain ⟨d, l, k, rfl, HI, HBK, HBK2, HBR, HSR, HOR⟩ := hrel
    clear g0 g1 g2 y0 y1 y2 HSTART HCNT HB HB2 HBW HSZ HOWN
    have hle : k ≤ m := HI.out.le
    have g0 := field_cell (i := 0) (u := .string (tx d.bs)) HBK.out rfl
    have g1 := field_cell (i := 1) (u := .int .i64 (d.at_ : Int)) HBK.out rfl
    have g2 := field_cell (i := 2) (u := .int .i64 d.e) HBK.out rfl
    by_cases he : d.e = 0
    · rw [he] at g2
      have hdrm : d.bs.length ≤ 1000000 := by rw [HI.out.bs]; exact HBS.out
      have hlen : l.length ≤ 1000001 := by
        have h1 := HI.out.len1
        have h2 := HI.out.ok
        unfold Cu.ok at h2
        omega
      by_cases hk : k < m
      · have hone := fun W => refnum_any d HI.out.ok hdrm W
        have hst := HI.out.step hk he (Cu.num_to HI.out.ok) (fun h => Cu.tk_on he (fun h1 => (Cu.nuR_in HI.out.ok h1).1) h)
        have hcd : cuv d = .agg #[.string (tx d.bs), .int .i64 (d.at_ : Int), .int .i64 0] := by rw [cuv, he]
        rw [hcd] at hone
        obtain ⟨x, hx⟩ : ∃ x, (Cu.num d).1 = x := ⟨_, rfl⟩
        obtain ⟨d2, hd2⟩ : ∃ d2, (Cu.num d).2 = d2 := ⟨_, rfl⟩
        rw [hx, hd2] at hst
        have hone2 : ∀ W, Calls Try.prog 24 #[.agg #[.string (tx d.bs), .int .i64 (d.at_ : Int), .int .i64 0]] W fun e w' => e = .returned (.tuple #[.int .u64 (x : Int), .agg #[.string (tx d2.bs), .int .i64 (d2.at_ : Int), .int .i64 d2.e]]) ∧ Below W.heap.size W w' := fun W => by
          have h := hone W
          rw [show Cu.num d = (x, d2) from Prod.ext hx hd2] at h
          exact h
        have HST := Lib.hid hst
        have HONE := Lib.hid hone2
        have y0 := field_free (i := 0) HBK.out
        have y1 := field_free (i := 1) HBK.out
        have y2 := field_free (i := 2) HBK.out
        have HLEN := Lib.hid hlen
        clear hone hone2 hst hx hd2 hcd he hlen hdrm
        go_wp2_with fail
        refine (HONE.out _).mono ?_
        rintro e w3 ⟨rfl, hb3⟩
        have hs3 := hb3.size
        have hs3w : w.heap.size + 2 ≤ w3.heap.size := Nat.le_trans HSR.out hs3
        have hk3 := (hb3.block w.heap.size (by have := HSR.out; omega)).trans HBK.out
        have hk32 := (hb3.block (w.heap.size + 1) (by have := HSR.out; omega)).trans HBK2.out
        have hown3 := own_set3 (g := w.heap.size) (a := .string (tx d2.bs)) (b := .int .i64 (d2.at_ : Int)) (c := .int .i64 d2.e) (own_below HOR.out hb3) (by omega)
        have f0 := field_cell (i := 0) (u := .string (tx d.bs)) hk3 rfl
        have f1 := field_cell (i := 1) (u := .int .i64 (d.at_ : Int)) hk3 rfl
        have f2 := field_cell (i := 2) (u := .int .i64 d.e) hk3 rfl
        have z0 := field_free (i := 0) hk3
        have z1 := field_free (i := 1) hk3
        have z2 := field_free (i := 2) hk3
        have hbr3 : Below w.heap.size w w3 := HBR.out.trans (hb3.mono (by have := HSR.out; omega))
        have HK3 := Lib.hid hk3
        have HK32 := Lib.hid hk32
        have HOWN3 := Lib.hid hown3
        have HBR3 := Lib.hid hbr3
        have HS3 := Lib.hid hs3w
        clear hb3 hs3 hk3 hk32 hown3 hbr3 hs3w g0 g1 g2 y0 y1 y2
        go_wp2_with (at_builtin; refine wpList_append_reads _ rfl (.tmp 32) (.tmp 34) 44 rfl (w.heap.size + 2) 40 i0 (.int .u64 0) 8 Try.underlying44 hi0 hz0 hz1 hz2 rfl _ l.length _ rfl (own_below HOWN3.out ((Below.refl _ _).alloc (Nat.le_refl _) _)) (some ⟨(((w3.setCell ⟨w.heap.size, 0, none⟩ (.string (tx d2.bs))).setCell ⟨w.heap.size, 1, none⟩ (.int .i64 (d2.at_ : Int))).setCell ⟨w.heap.size, 2, none⟩ (.int .i64 d2.e)).heap.size, 0, none⟩) 1 1 ((((w3.setCell ⟨w.heap.size, 0, none⟩ (.string (tx d2.bs))).setCell ⟨w.heap.size, 1, none⟩ (.int .i64 (d2.at_ : Int))).setCell ⟨w.heap.size, 2, none⟩ (.int .i64 d2.e)).heap.size + 1) [.int .u64 (x : Int)] (by first | rfl | (rw [set3_size]; rfl)) (by intro h; cases h) (reads_val _ 40 (.int .u64 (x : Int))) (by intro u hu; simp at hu; subst hu; rfl) (by have := HLEN.out; unfold maxLen; omega) (by have := HLEN.out; omega) (by have := HS3.out; rw [World.size_alloc, set3_size]; omega) ?_; intro v4 w4 ho4 hg4)
        have hAB := ((Below.refl (w.heap.size + 2) _).alloc (by have := HS3.out; rw [set3_size]; omega) _).grown hg4 (by have := HS3.out; rw [World.size_alloc, set3_size]; omega) (own_block HOWN3.out)
        exact ⟨⟨d2, l ++ [x], k + 1, by go_num, HST.out, (hAB.block w.heap.size (by omega)).trans (set3 HK3.out _ _ _), (hAB.block (w.heap.size + 1) (by omega)).trans ((set3_other (by omega)).trans HK32.out),
          (set3_below HBR3.out (Nat.le_refl _)).trans (hAB.mono (by omega)), by have := HS3.out; have h2 := hAB.size; rw [set3_size] at h2; simp only [Hid]; omega, by simpa [Hid, nv] using ho4⟩, by simp [intOf]; omega⟩
      · have hr := HRES.out d l k HI.out (.inr (by omega))
        rw [if_pos he] at hr
        have HR := Lib.hid hr
        have p0 := field_cell (i := 0) (u := .string ⟨#[]⟩) HBK2.out rfl
        have p1 := field_cell (i := 1) (u := .int .i64 0) HBK2.out rfl
        have p2 := field_cell (i := 2) (u := .int .i64 0) HBK2.out rfl
        have q0 := field_free (i := 0) HBK2.out
        have q1 := field_free (i := 1) HBK2.out
        have q2 := field_free (i := 2) HBK2.out
        have hkm : k = m := by omega
        have HCD : Hid (cuv d = .agg #[.string (tx d.bs), .int .i64 (d.at_ : Int), .int .i64 0]) := by rw [cuv, he]; rfl
        clear hr hle he hlen hdrm
        go_wp2
        go_region
        all_goals (try go_wp2)
        (try simp only [Exit.inBlock, Exit.then])
        refine bodyPost_ret (results_tmp_cell_row Try.results26 _ _ (w.heap.size + 1) _ _ (0, 0) _ rfl (set3_drew HBK2.out _ _ _) Try.underlying28 rfl (by kernel_rfl)) rfl ?_
        exact ⟨_, by rw [HR.out]; dsimp only; rw [HCD.out], by rw [HR.out]; exact own_wider (own_set3 HOR.out (by omega)) (by omega), (set3_below HBR.out (by omega)).drew⟩
    · have hr := HRES.out d l k HI.out (.inl he)
      rw [if_neg he] at hr
      have HR := Lib.hid hr
      have p0 := field_cell (i := 0) (u := .string ⟨#[]⟩) HBK2.out rfl
      have p1 := field_cell (i := 1) (u := .int .i64 0) HBK2.out rfl
      have p2 := field_cell (i := 2) (u := .int .i64 0) HBK2.out rfl
      have q0 := field_free (i := 0) HBK2.out
      have q1 := field_free (i := 1) HBK2.out
      have q2 := field_free (i := 2) HBK2.out
      have HCD : Hid (cuv d = .agg #[.string (tx d.bs), .int .i64 (d.at_ : Int), .int .i64 d.e]) := rfl
      have hal1 : (wr.alloc (.cells #[] 40)).heap[w.heap.size]? = some (.cells #[.string (tx d.bs), .int .i64 (d.at_ : Int), .int .i64 d.e] 28 (0, 0)) := (Below.heap_alloc wr _ w.heap.size (by have := HSR.out; omega)).trans HBK.out
      have hal2 : (wr.alloc (.cells #[] 40)).heap[w.heap.size + 1]? = some (.cells #[.string ⟨#[]⟩, .int .i64 0, .int .i64 0] 28 (0, 0)) := (Below.heap_alloc wr _ (w.heap.size + 1) (by have := HSR.out; omega)).trans HBK2.out
      have b0 := field_cell (i := 0) (u := .string (tx d.bs)) hal1 rfl
      have b1 := field_cell (i := 1) (u := .int .i64 (d.at_ : Int)) hal1 rfl
      have b2 := field_cell (i := 2) (u := .int .i64 d.e) hal1 rfl
      have c0 := field_cell (i := 0) (u := .string ⟨#[]⟩) hal2 rfl
      have c1 := field_cell (i := 1) (u := .int .i64 0) hal2 rfl
      have c2 := field_cell (i := 2) (u := .int .i64 0) hal2 rfl
      have d0 := field_free (i := 0) hal2
      have d1 := field_free (i := 1) hal2
      have d2 := field_free (i := 2) hal2
      have HAL2 := Lib.hid hal2
      have HO := Lib.hid (own_empty wr 40)
      clear hr hal1 hal2
      generalize d.e = zz at *
      by_cases hk : k < m
      · go_wp2
        go_region
        all_goals (try go_wp2)
        (try simp only [Exit.inBlock, Exit.then])
        refine bodyPost_ret (results_tmp_cell_row Try.results26 _ _ (w.heap.size + 1) _ _ (0, 0) _ rfl (set3_drew2 HAL2.out _ _ _) Try.underlying28 rfl (by kernel_rfl)) rfl ?_
        exact ⟨_, by rw [HR.out]; dsimp only; rw [HCD.out], by rw [HR.out]; exact own_wider (own_set3 HO.out (by have := HSR.out; omega)) (by have := HSR.out; omega), (set3_below ((HBR.out.alloc (by have := HSR.out; omega) _).drew) (by omega))⟩
      · have hkm : k = m := by omega
        go_wp2
        go_region
        all_goals (try go_wp2)
        (try simp only [Exit.inBlock, Exit.then])
        refine bodyPost_ret (results_tmp_cell_row Try.results26 _ _ (w.heap.size + 1) _ _ (0, 0) _ rfl (set3_drew2 HAL2.out _ _ _) Try.underlying28 rfl (by kernel_rfl)) rfl ?_
        exact ⟨_, by rw [HR.out]; dsimp only; rw [HCD.out], by rw [HR.out]; exact own_wider (own_set3 HO.out (by have := HSR.out; omega)) (by have := HSR.out; omega), (set3_below ((HBR.out.alloc (by have := HSR.out; omega) _).drew) (by omega))⟩

/-- At the head of a round of the document's Texts. -/
def JTRel (one : Cu → (List UInt8) × Cu) (m : Nat) (c2 : Cu) (w : World) (v idx : Value) (wr : World) : Prop :=
  ∃ (d : Cu) (l : List (List UInt8)) (k : Nat), idx = .int .i64 (k : Int) ∧ Hid (Cu.MInv one m c2 d l k) ∧ Hid (wr.heap[w.heap.size]? = some (.cells #[.string (tx d.bs), .int .i64 (d.at_ : Int), .int .i64 d.e] 28 (0, 0))) ∧
    Hid (wr.heap[w.heap.size + 1]? = some (.cells #[.string ⟨#[]⟩, .int .i64 0, .int .i64 0] 28 (0, 0))) ∧ Hid (Below w.heap.size w wr) ∧ Hid (w.heap.size + 2 ≤ wr.heap.size) ∧ Hid (wr.ownsRow (w.heap.size + 2) 9 1 v l.length (l.map sv))

set_option maxRecDepth 100000 in
set_option maxHeartbeats 1600000 in
theorem reftexts_any (c : Cu) (hok : c.ok) (hrm : c.bs.length ≤ 1000000) (most : Int) (hm : most < 9223372036854775808) (each : Int) (hme : each < 9223372036854775808) (w : World) :
    Calls Try.prog 28 #[cuv c, .int .i64 most, .int .i64 each] w fun e w' => ∃ v, e = .returned (.tuple #[v, cuv (c.texts most each).2]) ∧ w'.ownsRow w.heap.size 9 1 v (c.texts most each).1.length ((c.texts most each).1.map sv) ∧ Below w.heap.size w w' := by
  obtain ⟨i0, hi0, hz0, hz1, hz2⟩ := info_parts infostr
  have hcnt := fun W => refcnt_any c hok hrm most hm W
  have hcto := Cu.cnt_to hok most
  have hmt : (c.cnt most).1 < 9223372036854775808 := by
    unfold Cu.cnt
    split
    · exact (by decide : 0 < 9223372036854775808)
    · simp only; omega
  have hres : ∀ (d : Cu) (l : List (List UInt8)) (k : Nat), Cu.MInv (Cu.txt each) (c.cnt most).1 (c.cnt most).2 d l k → (d.e ≠ 0 ∨ (c.cnt most).1 ≤ k) → (c.texts most each) = (if d.e = 0 then l else [], d) := fun d l k hi hs => Cu.all_end rfl hi hs
  have hstart : Cu.MInv (Cu.txt each) (c.cnt most).1 (c.cnt most).2 (c.cnt most).2 [] 0 := Cu.MInv.start hcto.good
  have hbs : (c.cnt most).2.bs.length ≤ 1000000 := by rw [hcto.bs]; exact hrm
  generalize (c.cnt most).2 = c2 at *
  generalize (c.cnt most).1 = m at *
  generalize (c.texts most each) = sp at *
  obtain ⟨s, x, z, hc⟩ := cuv_parts c
  rw [hc] at hcnt ⊢
  have HCNT := Lib.hid hcnt
  have HRES := Lib.hid hres
  have HSTART := Lib.hid hstart
  have HBS := Lib.hid hbs
  clear hcnt hres hstart hbs hcto hc hok hrm
  go_enter Try.func28, Try.ntmps28
  go_wp2_with fail
  refine (HCNT.out _).mono ?_
  rintro e w1 ⟨rfl, hb1⟩
  obtain ⟨hblk, hblk2, hbw, hsz, hown⟩ := three_old hb1
  have g0 := field_cell (i := 0) (u := .string s) hblk rfl
  have g1 := field_cell (i := 1) (u := .int .i64 x) hblk rfl
  have g2 := field_cell (i := 2) (u := .int .i64 z) hblk rfl
  have y0 := field_free (i := 0) hblk
  have y1 := field_free (i := 1) hblk
  have y2 := field_free (i := 2) hblk
  have HB := Lib.hid hblk
  have HB2 := Lib.hid hblk2
  have HBW := Lib.hid hbw
  have HSZ := Lib.hid hsz
  have HOWN := Lib.hid hown
  have hcv2 : cuv c2 = .agg #[.string (tx c2.bs), .int .i64 (c2.at_ : Int), .int .i64 c2.e] := rfl
  rw [hcv2]
  clear hb1 hblk hblk2 hbw hsz hown hcv2
  go_wp2
  go_loopw [8, 10] (fun v idx wr => JTRel (Cu.txt each) m c2 w v idx wr) (fun _ idx _ => m - (intOf idx).toNat)
  case atStart =>
    exact ⟨c2, [], 0, rfl, HSTART.out, set3 HB.out _ _ _, (set3_other (by omega)).trans HB2.out, set3_below HBW.out (Nat.le_refl _), by have := HSZ.out; simp only [Hid]; rw [set3_size]; omega, own_set3 HOWN.out (by omega)⟩
  case round =>
    obtain ⟨d, l, k, rfl, HI, HBK, HBK2, HBR, HSR, HOR⟩ := hrel
    clear g0 g1 g2 y0 y1 y2 HSTART HCNT HB HB2 HBW HSZ HOWN
    have hle : k ≤ m := HI.out.le
    have g0 := field_cell (i := 0) (u := .string (tx d.bs)) HBK.out rfl
    have g1 := field_cell (i := 1) (u := .int .i64 (d.at_ : Int)) HBK.out rfl
    have g2 := field_cell (i := 2) (u := .int .i64 d.e) HBK.out rfl
    by_cases he : d.e = 0
    · rw [he] at g2
      have hdrm : d.bs.length ≤ 1000000 := by rw [HI.out.bs]; exact HBS.out
      have hlen : l.length ≤ 1000001 := by
        have h1 := HI.out.len1
        have h2 := HI.out.ok
        unfold Cu.ok at h2
        omega
      by_cases hk : k < m
      · have hone := fun W => reftext_any d HI.out.ok hdrm each hme W
        have hst := HI.out.step hk he (Cu.text_to HI.out.ok each) (fun h => Cu.tk_on he (fun h1 => (Cu.txR_in each h1).1) h)
        have hcd : cuv d = .agg #[.string (tx d.bs), .int .i64 (d.at_ : Int), .int .i64 0] := by rw [cuv, he]
        rw [hcd] at hone
        obtain ⟨x, hx⟩ : ∃ x, ((Cu.txt each) d).1 = x := ⟨_, rfl⟩
        obtain ⟨d2, hd2⟩ : ∃ d2, ((Cu.txt each) d).2 = d2 := ⟨_, rfl⟩
        rw [hx, hd2] at hst
        have hone2 : ∀ W, Calls Try.prog 25 #[.agg #[.string (tx d.bs), .int .i64 (d.at_ : Int), .int .i64 0], .int .i64 each] W fun e w' => e = .returned (.tuple #[.string (tx x), .agg #[.string (tx d2.bs), .int .i64 (d2.at_ : Int), .int .i64 d2.e]]) ∧ Below W.heap.size W w' := fun W => by
          have h := hone W
          rw [show Cu.text d each = (x, d2) from Prod.ext hx hd2] at h
          exact h
        have HST := Lib.hid hst
        have HONE := Lib.hid hone2
        have y0 := field_free (i := 0) HBK.out
        have y1 := field_free (i := 1) HBK.out
        have y2 := field_free (i := 2) HBK.out
        have HLEN := Lib.hid hlen
        clear hone hone2 hst hx hd2 hcd he hlen hdrm
        go_wp2_with fail
        refine (HONE.out _).mono ?_
        rintro e w3 ⟨rfl, hb3⟩
        have hs3 := hb3.size
        have hs3w : w.heap.size + 2 ≤ w3.heap.size := Nat.le_trans HSR.out hs3
        have hk3 := (hb3.block w.heap.size (by have := HSR.out; omega)).trans HBK.out
        have hk32 := (hb3.block (w.heap.size + 1) (by have := HSR.out; omega)).trans HBK2.out
        have hown3 := own_set3 (g := w.heap.size) (a := .string (tx d2.bs)) (b := .int .i64 (d2.at_ : Int)) (c := .int .i64 d2.e) (own_below HOR.out hb3) (by omega)
        have f0 := field_cell (i := 0) (u := .string (tx d.bs)) hk3 rfl
        have f1 := field_cell (i := 1) (u := .int .i64 (d.at_ : Int)) hk3 rfl
        have f2 := field_cell (i := 2) (u := .int .i64 d.e) hk3 rfl
        have z0 := field_free (i := 0) hk3
        have z1 := field_free (i := 1) hk3
        have z2 := field_free (i := 2) hk3
        have hbr3 : Below w.heap.size w w3 := HBR.out.trans (hb3.mono (by have := HSR.out; omega))
        have HK3 := Lib.hid hk3
        have HK32 := Lib.hid hk32
        have HOWN3 := Lib.hid hown3
        have HBR3 := Lib.hid hbr3
        have HS3 := Lib.hid hs3w
        clear hb3 hs3 hk3 hk32 hown3 hbr3 hs3w g0 g1 g2 y0 y1 y2
        go_wp2_with (at_builtin; refine wpList_append_reads _ rfl (.tmp 35) (.tmp 37) 46 rfl (w.heap.size + 2) 9 i0 (.string ⟨#[]⟩) 16 Try.underlying46 hi0 hz0 hz1 hz2 rfl _ l.length _ rfl (own_below HOWN3.out ((Below.refl _ _).alloc (Nat.le_refl _) _)) (some ⟨(((w3.setCell ⟨w.heap.size, 0, none⟩ (.string (tx d2.bs))).setCell ⟨w.heap.size, 1, none⟩ (.int .i64 (d2.at_ : Int))).setCell ⟨w.heap.size, 2, none⟩ (.int .i64 d2.e)).heap.size, 0, none⟩) 1 1 ((((w3.setCell ⟨w.heap.size, 0, none⟩ (.string (tx d2.bs))).setCell ⟨w.heap.size, 1, none⟩ (.int .i64 (d2.at_ : Int))).setCell ⟨w.heap.size, 2, none⟩ (.int .i64 d2.e)).heap.size + 1) [.string (tx x)] (by first | rfl | (rw [set3_size]; rfl)) (by intro h; cases h) (reads_val _ 9 (.string (tx x))) (by intro u hu; simp at hu; subst hu; rfl) (by have := HLEN.out; unfold maxLen; omega) (by have := HLEN.out; omega) (by have := HS3.out; rw [World.size_alloc, set3_size]; omega) ?_; intro v4 w4 ho4 hg4)
        have hAB := ((Below.refl (w.heap.size + 2) _).alloc (by have := HS3.out; rw [set3_size]; omega) _).grown hg4 (by have := HS3.out; rw [World.size_alloc, set3_size]; omega) (own_block HOWN3.out)
        exact ⟨⟨d2, l ++ [x], k + 1, by go_num, HST.out, (hAB.block w.heap.size (by omega)).trans (set3 HK3.out _ _ _), (hAB.block (w.heap.size + 1) (by omega)).trans ((set3_other (by omega)).trans HK32.out),
          (set3_below HBR3.out (Nat.le_refl _)).trans (hAB.mono (by omega)), by have := HS3.out; have h2 := hAB.size; rw [set3_size] at h2; simp only [Hid]; omega, by simpa [Hid, sv] using ho4⟩, by simp [intOf]; omega⟩
      · have hr := HRES.out d l k HI.out (.inr (by omega))
        rw [if_pos he] at hr
        have HR := Lib.hid hr
        have p0 := field_cell (i := 0) (u := .string ⟨#[]⟩) HBK2.out rfl
        have p1 := field_cell (i := 1) (u := .int .i64 0) HBK2.out rfl
        have p2 := field_cell (i := 2) (u := .int .i64 0) HBK2.out rfl
        have q0 := field_free (i := 0) HBK2.out
        have q1 := field_free (i := 1) HBK2.out
        have q2 := field_free (i := 2) HBK2.out
        have hkm : k = m := by omega
        have HCD : Hid (cuv d = .agg #[.string (tx d.bs), .int .i64 (d.at_ : Int), .int .i64 0]) := by rw [cuv, he]; rfl
        clear hr hle he hlen hdrm
        go_wp2
        go_region
        all_goals (try go_wp2)
        (try simp only [Exit.inBlock, Exit.then])
        refine bodyPost_ret (results_tmp_cell_row Try.results28 _ _ (w.heap.size + 1) _ _ (0, 0) _ rfl (set3_drew HBK2.out _ _ _) Try.underlying28 rfl (by kernel_rfl)) rfl ?_
        exact ⟨_, by rw [HR.out]; dsimp only; rw [HCD.out], by rw [HR.out]; exact own_wider (own_set3 HOR.out (by omega)) (by omega), (set3_below HBR.out (by omega)).drew⟩
    · have hr := HRES.out d l k HI.out (.inl he)
      rw [if_neg he] at hr
      have HR := Lib.hid hr
      have p0 := field_cell (i := 0) (u := .string ⟨#[]⟩) HBK2.out rfl
      have p1 := field_cell (i := 1) (u := .int .i64 0) HBK2.out rfl
      have p2 := field_cell (i := 2) (u := .int .i64 0) HBK2.out rfl
      have q0 := field_free (i := 0) HBK2.out
      have q1 := field_free (i := 1) HBK2.out
      have q2 := field_free (i := 2) HBK2.out
      have HCD : Hid (cuv d = .agg #[.string (tx d.bs), .int .i64 (d.at_ : Int), .int .i64 d.e]) := rfl
      have hal1 : (wr.alloc (.cells #[] 9)).heap[w.heap.size]? = some (.cells #[.string (tx d.bs), .int .i64 (d.at_ : Int), .int .i64 d.e] 28 (0, 0)) := (Below.heap_alloc wr _ w.heap.size (by have := HSR.out; omega)).trans HBK.out
      have hal2 : (wr.alloc (.cells #[] 9)).heap[w.heap.size + 1]? = some (.cells #[.string ⟨#[]⟩, .int .i64 0, .int .i64 0] 28 (0, 0)) := (Below.heap_alloc wr _ (w.heap.size + 1) (by have := HSR.out; omega)).trans HBK2.out
      have b0 := field_cell (i := 0) (u := .string (tx d.bs)) hal1 rfl
      have b1 := field_cell (i := 1) (u := .int .i64 (d.at_ : Int)) hal1 rfl
      have b2 := field_cell (i := 2) (u := .int .i64 d.e) hal1 rfl
      have c0 := field_cell (i := 0) (u := .string ⟨#[]⟩) hal2 rfl
      have c1 := field_cell (i := 1) (u := .int .i64 0) hal2 rfl
      have c2 := field_cell (i := 2) (u := .int .i64 0) hal2 rfl
      have d0 := field_free (i := 0) hal2
      have d1 := field_free (i := 1) hal2
      have d2 := field_free (i := 2) hal2
      have HAL2 := Lib.hid hal2
      have HO := Lib.hid (own_empty wr 9)
      clear hr hal1 hal2
      generalize d.e = zz at *
      by_cases hk : k < m
      · go_wp2
        go_region
        all_goals (try go_wp2)
        (try simp only [Exit.inBlock, Exit.then])
        refine bodyPost_ret (results_tmp_cell_row Try.results28 _ _ (w.heap.size + 1) _ _ (0, 0) _ rfl (set3_drew2 HAL2.out _ _ _) Try.underlying28 rfl (by kernel_rfl)) rfl ?_
        exact ⟨_, by rw [HR.out]; dsimp only; rw [HCD.out], by rw [HR.out]; exact own_wider (own_set3 HO.out (by have := HSR.out; omega)) (by have := HSR.out; omega), (set3_below ((HBR.out.alloc (by have := HSR.out; omega) _).drew) (by omega))⟩
      · have hkm : k = m := by omega
        go_wp2
        go_region
        all_goals (try go_wp2)
        (try simp only [Exit.inBlock, Exit.then])
        refine bodyPost_ret (results_tmp_cell_row Try.results28 _ _ (w.heap.size + 1) _ _ (0, 0) _ rfl (set3_drew2 HAL2.out _ _ _) Try.underlying28 rfl (by kernel_rfl)) rfl ?_
        exact ⟨_, by rw [HR.out]; dsimp only; rw [HCD.out], by rw [HR.out]; exact own_wider (own_set3 HO.out (by have := HSR.out; omega)) (by have := HSR.out; omega), (set3_below ((HBR.out.alloc (by have := HSR.out; omega) _).drew) (by omega))⟩

end Go.Proofs.Ytkpgnpiofhgcpaa
