/- The walk of FrameGets: it returns true at any bytes and any place. -/
import Derived.Test.YtoanmbhnhofoiaaDoorFl
namespace Go.Proofs.YtoanmbhnhofoiaaDoor
open Go.RowKit Go.Shelf

/-- Bytes of one's own, whatever they are. -/
def Byt (w : World) (B : Nat) (v : Value) (n : Nat) : Prop :=
  (v = .slice none 0 0 ∧ n = 0) ∨ ∃ (g c : Nat) (cs : Array Value) (f : Nat), v = .slice (some ⟨g, 0, none⟩) n c ∧ n ≤ c ∧ B ≤ g ∧ w.heap[g]? = some (.cells cs 5 (f, f + 1)) ∧ n ≤ f ∧ ∀ i : Nat, i < n → ∃ x : UInt8, cs[i]? = some (bv x)

theorem Mine.byt {w : World} {B : Nat} {v : Value} {bs : List UInt8} (h : Mine w B v bs) : Byt w B v bs.length := by
  rcases h with ⟨rfl, rfl⟩ | ⟨g, c, cs, f, h1, h2, h3, h4, h5, h6⟩
  · exact .inl ⟨rfl, rfl⟩
  · refine .inr ⟨g, c, cs, f, h1, h2, h3, h4, h5, fun i hi => ⟨bs[i], h6 i _ ?_⟩⟩
    rw [List.getElem?_map, List.getElem?_eq_getElem hi]; rfl

theorem Byt.keep {w w' : World} {B : Nat} {v : Value} {n : Nat} (h : Byt w B v n) (hk : ∀ (g : Nat) (cs : Array Value) (f : Nat × Nat), B ≤ g → w.heap[g]? = some (.cells cs 5 f) → w'.heap[g]? = w.heap[g]?) : Byt w' B v n := by
  rcases h with h | ⟨g, c, cs, f, h1, h2, h3, h4, h5, h6⟩
  · exact .inl h
  · exact .inr ⟨g, c, cs, f, h1, h2, h3, (hk g cs _ h3 h4).trans h4, h5, h6⟩
theorem Byt.below {w w' : World} {B : Nat} {v : Value} {n : Nat} (h : Byt w B v n) (hb : Below w.heap.size w w') : Byt w' B v n :=
  h.keep fun g _ _ _ hg => hb.block g (Array.getElem?_eq_some_iff.1 hg).1

theorem Byt.less {w : World} {B B' : Nat} {v : Value} {n : Nat} (h : Byt w B v n) (hB : B' ≤ B) : Byt w B' v n := by
  rcases h with h | ⟨g, c, cs, f, h1, h2, h3, h4, h5, h6⟩
  · exact .inl h
  · exact .inr ⟨g, c, cs, f, h1, h2, Nat.le_trans hB h3, h4, h5, h6⟩

theorem heap_set (w : World) (g j : Nat) (u : Value) (cs : Array Value) (e : TypeId) (f : Nat × Nat) (h : w.heap[g]? = some (.cells cs e f)) :
    (w.setCell ⟨g, j, none⟩ u).heap[g]? = some (.cells (cs.setIfInBounds j u) e f) := by
  obtain ⟨hlt, hk⟩ := Array.getElem?_eq_some_iff.1 h
  show (w.heap.modify g _)[g]? = _
  rw [Array.getElem?_eq_getElem (by rw [Array.size_modify]; exact hlt), Array.getElem_modify_self, hk]
  rfl

theorem grownBy_set (w : World) (g j : Nat) (u : Value) : w.grownBy (w.setCell ⟨g, j, none⟩ u) (some g) :=
  ⟨rfl, rfl, rfl, by simp, fun k _ hk => Below.heap_setCell _ _ _ k (fun e => hk (by rw [e]))⟩

theorem Byt.set {w : World} {B : Nat} {v : Value} {n : Nat} (h : Byt w B v n) (g j : Nat) (y : UInt8) : Byt (w.setCell ⟨g, j, none⟩ (bv y)) B v n := by
  rcases h with h | ⟨g', c, cs, f, h1, h2, h3, h4, h5, h6⟩
  · exact .inl h
  · by_cases hg : g' = g
    · subst hg
      refine .inr ⟨g', c, _, f, h1, h2, h3, heap_set w g' j (bv y) cs _ _ h4, h5, fun i hi => ?_⟩
      obtain ⟨x, hx⟩ := h6 i hi
      rw [Array.getElem?_setIfInBounds]
      by_cases hij : j = i
      · have := (Array.getElem?_eq_some_iff.1 hx).1
        rw [if_pos hij, if_pos (by omega)]
        exact ⟨y, rfl⟩
      · rw [if_neg hij]
        exact ⟨x, hx⟩
    · exact .inr ⟨g', c, cs, f, h1, h2, h3, (Below.heap_setCell _ _ _ g' hg).trans h4, h5, h6⟩

/-- What stands while the answers are written over. -/
def GInv (n0 : Nat) (ws : World) (v : Value) (n : Nat) (L : Value) (xs : List Got) (W : World) : Prop :=
  Below n0 ws W ∧ Byt W n0 v n ∧ W.ownsRow n0 22 1 L xs.length (xs.map (·.1)) ∧ ∀ x ∈ xs, Byt W n0 x.1 x.2.1.length

theorem GInv.set {n0 : Nat} {ws : World} {v : Value} {n : Nat} {L : Value} {xs : List Got} {W : World} (h : GInv n0 ws v n L xs W) (g j : Nat) (y : UInt8) (hg : n0 ≤ g) (cs : Array Value) (f : Nat × Nat) (hh : W.heap[g]? = some (.cells cs 5 f)) :
    GInv n0 ws v n L xs (W.setCell ⟨g, j, none⟩ (bv y)) := by
  obtain ⟨h1, h2, h3, h4⟩ := h
  refine ⟨h1.setCell (p := ⟨g, j, none⟩) hg _, h2.set g j y, own_kept h3 (vb := .slice (some ⟨g, 0, none⟩) 0 0) (fun k e1 e2 => ?_) (grownBy_set W g j (bv y)), fun x hx => (h4 x hx).set g j y⟩
  simp only [Value.ownBlock, Option.some.injEq] at e1
  subst e1
  rcases h3.2 with ⟨rfl, _⟩ | ⟨g2, cap, cur, rfl, _, hh2, _⟩
  · simp [Value.ownBlock] at e2
  · simp only [Value.ownBlock, Option.some.injEq] at e2
    subst e2
    rw [hh] at hh2
    injection hh2 with hh2
    injection hh2 with _ hh2
    cases hh2

theorem up_one (x : UInt8) : ∃ y : UInt8, IntKind.u8.wrap ((x.toNat : Int) + 1) = (y.toNat : Int) := by
  refine ⟨x + 1, ?_⟩
  rw [IntKind.wrap_u8', UInt8.toNat_add]
  have h : (1 : UInt8).toNat = 1 := rfl
  rw [h]
  omega

/-- A cell of bytes of one's own, where it is read and written. -/
theorem Byt.at_ {w : World} {B : Nat} {v : Value} {n i : Nat} (h : Byt w B v n) (hi : i < n) :
    ∃ (g c : Nat) (x : UInt8) (cs : Array Value) (f : Nat × Nat), v = .slice (some ⟨g, 0, none⟩) n c ∧ n ≤ c ∧ B ≤ g ∧ w.heap[g]? = some (.cells cs 5 f) ∧ w.cell? ⟨g, i, none⟩ = some (.int .u8 (x.toNat : Int)) ∧ w.frozen? ⟨g, i, none⟩ = false := by
  rcases h with ⟨_, h0⟩ | ⟨g, c, cs, f, h1, h2, h3, h4, h5, h6⟩
  · omega
  · obtain ⟨x, hx⟩ := h6 i hi
    refine ⟨g, c, x, cs, _, h1, h2, h3, h4, by simp [World.cell?, h4, hx, bv], ?_⟩
    simp only [World.frozen?, h4]
    simp; omega

set_option maxRecDepth 100000 in
set_option maxHeartbeats 400000 in
theorem fgets_long (A : Option Addr) (n c : Nat) (x : Int) (h : 4000 < n) (w : World) (hl : Laid w) :
    Calls Tryd.prog 5 #[.slice A n c, .int .i64 x] w fun e w' => e = .returned (.bool true) ∧ Below w.heap.size w w' := by
  have HF := Lib.hid (frame_fixed w hl)
  clear hl
  go_enter Tryd.func5, Tryd.ntmps5
  go_wp2_with (go_at_call 8; refine HF.out.mono ?_; rintro e w3 ⟨rfl, hb3⟩)
  go_ret
  exact ⟨rfl, hb3⟩

set_option maxRecDepth 100000 in
set_option maxHeartbeats 2000000 in
theorem fgets_core (A : Option Addr) (n c n0 : Nat) (x : Int) (bs p : List UInt8) (nx er : Nat) (F : List (List UInt8 × Nat)) (hFn : F.length ≤ 1073741824) (hpl : p.length ≤ 2048) (hFp : ∀ r ∈ F, r.1.length ≤ 2048) (hn : n ≤ 4000) (w : World) (hn0 : w.heap.size = n0) (hl : Laid w) (hr : Reads w n0 1 A n (bs.map bv))
    (HG : Hid (∀ W, Below n0 w W → Calls Tryd.prog 15 #[.slice A n c, .int .i64 x] W fun e w' => ∃ v, e = .returned (.tuple #[v, .int .i64 (nx : Int), .int .i64 (er : Int)]) ∧ Mine w' W.heap.size v p ∧ Below W.heap.size W w'))
    (HRG : Hid (∀ W, Calls Tryd.prog 16 #[.string (tx bs), .int .i64 x] W fun e w' => e = .returned (rres (p, nx, er)) ∧ Below W.heap.size W w'))
    (HRUN : Hid (∀ W, Below n0 w W → Calls Tryd.prog 17 #[.slice A n c, .int .i64 x] W fun e w' => ∃ (v1 v2 : Value) (xs : List Got), e = .returned (.tuple #[v1, v2]) ∧ xs.map (·.2) = F ∧ (∀ x ∈ xs, Mine w' W.heap.size x.1 x.2.1) ∧
      w'.ownsRow (W.heap.size + 4) 22 1 v1 xs.length (xs.map (·.1)) ∧ w'.ownsRow (W.heap.size + 4) 3 1 v2 xs.length (xs.map fun x => tn x.2) ∧ Below W.heap.size W w'))
    (HRR : Hid (∀ W, Calls Tryd.prog 18 #[.string (tx bs), .int .i64 x] W fun e w' => ∃ l en, e = .returned (.tuple #[l, en]) ∧
      w'.ownsRow W.heap.size 9 1 l F.length (F.map tp) ∧ w'.ownsRow W.heap.size 3 1 en F.length (F.map tn) ∧ Below W.heap.size W w')) :
    Calls Tryd.prog 5 #[.slice A n c, .int .i64 x] w fun e w' => e = .returned (.bool true) ∧ Below w.heap.size w w' := by
  have n1 : decide (4000 < (n : Int)) = false := by rw [decide_eq_false_iff_not]; omega
  have hcv : (convert 22 9 (.slice A n c)).run Tryd.prog w = .ok (.string (tx bs)) w := conv_reads Tryd.underlying22 Tryd.underlying5 Tryd.underlying9 hr
  have HR := Lib.hid hr
  have HL := Lib.hid hl
  have HN0 := Lib.hid hn0
  have HPL := Lib.hid hpl
  have HFP := Lib.hid hFp
  clear hr hl hn0 hpl hFp
  go_enter Tryd.func5, Tryd.ntmps5
  go_wp2_with fail
  refine (HG.out w (Below.refl _ _)).mono ?_
  rintro e w1 ⟨v, rfl, hm1, hb1⟩
  rw [HN0.out] at hm1 hb1
  clear hcv
  obtain ⟨Ap, cp, rfl, hcp, _, hrp⟩ := hm1.reads
  have HM1 := Lib.hid hm1
  have HRP := Lib.hid hrp
  clear hm1 hrp
  go_wp2_with fail
  refine (HRG.out _).mono ?_
  rintro e w2 ⟨rfl, hb2⟩
  unfold rres
  dsimp only
  have hsz1 : n0 ≤ w1.heap.size := by have := hb1.size; have := HN0.out; omega
  have hcv : (convert 22 9 (.slice Ap p.length cp)).run Tryd.prog w2 = .ok (.string (tx p)) w2 := conv_reads Tryd.underlying22 Tryd.underlying5 Tryd.underlying9 (HRP.out.below hb2)
  have hself : ((tx p).toList == (tx p).toList) = true := by simp
  have hself1 : ((nx : Int) == (nx : Int)) = true := by simp
  have hself2 : ((er : Int) == (er : Int)) = true := by simp
  have hB2 : Below n0 w w2 := hb1.trans (hb2.mono hsz1)
  have HM2 := Lib.hid (HM1.out.below hb2)
  go_wp2_with fail
  refine (HRUN.out w2 hB2).mono ?_
  rintro e w3 ⟨v1, v2, xs, rfl, hxs, hms, ho1, ho2, hb3⟩
  clear hcv hself
  have hsz2 : n0 ≤ w2.heap.size := by have := hb2.size; omega
  have HM3 := Lib.hid (HM2.out.below hb3)
  have hB3 : Below n0 w w3 := hB2.trans (hb3.mono hsz2)
  have hsz3 : n0 ≤ w3.heap.size := by have := hb3.size; omega
  obtain ⟨A1, c1, rfl, hc1, hr1⟩ := own_reads ho1
  obtain ⟨A2, c2, rfl, hc2, hr2⟩ := own_reads ho2
  have HXS := Lib.hid hxs
  have HMS := Lib.hid hms
  have HO1 := Lib.hid ho1
  have HR1 := Lib.hid hr1
  have HR2 := Lib.hid hr2
  clear hxs hms ho1 ho2 hr1 hr2
  go_wp2_with fail
  refine (HRR.out w3).mono ?_
  rintro e w4 ⟨l, en, rfl, hs1, hs2, hb4⟩
  obtain ⟨A3, c3, rfl, hc3, hr3⟩ := own_reads hs1
  obtain ⟨A4, c4, rfl, hc4, hr4⟩ := own_reads hs2
  have hlen : xs.length = F.length := by rw [← HXS.out, List.length_map]
  have HSAME := fsame_any A1 A2 A3 A4 F.length c1 c2 c3 c4 w2.heap.size xs F HXS.out rfl hFn w4 (fun x hx => (HMS.out x hx).below hb4) (hlen ▸ (HR1.out.below hb4).more hb4.size) (hlen ▸ (HR2.out.below hb4).more hb4.size) hr3 hr4
  rw [← hlen] at HSAME
  have HS := Lib.hid HSAME
  clear HSAME hs1 hs2 hr3 hr4
  have HLEN := Lib.hid hlen
  rw [← hlen]
  clear hlen
  go_wp2_with fail
  refine HS.out.mono ?_
  rintro e w5 ⟨rfl, hb5⟩
  have hB4 : Below n0 w w4 := hB3.trans (hb4.mono hsz3)
  have hsz4 : n0 ≤ w4.heap.size := by have := hb4.size; omega
  have hB5 : Below n0 w w5 := hB4.trans (hb5.mono hsz4)
  have HINV : Hid (GInv n0 w (.slice Ap p.length cp) p.length (.slice A1 xs.length c1) xs w5) := by
    refine ⟨hB5, ((HM3.out.below hb4).below hb5).byt, own_below (own_below (own_more HO1.out (by omega)) hb4) hb5, fun x hx => (((HMS.out x hx).below hb4).below hb5).byt.less (by omega)⟩
  obtain ⟨W0, hW0⟩ : ∃ W0, W0 = w5 := ⟨_, rfl⟩
  clear hself1 hself2 hb1 hb2 hb3 hb4 hb5 hB2 hB3 hB4 hB5 hsz1 hsz2 hsz3 hsz4 HM1 HM2 HM3 HMS HO1 HR1 HR2 HS HRP
  have hxl : xs.length ≤ 1073741824 := by rw [HLEN.out]; exact hFn
  obtain ⟨P, hP⟩ : ∃ P, P = Value.slice Ap p.length cp := ⟨_, rfl⟩
  obtain ⟨L, hL⟩ : ∃ L, L = Value.slice A1 xs.length c1 := ⟨_, rfl⟩
  rw [← hP, ← hL] at HINV
  have HP := Lib.hid hP
  have HLV := Lib.hid hL
  clear hP hL hW0
  go_wp2
  go_loopw [74] (fun idx wr => ∃ i : Nat, i ≤ p.length ∧ idx = .int .i64 (i : Int) ∧ GInv n0 w P p.length L xs wr) (fun idx _ => p.length - (intOf idx).toNat)
  case atStart => exact ⟨0, by omega, rfl, HINV.out⟩
  case round =>
    obtain ⟨i, hi, rfl, hinv⟩ := hrel
    have HI := Lib.hid hinv
    clear hinv
    by_cases hlt : i < p.length
    · have hpl := HPL.out
      obtain ⟨g, c0, y, cs, f, hv, _, hg, hh, hcell, hfz⟩ := HI.out.2.1.at_ hlt
      rw [HP.out] at hv
      injection hv with hA _ _
      subst hA
      obtain ⟨z, hz⟩ := up_one y
      have hset := HI.out.set g i z hg cs f hh
      have HSET := Lib.hid hset
      have hzb : (bv z) = .int .u8 (z.toNat : Int) := rfl
      rw [hzb] at HSET
      obtain ⟨z1, hz1⟩ : ∃ z1 : Int, z1 = (z.toNat : Int) := ⟨_, rfl⟩
      obtain ⟨y1, hy1⟩ : ∃ y1 : Int, y1 = (y.toNat : Int) := ⟨_, rfl⟩
      rw [← hz1] at hz HSET
      rw [← hy1] at hz hcell
      clear hset hzb hh hg hz1 hy1
      go_wp2
      exact ⟨⟨i + 1, by omega, by go_num, HSET.out⟩, by simp [intOf]; omega⟩
    · obtain rfl : i = p.length := by omega
      go_wp2
      go_loopw [86] (fun idx wr => ∃ i : Nat, i ≤ xs.length ∧ idx = .int .i64 (i : Int) ∧ GInv n0 w P p.length L xs wr) (fun idx _ => xs.length - (intOf idx).toNat)
      case atStart => exact ⟨0, by omega, rfl, HI.out⟩
      case round =>
        obtain ⟨i, hi, rfl, hinv⟩ := hrel
        have HI := Lib.hid hinv
        clear hinv
        by_cases hlt : i < xs.length
        · have ho := HI.out.2.2.1
          rw [HLV.out] at ho
          obtain ⟨A1', c1', e1, hc1', hr1⟩ := own_reads ho
          injection e1 with e1 _ e2
          subst e1
          subst e2
          obtain ⟨ad, u, rfl, hadb, hu, hcell⟩ := hr1.at_ hlt
          obtain ⟨⟨v, q, nq⟩, hx⟩ : ∃ x, xs[i]? = some x := ⟨_, List.getElem?_eq_getElem hlt⟩
          obtain rfl : v = u := by rw [List.getElem?_map, hx] at hu; simpa using hu
          have hmem := List.mem_of_getElem? hx
          have hby : Byt wr n0 v q.length := HI.out.2.2.2 _ hmem
          obtain ⟨Aq, cq, hvq, hcq⟩ : ∃ Aq cq, v = .slice Aq q.length cq ∧ q.length ≤ cq := by
            rcases hby with ⟨e, e0⟩ | ⟨g, c0, cs, f, e, h2, _⟩
            · exact ⟨none, 0, by rw [e, e0], by omega⟩
            · exact ⟨_, c0, e, h2⟩
          subst hvq
          have HMEM := Lib.hid hmem
          have hql : q.length ≤ 2048 := HFP.out (q, nq) (by rw [← HXS.out]; exact List.mem_map.2 ⟨_, hmem, rfl⟩)
          clear hu hx hmem hby ho hr1
          go_wp2
          go_loopw [92] (fun idx wr => ∃ i : Nat, i ≤ q.length ∧ idx = .int .i64 (i : Int) ∧ GInv n0 w P p.length L xs wr) (fun idx _ => q.length - (intOf idx).toNat)
          case atStart => exact ⟨0, by omega, rfl, HI.out⟩
          case round =>
            obtain ⟨j, hj, rfl, hinv⟩ := hrel
            have HI := Lib.hid hinv
            clear hinv
            by_cases hlt2 : j < q.length
            · have hby : Byt wr n0 (.slice Aq q.length cq) q.length := HI.out.2.2.2 _ HMEM.out
              obtain ⟨g, c0, y, cs, f, hv, _, hg, hh, hcellj, hfz⟩ := hby.at_ hlt2
              injection hv with hA _ _
              subst hA
              obtain ⟨z, hz⟩ := up_one y
              have hset := HI.out.set g j z hg cs f hh
              have HSET := Lib.hid hset
              have hzb : (bv z) = .int .u8 (z.toNat : Int) := rfl
              rw [hzb] at HSET
              obtain ⟨z1, hz1⟩ : ∃ z1 : Int, z1 = (z.toNat : Int) := ⟨_, rfl⟩
              obtain ⟨y1, hy1⟩ : ∃ y1 : Int, y1 = (y.toNat : Int) := ⟨_, rfl⟩
              rw [← hz1] at hz HSET
              rw [← hy1] at hz hcellj
              clear hset hzb hh hg hby hz1 hy1
              go_wp2
              exact ⟨⟨j + 1, by omega, by go_num, HSET.out⟩, by simp [intOf]; omega⟩
            · obtain rfl : j = q.length := by omega
              go_wp2
              exact ⟨⟨i + 1, by omega, by go_num, HI.out⟩, by simp [intOf]; omega⟩
        · obtain rfl : i = xs.length := by omega
          have hbE := HI.out.1
          have HFX := Lib.hid (frame_fixed wr (HL.out.below (by rw [HN0.out]; exact hbE)))
          have HBE := Lib.hid hbE
          clear hbE
          have hself : ((tx bs).toList == (tx bs).toList) = true := by simp
          go_wp2_with fail
          refine HFX.out.mono ?_
          rintro e w6 ⟨rfl, hb6⟩
          have hB6 : Below n0 w w6 := HBE.out.trans (hb6.mono (by have := HBE.out.size; have := HN0.out; omega))
          have hcv : (convert 22 9 (.slice A n c)).run Tryd.prog w6 = .ok (.string (tx bs)) w6 := conv_reads Tryd.underlying22 Tryd.underlying5 Tryd.underlying9 (HR.out.below hB6)
          have HB6 := Lib.hid hB6
          clear hB6
          go_wp2
          go_ret
          exact ⟨rfl, by rw [HN0.out]; exact HB6.out⟩

theorem frun_len : ∀ (k at_ : Nat) (bs : List UInt8), at_ ≤ bs.length → (frun k at_ bs).length ≤ bs.length - at_
  | 0, _, _, _ => by simp [frun]
  | k + 1, at_, bs, hat => by
    by_cases h0 : (fg at_ bs).2.2 = 0
    · obtain ⟨p, nx, hg⟩ : ∃ p nx, fg at_ bs = (p, nx, 0) := ⟨_, _, by rw [← h0]⟩
      obtain ⟨h1, h2, _, _⟩ := fg_ok hg
      rw [frun_go hg, List.length_cons]
      have := frun_len k nx bs h2
      omega
    · rw [frun_stop h0]; simp

theorem fg_pay {at_ nx er : Nat} {p bs : List UInt8} (h : fg at_ bs = (p, nx, er)) : p.length ≤ 2048 := by
  have hnil : ∀ {k e : Nat}, fg at_ bs = ([], k, e) → p.length ≤ 2048 := by
    intro k e h2
    rw [h2] at h
    injection h with h _
    rw [← h]; simp
  by_cases h0 : at_ = bs.length
  · exact hnil (by rw [h0]; exact fg_end bs)
  rcases bg_five (most := 2048) (at_ := at_) (bs := bs) with hg | hg | hg | ⟨s, k, hg⟩
  · exact hnil (fg_err h0 hg (by omega))
  · exact hnil (fg_err h0 hg (by omega))
  · exact hnil (fg_err h0 hg (by omega))
  · by_cases hp : s = []
    · subst hp
      exact hnil (fg_form h0 hg)
    · by_cases hs : bs.length < k + 4
      · exact hnil (fg_short h0 hg hp hs)
      · by_cases hc : lb (crc ((bs.drop at_).take (k - at_))) = (bs.drop k).take 4
        · have h2 := fg_go h0 hg hp hs hc
          rw [h2] at h
          injection h with h _
          rw [← h]
          exact bg_most hg
        · exact hnil (fg_sum h0 hg hp hs hc)

theorem frun_pay : ∀ (k at_ : Nat) (bs : List UInt8), ∀ r ∈ frun k at_ bs, r.1.length ≤ 2048
  | 0, _, _ => by simp [frun]
  | k + 1, at_, bs => by
    by_cases h0 : (fg at_ bs).2.2 = 0
    · obtain ⟨p, nx, hg⟩ : ∃ p nx, fg at_ bs = (p, nx, 0) := ⟨_, _, by rw [← h0]⟩
      obtain ⟨_, _, h3, _⟩ := fg_ok hg
      rw [frun_go hg]
      intro r hr
      rcases List.mem_cons.1 hr with rfl | hr
      · exact h3.2
      · exact frun_pay k nx bs r hr
    · rw [frun_stop h0]; simp

theorem fgets_any (A : Option Addr) (n c : Nat) (x : Int) (bs : List UInt8) (hc : n ≤ c) (w : World) (hl : Laid w) (hr : Reads w w.heap.size 1 A n (bs.map bv)) :
    Calls Tryd.prog 5 #[.slice A n c, .int .i64 x] w fun e w' => e = .returned (.bool true) ∧ Below w.heap.size w w' := by
  have hbn : bs.length = n := by have := hr.1; simpa using this
  by_cases h : 4000 < n
  · exact fgets_long A n c x h w hl
  · by_cases hx : x < 0 ∨ (n : Int) < x
    · refine fgets_core A n c _ x bs [] 0 1 [] (by simp) (by simp) (by simp) (by omega) w rfl hl hr ?_ ?_ ?_ ?_
      · exact fun W _ => (fget_bad A n c x hx W).mono fun e w' h => ⟨_, h.1, .inl ⟨rfl, rfl⟩, by rw [← h.2]; exact Below.refl _ _⟩
      · exact fun W => (rfget_bad bs x (by rw [hbn]; exact hx) W).mono fun e w' h => ⟨h.1, by rw [← h.2]; exact Below.refl _ _⟩
      · exact fun W _ => run_out A n c x hx W
      · exact fun W => rrun_bad bs x (by rw [hbn]; exact hx) W
    · obtain ⟨a, rfl⟩ : ∃ a : Nat, x = (a : Int) := ⟨x.toNat, by omega⟩
      have hlen := frun_len (n + 1) a bs (by omega)
      obtain ⟨p, nx, er, hg⟩ : ∃ p nx er, fg a bs = (p, nx, er) := ⟨_, _, _, rfl⟩
      refine fgets_core A n c _ (a : Int) bs p nx er (frun (n + 1) a bs) (by omega) (fg_pay hg) (frun_pay _ _ _) (by omega) w rfl hl hr ?_ ?_ ?_ ?_
      · intro W hb
        have h := fget_any A n c a bs hc (by omega) (by omega) W (hl.below hb) ((hr.below hb).more hb.size)
        rw [hg] at h
        exact h
      · intro W
        have h := rfget_any bs a (by omega) (by omega) W
        rw [hg] at h
        exact h
      · exact fun W hb => run_in A n c a bs hc (by omega) (by omega) W (hl.below hb) ((hr.below hb).more hb.size)
      · exact fun W => rrun_any bs a (by omega) (by omega) W _ (by rw [hbn])

end Go.Proofs.YtoanmbhnhofoiaaDoor
