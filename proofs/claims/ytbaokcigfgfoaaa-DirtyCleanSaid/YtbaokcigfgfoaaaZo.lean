/- DirtyClean. -/
import Derived.WalkLawsBesides
import Derived.BigQuiet
import Derived.Test.YtbaokcigfgfoaaaZn
import Derived.Test.YtbaokcigfgfoaaaZh
import Derived.Test.YtbaokcigfgfoaaaTb
import Derived.Test.YtbaokcigfgfoaaaGg0
import Derived.Test.YtbaokcigfgfoaaaXd0
import Derived.Test.YtbaokcigfgfoaaaH3
namespace Go.Proofs.Ytbaokcigfgfoaaa
open Go.RowKit

theorem wp_cutd {P : Program} {c : Code} {Q : Exit → Act → World → Prop} {K : Act → World → Prop} {a : Act} {w : World} (M : Act → World → Prop) (hm : ∀ a w, M a w → K a w) (h : c.wp P (Exit.then M Q) a w) : c.wp P (Exit.then K Q) a w :=
  Code.wp_mono (fun e a w q => by cases e <;> first | exact hm _ _ q | exact q) h
theorem state_kept {w w' : World} {base b n nz c : Nat} {A : Option Addr} {v : Value} {zs : List Rw} {ys : List Value} (h : StateIn w base A n c zs) (ho : w.ownsRow b 22 1 v nz ys) (hg : w.grownBy w' v.ownBlock) : StateIn w' base A n c zs :=
  ⟨own_kept h.1 (own_apart ho h.1 (by decide)) hg, h.2.1, fun z hz => ⟨own_kept (h.2.2 z hz).1 (own_apart ho (h.2.2 z hz).1 (by decide)) hg, (h.2.2 z hz).2⟩⟩
theorem state_in {w : World} {base n c : Nat} {A : Option Addr} {zs : List Rw} (h : StateIn w base A n c zs) : Recs w w.heap.size A n zs :=
  ⟨Reads.of_own h.1, fun z hz => ⟨Reads.of_own (h.2.2 z hz).1, (h.2.2 z hz).2⟩⟩
theorem dtinfo : (Try.prog.info? 9).map (fun i => (i.zero, i.size, i.bytes)) = some (some (.string { data := #[] }), 1, 16) := by kernel_rfl
theorem state_below {w w' : World} {base n c : Nat} {A : Option Addr} {zs : List Rw} (h : StateIn w base A n c zs) (hb : Below w.heap.size w w') : StateIn w' base A n c zs :=
  ⟨own_below h.1 hb, h.2.1, fun z hz => deps_below (h.2.2 z hz) hb⟩
theorem size_noded : (Try.prog.info? 25).map (·.size) = some 4 := by kernel_rfl
/-- A node stored into a box of its own. -/
theorem wp_store_box {o : Oper} {a : Act} {w : World} {K : Act → World → Prop} {Q : Exit → Act → World → Prop} (x y : Operand) (ho : o.op = .store 25 x y) (g : Nat) (c0 c1 c2 c3 d0 d1 d2 d3 : Value)
    (hx : a.eval x = .pointer (some ⟨g, 0, none⟩)) (hy : a.eval y = .agg #[d0, d1, d2, d3]) (hg : w.heap[g]? = some (.cells #[c0, c1, c2, c3] 25 (0, 0))) (h1 : ∀ v ∈ [d0, d1, d2, d3], v.oneCell' = true)
    (h : ∀ w', w'.heap[g]? = some (.cells #[d0, d1, d2, d3] 25 (0, 0)) → w.grownBy w' (some g) → K (a.put o.dst undef) w') : o.wp Try.prog a w K Q := by
  have hown : w.ownsRow 0 25 4 (.slice (some ⟨g, 0, none⟩) 1 1) 1 [c0, c1, c2, c3] := ⟨rfl, .inr ⟨g, 1, #[c0, c1, c2, c3], rfl, Nat.zero_le _, hg, Nat.le_refl _, by unfold maxLen; omega, rfl, rfl⟩⟩
  have hrow : (storeVar 25 ⟨g, 0, none⟩ (.agg #[d0, d1, d2, d3])).run Try.prog w = .ok () (w.setCells g 0 [d0, d1, d2, d3]) := by
    have hs := run_storeCells_cells (P := Try.prog) g 0 [d0, d1, d2, d3] 0 w (fun j hj => by
        have hj4 : j < 4 := hj
        have hlt : 0 + 0 + j < [c0, c1, c2, c3].length := by show 0 + 0 + j < 4; omega
        rw [hown.cellAt _ (by show 0 + 0 + j < 4; omega), List.getElem?_eq_getElem hlt]
        rfl) (fun j _ => hown.frozenAt _) h1
    have hsz := size_noded
    cases hq : Try.prog.info? 25 with
    | none => simp [hq] at hsz
    | some q =>
      have hs4 : q.size = 4 := by simpa [hq] using hsz
      have hc : (Value.agg #[d0, d1, d2, d3]).cells.toList = [d0, d1, d2, d3] := rfl
      have hcs : (Value.agg #[d0, d1, d2, d3]).cells.size = 4 := rfl
      simp [storeVar, sizeOf, typeInfo, hq, hcs, hs4, hc]
      simpa using hs
  unfold Oper.wp execOp
  simp only [ho, hx, hy, Instr.storeAt, Instr.sureAddr, Sem.run_bind, Sem.run_pure, Result.andThen_ok, hrow]
  refine h _ ?_ ?_
  · exact set_same (set_same (set_same (set_same hg 0 d0) 1 d1) 2 d2) 3 d3
  · obtain ⟨a1, b1⟩ := hown.stored 0 d0
    obtain ⟨a2, b2⟩ := a1.stored 1 d1
    obtain ⟨a3, b3⟩ := a2.stored 2 d2
    obtain ⟨a4, b4⟩ := a3.stored 3 d3
    exact ((b1.trans b2).trans b3).trans b4
def EqUp (b : Bool) (P : Prop) : Prop := b = true ↔ P
theorem eq_up {b : Bool} {P : Prop} (h : Hid (EqUp b P)) : b = true ↔ P := h.out

set_option maxRecDepth 100000 in
set_option maxHeartbeats 8000000 in
theorem dclean_any (x : Nw) (B : Option Addr) (q c0 : Nat) (xs : List Rw) (H0 : Option Addr) (m0 d0 : Nat) (q0 : List Q64) (H1 : Option Addr) (m1 d1 : Nat) (q1 : List Q64) (H2 : Option Addr) (m2 d2 : Nat) (w : World) (hg : NGood w x) (hru : 0 ≤ x.d.rule ∧ x.d.rule < 18446744073709551616) (hq : q ≤ maxLen) (hf : ∀ x ∈ xs, Fits x.r x.l ∧ x.n ≤ maxLen) (hm0 : m0 ≤ maxLen) (hm1 : m1 ≤ maxLen) (hr : Recs w w.heap.size B q xs) (hh0 : Reads w w.heap.size 1 H0 m0 (q0.map qv)) (hh1 : Reads w w.heap.size 1 H1 m1 (q1.map qv)) :
    Calls Try.prog 5 #[x.val, .slice B q c0, .agg #[.slice H0 m0 d0, .slice H1 m1 d1, .slice H2 m2 d2]] w fun e w' => e = .returned (.bool true) ∧ Below w.heap.size w w' := by
  obtain ⟨hfit, hnc, hcm, hac, hx⟩ := hg
  have hxn : x.n ≤ maxLen := by omega
  have HG := Lib.hid (fun (W : World) (hb : Below w.heap.size w W) => greats_any B q c0 xs hq hf W ((hr.below hb).more hb.size))
  have HNG := Lib.hid (fun (W : World) (hb : Below w.heap.size w W) => ngreat_any x hfit hxn W (Reads.more (Reads.below hx hb) hb.size))
  have hm63 : (m0 : Int) ≤ 9223372036854775807 := by unfold maxLen at hm0; omega
  have hm631 : (m1 : Int) ≤ 9223372036854775807 := by unfold maxLen at hm1; omega
  by_cases sn : NSm x.d
  · have SN := Lib.hid sn
    by_cases sm : smalls xs
    · have SM := Lib.hid sm
      have hl : xs.length = q := hr.len
      have h30 : q ≤ 30 := by rw [← hl]; exact sm.2
      have hxl : x.d.deps.length = x.n := hx.len
      have hx60 : x.n ≤ 60 := by rw [← hxl]; exact sn.2.1
      obtain ⟨⟨nm, sc, ru, ds⟩, xA, xn, xc⟩ := x
      unfold Nw.val at *
      simp only at *
      have HT0 := Lib.hid (Tri.start w (.cells #[.string (tx nm), .bool sc, .int .u64 ru, .slice xA xn xc] 25) (.cells #[.slice H0 m0 d0, .slice H1 m1 d1, .slice H2 m2 d2] 46))
      have n0 := at_cell (i := 0) HT0.out.1 rfl; have n1 := at_cell (i := 1) HT0.out.1 rfl; have n2 := at_cell (i := 2) HT0.out.1 rfl; have n3 := at_cell (i := 3) HT0.out.1 rfl; have p0 := at_cell (i := 0) HT0.out.2.1 rfl; have p1 := at_cell (i := 1) HT0.out.2.1 rfl
      have h0l : q0.length = m0 := by have := hh0.1; simpa using this
      have h1l : q1.length = m1 := by have := hh1.1; simpa using this
      by_cases hc60 : m0 ≤ 60
      · have d60 : decide ((m0 : Int) > 60) = false := decide_eq_false (by omega)
        by_cases hc61 : m1 ≤ 60
        · have d61 : decide ((m1 : Int) > 60) = false := decide_eq_false (by omega)
          cases sc with
          | true =>
            clear hr hh0 hh1 hf hfit hx hl h30 hxl hx60 sn sm hxn hcm hac hm0 hm1 h0l h1l hru
            go_enter Try.func5, Try.ntmps5
            go_wp2_with (first
              | (go_at_call 8; refine (dfixed_any _).mono ?_; rintro e w9 ⟨rfl, hb9⟩; have HB9 := Lib.hid (HT3.out.2.2.1.trans (hb9.mono HT3.out.2.2.1.size)); clear hb9)
              | (go_at_call 7; refine (HG.out _ HT2.out.2.2.1).mono ?_; rintro e w3 ⟨he, hb3⟩; obtain rfl := he.no (fun h => h SM.out); have HT3 := Lib.hid (HT2.out.below hb3); have n0 := at_cell (i := 0) HT3.out.1 rfl; have n1 := at_cell (i := 1) HT3.out.1 rfl; have n2 := at_cell (i := 2) HT3.out.1 rfl; have n3 := at_cell (i := 3) HT3.out.1 rfl; have p0 := at_cell (i := 0) HT3.out.2.1 rfl; have p1 := at_cell (i := 1) HT3.out.2.1 rfl; clear hb3)
              | (go_at_call 6; refine (HNG.out _ HT0.out.2.2.1).mono ?_; rintro e w2 ⟨he, hb2⟩; obtain rfl := he.no (fun h => h SN.out); have HT2 := Lib.hid (HT0.out.below hb2); have n0 := at_cell (i := 0) HT2.out.1 rfl; have n1 := at_cell (i := 1) HT2.out.1 rfl; have n2 := at_cell (i := 2) HT2.out.1 rfl; have n3 := at_cell (i := 3) HT2.out.1 rfl; have p0 := at_cell (i := 0) HT2.out.2.1 rfl; have p1 := at_cell (i := 1) HT2.out.2.1 rfl; clear hb2))
            go_ret
            exact ⟨rfl, HB9.out⟩
          | false =>
            have HXR := Lib.hid hx
            have HXL : Hid (ds.length = xn) := hxl
            have HRU := Lib.hid hru
            have HP0 := Lib.hid hh0
            have HP1 := Lib.hid hh1
            have HREC := Lib.hid hr
            have HFT := Lib.hid hf
            have HLQ := Lib.hid hl
            have HAC := Lib.hid hac
            have HFN := Lib.hid hfit
            obtain ⟨HS, hHS⟩ : ∃ f, f = hsAt q0 := ⟨_, rfl⟩
            obtain ⟨OT, hOT⟩ : ∃ f, f = otAt q0 q1 := ⟨_, rfl⟩
            have HHSY : Hid (∀ {i : Nat}, i < m0 → q0[i]? = some (HS i)) := fun {i} hi => by rw [hHS]; unfold hsAt; rw [List.getElem?_eq_getElem (by omega)]; rfl
            have HHSN : Hid (∀ {i : Nat}, ¬ i < m0 → HS i = BitVec.ofNat 64 i) := fun {i} hi => by rw [hHS]; unfold hsAt; rw [List.getElem?_eq_none (by omega)]; rfl
            have HOTY : Hid (∀ {i : Nat}, i < m1 → q1[i]? = some (OT i)) := fun {i} hi => by rw [hOT]; unfold otAt; rw [List.getElem?_eq_getElem (by omega)]; rfl
            have HOTN : Hid (∀ {i : Nat}, ¬ i < m1 → HS i = OT i) := fun {i} hi => by rw [hOT, hHS]; unfold otAt; rw [List.getElem?_eq_none (by omega)]; rfl
            obtain ⟨ii, hi0, hz0, hz1, hz2⟩ := info_parts uinfo2
            clear hr hh0 hh1 hf hfit hx hl hxl sn sm hxn hcm hac hm0 hm1 h0l h1l hru hHS hOT
            go_enter Try.func5, Try.ntmps5
            go_wp2_with (first
              | (go_at_call 7; refine (HG.out _ HT2.out.2.2.1).mono ?_; rintro e w3 ⟨he, hb3⟩; obtain rfl := he.no (fun h => h SM.out); have HT3 := Lib.hid (HT2.out.below hb3); have n0 := at_cell (i := 0) HT3.out.1 rfl; have n1 := at_cell (i := 1) HT3.out.1 rfl; have n2 := at_cell (i := 2) HT3.out.1 rfl; have n3 := at_cell (i := 3) HT3.out.1 rfl; have p0 := at_cell (i := 0) HT3.out.2.1 rfl; have p1 := at_cell (i := 1) HT3.out.2.1 rfl; clear hb3)
              | (go_at_call 6; refine (HNG.out _ HT0.out.2.2.1).mono ?_; rintro e w2 ⟨he, hb2⟩; obtain rfl := he.no (fun h => h SN.out); have HT2 := Lib.hid (HT0.out.below hb2); have n0 := at_cell (i := 0) HT2.out.1 rfl; have n1 := at_cell (i := 1) HT2.out.1 rfl; have n2 := at_cell (i := 2) HT2.out.1 rfl; have n3 := at_cell (i := 3) HT2.out.1 rfl; have p0 := at_cell (i := 0) HT2.out.2.1 rfl; have p1 := at_cell (i := 1) HT2.out.2.1 rfl; clear hb2))
            go_loopw [44, 7, 8, 9] (fun v44 v7 v8 v9 wr => ∃ (i : Nat) (A7 : Option Addr) (c7 : Nat) (A8 : Option Addr) (c8 : Nat) (b : Bool), i ≤ xn ∧ v44 = .int .i64 (i : Int) ∧ v7 = .slice A7 i c7 ∧ v8 = .slice A8 i c8 ∧ v9 = .bool b ∧ wr.ownsRow (w.heap.size + 2) 22 1 (.slice A7 i c7) i ((rowN HS i).map qv) ∧ wr.ownsRow (w.heap.size + 2) 22 1 (.slice A8 i c8) i ((rowN OT i).map qv) ∧ Apart (.slice A7 i c7) (.slice A8 i c8) ∧ EqUp b (∀ j, j < i → HS j = OT j) ∧ Tri w (.cells #[.string (tx nm), .bool false, .int .u64 ru, .slice xA xn xc] 25) (.cells #[.slice H0 m0 d0, .slice H1 m1 d1, .slice H2 m2 d2] 46) wr) (fun v44 _ _ _ _ => xn - (intOf v44).toNat)
            case atStart => exact ⟨0, none, 0, none, 0, true, by omega, rfl, rfl, rfl, rfl, World.ownsRow_nil _ _ _ _, World.ownsRow_nil _ _ _ _, (fun g h => by cases h), (by unfold EqUp; simp), HT3.out⟩
            case round =>
              obtain ⟨i, A7, c7, A8, c8, b, hi, rfl, rfl, rfl, rfl, ho7, ho8, hap, heq0, ht⟩ := hrel
              have HO7 := Lib.hid ho7
              have HO8 := Lib.hid ho8
              have HAP := Lib.hid hap
              have HEQ := Lib.hid heq0
              have HT := Lib.hid ht
              have n0 := at_cell (i := 0) ht.1 rfl
              have n1 := at_cell (i := 1) ht.1 rfl
              have n2 := at_cell (i := 2) ht.1 rfl
              have n3 := at_cell (i := 3) ht.1 rfl
              have p0 := at_cell (i := 0) ht.2.1 rfl
              have p1 := at_cell (i := 1) ht.2.1 rfl
              clear ho7 ho8 hap heq0 ht
              by_cases hlt : i < xn
              · have HI1 : Hid (i < xn) := hlt
                have hi0' : (0 : Int) ≤ (i : Int) := by omega
                have hwu : IntKind.u64.wrap (i : Int) = (i : Int) := by simp [IntKind.wrap, IntKind.signed, IntKind.bits]; omega
                clear hlt
                by_cases hc0 : i < m0
                · obtain ⟨a0, sv0, rfl, hxb0, hsv0, hsc0⟩ := (HP0.out.below HT.out.2.2.1).at_ hc0
                  have hhs := HHSY.out hc0
                  rw [List.getElem?_map, hhs] at hsv0
                  obtain rfl : sv0 = qv (HS i) := by simpa using hsv0.symm
                  obtain ⟨eh, heh⟩ : ∃ eh : Int, qv (HS i) = .int .u64 eh := ⟨_, rfl⟩
                  rw [heh] at hsc0
                  have HEH := Lib.hid heh
                  have hi0a : (i : Int) < (m0 : Int) := by omega
                  clear hhs hsv0 hc0 heh
                  have HROW7 : Hid ((rowN HS (i + 1)).map qv = (rowN HS i).map qv ++ [.int .u64 eh]) := by show _ = _; rw [rowN_succ, List.map_append, List.map_singleton, HEH.out]
                  by_cases hc1 : i < m1
                  · obtain ⟨a1, sv1, rfl, hxb1, hsv1, hsc1⟩ := (HP1.out.below HT.out.2.2.1).at_ hc1
                    have hot := HOTY.out hc1
                    rw [List.getElem?_map, hot] at hsv1
                    obtain rfl : sv1 = qv (OT i) := by simpa using hsv1.symm
                    obtain ⟨eg, heg⟩ : ∃ eg : Int, qv (OT i) = .int .u64 eg := ⟨_, rfl⟩
                    rw [heg] at hsc1
                    have HROW8 : Hid ((rowN OT (i + 1)).map qv = (rowN OT i).map qv ++ [.int .u64 eg]) := by show _ = _; rw [rowN_succ, List.map_append, List.map_singleton, heg]
                    have hi1a : (i : Int) < (m1 : Int) := by omega
                    have HEG := Lib.hid heg
                    clear hot hsv1 hc1 heg
                    by_cases hs2 : HS i = OT i
                    · have HSAME := Lib.hid hs2
                      obtain rfl : eh = eg := by have h1 := HEH.out; rw [hs2, HEG.out] at h1; injection h1 with _ h1; exact h1.symm
                      have heq : (eh == eh) = true := beq_self_eq_true _
                      clear hs2
                      cases b with
                      | false =>
                        have HEQN : Hid (EqUp false (∀ j, j < i + 1 → HS j = OT j)) := by show EqUp _ _; unfold EqUp; exact ⟨fun h => (by cases h), fun h => absurd (fun j hj => h j (Nat.lt_succ_of_lt hj)) (fun h2 => by have := (eq_up HEQ).2 h2; cases this)⟩
                        go_wp2_with (first
                          | (at_builtin; refine wpList_append_told _ rfl (.tmp 74) (.tmp 76) 27 rfl (w.heap.size + 2) 22 ii _ 1 8 Try.underlying27 hi0 hz0 hz1 hz2 rfl (by decide) (.slice A8 i c8) i _ rfl (HO8B.out.alloc _) (some ⟨w4.heap.size, 0, none⟩) 1 1 (w4.heap.size + 1) [.int .u64 eh] rfl (by intro h; cases h) (reads_one_row w4 22 _) (by intro u hu; simp at hu; subst hu; rfl) (by unfold maxLen; omega) (by omega) (by have := HT4.out.2.2.2; simp; omega) ?_; intro v77 w5 ho hg hto; have HO77 := Lib.hid ho; have HO73B := Lib.hid (own_kept (HO73.out.alloc (.cells #[.int .u64 eh] 22)) HAP4.out.symm hg); have HT5 := Lib.hid ((HT4.out.alloc (.cells #[.int .u64 eh] 22)).grown hg (fun k hk => own_block HO8B.out k hk)); have HAP5 : Hid (Apart v73 v77) := (fun g h1 h2 => (by rcases hto with h | h; exact HAP4.out g h1 (by rw [← h]; exact h2); rw [h] at h2; have h3 := own_lt (HO73.out.alloc (.cells #[.int .u64 eh] 22)) g h1; have h4 := Option.some.inj h2; omega)); clear ho hg hto)
                          | (at_builtin; refine wpList_append_told _ rfl (.tmp 70) (.tmp 72) 27 rfl (w.heap.size + 2) 22 ii _ 1 8 Try.underlying27 hi0 hz0 hz1 hz2 rfl (by decide) (.slice A7 i c7) i _ rfl (HO7.out.alloc _) (some ⟨wr.heap.size, 0, none⟩) 1 1 (wr.heap.size + 1) [.int .u64 eh] rfl (by intro h; cases h) (reads_one_row wr 22 _) (by intro u hu; simp at hu; subst hu; rfl) (by unfold maxLen; omega) (by omega) (by have := HT.out.2.2.2; simp; omega) ?_; intro v73 w4 ho hg hto; have HO73 := Lib.hid ho; have HO8B := Lib.hid (own_kept (HO8.out.alloc (.cells #[.int .u64 eh] 22)) HAP.out hg); have HT4 := Lib.hid ((HT.out.alloc (.cells #[.int .u64 eh] 22)).grown hg (fun k hk => own_block HO7.out k hk)); have HAP4 : Hid (Apart v73 (.slice A8 i c8)) := (fun g h1 h2 => (by rcases hto with h | h; exact HAP.out g (by rw [← h]; exact h1) h2; rw [h] at h1; have h3 := own_lt (HO8.out.alloc (.cells #[.int .u64 eh] 22)) g h2; have h4 := Option.some.inj h1; omega)); clear ho hg hto))
                        obtain ⟨A73, c73, rfl, _⟩ := own_slice HO73B.out
                        obtain ⟨A77, c77, rfl, _⟩ := own_slice HO77.out
                        exact ⟨⟨i + 1, A73, c73, A77, c77, false, by have := HI1.out; omega, by go_num, rfl, rfl, rfl, by rw [HROW7.out]; exact HO73B.out, by rw [HROW8.out]; exact HO77.out, HAP5.out, HEQN.out, HT5.out⟩, by have := HI1.out; simp [intOf]; omega⟩
                      | true =>
                        have HEQN : Hid (EqUp true (∀ j, j < i + 1 → HS j = OT j)) := by show EqUp _ _; unfold EqUp; exact ⟨fun h => fun j hj => (by rcases Nat.lt_or_ge j i with h2 | h2; exact (eq_up HEQ).1 rfl j h2; obtain rfl : j = i := (by omega); exact HSAME.out), fun _ => rfl⟩
                        go_wp2_with (first
                          | (at_builtin; refine wpList_append_told _ rfl (.tmp 74) (.tmp 76) 27 rfl (w.heap.size + 2) 22 ii _ 1 8 Try.underlying27 hi0 hz0 hz1 hz2 rfl (by decide) (.slice A8 i c8) i _ rfl (HO8B.out.alloc _) (some ⟨w4.heap.size, 0, none⟩) 1 1 (w4.heap.size + 1) [.int .u64 eh] rfl (by intro h; cases h) (reads_one_row w4 22 _) (by intro u hu; simp at hu; subst hu; rfl) (by unfold maxLen; omega) (by omega) (by have := HT4.out.2.2.2; simp; omega) ?_; intro v77 w5 ho hg hto; have HO77 := Lib.hid ho; have HO73B := Lib.hid (own_kept (HO73.out.alloc (.cells #[.int .u64 eh] 22)) HAP4.out.symm hg); have HT5 := Lib.hid ((HT4.out.alloc (.cells #[.int .u64 eh] 22)).grown hg (fun k hk => own_block HO8B.out k hk)); have HAP5 : Hid (Apart v73 v77) := (fun g h1 h2 => (by rcases hto with h | h; exact HAP4.out g h1 (by rw [← h]; exact h2); rw [h] at h2; have h3 := own_lt (HO73.out.alloc (.cells #[.int .u64 eh] 22)) g h1; have h4 := Option.some.inj h2; omega)); clear ho hg hto)
                          | (at_builtin; refine wpList_append_told _ rfl (.tmp 70) (.tmp 72) 27 rfl (w.heap.size + 2) 22 ii _ 1 8 Try.underlying27 hi0 hz0 hz1 hz2 rfl (by decide) (.slice A7 i c7) i _ rfl (HO7.out.alloc _) (some ⟨wr.heap.size, 0, none⟩) 1 1 (wr.heap.size + 1) [.int .u64 eh] rfl (by intro h; cases h) (reads_one_row wr 22 _) (by intro u hu; simp at hu; subst hu; rfl) (by unfold maxLen; omega) (by omega) (by have := HT.out.2.2.2; simp; omega) ?_; intro v73 w4 ho hg hto; have HO73 := Lib.hid ho; have HO8B := Lib.hid (own_kept (HO8.out.alloc (.cells #[.int .u64 eh] 22)) HAP.out hg); have HT4 := Lib.hid ((HT.out.alloc (.cells #[.int .u64 eh] 22)).grown hg (fun k hk => own_block HO7.out k hk)); have HAP4 : Hid (Apart v73 (.slice A8 i c8)) := (fun g h1 h2 => (by rcases hto with h | h; exact HAP.out g (by rw [← h]; exact h1) h2; rw [h] at h1; have h3 := own_lt (HO8.out.alloc (.cells #[.int .u64 eh] 22)) g h2; have h4 := Option.some.inj h1; omega)); clear ho hg hto))
                        obtain ⟨A73, c73, rfl, _⟩ := own_slice HO73B.out
                        obtain ⟨A77, c77, rfl, _⟩ := own_slice HO77.out
                        exact ⟨⟨i + 1, A73, c73, A77, c77, true, by have := HI1.out; omega, by go_num, rfl, rfl, rfl, by rw [HROW7.out]; exact HO73B.out, by rw [HROW8.out]; exact HO77.out, HAP5.out, HEQN.out, HT5.out⟩, by have := HI1.out; simp [intOf]; omega⟩
                    · have HDIFF := Lib.hid hs2
                      have heq : (eh == eg) = false := by
                        rw [beq_eq_false_iff_ne]
                        intro e
                        exact hs2 (qv_inj (by rw [HEH.out, HEG.out, e]))
                      clear hs2
                      cases b with
                      | false =>
                        have HEQN : Hid (EqUp false (∀ j, j < i + 1 → HS j = OT j)) := by show EqUp _ _; unfold EqUp; exact ⟨fun h => (by cases h), fun h => absurd (fun j hj => h j (Nat.lt_succ_of_lt hj)) (fun h2 => by have := (eq_up HEQ).2 h2; cases this)⟩
                        go_wp2_with (first
                          | (at_builtin; refine wpList_append_told _ rfl (.tmp 74) (.tmp 76) 27 rfl (w.heap.size + 2) 22 ii _ 1 8 Try.underlying27 hi0 hz0 hz1 hz2 rfl (by decide) (.slice A8 i c8) i _ rfl (HO8B.out.alloc _) (some ⟨w4.heap.size, 0, none⟩) 1 1 (w4.heap.size + 1) [.int .u64 eg] rfl (by intro h; cases h) (reads_one_row w4 22 _) (by intro u hu; simp at hu; subst hu; rfl) (by unfold maxLen; omega) (by omega) (by have := HT4.out.2.2.2; simp; omega) ?_; intro v77 w5 ho hg hto; have HO77 := Lib.hid ho; have HO73B := Lib.hid (own_kept (HO73.out.alloc (.cells #[.int .u64 eg] 22)) HAP4.out.symm hg); have HT5 := Lib.hid ((HT4.out.alloc (.cells #[.int .u64 eg] 22)).grown hg (fun k hk => own_block HO8B.out k hk)); have HAP5 : Hid (Apart v73 v77) := (fun g h1 h2 => (by rcases hto with h | h; exact HAP4.out g h1 (by rw [← h]; exact h2); rw [h] at h2; have h3 := own_lt (HO73.out.alloc (.cells #[.int .u64 eg] 22)) g h1; have h4 := Option.some.inj h2; omega)); clear ho hg hto)
                          | (at_builtin; refine wpList_append_told _ rfl (.tmp 70) (.tmp 72) 27 rfl (w.heap.size + 2) 22 ii _ 1 8 Try.underlying27 hi0 hz0 hz1 hz2 rfl (by decide) (.slice A7 i c7) i _ rfl (HO7.out.alloc _) (some ⟨wr.heap.size, 0, none⟩) 1 1 (wr.heap.size + 1) [.int .u64 eh] rfl (by intro h; cases h) (reads_one_row wr 22 _) (by intro u hu; simp at hu; subst hu; rfl) (by unfold maxLen; omega) (by omega) (by have := HT.out.2.2.2; simp; omega) ?_; intro v73 w4 ho hg hto; have HO73 := Lib.hid ho; have HO8B := Lib.hid (own_kept (HO8.out.alloc (.cells #[.int .u64 eh] 22)) HAP.out hg); have HT4 := Lib.hid ((HT.out.alloc (.cells #[.int .u64 eh] 22)).grown hg (fun k hk => own_block HO7.out k hk)); have HAP4 : Hid (Apart v73 (.slice A8 i c8)) := (fun g h1 h2 => (by rcases hto with h | h; exact HAP.out g (by rw [← h]; exact h1) h2; rw [h] at h1; have h3 := own_lt (HO8.out.alloc (.cells #[.int .u64 eh] 22)) g h2; have h4 := Option.some.inj h1; omega)); clear ho hg hto))
                        obtain ⟨A73, c73, rfl, _⟩ := own_slice HO73B.out
                        obtain ⟨A77, c77, rfl, _⟩ := own_slice HO77.out
                        exact ⟨⟨i + 1, A73, c73, A77, c77, false, by have := HI1.out; omega, by go_num, rfl, rfl, rfl, by rw [HROW7.out]; exact HO73B.out, by rw [HROW8.out]; exact HO77.out, HAP5.out, HEQN.out, HT5.out⟩, by have := HI1.out; simp [intOf]; omega⟩
                      | true =>
                        have HEQN : Hid (EqUp false (∀ j, j < i + 1 → HS j = OT j)) := by show EqUp _ _; unfold EqUp; exact ⟨fun h => (by cases h), fun h => absurd (h i (Nat.lt_succ_self i)) HDIFF.out⟩
                        go_wp2_with (first
                          | (at_builtin; refine wpList_append_told _ rfl (.tmp 74) (.tmp 76) 27 rfl (w.heap.size + 2) 22 ii _ 1 8 Try.underlying27 hi0 hz0 hz1 hz2 rfl (by decide) (.slice A8 i c8) i _ rfl (HO8B.out.alloc _) (some ⟨w4.heap.size, 0, none⟩) 1 1 (w4.heap.size + 1) [.int .u64 eg] rfl (by intro h; cases h) (reads_one_row w4 22 _) (by intro u hu; simp at hu; subst hu; rfl) (by unfold maxLen; omega) (by omega) (by have := HT4.out.2.2.2; simp; omega) ?_; intro v77 w5 ho hg hto; have HO77 := Lib.hid ho; have HO73B := Lib.hid (own_kept (HO73.out.alloc (.cells #[.int .u64 eg] 22)) HAP4.out.symm hg); have HT5 := Lib.hid ((HT4.out.alloc (.cells #[.int .u64 eg] 22)).grown hg (fun k hk => own_block HO8B.out k hk)); have HAP5 : Hid (Apart v73 v77) := (fun g h1 h2 => (by rcases hto with h | h; exact HAP4.out g h1 (by rw [← h]; exact h2); rw [h] at h2; have h3 := own_lt (HO73.out.alloc (.cells #[.int .u64 eg] 22)) g h1; have h4 := Option.some.inj h2; omega)); clear ho hg hto)
                          | (at_builtin; refine wpList_append_told _ rfl (.tmp 70) (.tmp 72) 27 rfl (w.heap.size + 2) 22 ii _ 1 8 Try.underlying27 hi0 hz0 hz1 hz2 rfl (by decide) (.slice A7 i c7) i _ rfl (HO7.out.alloc _) (some ⟨wr.heap.size, 0, none⟩) 1 1 (wr.heap.size + 1) [.int .u64 eh] rfl (by intro h; cases h) (reads_one_row wr 22 _) (by intro u hu; simp at hu; subst hu; rfl) (by unfold maxLen; omega) (by omega) (by have := HT.out.2.2.2; simp; omega) ?_; intro v73 w4 ho hg hto; have HO73 := Lib.hid ho; have HO8B := Lib.hid (own_kept (HO8.out.alloc (.cells #[.int .u64 eh] 22)) HAP.out hg); have HT4 := Lib.hid ((HT.out.alloc (.cells #[.int .u64 eh] 22)).grown hg (fun k hk => own_block HO7.out k hk)); have HAP4 : Hid (Apart v73 (.slice A8 i c8)) := (fun g h1 h2 => (by rcases hto with h | h; exact HAP.out g (by rw [← h]; exact h1) h2; rw [h] at h1; have h3 := own_lt (HO8.out.alloc (.cells #[.int .u64 eh] 22)) g h2; have h4 := Option.some.inj h1; omega)); clear ho hg hto))
                        obtain ⟨A73, c73, rfl, _⟩ := own_slice HO73B.out
                        obtain ⟨A77, c77, rfl, _⟩ := own_slice HO77.out
                        exact ⟨⟨i + 1, A73, c73, A77, c77, false, by have := HI1.out; omega, by go_num, rfl, rfl, rfl, by rw [HROW7.out]; exact HO73B.out, by rw [HROW8.out]; exact HO77.out, HAP5.out, HEQN.out, HT5.out⟩, by have := HI1.out; simp [intOf]; omega⟩
                  · have HC1 := Lib.hid hc1
                    have hi1b : ¬ (i : Int) < (m1 : Int) := by omega
                    clear hc1
                    have HSAME : Hid (HS i = OT i) := HOTN.out HC1.out
                    have hg1 : qv (OT i) = .int .u64 eh := by rw [← HSAME.out]; exact HEH.out
                    have HROW8 : Hid ((rowN OT (i + 1)).map qv = (rowN OT i).map qv ++ [.int .u64 eh]) := by show _ = _; rw [rowN_succ, List.map_append, List.map_singleton, hg1]
                    clear hg1
                    have heq : (eh == eh) = true := beq_self_eq_true _
                    cases b with
                    | false =>
                      have HEQN : Hid (EqUp false (∀ j, j < i + 1 → HS j = OT j)) := by show EqUp _ _; unfold EqUp; exact ⟨fun h => (by cases h), fun h => absurd (fun j hj => h j (Nat.lt_succ_of_lt hj)) (fun h2 => by have := (eq_up HEQ).2 h2; cases this)⟩
                      go_wp2_with (first
                        | (at_builtin; refine wpList_append_told _ rfl (.tmp 74) (.tmp 76) 27 rfl (w.heap.size + 2) 22 ii _ 1 8 Try.underlying27 hi0 hz0 hz1 hz2 rfl (by decide) (.slice A8 i c8) i _ rfl (HO8B.out.alloc _) (some ⟨w4.heap.size, 0, none⟩) 1 1 (w4.heap.size + 1) [.int .u64 eh] rfl (by intro h; cases h) (reads_one_row w4 22 _) (by intro u hu; simp at hu; subst hu; rfl) (by unfold maxLen; omega) (by omega) (by have := HT4.out.2.2.2; simp; omega) ?_; intro v77 w5 ho hg hto; have HO77 := Lib.hid ho; have HO73B := Lib.hid (own_kept (HO73.out.alloc (.cells #[.int .u64 eh] 22)) HAP4.out.symm hg); have HT5 := Lib.hid ((HT4.out.alloc (.cells #[.int .u64 eh] 22)).grown hg (fun k hk => own_block HO8B.out k hk)); have HAP5 : Hid (Apart v73 v77) := (fun g h1 h2 => (by rcases hto with h | h; exact HAP4.out g h1 (by rw [← h]; exact h2); rw [h] at h2; have h3 := own_lt (HO73.out.alloc (.cells #[.int .u64 eh] 22)) g h1; have h4 := Option.some.inj h2; omega)); clear ho hg hto)
                        | (at_builtin; refine wpList_append_told _ rfl (.tmp 70) (.tmp 72) 27 rfl (w.heap.size + 2) 22 ii _ 1 8 Try.underlying27 hi0 hz0 hz1 hz2 rfl (by decide) (.slice A7 i c7) i _ rfl (HO7.out.alloc _) (some ⟨wr.heap.size, 0, none⟩) 1 1 (wr.heap.size + 1) [.int .u64 eh] rfl (by intro h; cases h) (reads_one_row wr 22 _) (by intro u hu; simp at hu; subst hu; rfl) (by unfold maxLen; omega) (by omega) (by have := HT.out.2.2.2; simp; omega) ?_; intro v73 w4 ho hg hto; have HO73 := Lib.hid ho; have HO8B := Lib.hid (own_kept (HO8.out.alloc (.cells #[.int .u64 eh] 22)) HAP.out hg); have HT4 := Lib.hid ((HT.out.alloc (.cells #[.int .u64 eh] 22)).grown hg (fun k hk => own_block HO7.out k hk)); have HAP4 : Hid (Apart v73 (.slice A8 i c8)) := (fun g h1 h2 => (by rcases hto with h | h; exact HAP.out g (by rw [← h]; exact h1) h2; rw [h] at h1; have h3 := own_lt (HO8.out.alloc (.cells #[.int .u64 eh] 22)) g h2; have h4 := Option.some.inj h1; omega)); clear ho hg hto))
                      obtain ⟨A73, c73, rfl, _⟩ := own_slice HO73B.out
                      obtain ⟨A77, c77, rfl, _⟩ := own_slice HO77.out
                      exact ⟨⟨i + 1, A73, c73, A77, c77, false, by have := HI1.out; omega, by go_num, rfl, rfl, rfl, by rw [HROW7.out]; exact HO73B.out, by rw [HROW8.out]; exact HO77.out, HAP5.out, HEQN.out, HT5.out⟩, by have := HI1.out; simp [intOf]; omega⟩
                    | true =>
                      have HEQN : Hid (EqUp true (∀ j, j < i + 1 → HS j = OT j)) := by show EqUp _ _; unfold EqUp; exact ⟨fun h => fun j hj => (by rcases Nat.lt_or_ge j i with h2 | h2; exact (eq_up HEQ).1 rfl j h2; obtain rfl : j = i := (by omega); exact HSAME.out), fun _ => rfl⟩
                      go_wp2_with (first
                        | (at_builtin; refine wpList_append_told _ rfl (.tmp 74) (.tmp 76) 27 rfl (w.heap.size + 2) 22 ii _ 1 8 Try.underlying27 hi0 hz0 hz1 hz2 rfl (by decide) (.slice A8 i c8) i _ rfl (HO8B.out.alloc _) (some ⟨w4.heap.size, 0, none⟩) 1 1 (w4.heap.size + 1) [.int .u64 eh] rfl (by intro h; cases h) (reads_one_row w4 22 _) (by intro u hu; simp at hu; subst hu; rfl) (by unfold maxLen; omega) (by omega) (by have := HT4.out.2.2.2; simp; omega) ?_; intro v77 w5 ho hg hto; have HO77 := Lib.hid ho; have HO73B := Lib.hid (own_kept (HO73.out.alloc (.cells #[.int .u64 eh] 22)) HAP4.out.symm hg); have HT5 := Lib.hid ((HT4.out.alloc (.cells #[.int .u64 eh] 22)).grown hg (fun k hk => own_block HO8B.out k hk)); have HAP5 : Hid (Apart v73 v77) := (fun g h1 h2 => (by rcases hto with h | h; exact HAP4.out g h1 (by rw [← h]; exact h2); rw [h] at h2; have h3 := own_lt (HO73.out.alloc (.cells #[.int .u64 eh] 22)) g h1; have h4 := Option.some.inj h2; omega)); clear ho hg hto)
                        | (at_builtin; refine wpList_append_told _ rfl (.tmp 70) (.tmp 72) 27 rfl (w.heap.size + 2) 22 ii _ 1 8 Try.underlying27 hi0 hz0 hz1 hz2 rfl (by decide) (.slice A7 i c7) i _ rfl (HO7.out.alloc _) (some ⟨wr.heap.size, 0, none⟩) 1 1 (wr.heap.size + 1) [.int .u64 eh] rfl (by intro h; cases h) (reads_one_row wr 22 _) (by intro u hu; simp at hu; subst hu; rfl) (by unfold maxLen; omega) (by omega) (by have := HT.out.2.2.2; simp; omega) ?_; intro v73 w4 ho hg hto; have HO73 := Lib.hid ho; have HO8B := Lib.hid (own_kept (HO8.out.alloc (.cells #[.int .u64 eh] 22)) HAP.out hg); have HT4 := Lib.hid ((HT.out.alloc (.cells #[.int .u64 eh] 22)).grown hg (fun k hk => own_block HO7.out k hk)); have HAP4 : Hid (Apart v73 (.slice A8 i c8)) := (fun g h1 h2 => (by rcases hto with h | h; exact HAP.out g (by rw [← h]; exact h1) h2; rw [h] at h1; have h3 := own_lt (HO8.out.alloc (.cells #[.int .u64 eh] 22)) g h2; have h4 := Option.some.inj h1; omega)); clear ho hg hto))
                      obtain ⟨A73, c73, rfl, _⟩ := own_slice HO73B.out
                      obtain ⟨A77, c77, rfl, _⟩ := own_slice HO77.out
                      exact ⟨⟨i + 1, A73, c73, A77, c77, true, by have := HI1.out; omega, by go_num, rfl, rfl, rfl, by rw [HROW7.out]; exact HO73B.out, by rw [HROW8.out]; exact HO77.out, HAP5.out, HEQN.out, HT5.out⟩, by have := HI1.out; simp [intOf]; omega⟩
                · have hi0b : ¬ (i : Int) < (m0 : Int) := by omega
                  obtain ⟨eh, heh⟩ : ∃ eh : Int, eh = (i : Int) := ⟨_, rfl⟩
                  have HEH : Hid (qv (HS i) = .int .u64 eh) := by show _ = _; rw [HHSN.out hc0, heh]; exact kq_ofNat (by unfold top; omega)
                  have hwu2 : IntKind.u64.wrap (i : Int) = eh := by rw [hwu, heh]
                  clear hc0 heh hwu
                  have HROW7 : Hid ((rowN HS (i + 1)).map qv = (rowN HS i).map qv ++ [.int .u64 eh]) := by show _ = _; rw [rowN_succ, List.map_append, List.map_singleton, HEH.out]
                  by_cases hc1 : i < m1
                  · obtain ⟨a1, sv1, rfl, hxb1, hsv1, hsc1⟩ := (HP1.out.below HT.out.2.2.1).at_ hc1
                    have hot := HOTY.out hc1
                    rw [List.getElem?_map, hot] at hsv1
                    obtain rfl : sv1 = qv (OT i) := by simpa using hsv1.symm
                    obtain ⟨eg, heg⟩ : ∃ eg : Int, qv (OT i) = .int .u64 eg := ⟨_, rfl⟩
                    rw [heg] at hsc1
                    have HROW8 : Hid ((rowN OT (i + 1)).map qv = (rowN OT i).map qv ++ [.int .u64 eg]) := by show _ = _; rw [rowN_succ, List.map_append, List.map_singleton, heg]
                    have hi1a : (i : Int) < (m1 : Int) := by omega
                    have HEG := Lib.hid heg
                    clear hot hsv1 hc1 heg
                    by_cases hs2 : HS i = OT i
                    · have HSAME := Lib.hid hs2
                      obtain rfl : eh = eg := by have h1 := HEH.out; rw [hs2, HEG.out] at h1; injection h1 with _ h1; exact h1.symm
                      have heq : (eh == eh) = true := beq_self_eq_true _
                      clear hs2
                      cases b with
                      | false =>
                        have HEQN : Hid (EqUp false (∀ j, j < i + 1 → HS j = OT j)) := by show EqUp _ _; unfold EqUp; exact ⟨fun h => (by cases h), fun h => absurd (fun j hj => h j (Nat.lt_succ_of_lt hj)) (fun h2 => by have := (eq_up HEQ).2 h2; cases this)⟩
                        go_wp2_with (first
                          | (at_builtin; refine wpList_append_told _ rfl (.tmp 74) (.tmp 76) 27 rfl (w.heap.size + 2) 22 ii _ 1 8 Try.underlying27 hi0 hz0 hz1 hz2 rfl (by decide) (.slice A8 i c8) i _ rfl (HO8B.out.alloc _) (some ⟨w4.heap.size, 0, none⟩) 1 1 (w4.heap.size + 1) [.int .u64 eh] rfl (by intro h; cases h) (reads_one_row w4 22 _) (by intro u hu; simp at hu; subst hu; rfl) (by unfold maxLen; omega) (by omega) (by have := HT4.out.2.2.2; simp; omega) ?_; intro v77 w5 ho hg hto; have HO77 := Lib.hid ho; have HO73B := Lib.hid (own_kept (HO73.out.alloc (.cells #[.int .u64 eh] 22)) HAP4.out.symm hg); have HT5 := Lib.hid ((HT4.out.alloc (.cells #[.int .u64 eh] 22)).grown hg (fun k hk => own_block HO8B.out k hk)); have HAP5 : Hid (Apart v73 v77) := (fun g h1 h2 => (by rcases hto with h | h; exact HAP4.out g h1 (by rw [← h]; exact h2); rw [h] at h2; have h3 := own_lt (HO73.out.alloc (.cells #[.int .u64 eh] 22)) g h1; have h4 := Option.some.inj h2; omega)); clear ho hg hto)
                          | (at_builtin; refine wpList_append_told _ rfl (.tmp 70) (.tmp 72) 27 rfl (w.heap.size + 2) 22 ii _ 1 8 Try.underlying27 hi0 hz0 hz1 hz2 rfl (by decide) (.slice A7 i c7) i _ rfl (HO7.out.alloc _) (some ⟨wr.heap.size, 0, none⟩) 1 1 (wr.heap.size + 1) [.int .u64 eh] rfl (by intro h; cases h) (reads_one_row wr 22 _) (by intro u hu; simp at hu; subst hu; rfl) (by unfold maxLen; omega) (by omega) (by have := HT.out.2.2.2; simp; omega) ?_; intro v73 w4 ho hg hto; have HO73 := Lib.hid ho; have HO8B := Lib.hid (own_kept (HO8.out.alloc (.cells #[.int .u64 eh] 22)) HAP.out hg); have HT4 := Lib.hid ((HT.out.alloc (.cells #[.int .u64 eh] 22)).grown hg (fun k hk => own_block HO7.out k hk)); have HAP4 : Hid (Apart v73 (.slice A8 i c8)) := (fun g h1 h2 => (by rcases hto with h | h; exact HAP.out g (by rw [← h]; exact h1) h2; rw [h] at h1; have h3 := own_lt (HO8.out.alloc (.cells #[.int .u64 eh] 22)) g h2; have h4 := Option.some.inj h1; omega)); clear ho hg hto))
                        obtain ⟨A73, c73, rfl, _⟩ := own_slice HO73B.out
                        obtain ⟨A77, c77, rfl, _⟩ := own_slice HO77.out
                        exact ⟨⟨i + 1, A73, c73, A77, c77, false, by have := HI1.out; omega, by go_num, rfl, rfl, rfl, by rw [HROW7.out]; exact HO73B.out, by rw [HROW8.out]; exact HO77.out, HAP5.out, HEQN.out, HT5.out⟩, by have := HI1.out; simp [intOf]; omega⟩
                      | true =>
                        have HEQN : Hid (EqUp true (∀ j, j < i + 1 → HS j = OT j)) := by show EqUp _ _; unfold EqUp; exact ⟨fun h => fun j hj => (by rcases Nat.lt_or_ge j i with h2 | h2; exact (eq_up HEQ).1 rfl j h2; obtain rfl : j = i := (by omega); exact HSAME.out), fun _ => rfl⟩
                        go_wp2_with (first
                          | (at_builtin; refine wpList_append_told _ rfl (.tmp 74) (.tmp 76) 27 rfl (w.heap.size + 2) 22 ii _ 1 8 Try.underlying27 hi0 hz0 hz1 hz2 rfl (by decide) (.slice A8 i c8) i _ rfl (HO8B.out.alloc _) (some ⟨w4.heap.size, 0, none⟩) 1 1 (w4.heap.size + 1) [.int .u64 eh] rfl (by intro h; cases h) (reads_one_row w4 22 _) (by intro u hu; simp at hu; subst hu; rfl) (by unfold maxLen; omega) (by omega) (by have := HT4.out.2.2.2; simp; omega) ?_; intro v77 w5 ho hg hto; have HO77 := Lib.hid ho; have HO73B := Lib.hid (own_kept (HO73.out.alloc (.cells #[.int .u64 eh] 22)) HAP4.out.symm hg); have HT5 := Lib.hid ((HT4.out.alloc (.cells #[.int .u64 eh] 22)).grown hg (fun k hk => own_block HO8B.out k hk)); have HAP5 : Hid (Apart v73 v77) := (fun g h1 h2 => (by rcases hto with h | h; exact HAP4.out g h1 (by rw [← h]; exact h2); rw [h] at h2; have h3 := own_lt (HO73.out.alloc (.cells #[.int .u64 eh] 22)) g h1; have h4 := Option.some.inj h2; omega)); clear ho hg hto)
                          | (at_builtin; refine wpList_append_told _ rfl (.tmp 70) (.tmp 72) 27 rfl (w.heap.size + 2) 22 ii _ 1 8 Try.underlying27 hi0 hz0 hz1 hz2 rfl (by decide) (.slice A7 i c7) i _ rfl (HO7.out.alloc _) (some ⟨wr.heap.size, 0, none⟩) 1 1 (wr.heap.size + 1) [.int .u64 eh] rfl (by intro h; cases h) (reads_one_row wr 22 _) (by intro u hu; simp at hu; subst hu; rfl) (by unfold maxLen; omega) (by omega) (by have := HT.out.2.2.2; simp; omega) ?_; intro v73 w4 ho hg hto; have HO73 := Lib.hid ho; have HO8B := Lib.hid (own_kept (HO8.out.alloc (.cells #[.int .u64 eh] 22)) HAP.out hg); have HT4 := Lib.hid ((HT.out.alloc (.cells #[.int .u64 eh] 22)).grown hg (fun k hk => own_block HO7.out k hk)); have HAP4 : Hid (Apart v73 (.slice A8 i c8)) := (fun g h1 h2 => (by rcases hto with h | h; exact HAP.out g (by rw [← h]; exact h1) h2; rw [h] at h1; have h3 := own_lt (HO8.out.alloc (.cells #[.int .u64 eh] 22)) g h2; have h4 := Option.some.inj h1; omega)); clear ho hg hto))
                        obtain ⟨A73, c73, rfl, _⟩ := own_slice HO73B.out
                        obtain ⟨A77, c77, rfl, _⟩ := own_slice HO77.out
                        exact ⟨⟨i + 1, A73, c73, A77, c77, true, by have := HI1.out; omega, by go_num, rfl, rfl, rfl, by rw [HROW7.out]; exact HO73B.out, by rw [HROW8.out]; exact HO77.out, HAP5.out, HEQN.out, HT5.out⟩, by have := HI1.out; simp [intOf]; omega⟩
                    · have HDIFF := Lib.hid hs2
                      have heq : (eh == eg) = false := by
                        rw [beq_eq_false_iff_ne]
                        intro e
                        exact hs2 (qv_inj (by rw [HEH.out, HEG.out, e]))
                      clear hs2
                      cases b with
                      | false =>
                        have HEQN : Hid (EqUp false (∀ j, j < i + 1 → HS j = OT j)) := by show EqUp _ _; unfold EqUp; exact ⟨fun h => (by cases h), fun h => absurd (fun j hj => h j (Nat.lt_succ_of_lt hj)) (fun h2 => by have := (eq_up HEQ).2 h2; cases this)⟩
                        go_wp2_with (first
                          | (at_builtin; refine wpList_append_told _ rfl (.tmp 74) (.tmp 76) 27 rfl (w.heap.size + 2) 22 ii _ 1 8 Try.underlying27 hi0 hz0 hz1 hz2 rfl (by decide) (.slice A8 i c8) i _ rfl (HO8B.out.alloc _) (some ⟨w4.heap.size, 0, none⟩) 1 1 (w4.heap.size + 1) [.int .u64 eg] rfl (by intro h; cases h) (reads_one_row w4 22 _) (by intro u hu; simp at hu; subst hu; rfl) (by unfold maxLen; omega) (by omega) (by have := HT4.out.2.2.2; simp; omega) ?_; intro v77 w5 ho hg hto; have HO77 := Lib.hid ho; have HO73B := Lib.hid (own_kept (HO73.out.alloc (.cells #[.int .u64 eg] 22)) HAP4.out.symm hg); have HT5 := Lib.hid ((HT4.out.alloc (.cells #[.int .u64 eg] 22)).grown hg (fun k hk => own_block HO8B.out k hk)); have HAP5 : Hid (Apart v73 v77) := (fun g h1 h2 => (by rcases hto with h | h; exact HAP4.out g h1 (by rw [← h]; exact h2); rw [h] at h2; have h3 := own_lt (HO73.out.alloc (.cells #[.int .u64 eg] 22)) g h1; have h4 := Option.some.inj h2; omega)); clear ho hg hto)
                          | (at_builtin; refine wpList_append_told _ rfl (.tmp 70) (.tmp 72) 27 rfl (w.heap.size + 2) 22 ii _ 1 8 Try.underlying27 hi0 hz0 hz1 hz2 rfl (by decide) (.slice A7 i c7) i _ rfl (HO7.out.alloc _) (some ⟨wr.heap.size, 0, none⟩) 1 1 (wr.heap.size + 1) [.int .u64 eh] rfl (by intro h; cases h) (reads_one_row wr 22 _) (by intro u hu; simp at hu; subst hu; rfl) (by unfold maxLen; omega) (by omega) (by have := HT.out.2.2.2; simp; omega) ?_; intro v73 w4 ho hg hto; have HO73 := Lib.hid ho; have HO8B := Lib.hid (own_kept (HO8.out.alloc (.cells #[.int .u64 eh] 22)) HAP.out hg); have HT4 := Lib.hid ((HT.out.alloc (.cells #[.int .u64 eh] 22)).grown hg (fun k hk => own_block HO7.out k hk)); have HAP4 : Hid (Apart v73 (.slice A8 i c8)) := (fun g h1 h2 => (by rcases hto with h | h; exact HAP.out g (by rw [← h]; exact h1) h2; rw [h] at h1; have h3 := own_lt (HO8.out.alloc (.cells #[.int .u64 eh] 22)) g h2; have h4 := Option.some.inj h1; omega)); clear ho hg hto))
                        obtain ⟨A73, c73, rfl, _⟩ := own_slice HO73B.out
                        obtain ⟨A77, c77, rfl, _⟩ := own_slice HO77.out
                        exact ⟨⟨i + 1, A73, c73, A77, c77, false, by have := HI1.out; omega, by go_num, rfl, rfl, rfl, by rw [HROW7.out]; exact HO73B.out, by rw [HROW8.out]; exact HO77.out, HAP5.out, HEQN.out, HT5.out⟩, by have := HI1.out; simp [intOf]; omega⟩
                      | true =>
                        have HEQN : Hid (EqUp false (∀ j, j < i + 1 → HS j = OT j)) := by show EqUp _ _; unfold EqUp; exact ⟨fun h => (by cases h), fun h => absurd (h i (Nat.lt_succ_self i)) HDIFF.out⟩
                        go_wp2_with (first
                          | (at_builtin; refine wpList_append_told _ rfl (.tmp 74) (.tmp 76) 27 rfl (w.heap.size + 2) 22 ii _ 1 8 Try.underlying27 hi0 hz0 hz1 hz2 rfl (by decide) (.slice A8 i c8) i _ rfl (HO8B.out.alloc _) (some ⟨w4.heap.size, 0, none⟩) 1 1 (w4.heap.size + 1) [.int .u64 eg] rfl (by intro h; cases h) (reads_one_row w4 22 _) (by intro u hu; simp at hu; subst hu; rfl) (by unfold maxLen; omega) (by omega) (by have := HT4.out.2.2.2; simp; omega) ?_; intro v77 w5 ho hg hto; have HO77 := Lib.hid ho; have HO73B := Lib.hid (own_kept (HO73.out.alloc (.cells #[.int .u64 eg] 22)) HAP4.out.symm hg); have HT5 := Lib.hid ((HT4.out.alloc (.cells #[.int .u64 eg] 22)).grown hg (fun k hk => own_block HO8B.out k hk)); have HAP5 : Hid (Apart v73 v77) := (fun g h1 h2 => (by rcases hto with h | h; exact HAP4.out g h1 (by rw [← h]; exact h2); rw [h] at h2; have h3 := own_lt (HO73.out.alloc (.cells #[.int .u64 eg] 22)) g h1; have h4 := Option.some.inj h2; omega)); clear ho hg hto)
                          | (at_builtin; refine wpList_append_told _ rfl (.tmp 70) (.tmp 72) 27 rfl (w.heap.size + 2) 22 ii _ 1 8 Try.underlying27 hi0 hz0 hz1 hz2 rfl (by decide) (.slice A7 i c7) i _ rfl (HO7.out.alloc _) (some ⟨wr.heap.size, 0, none⟩) 1 1 (wr.heap.size + 1) [.int .u64 eh] rfl (by intro h; cases h) (reads_one_row wr 22 _) (by intro u hu; simp at hu; subst hu; rfl) (by unfold maxLen; omega) (by omega) (by have := HT.out.2.2.2; simp; omega) ?_; intro v73 w4 ho hg hto; have HO73 := Lib.hid ho; have HO8B := Lib.hid (own_kept (HO8.out.alloc (.cells #[.int .u64 eh] 22)) HAP.out hg); have HT4 := Lib.hid ((HT.out.alloc (.cells #[.int .u64 eh] 22)).grown hg (fun k hk => own_block HO7.out k hk)); have HAP4 : Hid (Apart v73 (.slice A8 i c8)) := (fun g h1 h2 => (by rcases hto with h | h; exact HAP.out g (by rw [← h]; exact h1) h2; rw [h] at h1; have h3 := own_lt (HO8.out.alloc (.cells #[.int .u64 eh] 22)) g h2; have h4 := Option.some.inj h1; omega)); clear ho hg hto))
                        obtain ⟨A73, c73, rfl, _⟩ := own_slice HO73B.out
                        obtain ⟨A77, c77, rfl, _⟩ := own_slice HO77.out
                        exact ⟨⟨i + 1, A73, c73, A77, c77, false, by have := HI1.out; omega, by go_num, rfl, rfl, rfl, by rw [HROW7.out]; exact HO73B.out, by rw [HROW8.out]; exact HO77.out, HAP5.out, HEQN.out, HT5.out⟩, by have := HI1.out; simp [intOf]; omega⟩
                  · have HC1 := Lib.hid hc1
                    have hi1b : ¬ (i : Int) < (m1 : Int) := by omega
                    clear hc1
                    have HSAME : Hid (HS i = OT i) := HOTN.out HC1.out
                    have hg1 : qv (OT i) = .int .u64 eh := by rw [← HSAME.out]; exact HEH.out
                    have HROW8 : Hid ((rowN OT (i + 1)).map qv = (rowN OT i).map qv ++ [.int .u64 eh]) := by show _ = _; rw [rowN_succ, List.map_append, List.map_singleton, hg1]
                    clear hg1
                    have heq : (eh == eh) = true := beq_self_eq_true _
                    cases b with
                    | false =>
                      have HEQN : Hid (EqUp false (∀ j, j < i + 1 → HS j = OT j)) := by show EqUp _ _; unfold EqUp; exact ⟨fun h => (by cases h), fun h => absurd (fun j hj => h j (Nat.lt_succ_of_lt hj)) (fun h2 => by have := (eq_up HEQ).2 h2; cases this)⟩
                      go_wp2_with (first
                        | (at_builtin; refine wpList_append_told _ rfl (.tmp 74) (.tmp 76) 27 rfl (w.heap.size + 2) 22 ii _ 1 8 Try.underlying27 hi0 hz0 hz1 hz2 rfl (by decide) (.slice A8 i c8) i _ rfl (HO8B.out.alloc _) (some ⟨w4.heap.size, 0, none⟩) 1 1 (w4.heap.size + 1) [.int .u64 eh] rfl (by intro h; cases h) (reads_one_row w4 22 _) (by intro u hu; simp at hu; subst hu; rfl) (by unfold maxLen; omega) (by omega) (by have := HT4.out.2.2.2; simp; omega) ?_; intro v77 w5 ho hg hto; have HO77 := Lib.hid ho; have HO73B := Lib.hid (own_kept (HO73.out.alloc (.cells #[.int .u64 eh] 22)) HAP4.out.symm hg); have HT5 := Lib.hid ((HT4.out.alloc (.cells #[.int .u64 eh] 22)).grown hg (fun k hk => own_block HO8B.out k hk)); have HAP5 : Hid (Apart v73 v77) := (fun g h1 h2 => (by rcases hto with h | h; exact HAP4.out g h1 (by rw [← h]; exact h2); rw [h] at h2; have h3 := own_lt (HO73.out.alloc (.cells #[.int .u64 eh] 22)) g h1; have h4 := Option.some.inj h2; omega)); clear ho hg hto)
                        | (at_builtin; refine wpList_append_told _ rfl (.tmp 70) (.tmp 72) 27 rfl (w.heap.size + 2) 22 ii _ 1 8 Try.underlying27 hi0 hz0 hz1 hz2 rfl (by decide) (.slice A7 i c7) i _ rfl (HO7.out.alloc _) (some ⟨wr.heap.size, 0, none⟩) 1 1 (wr.heap.size + 1) [.int .u64 eh] rfl (by intro h; cases h) (reads_one_row wr 22 _) (by intro u hu; simp at hu; subst hu; rfl) (by unfold maxLen; omega) (by omega) (by have := HT.out.2.2.2; simp; omega) ?_; intro v73 w4 ho hg hto; have HO73 := Lib.hid ho; have HO8B := Lib.hid (own_kept (HO8.out.alloc (.cells #[.int .u64 eh] 22)) HAP.out hg); have HT4 := Lib.hid ((HT.out.alloc (.cells #[.int .u64 eh] 22)).grown hg (fun k hk => own_block HO7.out k hk)); have HAP4 : Hid (Apart v73 (.slice A8 i c8)) := (fun g h1 h2 => (by rcases hto with h | h; exact HAP.out g (by rw [← h]; exact h1) h2; rw [h] at h1; have h3 := own_lt (HO8.out.alloc (.cells #[.int .u64 eh] 22)) g h2; have h4 := Option.some.inj h1; omega)); clear ho hg hto))
                      obtain ⟨A73, c73, rfl, _⟩ := own_slice HO73B.out
                      obtain ⟨A77, c77, rfl, _⟩ := own_slice HO77.out
                      exact ⟨⟨i + 1, A73, c73, A77, c77, false, by have := HI1.out; omega, by go_num, rfl, rfl, rfl, by rw [HROW7.out]; exact HO73B.out, by rw [HROW8.out]; exact HO77.out, HAP5.out, HEQN.out, HT5.out⟩, by have := HI1.out; simp [intOf]; omega⟩
                    | true =>
                      have HEQN : Hid (EqUp true (∀ j, j < i + 1 → HS j = OT j)) := by show EqUp _ _; unfold EqUp; exact ⟨fun h => fun j hj => (by rcases Nat.lt_or_ge j i with h2 | h2; exact (eq_up HEQ).1 rfl j h2; obtain rfl : j = i := (by omega); exact HSAME.out), fun _ => rfl⟩
                      go_wp2_with (first
                        | (at_builtin; refine wpList_append_told _ rfl (.tmp 74) (.tmp 76) 27 rfl (w.heap.size + 2) 22 ii _ 1 8 Try.underlying27 hi0 hz0 hz1 hz2 rfl (by decide) (.slice A8 i c8) i _ rfl (HO8B.out.alloc _) (some ⟨w4.heap.size, 0, none⟩) 1 1 (w4.heap.size + 1) [.int .u64 eh] rfl (by intro h; cases h) (reads_one_row w4 22 _) (by intro u hu; simp at hu; subst hu; rfl) (by unfold maxLen; omega) (by omega) (by have := HT4.out.2.2.2; simp; omega) ?_; intro v77 w5 ho hg hto; have HO77 := Lib.hid ho; have HO73B := Lib.hid (own_kept (HO73.out.alloc (.cells #[.int .u64 eh] 22)) HAP4.out.symm hg); have HT5 := Lib.hid ((HT4.out.alloc (.cells #[.int .u64 eh] 22)).grown hg (fun k hk => own_block HO8B.out k hk)); have HAP5 : Hid (Apart v73 v77) := (fun g h1 h2 => (by rcases hto with h | h; exact HAP4.out g h1 (by rw [← h]; exact h2); rw [h] at h2; have h3 := own_lt (HO73.out.alloc (.cells #[.int .u64 eh] 22)) g h1; have h4 := Option.some.inj h2; omega)); clear ho hg hto)
                        | (at_builtin; refine wpList_append_told _ rfl (.tmp 70) (.tmp 72) 27 rfl (w.heap.size + 2) 22 ii _ 1 8 Try.underlying27 hi0 hz0 hz1 hz2 rfl (by decide) (.slice A7 i c7) i _ rfl (HO7.out.alloc _) (some ⟨wr.heap.size, 0, none⟩) 1 1 (wr.heap.size + 1) [.int .u64 eh] rfl (by intro h; cases h) (reads_one_row wr 22 _) (by intro u hu; simp at hu; subst hu; rfl) (by unfold maxLen; omega) (by omega) (by have := HT.out.2.2.2; simp; omega) ?_; intro v73 w4 ho hg hto; have HO73 := Lib.hid ho; have HO8B := Lib.hid (own_kept (HO8.out.alloc (.cells #[.int .u64 eh] 22)) HAP.out hg); have HT4 := Lib.hid ((HT.out.alloc (.cells #[.int .u64 eh] 22)).grown hg (fun k hk => own_block HO7.out k hk)); have HAP4 : Hid (Apart v73 (.slice A8 i c8)) := (fun g h1 h2 => (by rcases hto with h | h; exact HAP.out g (by rw [← h]; exact h1) h2; rw [h] at h1; have h3 := own_lt (HO8.out.alloc (.cells #[.int .u64 eh] 22)) g h2; have h4 := Option.some.inj h1; omega)); clear ho hg hto))
                      obtain ⟨A73, c73, rfl, _⟩ := own_slice HO73B.out
                      obtain ⟨A77, c77, rfl, _⟩ := own_slice HO77.out
                      exact ⟨⟨i + 1, A73, c73, A77, c77, true, by have := HI1.out; omega, by go_num, rfl, rfl, rfl, by rw [HROW7.out]; exact HO73B.out, by rw [HROW8.out]; exact HO77.out, HAP5.out, HEQN.out, HT5.out⟩, by have := HI1.out; simp [intOf]; omega⟩
              · obtain rfl : xn = i := by omega
                clear hlt hi
                have HRD7 := Lib.hid (Reads.of_own HO7.out)
                have HRD8 := Lib.hid (Reads.of_own HO8.out)
                have HXN : Hid (∀ W, Below w.heap.size w W → Reads W W.heap.size 1 xA xn (ds.map tsv)) := fun W hb => Reads.more (Reads.below (show Reads w w.heap.size 1 xA xn (ds.map tsv) from HXR.out) hb) hb.size
                have HTR : Hid (∀ W, Below wr.heap.size wr W → Calls Try.prog 11 #[.agg #[.string (tx nm), .bool false, .int .u64 ru, .slice xA xn xc], .slice A7 xn c7, .int .u64 7, .int .u64 8] W fun e w' => ∃ (zo : Int) (A6 : Option Addr) (c6 : Nat), e = .returned (.tuple #[.agg #[.int .i64 1, .string (tx nm), .int .u64 ru, .slice A6 xn c6, .int .u64 zo, .int .u64 8, .string { data := #[] }], .int .i64 0]) ∧ (A6 = none → c6 = 0) ∧ Reads w' w'.heap.size 3 A6 xn (dps (zipD ds (qI (rowN HS xn)))) ∧ Below W.heap.size W w') := fun W hb => by
                  have h := trace_any (⟨⟨nm, false, ru, ds⟩, xA, xn, xc⟩ : Nw) A7 xn c7 (qI (rowN HS xn)) 7#64 8 (by omega) (by show xn ≤ _; omega) W (HXN.out W (HT.out.2.2.1.trans (hb.mono HT.out.2.2.1.size))) (by rw [qI_qv]; exact (HRD7.out.below hb).more hb.size)
                  refine h.mono ?_
                  rintro e w' (⟨h1, _⟩ | ⟨_, _, A1, n1, c1, h1, h2, h3, h4, h5⟩)
                  · rcases h1 with h1 | h1
                    · cases h1
                    · exact absurd (by rw [qI_len, rowN_len]; exact HXL.out.symm) h1
                  · obtain rfl : n1 = xn := h3.trans HXL.out
                    exact ⟨_, A1, c1, h1, h2, h4, h5⟩
                have HPUT : Hid (∀ (zo : Int) (A6 : Option Addr) (c6 : Nat) (W : World), Below w.heap.size w W → Reads W W.heap.size 3 A6 xn (dps (zipD ds (qI (rowN HS xn)))) → (A6 = none → c6 = 0) → Calls Try.prog 17 #[.slice B q c0, .agg #[.int .i64 1, .string (tx nm), .int .u64 ru, .slice A6 xn c6, .int .u64 zo, .int .u64 8, .string { data := #[] }]] W fun e w' => ∃ (A15 : Option Addr) (n15 c15 : Nat) (zs : List Rw), e = .returned (.slice A15 n15 c15) ∧ n15 ≤ 31 ∧ (∃ y, lastOf zs nm = some y ∧ y.say = (⟨1, nm, ru, zo, 8, []⟩, zipD ds (qI (rowN HS xn)))) ∧ (∀ y ∈ zs, y.n ≤ 1000000) ∧ StateIn w' W.heap.size A15 n15 c15 zs ∧ Below W.heap.size W w') := fun zo A6 c6 W hb hrd hac => by
                  have hsz : ∀ y ∈ xs, y.l.length = y.n := fun y hy => by
                    have := (HREC.out.2 y hy).1.1
                    rw [dps_len] at this
                    omega
                  have hzl : (zipD ds (qI (rowN HS xn))).length = xn := zipD_len HXL.out (by rw [qI_len, rowN_len])
                  have h := fputs_any B q c0 xs (⟨⟨1, nm, ru, zo, 8, []⟩, A6, xn, c6, zipD ds (qI (rowN HS xn))⟩ : Rw) (by omega) (fun y hy => ⟨(HFT.out y hy).1.1, by have h1 := hsz y hy; have h2 := (SM.out.1 y hy).2.1; omega⟩) ⟨HFN.out.1, by show xn ≤ _; omega⟩ W ((HREC.out.below hb).more hb.size) ⟨hrd, hac⟩
                  refine h.mono ?_
                  rintro e w' ⟨A15, c15, zs, rfl, hsay, hst, hb2⟩
                  obtain ⟨y, hy1, hy2⟩ := last_put hsay (show (1 : Int) = 1 from rfl)
                  refine ⟨A15, _, c15, zs, rfl, ?_, ⟨y, hy1, hy2⟩, fun z hz => ?_, hst, hb2⟩
                  · have := fo_len (k := Rw.k) (t := Rw.t) (xs ++ [(⟨⟨1, nm, ru, zo, 8, []⟩, A6, xn, c6, zipD ds (qI (rowN HS xn))⟩ : Rw)])
                    rw [List.length_append, HLQ.out] at this
                    simp at this
                    omega
                  · have h1 : z.say ∈ (fo Rw.k Rw.t (xs ++ [(⟨⟨1, nm, ru, zo, 8, []⟩, A6, xn, c6, zipD ds (qI (rowN HS xn))⟩ : Rw)])).map Rw.say := by rw [← hsay]; exact List.mem_map_of_mem hz
                    obtain ⟨s, hs, hse⟩ := List.mem_map.1 h1
                    have hsm := (fo_mem hs).1
                    have hl2 : s.l = z.l := congrArg Prod.snd hse
                    have hl3 : s.l.length ≤ 60 := by
                      rcases List.mem_append.1 hsm with h4 | h4
                      · exact (SM.out.1 s h4).2.1
                      · obtain rfl := List.mem_singleton.1 h4
                        show (zipD ds (qI (rowN HS xn))).length ≤ 60
                        omega
                    have h5 := (hst.2.2 z hz).1.1
                    rw [dps_len, ← hl2] at h5
                    omega
                go_wp2_with (first
                  | (go_at_call 17; refine (HPUT.out zo A6 c6 _ HT6A.out.2.2.1 ((HR6.out.alloc (Nat.le_refl _) _).more (by simp)) HAC6.out).mono ?_; rintro e w7 ⟨A15, n15, c15, zs, rfl, hn15, hy15, hzn, hst, hb7⟩; have HT7 := Lib.hid (HT6A.out.below hb7); have HN15 := Lib.hid hn15; have HY15 := Lib.hid hy15; have HZN := Lib.hid hzn; have HST7 := Lib.hid hst; have HB7 := Lib.hid hb7; clear hn15 hy15 hzn hst hb7)
                  | (go_at_call 11; refine (HTR.out _ (Below.refl _ _)).mono ?_; rintro e w6 ⟨zo, A6, c6, rfl, hac6, hr6, hb6⟩; have HT6A := Lib.hid ((HT.out.below hb6).alloc (.cells #[.int .i64 1, .string (tx nm), .int .u64 ru, .slice A6 xn c6, .int .u64 zo, .int .u64 8, .string { data := #[] }] 36)); have HAC6 := Lib.hid hac6; have HR6 := Lib.hid hr6; have HB6 := Lib.hid hb6; have hrec6 := one_new w6 (.cells #[.int .i64 1, .string (tx nm), .int .u64 ru, .slice A6 xn c6, .int .u64 zo, .int .u64 8, .string { data := #[] }] 36); have r0 := at_cell (i := 0) hrec6 rfl; have r1 := at_cell (i := 1) hrec6 rfl; have r2 := at_cell (i := 2) hrec6 rfl; have r3 := at_cell (i := 3) hrec6 rfl; have r4 := at_cell (i := 4) hrec6 rfl; have r5 := at_cell (i := 5) hrec6 rfl; have r6 := at_cell (i := 6) hrec6 rfl; clear hrec6 hac6 hr6 hb6))
                have HBR7 : Hid (Below wr.heap.size wr w7) := ((HB6.out.alloc HB6.out.size (.cells #[.int .i64 1, .string (tx nm), .int .u64 ru, .slice A6 xn c6, .int .u64 zo, .int .u64 8, .string { data := #[] }] 36))).trans (HB7.out.mono (by have := HB6.out.size; simp; omega))
                have n0 := at_cell (i := 0) HT7.out.1 rfl
                have n1 := at_cell (i := 1) HT7.out.1 rfl
                have n2 := at_cell (i := 2) HT7.out.1 rfl
                have n3 := at_cell (i := 3) HT7.out.1 rfl
                obtain ⟨M, hM⟩ : ∃ M : Act → World → Prop, M = (fun a v => ∃ (v4 v10 v11 v12 v18 v19 v20 v21 v22 v23 v24 v25 v26 v27 v28 v29 v30 v31 v32 v33 v34 v35 v36 v37 v38 v39 v40 v41 v42 v43 v44 v45 v46 v47 v48 v49 v50 v51 v52 v53 v54 v55 v56 v57 v58 v59 v60 v61 v62 v63 v64 v65 v66 v67 v68 v69 v70 v71 v72 v73 v74 v75 v76 v77 v78 v79 v80 v81 v82 v83 v84 v85 v86 v87 v88 v89 v90 v91 v92 v93 v94 v95 v96 v97 : Value) (bx yb : Nat), a = ({ tmps := #[.agg #[.string (tx nm), .bool false, .int .u64 ru, .slice xA xn xc], .slice B q c0, .agg #[.slice H0 m0 d0, .slice H1 m1 d1, .slice H2 m2 d2], .pointer (some ⟨w.heap.size, 0, none⟩), v4, .pointer (some ⟨w.heap.size + 1, 0, none⟩), .bool false, .slice A7 xn c7, .slice A8 xn c8, .bool b, v10, v11, v12, .pointer (some ⟨w6.heap.size, 0, none⟩), .int .i64 0, .slice A15 n15 c15, .pointer (some ⟨bx, 0, none⟩), .pointer (some ⟨yb, 0, none⟩), v18, v19, v20, v21, v22, v23, v24, v25, v26, v27, v28, v29, v30, v31, v32, v33, v34, v35, v36, v37, v38, v39, v40, v41, v42, v43, v44, v45, v46, v47, v48, v49, v50, v51, v52, v53, v54, v55, v56, v57, v58, v59, v60, v61, v62, v63, v64, v65, v66, v67, v68, v69, v70, v71, v72, v73, v74, v75, v76, v77, v78, v79, v80, v81, v82, v83, v84, v85, v86, v87, v88, v89, v90, v91, v92, v93, v94, v95, v96, v97, undef, undef, undef, undef, undef, undef, undef, undef, undef, undef, undef, undef, undef, undef, undef, undef, undef, undef, undef, undef, undef, undef, undef, undef, undef, undef, undef, undef, undef, undef, undef, undef, undef, undef, undef, undef, undef, undef, undef, undef, undef, undef, undef, undef], defers := [] } : Act) ∧ v.heap[bx]? = some (.cells #[.string (tx nm), .bool false, .int .u64 ru, .slice xA xn xc] 25) ∧ v.heap[yb]? = some (.cells #[.string (tx nm), .bool false, .int .u64 ru, .slice xA xn xc] 25) ∧ bx ≠ yb ∧ w7.heap.size ≤ bx ∧ w7.heap.size ≤ yb ∧ Below w7.heap.size w7 v) := ⟨_, rfl⟩
                have HM := Lib.hid hM
                clear hM
                refine wp_cutd M ?_ ?_
                · intro a v hM
                  rw [HM.out] at hM
                  obtain ⟨v4, v10, v11, v12, v18, v19, v20, v21, v22, v23, v24, v25, v26, v27, v28, v29, v30, v31, v32, v33, v34, v35, v36, v37, v38, v39, v40, v41, v42, v43, v44, v45, v46, v47, v48, v49, v50, v51, v52, v53, v54, v55, v56, v57, v58, v59, v60, v61, v62, v63, v64, v65, v66, v67, v68, v69, v70, v71, v72, v73, v74, v75, v76, v77, v78, v79, v80, v81, v82, v83, v84, v85, v86, v87, v88, v89, v90, v91, v92, v93, v94, v95, v96, v97, bx, yb, rfl, hbx, hyb, hne, hlx, hly, hbv⟩ := hM
                  have HBV := Lib.hid hbv
                  have HNE := Lib.hid hne
                  have HLX := Lib.hid hlx
                  have HLY := Lib.hid hly
                  have HTV := Lib.hid (HT7.out.below hbv)
                  obtain ⟨ru2, hru2⟩ : ∃ ru2, IntKind.u64.wrap (ru + 1) = ru2 := ⟨_, rfl⟩
                  have HRNE : Hid (ru ≠ ru2) := by
                    show ru ≠ ru2
                    rw [← hru2]
                    have h1 := HRU.out
                    simp [IntKind.wrap, IntKind.signed, IntKind.bits]
                    omega
                  have x2 := at_cell (i := 2) hbx rfl
                  have f2 := at_frozen (i := 2) hbx
                  have hbx2 := set_same hbx 2 (.int .u64 ru2)
                  have hyb2 := (Below.heap_setCell v ⟨bx, 2, none⟩ (.int .u64 ru2) yb (Ne.symm hne)).trans hyb
                  have htv2 := HTV.out.setCell (g := bx) (by have := HT7.out.2.2.2; omega) 2 (.int .u64 ru2)
                  have hbv2 := hbv.setCell (p := ⟨bx, 2, none⟩) hlx (.int .u64 ru2)
                  have hs2 : (v.setCell ⟨bx, 2, none⟩ (.int .u64 ru2)).heap.size = v.heap.size := by simp
                  have hoe := own_empty (v.setCell ⟨bx, 2, none⟩ (.int .u64 ru2)) 9
                  rw [hs2] at hoe
                  have HOE := Lib.hid hoe
                  have HSV2 : Hid (v.heap.size ≤ ((v.setCell ⟨bx, 2, none⟩ (.int .u64 ru2)).alloc (.cells #[] 9)).heap.size) := by show _ ≤ _; simp
                  have hte := htv2.alloc (.cells #[] 9)
                  have e3 := at_cell (i := 3) hte.1 rfl
                  have HTE := Lib.hid hte
                  have HBX2 := Lib.hid hbx2
                  have HYB2 := Lib.hid hyb2
                  have HTV2 := Lib.hid htv2
                  have HBV2 := Lib.hid hbv2
                  have HVS := Lib.hid hs2
                  have HLBX : Hid (bx < v.heap.size) := lt_of_heap hbx
                  have HLYB : Hid (yb < v.heap.size) := by have h1 := lt_of_heap hyb2; rw [hs2] at h1; exact h1
                  obtain ⟨it, ht0, ht1, ht2, ht3⟩ := info_parts dtinfo
                  clear hne hlx hly hbv HM hyb hbx hbx2 hyb2 htv2 hbv2 hoe hte hs2
                  go_wp2_with (first
                    | (at_builtin; refine wpList_append_many _ rfl (.tmp 105) (.tmp 106) 23 rfl v.heap.size 9 it _ 1 16 Try.underlying23 ht0 ht1 ht2 ht3 rfl (by decide) v105 xn _ rfl (HO105.out.alloc _) (some ⟨w8.heap.size, 0, none⟩) 1 1 (w8.heap.size + 1) [.string { data := #[109, 111, 114, 101] }] rfl (by intro h; cases h) (reads_one_row w8 9 _) (by intro u hu; simp at hu; subst hu; rfl) (by unfold maxLen; omega) (by omega) (Nat.le_trans HS8.out (by simp)) ?_; intro v107 w9 ho9 hg9; obtain ⟨Ay, cy, rfl, _⟩ := own_slice ho9; have HO107 := Lib.hid ho9; have HB19 : Hid (Below v.heap.size (v.setCell ⟨bx, 2, none⟩ (.int .u64 ru2)) w9) := (((((Below.refl v.heap.size (v.setCell ⟨bx, 2, none⟩ (.int .u64 ru2))).alloc (Nat.le_of_eq HVS.out.symm) (.cells #[] 9)).grown HG8.out HSV2.out (fun k hk => own_block HOE.out k hk)).alloc HS8.out (.cells #[.string { data := #[109, 111, 114, 101] }] 9)).grown hg9 (Nat.le_trans HS8.out (by simp)) (fun k hk => own_block HO105.out k hk)); have HYB9 := Lib.hid ((HB19.out.block yb HLYB.out).trans HYB2.out); have HBX9 := Lib.hid ((HB19.out.block bx HLBX.out).trans HBX2.out); have y3 := at_cell (i := 3) HYB9.out rfl; have f3 := at_frozen (i := 3) HYB9.out; clear ho9 hg9)
                    | (at_builtin; refine wpList_append_reads _ rfl (.tmp 102) (.tmp 104) 23 rfl v.heap.size 9 it (.string { data := #[] }) 16 Try.underlying23 ht0 ht1 ht2 ht3 rfl _ 0 [] rfl HOE.out xA xn xc _ (ds.map tsv) rfl HAC.out (HXN.out _ HTE.out.2.2.1) (by intro u hu; obtain ⟨y, _, rfl⟩ := List.mem_map.1 hu; rfl) (by unfold maxLen; omega) (by omega) (by simp) ?_; intro v105 w8 ho8 hg8; rw [Nat.zero_add, List.nil_append] at ho8; have HO105 := Lib.hid ho8; have HG8 := Lib.hid hg8; have HS8 : Hid (v.heap.size ≤ w8.heap.size) := Nat.le_trans HSV2.out hg8.size; clear ho8 hg8))
                  have ht9 : Tri w (.cells #[.string (tx nm), .bool false, .int .u64 ru, .slice xA xn xc] 25) (.cells #[.slice H0 m0 d0, .slice H1 m1 d1, .slice H2 m2 d2] 46) w9 := HTV2.out.below (by rw [HVS.out]; exact HB19.out)
                  have hb79 : Below w7.heap.size w7 w9 := HBV2.out.trans (HB19.out.mono (by have := HBV.out.size; omega))
                  generalize hw10 : w9.setCell ⟨yb, 3, none⟩ (.slice Ay (xn + 1) cy) = w10
                  have HY10 : Hid (w10.heap[yb]? = some (.cells #[.string (tx nm), .bool false, .int .u64 ru, .slice Ay (xn + 1) cy] 25)) := by show _ = _; rw [← hw10]; exact set_same HYB9.out 3 _
                  have HX10 : Hid (w10.heap[bx]? = some (.cells #[.string (tx nm), .bool false, .int .u64 ru2, .slice xA xn xc] 25)) := by show _ = _; rw [← hw10]; exact (Below.heap_setCell w9 ⟨yb, 3, none⟩ _ bx HNE.out).trans HBX9.out
                  have HT10 : Hid (Tri w (.cells #[.string (tx nm), .bool false, .int .u64 ru, .slice xA xn xc] 25) (.cells #[.slice H0 m0 d0, .slice H1 m1 d1, .slice H2 m2 d2] 46) w10) := by show Tri _ _ _ _; rw [← hw10]; exact ht9.setCell (g := yb) (by have := HT7.out.2.2.2; have := HLY.out; omega) 3 _
                  have HB10 : Hid (Below w7.heap.size w7 w10) := by show Below _ _ _; rw [← hw10]; exact hb79.setCell (p := ⟨yb, 3, none⟩) HLY.out _
                  have HOY0 : Hid (w10.ownsRow v.heap.size 9 1 (.slice Ay (xn + 1) cy) (xn + 1) ((ds ++ [[109, 111, 114, 101]]).map tsv)) := by
                    show World.ownsRow _ _ _ _ _ _ _
                    rw [← hw10, List.map_append]
                    exact own_heap HO107.out (fun k hk => Below.heap_setCell w9 ⟨yb, 3, none⟩ _ k (fun e => own_cells HO107.out HYB9.out (by decide) (hk.trans (congrArg some e))))
                  clear hw10 ht9 hb79 y3 f3 e3 x2 f2
                  have HBR10 : Hid (Below wr.heap.size wr w10) := HBR7.out.trans (HB10.out.mono HBR7.out.size)
                  have HL10B : Hid (w.heap.size + 2 ≤ w10.heap.size) := HT10.out.2.2.2
                  have HSOF : Hid (∀ v, Below w10.heap.size w10 v → v.heap[w.heap.size]? = some (.cells #[.string (tx nm), .bool false, .int .u64 ru, .slice xA xn xc] 25) ∧ v.heap[bx]? = some (.cells #[.string (tx nm), .bool false, .int .u64 ru2, .slice xA xn xc] 25) ∧ v.heap[yb]? = some (.cells #[.string (tx nm), .bool false, .int .u64 ru, .slice Ay (xn + 1) cy] 25) ∧ Below w.heap.size w v) := fun v hb => ⟨(hb.block _ (lt_of_heap HT10.out.1)).trans HT10.out.1, (hb.block _ (lt_of_heap HX10.out)).trans HX10.out, (hb.block _ (lt_of_heap HY10.out)).trans HY10.out, HT10.out.2.2.1.trans (hb.mono HT10.out.2.2.1.size)⟩
                  have HO10 : Hid (∀ v, Below w10.heap.size w10 v → v.ownsRow (w.heap.size + 2) 22 1 (.slice A7 xn c7) xn ((rowN HS xn).map qv)) := fun v hb => own_below (own_below HO7.out HBR10.out) hb
                  have HO10B : Hid (∀ v, Below w10.heap.size w10 v → v.ownsRow (w.heap.size + 2) 22 1 (.slice A8 xn c8) xn ((rowN OT xn).map qv)) := fun v hb => own_below (own_below HO8.out HBR10.out) hb
                  have HST : Hid (∀ v, Below w10.heap.size w10 v → StateIn v (w6.alloc (.cells #[.int .i64 1, .string (tx nm), .int .u64 ru, .slice A6 xn c6, .int .u64 zo, .int .u64 8, .string { data := #[] }] 36)).heap.size A15 n15 c15 zs) := fun v hb => state_below (state_below HST7.out HB10.out) hb
                  have HOY : Hid (∀ v', Below w10.heap.size w10 v' → v'.ownsRow v.heap.size 9 1 (.slice Ay (xn + 1) cy) (xn + 1) ((ds ++ [[109, 111, 114, 101]]).map tsv)) := fun v' hb => own_below HOY0.out hb
                  obtain ⟨y, hyl, hys⟩ := HY15.out
                  have hhl : ((qI (rowN HS xn))).length = ds.length := by rw [qI_len, rowN_len]; exact HXL.out.symm
                  have HXW : Hid (∀ W, Below w10.heap.size w10 W → Reads W W.heap.size 1 xA xn (ds.map tsv)) := fun W hb => HXN.out W (HT10.out.2.2.1.trans (hb.mono HT10.out.2.2.1.size))
                  have hn15 : n15 ≤ 31 := HN15.out
                  have HW1 : Hid (∀ W, Below w10.heap.size w10 W → Calls Try.prog 9 #[.agg #[.string (tx nm), .bool false, .int .u64 ru, .slice xA xn xc], .slice A15 n15 c15, .slice A7 xn c7] W fun e w' => e = .returned (.int .i64 0) ∧ Below W.heap.size W w') := fun W hb => (why_any (⟨⟨nm, false, ru, ds⟩, xA, xn, xc⟩ : Nw) A15 n15 c15 zs A7 xn c7 (qI (rowN HS xn)) (by omega) (by show xn ≤ _; omega) HZN.out W (HXW.out W hb) (state_in (HST.out W hb)) (by rw [qI_qv]; exact Reads.of_own (HO10.out W hb))).mono fun e w' ⟨z, h1, h2, h3⟩ => by
                    obtain rfl : z = 0 := whyN_one h1 (why_same hyl hys hhl)
                    exact ⟨h2, h3⟩
                  have HW2 : Hid (∀ W, Below w10.heap.size w10 W → Calls Try.prog 9 #[.agg #[.string (tx nm), .bool false, .int .u64 ru, .slice xA xn xc], .slice A15 n15 c15, .slice A8 xn c8] W fun e w' => ∃ z2 : Int, (z2 == 0) = b ∧ e = .returned (.int .i64 z2) ∧ Below W.heap.size W w') := fun W hb => (why_any (⟨⟨nm, false, ru, ds⟩, xA, xn, xc⟩ : Nw) A15 n15 c15 zs A8 xn c8 (qI (rowN OT xn)) (by omega) (by show xn ≤ _; omega) HZN.out W (HXW.out W hb) (state_in (HST.out W hb)) (by rw [qI_qv]; exact Reads.of_own (HO10B.out W hb))).mono fun e w' ⟨z, h1, h2, h3⟩ => by
                    refine ⟨z, ?_, h2, h3⟩
                    rw [Bool.eq_iff_iff, beq_iff_eq, why_other hyl HXL.out hys h1]
                    exact (eq_up HEQ).symm
                  have HW3 : Hid (∀ W, Below w10.heap.size w10 W → Calls Try.prog 9 #[.agg #[.string (tx nm), .bool false, .int .u64 ru2, .slice xA xn xc], .slice A15 n15 c15, .slice A7 xn c7] W fun e w' => e = .returned (.int .i64 2) ∧ Below W.heap.size W w') := fun W hb => (why_any (⟨⟨nm, false, ru2, ds⟩, xA, xn, xc⟩ : Nw) A15 n15 c15 zs A7 xn c7 (qI (rowN HS xn)) (by omega) (by show xn ≤ _; omega) HZN.out W (HXW.out W hb) (state_in (HST.out W hb)) (by rw [qI_qv]; exact Reads.of_own (HO10.out W hb))).mono fun e w' ⟨z, h1, h2, h3⟩ => by
                    obtain rfl : z = 2 := whyN_one h1 (why_rule hyl hys HRNE.out)
                    exact ⟨h2, h3⟩
                  have HW4 : Hid (∀ (W : World) (A138 : Option Addr) (c138 : Nat), Recs W W.heap.size A15 n15 zs → Reads W W.heap.size 1 Ay (xn + 1) ((ds ++ [[109, 111, 114, 101]]).map tsv) → Reads W W.heap.size 1 A138 (xn + 1) ((qI (rowN HS xn ++ [1#64])).map (Value.int .u64)) → Calls Try.prog 9 #[.agg #[.string (tx nm), .bool false, .int .u64 ru, .slice Ay (xn + 1) cy], .slice A15 n15 c15, .slice A138 (xn + 1) c138] W fun e w' => e = .returned (.int .i64 3) ∧ Below W.heap.size W w') := fun W A138 c138 h1 h2 h3 => (why_any (⟨⟨nm, false, ru, ds ++ [[109, 111, 114, 101]]⟩, Ay, xn + 1, cy⟩ : Nw) A15 n15 c15 zs A138 (xn + 1) c138 (qI (rowN HS xn ++ [1#64])) (by omega) (by show xn + 1 ≤ _; omega) HZN.out W h2 h1 h3).mono fun e w' ⟨z, h1, h2, h3⟩ => by
                    obtain rfl : z = 3 := whyN_one h1 (why_deps hyl hys hhl)
                    exact ⟨h2, h3⟩
                  clear hyl hys hhl
                  have hS0 : Below w10.heap.size w10 w10.drew := (Below.refl _ w10).drew
                  have HSD := Lib.hid hS0
                  refine wp_region_held (S := fun v => v.heap[w.heap.size]? = some (.cells #[.string (tx nm), .bool false, .int .u64 ru, .slice xA xn xc] 25) ∧ v.heap[bx]? = some (.cells #[.string (tx nm), .bool false, .int .u64 ru2, .slice xA xn xc] 25) ∧ v.heap[yb]? = some (.cells #[.string (tx nm), .bool false, .int .u64 ru, .slice Ay (xn + 1) cy] 25) ∧ Below w.heap.size w v) (by kernel_rfl) (show wpAnyH _ _ _ _ _ _ _ _ (w10.drew) from ?_)
                  generalize w10.drew = wd at HSD hS0 ⊢
                  clear hS0
                  refine h_one 0 rfl (by kernel_rfl) (by kernel_rfl) (fun K hK => ?_)
                  go_simp
                  refine (dfixed_any _).mono ?_
                  rintro e wf ⟨rfl, hbf⟩
                  have HBf : Hid (Below w10.heap.size w10 wf) := HSD.out.trans (hbf.mono HSD.out.size)
                  clear hbf
                  refine hK _ _ (HSOF.out _ HBf.out) ?_
                  clear hK K
                  refine h_take 1 (.bool true) rfl (by kernel_rfl) (by kernel_rfl) (by kernel_rfl) (fun _ _ _ h => h) (by kernel_rfl) (HSOF.out _ HBf.out) (fun _ _ => by kernel_rfl) ?_
                  refine h_take 2 (.agg #[.string (tx nm), .bool false, .int .u64 ru, .slice xA xn xc]) rfl (by kernel_rfl) (by kernel_rfl) (by kernel_rfl) (fun _ _ _ h => h) (by kernel_rfl) (HSOF.out _ HBf.out) (by intro v hv; have b0 := at_cell (i := 0) hv.1 rfl; have b1 := at_cell (i := 1) hv.1 rfl; have b2 := at_cell (i := 2) hv.1 rfl; have b3 := at_cell (i := 3) hv.1 rfl; go_simp) ?_
                  refine h_take 3 (.slice A15 n15 c15) rfl (by kernel_rfl) (by kernel_rfl) (by kernel_rfl) (fun _ _ _ h => h) (by kernel_rfl) (HSOF.out _ HBf.out) (fun _ _ => by kernel_rfl) ?_
                  refine h_take 4 (.slice A7 xn c7) rfl (by kernel_rfl) (by kernel_rfl) (by kernel_rfl) (fun _ _ _ h => h) (by kernel_rfl) (HSOF.out _ HBf.out) (fun _ _ => by kernel_rfl) ?_
                  refine h_one 5 rfl (by kernel_rfl) (by kernel_rfl) (fun K hK => ?_)
                  go_simp
                  refine (HW1.out _ HBf.out).mono ?_
                  rintro e wg ⟨rfl, hbg⟩
                  have HBg : Hid (Below w10.heap.size w10 wg) := HBf.out.trans (hbg.mono HBf.out.size)
                  clear hbg
                  refine hK _ _ (HSOF.out _ HBg.out) ?_
                  clear hK K
                  refine h_take 6 (.bool true) rfl (by kernel_rfl) (by kernel_rfl) (by kernel_rfl) (fun _ _ _ h => h) (by kernel_rfl) (HSOF.out _ HBg.out) (by intro v hv; go_simp) ?_
                  refine h_take 7 (.bool true) rfl (by kernel_rfl) (by kernel_rfl) (by kernel_rfl) (fun _ _ _ h => h) (by kernel_rfl) (HSOF.out _ HBg.out) (fun _ _ => by kernel_rfl) ?_
                  refine h_take 8 (.bool true) rfl (by kernel_rfl) (by kernel_rfl) (by kernel_rfl) (fun _ _ _ h => h) (by kernel_rfl) (HSOF.out _ HBg.out) (fun _ _ => by kernel_rfl) ?_
                  refine h_take 9 (.agg #[.string (tx nm), .bool false, .int .u64 ru, .slice xA xn xc]) rfl (by kernel_rfl) (by kernel_rfl) (by kernel_rfl) (fun _ _ _ h => h) (by kernel_rfl) (HSOF.out _ HBg.out) (by intro v hv; have b0 := at_cell (i := 0) hv.1 rfl; have b1 := at_cell (i := 1) hv.1 rfl; have b2 := at_cell (i := 2) hv.1 rfl; have b3 := at_cell (i := 3) hv.1 rfl; go_simp) ?_
                  refine h_take 10 (.slice A15 n15 c15) rfl (by kernel_rfl) (by kernel_rfl) (by kernel_rfl) (fun _ _ _ h => h) (by kernel_rfl) (HSOF.out _ HBg.out) (fun _ _ => by kernel_rfl) ?_
                  refine h_take 11 (.slice A8 xn c8) rfl (by kernel_rfl) (by kernel_rfl) (by kernel_rfl) (fun _ _ _ h => h) (by kernel_rfl) (HSOF.out _ HBg.out) (fun _ _ => by kernel_rfl) ?_
                  refine h_take 14 (.bool b) rfl (by kernel_rfl) (by kernel_rfl) (by kernel_rfl) (fun _ _ _ h => h) (by kernel_rfl) (HSOF.out _ HBg.out) (fun _ _ => by kernel_rfl) ?_
                  refine h_one 12 rfl (by kernel_rfl) (by kernel_rfl) (fun K hK => ?_)
                  go_simp
                  refine (HW2.out _ HBg.out).mono ?_
                  rintro e wh ⟨z2, hz2b, rfl, hbh⟩
                  have HBh : Hid (Below w10.heap.size w10 wh) := HBg.out.trans (hbh.mono HBg.out.size)
                  clear hbh
                  refine hK _ _ (HSOF.out _ HBh.out) ?_
                  clear hK K
                  refine h_take 13 (.bool b) rfl (by kernel_rfl) (by kernel_rfl) (by kernel_rfl) (fun _ _ _ h => h) (by kernel_rfl) (HSOF.out _ HBh.out) (by intro v hv; go_simp) ?_
                  refine h_take 15 (.bool true) rfl (by kernel_rfl) (by kernel_rfl) (by kernel_rfl) (fun _ _ _ h => h) (by kernel_rfl) (HSOF.out _ HBh.out) (by intro v hv; go_simp) ?_
                  refine h_take 16 (.bool true) rfl (by kernel_rfl) (by kernel_rfl) (by kernel_rfl) (fun _ _ _ h => h) (by kernel_rfl) (HSOF.out _ HBh.out) (fun _ _ => by kernel_rfl) ?_
                  refine h_take 17 (.bool true) rfl (by kernel_rfl) (by kernel_rfl) (by kernel_rfl) (fun _ _ _ h => h) (by kernel_rfl) (HSOF.out _ HBh.out) (fun _ _ => by kernel_rfl) ?_
                  refine h_take 18 (.agg #[.string (tx nm), .bool false, .int .u64 ru2, .slice xA xn xc]) rfl (by kernel_rfl) (by kernel_rfl) (by kernel_rfl) (fun _ _ _ h => h) (by kernel_rfl) (HSOF.out _ HBh.out) (by intro v hv; have b0 := at_cell (i := 0) hv.2.1 rfl; have b1 := at_cell (i := 1) hv.2.1 rfl; have b2 := at_cell (i := 2) hv.2.1 rfl; have b3 := at_cell (i := 3) hv.2.1 rfl; go_simp) ?_
                  refine h_take 19 (.slice A15 n15 c15) rfl (by kernel_rfl) (by kernel_rfl) (by kernel_rfl) (fun _ _ _ h => h) (by kernel_rfl) (HSOF.out _ HBh.out) (fun _ _ => by kernel_rfl) ?_
                  refine h_take 20 (.slice A7 xn c7) rfl (by kernel_rfl) (by kernel_rfl) (by kernel_rfl) (fun _ _ _ h => h) (by kernel_rfl) (HSOF.out _ HBh.out) (fun _ _ => by kernel_rfl) ?_
                  refine h_one 21 rfl (by kernel_rfl) (by kernel_rfl) (fun K hK => ?_)
                  go_simp
                  refine (HW3.out _ HBh.out).mono ?_
                  rintro e wi ⟨rfl, hbi⟩
                  have HBi : Hid (Below w10.heap.size w10 wi) := HBh.out.trans (hbi.mono HBh.out.size)
                  clear hbi
                  refine hK _ _ (HSOF.out _ HBi.out) ?_
                  clear hK K
                  refine h_take 22 (.bool true) rfl (by kernel_rfl) (by kernel_rfl) (by kernel_rfl) (fun _ _ _ h => h) (by kernel_rfl) (HSOF.out _ HBi.out) (by intro v hv; go_simp) ?_
                  refine h_take 23 (.bool true) rfl (by kernel_rfl) (by kernel_rfl) (by kernel_rfl) (fun _ _ _ h => h) (by kernel_rfl) (HSOF.out _ HBi.out) (fun _ _ => by kernel_rfl) ?_
                  refine h_take 24 (.bool true) rfl (by kernel_rfl) (by kernel_rfl) (by kernel_rfl) (fun _ _ _ h => h) (by kernel_rfl) (HSOF.out _ HBi.out) (fun _ _ => by kernel_rfl) ?_
                  refine h_take 25 (.agg #[.string (tx nm), .bool false, .int .u64 ru, .slice Ay (xn + 1) cy]) rfl (by kernel_rfl) (by kernel_rfl) (by kernel_rfl) (fun _ _ _ h => h) (by kernel_rfl) (HSOF.out _ HBi.out) (by intro v hv; have b0 := at_cell (i := 0) hv.2.2.1 rfl; have b1 := at_cell (i := 1) hv.2.2.1 rfl; have b2 := at_cell (i := 2) hv.2.2.1 rfl; have b3 := at_cell (i := 3) hv.2.2.1 rfl; go_simp) ?_
                  refine h_take 26 (.slice A15 n15 c15) rfl (by kernel_rfl) (by kernel_rfl) (by kernel_rfl) (fun _ _ _ h => h) (by kernel_rfl) (HSOF.out _ HBi.out) (fun _ _ => by kernel_rfl) ?_
                  refine h_take 27 (.slice A7 xn c7) rfl (by kernel_rfl) (by kernel_rfl) (by kernel_rfl) (fun _ _ _ h => h) (by kernel_rfl) (HSOF.out _ HBi.out) (fun _ _ => by kernel_rfl) ?_
                  refine h_one 28 rfl (by kernel_rfl) (by kernel_rfl) (fun K hK => ?_)
                  go_simp
                  have HAL : Hid (Below w10.heap.size w10 (wi.alloc (.cells #[.int .u64 1] 22))) := HBi.out.alloc HBi.out.size _
                  refine hK _ _ (HSOF.out _ HAL.out) ?_
                  clear hK K
                  have HO12 := Lib.hid (HO10.out _ HAL.out)
                  refine h_one 29 rfl (by kernel_rfl) (by kernel_rfl) (fun K hK => ?_)
                  refine wp_append_many (.tmp 136) (.tmp 137) 27 rfl (w.heap.size + 2) 22 ii _ 1 8 Try.underlying27 hi0 hz0 hz1 hz2 rfl (by decide) (.slice A7 xn c7) xn _ rfl HO12.out (some ⟨wi.heap.size, 0, none⟩) 1 1 (wi.heap.size + 1) [.int .u64 1] rfl (by intro h; cases h) (reads_one_row wi 22 _) (by intro u hu; simp at hu; subst hu; rfl) (by unfold maxLen; omega) (by omega) (by have := HAL.out.size; have := HL10B.out; omega) ?_
                  intro v138 w12 ho hg _
                  have HG12 := Lib.hid hg
                  obtain ⟨A138, c138, rfl, _⟩ := own_slice ho
                  have HRQ : Hid (Reads w12 w12.heap.size 1 A138 (xn + 1) ((qI (rowN HS xn ++ [1#64])).map (Value.int .u64))) := by
                    show Reads _ _ _ _ _ _
                    rw [qI_qv, List.map_append]
                    exact Reads.of_own ho
                  have HST12 := Lib.hid (state_kept (HST.out _ HAL.out) HO12.out hg)
                  have HOY12 := Lib.hid (own_kept (HOY.out _ HAL.out) (own_apart HO12.out (HOY.out _ HAL.out) (by decide)) hg)
                  have HS12 : Hid (w12.heap[w.heap.size]? = some (.cells #[.string (tx nm), .bool false, .int .u64 ru, .slice xA xn xc] 25) ∧ w12.heap[bx]? = some (.cells #[.string (tx nm), .bool false, .int .u64 ru2, .slice xA xn xc] 25) ∧ w12.heap[yb]? = some (.cells #[.string (tx nm), .bool false, .int .u64 ru, .slice Ay (xn + 1) cy] 25) ∧ Below w.heap.size w w12) := by
                    have h0 := HSOF.out _ HAL.out
                    have hk : ∀ (k : Nat) (cs : Array Value), (wi.alloc (.cells #[.int .u64 1] 22)).heap[k]? = some (.cells cs 25) → w12.heap[k]? = some (.cells cs 25) := fun k cs hc => (hg.block k (Array.getElem?_eq_some_iff.1 hc).1 (fun e => own_cells HO12.out hc (by decide) e.symm)).trans hc
                    exact ⟨hk _ _ h0.1, hk _ _ h0.2.1, hk _ _ h0.2.2.1, h0.2.2.2.grown hg h0.2.2.2.size (fun j hj => by have := own_block HO12.out j hj; omega)⟩
                  clear ho hg
                  refine hK _ _ HS12.out ?_
                  clear hK K
                  refine h_one 30 rfl (by kernel_rfl) (by kernel_rfl) (fun K hK => ?_)
                  go_simp
                  refine (HW4.out _ A138 c138 (state_in HST12.out) (Reads.of_own HOY12.out) HRQ.out).mono ?_
                  rintro e wj ⟨rfl, hbj⟩
                  have HSJ : Hid (wj.heap[w.heap.size]? = some (.cells #[.string (tx nm), .bool false, .int .u64 ru, .slice xA xn xc] 25) ∧ wj.heap[bx]? = some (.cells #[.string (tx nm), .bool false, .int .u64 ru2, .slice xA xn xc] 25) ∧ wj.heap[yb]? = some (.cells #[.string (tx nm), .bool false, .int .u64 ru, .slice Ay (xn + 1) cy] 25) ∧ Below w.heap.size w wj) := ⟨(hbj.block _ (lt_of_heap HS12.out.1)).trans HS12.out.1, (hbj.block _ (lt_of_heap HS12.out.2.1)).trans HS12.out.2.1, (hbj.block _ (lt_of_heap HS12.out.2.2.1)).trans HS12.out.2.2.1, HS12.out.2.2.2.trans (hbj.mono HS12.out.2.2.2.size)⟩
                  clear hbj
                  refine hK _ _ HSJ.out ?_
                  clear hK K
                  refine h_take 31 (.bool true) rfl (by kernel_rfl) (by kernel_rfl) (by kernel_rfl) (fun _ _ _ h => h) (by kernel_rfl) HSJ.out (by intro v hv; go_simp) ?_
                  refine h_take 32 (.bool true) rfl (by kernel_rfl) (by kernel_rfl) (by kernel_rfl) (fun _ _ _ h => h) (by kernel_rfl) HSJ.out (fun _ _ => by kernel_rfl) ?_
                  refine h_take 33 (.bool true) rfl (by kernel_rfl) (by kernel_rfl) (by kernel_rfl) (fun _ _ _ h => h) (by kernel_rfl) HSJ.out (fun _ _ => by kernel_rfl) ?_
                  refine wpAnyH_done (by kernel_rfl) ?_ _
                  go_simp
                  go_wp2
                  go_ret
                  exact ⟨rfl, HSJ.out.2.2.2⟩
                · have hS0 : Tri w (.cells #[.string (tx nm), .bool false, .int .u64 ru, .slice xA xn xc] 25) (.cells #[.slice H0 m0 d0, .slice H1 m1 d1, .slice H2 m2 d2] 46) w7.drew ∧ Below w7.heap.size w7 w7.drew := ⟨HT7.out.drew, (Below.refl _ w7).drew⟩
                  have HSD := Lib.hid hS0
                  refine wp_region_held (S := fun v => Tri w (.cells #[.string (tx nm), .bool false, .int .u64 ru, .slice xA xn xc] 25) (.cells #[.slice H0 m0 d0, .slice H1 m1 d1, .slice H2 m2 d2] 46) v ∧ Below w7.heap.size w7 v) (by kernel_rfl) (show wpAnyH _ _ _ _ _ _ _ _ (w7.drew) from ?_)
                  generalize w7.drew = wd at HSD hS0 ⊢
                  clear hS0
                  refine h_take 0 (.agg #[.string (tx nm), .bool false, .int .u64 ru, .slice xA xn xc]) rfl (by kernel_rfl) (by kernel_rfl) (by kernel_rfl) (fun _ _ _ h => h) (by kernel_rfl) HSD.out (by intro v hv; have b0 := at_cell (i := 0) hv.1.1 rfl; have b1 := at_cell (i := 1) hv.1.1 rfl; have b2 := at_cell (i := 2) hv.1.1 rfl; have b3 := at_cell (i := 3) hv.1.1 rfl; go_simp) ?_
                  refine h_take 1 (.agg #[.string (tx nm), .bool false, .int .u64 ru, .slice xA xn xc]) rfl (by kernel_rfl) (by kernel_rfl) (by kernel_rfl) (fun _ _ _ h => h) (by kernel_rfl) HSD.out (by intro v hv; have b0 := at_cell (i := 0) hv.1.1 rfl; have b1 := at_cell (i := 1) hv.1.1 rfl; have b2 := at_cell (i := 2) hv.1.1 rfl; have b3 := at_cell (i := 3) hv.1.1 rfl; go_simp) ?_
                  refine h_either 2 3 rfl rfl (by kernel_rfl) (by kernel_rfl) (by kernel_rfl) (fun K hK => ?_) (fun K hK => ?_)
                  · go_simp
                    have hnew := one_new wd (.cells #[.string { data := #[] }, .bool false, .int .u64 0, .slice none 0 0] 25)
                    have hbn := HSD.out.2.alloc HSD.out.2.size (.cells #[.string { data := #[] }, .bool false, .int .u64 0, .slice none 0 0] 25)
                    have htn := HSD.out.1.alloc (.cells #[.string { data := #[] }, .bool false, .int .u64 0, .slice none 0 0] 25)
                    have hsz : (wd.alloc (.cells #[.string { data := #[] }, .bool false, .int .u64 0, .slice none 0 0] 25)).heap.size = wd.heap.size + 1 := by simp
                    generalize wd.alloc (.cells #[.string { data := #[] }, .bool false, .int .u64 0, .slice none 0 0] 25) = wa at *
                    have HBa : Hid (Tri w (.cells #[.string (tx nm), .bool false, .int .u64 ru, .slice xA xn xc] 25) (.cells #[.slice H0 m0 d0, .slice H1 m1 d1, .slice H2 m2 d2] 46) wa ∧ Below w7.heap.size w7 wa) := ⟨htn, hbn⟩
                    have HLa := Lib.hid hnew
                    clear hnew hbn htn hsz
                    refine hK _ _ HBa.out ?_
                    clear hK K
                    have HNE : Hid (wd.heap.size ≠ wa.heap.size) := by have := lt_of_heap HLa.out; show _ ≠ _; omega
                    have HBD1 : Hid (w7.heap.size ≤ wd.heap.size) := HSD.out.2.size
                    have HBD2 : Hid (w7.heap.size ≤ wa.heap.size) := HBa.out.2.size
                    refine h_one 3 rfl (by kernel_rfl) (by kernel_rfl) (fun K hK => ?_)
                    go_simp
                    have hnew := one_new wa (.cells #[.string { data := #[] }, .bool false, .int .u64 0, .slice none 0 0] 25)
                    have hbn := HBa.out.2.alloc HBa.out.2.size (.cells #[.string { data := #[] }, .bool false, .int .u64 0, .slice none 0 0] 25)
                    have htn := HBa.out.1.alloc (.cells #[.string { data := #[] }, .bool false, .int .u64 0, .slice none 0 0] 25)
                    have hsz : (wa.alloc (.cells #[.string { data := #[] }, .bool false, .int .u64 0, .slice none 0 0] 25)).heap.size = wa.heap.size + 1 := by simp
                    have hkn := (Below.heap_alloc wa (.cells #[.string { data := #[] }, .bool false, .int .u64 0, .slice none 0 0] 25) _ (lt_of_heap HLa.out)).trans HLa.out
                    generalize wa.alloc (.cells #[.string { data := #[] }, .bool false, .int .u64 0, .slice none 0 0] 25) = wb at *
                    have HBb : Hid (Tri w (.cells #[.string (tx nm), .bool false, .int .u64 ru, .slice xA xn xc] 25) (.cells #[.slice H0 m0 d0, .slice H1 m1 d1, .slice H2 m2 d2] 46) wb ∧ Below w7.heap.size w7 wb) := ⟨htn, hbn⟩
                    have HLb := Lib.hid hnew
                    have HLaB := Lib.hid hkn
                    clear hnew hbn htn hsz hkn
                    refine hK _ _ HBb.out ?_
                    clear hK K
                    refine h_one 4 rfl (by kernel_rfl) (by kernel_rfl) (fun K hK => ?_)
                    refine wp_store_box (.tmp 16) (.tmp 96) rfl wd.heap.size _ _ _ _ _ _ _ _ rfl rfl HLaB.out (by intro u hu; simp only [List.mem_cons, List.not_mem_nil, or_false] at hu; rcases hu with rfl | rfl | rfl | rfl <;> rfl) ?_
                    intro wc hs hg
                    have wcS := Lib.hid hs
                    have wcO := Lib.hid ((hg.block wa.heap.size (lt_of_heap HLb.out) (fun e => HNE.out.symm (Option.some.inj e))).trans HLb.out)
                    have HBc : Hid (Tri w (.cells #[.string (tx nm), .bool false, .int .u64 ru, .slice xA xn xc] 25) (.cells #[.slice H0 m0 d0, .slice H1 m1 d1, .slice H2 m2 d2] 46) wc ∧ Below w7.heap.size w7 wc) := ⟨HBb.out.1.grown hg (fun k hk => by cases hk; have := HT7.out.2.2.2; have := HBD1.out; omega), HBb.out.2.grown hg HBb.out.2.size (fun k hk => by cases hk; exact HBD1.out)⟩
                    clear hs hg
                    refine hK _ _ HBc.out ?_
                    clear hK K
                    refine h_one 5 rfl (by kernel_rfl) (by kernel_rfl) (fun K hK => ?_)
                    refine wp_store_box (.tmp 17) (.tmp 97) rfl wa.heap.size _ _ _ _ _ _ _ _ rfl rfl wcO.out (by intro u hu; simp only [List.mem_cons, List.not_mem_nil, or_false] at hu; rcases hu with rfl | rfl | rfl | rfl <;> rfl) ?_
                    intro we hs hg
                    have weS := Lib.hid hs
                    have weO := Lib.hid ((hg.block wd.heap.size (lt_of_heap wcS.out) (fun e => HNE.out (Option.some.inj e))).trans wcS.out)
                    have HBe : Hid (Tri w (.cells #[.string (tx nm), .bool false, .int .u64 ru, .slice xA xn xc] 25) (.cells #[.slice H0 m0 d0, .slice H1 m1 d1, .slice H2 m2 d2] 46) we ∧ Below w7.heap.size w7 we) := ⟨HBc.out.1.grown hg (fun k hk => by cases hk; have := HT7.out.2.2.2; have := HBD2.out; omega), HBc.out.2.grown hg HBc.out.2.size (fun k hk => by cases hk; exact HBD2.out)⟩
                    clear hs hg
                    refine hK _ _ HBe.out ?_
                    clear hK K
                    refine wpAnyH_done (by kernel_rfl) ?_ _
                    go_simp
                    rw [HM.out]
                    exact ⟨_, _, _, _, _, _, _, _, _, _, _, _, _, _, _, _, _, _, _, _, _, _, _, _, _, _, _, _, _, _, _, _, _, _, _, _, _, _, _, _, _, _, _, _, _, _, _, _, _, _, _, _, _, _, _, _, _, _, _, _, _, _, _, _, _, _, _, _, _, _, _, _, _, _, _, _, _, _, _, _, _, _, _, _, wd.heap.size, wa.heap.size, rfl, weO.out, weS.out, HNE.out, HBD1.out, HBD2.out, HBe.out.2⟩
                  · go_simp
                    have hnew := one_new wd (.cells #[.string { data := #[] }, .bool false, .int .u64 0, .slice none 0 0] 25)
                    have hbn := HSD.out.2.alloc HSD.out.2.size (.cells #[.string { data := #[] }, .bool false, .int .u64 0, .slice none 0 0] 25)
                    have htn := HSD.out.1.alloc (.cells #[.string { data := #[] }, .bool false, .int .u64 0, .slice none 0 0] 25)
                    have hsz : (wd.alloc (.cells #[.string { data := #[] }, .bool false, .int .u64 0, .slice none 0 0] 25)).heap.size = wd.heap.size + 1 := by simp
                    generalize wd.alloc (.cells #[.string { data := #[] }, .bool false, .int .u64 0, .slice none 0 0] 25) = wa at *
                    have HBa : Hid (Tri w (.cells #[.string (tx nm), .bool false, .int .u64 ru, .slice xA xn xc] 25) (.cells #[.slice H0 m0 d0, .slice H1 m1 d1, .slice H2 m2 d2] 46) wa ∧ Below w7.heap.size w7 wa) := ⟨htn, hbn⟩
                    have HLa := Lib.hid hnew
                    clear hnew hbn htn hsz
                    refine hK _ _ HBa.out ?_
                    clear hK K
                    have HNE : Hid (wd.heap.size ≠ wa.heap.size) := by have := lt_of_heap HLa.out; show _ ≠ _; omega
                    have HBD1 : Hid (w7.heap.size ≤ wd.heap.size) := HSD.out.2.size
                    have HBD2 : Hid (w7.heap.size ≤ wa.heap.size) := HBa.out.2.size
                    refine h_one 2 rfl (by kernel_rfl) (by kernel_rfl) (fun K hK => ?_)
                    go_simp
                    have hnew := one_new wa (.cells #[.string { data := #[] }, .bool false, .int .u64 0, .slice none 0 0] 25)
                    have hbn := HBa.out.2.alloc HBa.out.2.size (.cells #[.string { data := #[] }, .bool false, .int .u64 0, .slice none 0 0] 25)
                    have htn := HBa.out.1.alloc (.cells #[.string { data := #[] }, .bool false, .int .u64 0, .slice none 0 0] 25)
                    have hsz : (wa.alloc (.cells #[.string { data := #[] }, .bool false, .int .u64 0, .slice none 0 0] 25)).heap.size = wa.heap.size + 1 := by simp
                    have hkn := (Below.heap_alloc wa (.cells #[.string { data := #[] }, .bool false, .int .u64 0, .slice none 0 0] 25) _ (lt_of_heap HLa.out)).trans HLa.out
                    generalize wa.alloc (.cells #[.string { data := #[] }, .bool false, .int .u64 0, .slice none 0 0] 25) = wb at *
                    have HBb : Hid (Tri w (.cells #[.string (tx nm), .bool false, .int .u64 ru, .slice xA xn xc] 25) (.cells #[.slice H0 m0 d0, .slice H1 m1 d1, .slice H2 m2 d2] 46) wb ∧ Below w7.heap.size w7 wb) := ⟨htn, hbn⟩
                    have HLb := Lib.hid hnew
                    have HLaB := Lib.hid hkn
                    clear hnew hbn htn hsz hkn
                    refine hK _ _ HBb.out ?_
                    clear hK K
                    refine h_one 4 rfl (by kernel_rfl) (by kernel_rfl) (fun K hK => ?_)
                    refine wp_store_box (.tmp 16) (.tmp 96) rfl wa.heap.size _ _ _ _ _ _ _ _ rfl rfl HLb.out (by intro u hu; simp only [List.mem_cons, List.not_mem_nil, or_false] at hu; rcases hu with rfl | rfl | rfl | rfl <;> rfl) ?_
                    intro wc hs hg
                    have wcS := Lib.hid hs
                    have wcO := Lib.hid ((hg.block wd.heap.size (lt_of_heap HLaB.out) (fun e => HNE.out (Option.some.inj e))).trans HLaB.out)
                    have HBc : Hid (Tri w (.cells #[.string (tx nm), .bool false, .int .u64 ru, .slice xA xn xc] 25) (.cells #[.slice H0 m0 d0, .slice H1 m1 d1, .slice H2 m2 d2] 46) wc ∧ Below w7.heap.size w7 wc) := ⟨HBb.out.1.grown hg (fun k hk => by cases hk; have := HT7.out.2.2.2; have := HBD2.out; omega), HBb.out.2.grown hg HBb.out.2.size (fun k hk => by cases hk; exact HBD2.out)⟩
                    clear hs hg
                    refine hK _ _ HBc.out ?_
                    clear hK K
                    refine h_one 5 rfl (by kernel_rfl) (by kernel_rfl) (fun K hK => ?_)
                    refine wp_store_box (.tmp 17) (.tmp 97) rfl wd.heap.size _ _ _ _ _ _ _ _ rfl rfl wcO.out (by intro u hu; simp only [List.mem_cons, List.not_mem_nil, or_false] at hu; rcases hu with rfl | rfl | rfl | rfl <;> rfl) ?_
                    intro we hs hg
                    have weS := Lib.hid hs
                    have weO := Lib.hid ((hg.block wa.heap.size (lt_of_heap wcS.out) (fun e => HNE.out.symm (Option.some.inj e))).trans wcS.out)
                    have HBe : Hid (Tri w (.cells #[.string (tx nm), .bool false, .int .u64 ru, .slice xA xn xc] 25) (.cells #[.slice H0 m0 d0, .slice H1 m1 d1, .slice H2 m2 d2] 46) we ∧ Below w7.heap.size w7 we) := ⟨HBc.out.1.grown hg (fun k hk => by cases hk; have := HT7.out.2.2.2; have := HBD1.out; omega), HBc.out.2.grown hg HBc.out.2.size (fun k hk => by cases hk; exact HBD1.out)⟩
                    clear hs hg
                    refine hK _ _ HBe.out ?_
                    clear hK K
                    refine wpAnyH_done (by kernel_rfl) ?_ _
                    go_simp
                    rw [HM.out]
                    exact ⟨_, _, _, _, _, _, _, _, _, _, _, _, _, _, _, _, _, _, _, _, _, _, _, _, _, _, _, _, _, _, _, _, _, _, _, _, _, _, _, _, _, _, _, _, _, _, _, _, _, _, _, _, _, _, _, _, _, _, _, _, _, _, _, _, _, _, _, _, _, _, _, _, _, _, _, _, _, _, _, _, _, _, _, _, wa.heap.size, wd.heap.size, rfl, weO.out, weS.out, HNE.out.symm, HBD2.out, HBD1.out, HBe.out.2⟩
        · have d61 : decide ((m1 : Int) > 60) = true := decide_eq_true (by omega)
          clear hr hh0 hh1 hf hfit hx hl h30 hxl hx60 sn sm hxn hcm hac hm0 hm1 h0l h1l hru
          go_enter Try.func5, Try.ntmps5
          go_wp2_with (first
            | (go_at_call 8; refine (dfixed_any _).mono ?_; rintro e w9 ⟨rfl, hb9⟩; have HB9 := Lib.hid (HT3.out.2.2.1.trans (hb9.mono HT3.out.2.2.1.size)); clear hb9)
            | (go_at_call 7; refine (HG.out _ HT2.out.2.2.1).mono ?_; rintro e w3 ⟨he, hb3⟩; obtain rfl := he.no (fun h => h SM.out); have HT3 := Lib.hid (HT2.out.below hb3); have n0 := at_cell (i := 0) HT3.out.1 rfl; have n1 := at_cell (i := 1) HT3.out.1 rfl; have n2 := at_cell (i := 2) HT3.out.1 rfl; have n3 := at_cell (i := 3) HT3.out.1 rfl; have p0 := at_cell (i := 0) HT3.out.2.1 rfl; have p1 := at_cell (i := 1) HT3.out.2.1 rfl; clear hb3)
            | (go_at_call 6; refine (HNG.out _ HT0.out.2.2.1).mono ?_; rintro e w2 ⟨he, hb2⟩; obtain rfl := he.no (fun h => h SN.out); have HT2 := Lib.hid (HT0.out.below hb2); have n0 := at_cell (i := 0) HT2.out.1 rfl; have n1 := at_cell (i := 1) HT2.out.1 rfl; have n2 := at_cell (i := 2) HT2.out.1 rfl; have n3 := at_cell (i := 3) HT2.out.1 rfl; have p0 := at_cell (i := 0) HT2.out.2.1 rfl; have p1 := at_cell (i := 1) HT2.out.2.1 rfl; clear hb2))
          go_ret
          exact ⟨rfl, HB9.out⟩
      · have d60 : decide ((m0 : Int) > 60) = true := decide_eq_true (by omega)
        clear hr hh0 hh1 hf hfit hx hl h30 hxl hx60 sn sm hxn hcm hac hm0 hm1 h0l h1l hru
        go_enter Try.func5, Try.ntmps5
        go_wp2_with (first
          | (go_at_call 8; refine (dfixed_any _).mono ?_; rintro e w9 ⟨rfl, hb9⟩; have HB9 := Lib.hid (HT3.out.2.2.1.trans (hb9.mono HT3.out.2.2.1.size)); clear hb9)
          | (go_at_call 7; refine (HG.out _ HT2.out.2.2.1).mono ?_; rintro e w3 ⟨he, hb3⟩; obtain rfl := he.no (fun h => h SM.out); have HT3 := Lib.hid (HT2.out.below hb3); have n0 := at_cell (i := 0) HT3.out.1 rfl; have n1 := at_cell (i := 1) HT3.out.1 rfl; have n2 := at_cell (i := 2) HT3.out.1 rfl; have n3 := at_cell (i := 3) HT3.out.1 rfl; have p0 := at_cell (i := 0) HT3.out.2.1 rfl; have p1 := at_cell (i := 1) HT3.out.2.1 rfl; clear hb3)
          | (go_at_call 6; refine (HNG.out _ HT0.out.2.2.1).mono ?_; rintro e w2 ⟨he, hb2⟩; obtain rfl := he.no (fun h => h SN.out); have HT2 := Lib.hid (HT0.out.below hb2); have n0 := at_cell (i := 0) HT2.out.1 rfl; have n1 := at_cell (i := 1) HT2.out.1 rfl; have n2 := at_cell (i := 2) HT2.out.1 rfl; have n3 := at_cell (i := 3) HT2.out.1 rfl; have p0 := at_cell (i := 0) HT2.out.2.1 rfl; have p1 := at_cell (i := 1) HT2.out.2.1 rfl; clear hb2))
        go_ret
        exact ⟨rfl, HB9.out⟩
    · have SM := Lib.hid sm
      obtain ⟨⟨nm, sc, ru, ds⟩, xA, xn, xc⟩ := x
      unfold Nw.val at *
      simp only at *
      have HT0 := Lib.hid (Tri.start w (.cells #[.string (tx nm), .bool sc, .int .u64 ru, .slice xA xn xc] 25) (.cells #[.slice H0 m0 d0, .slice H1 m1 d1, .slice H2 m2 d2] 46))
      have n0 := at_cell (i := 0) HT0.out.1 rfl; have n1 := at_cell (i := 1) HT0.out.1 rfl; have n2 := at_cell (i := 2) HT0.out.1 rfl; have n3 := at_cell (i := 3) HT0.out.1 rfl; have p0 := at_cell (i := 0) HT0.out.2.1 rfl; have p1 := at_cell (i := 1) HT0.out.2.1 rfl
      clear hr hh0 hh1 hf hfit hx sn sm hxn hcm hac hm0 hm1 hru
      go_enter Try.func5, Try.ntmps5
      go_wp2_with (first
        | (go_at_call 8; refine (dfixed_any _).mono ?_; rintro e w9 ⟨rfl, hb9⟩; have HB9 := Lib.hid (HT3.out.2.2.1.trans (hb9.mono HT3.out.2.2.1.size)); clear hb9)
        | (go_at_call 7; refine (HG.out _ HT2.out.2.2.1).mono ?_; rintro e w3 ⟨he, hb3⟩; obtain rfl := he.yes SM.out; have HT3 := Lib.hid (HT2.out.below hb3); have n0 := at_cell (i := 0) HT3.out.1 rfl; have n1 := at_cell (i := 1) HT3.out.1 rfl; have n2 := at_cell (i := 2) HT3.out.1 rfl; have n3 := at_cell (i := 3) HT3.out.1 rfl; have p0 := at_cell (i := 0) HT3.out.2.1 rfl; have p1 := at_cell (i := 1) HT3.out.2.1 rfl; clear hb3)
        | (go_at_call 6; refine (HNG.out _ HT0.out.2.2.1).mono ?_; rintro e w2 ⟨he, hb2⟩; obtain rfl := he.no (fun h => h SN.out); have HT2 := Lib.hid (HT0.out.below hb2); have n0 := at_cell (i := 0) HT2.out.1 rfl; have n1 := at_cell (i := 1) HT2.out.1 rfl; have n2 := at_cell (i := 2) HT2.out.1 rfl; have n3 := at_cell (i := 3) HT2.out.1 rfl; have p0 := at_cell (i := 0) HT2.out.2.1 rfl; have p1 := at_cell (i := 1) HT2.out.2.1 rfl; clear hb2))
      go_ret
      exact ⟨rfl, HB9.out⟩
  · have SN := Lib.hid sn
    obtain ⟨⟨nm, sc, ru, ds⟩, xA, xn, xc⟩ := x
    unfold Nw.val at *
    simp only at *
    have HT0 := Lib.hid (Tri.start w (.cells #[.string (tx nm), .bool sc, .int .u64 ru, .slice xA xn xc] 25) (.cells #[.slice H0 m0 d0, .slice H1 m1 d1, .slice H2 m2 d2] 46))
    have n0 := at_cell (i := 0) HT0.out.1 rfl; have n1 := at_cell (i := 1) HT0.out.1 rfl; have n2 := at_cell (i := 2) HT0.out.1 rfl; have n3 := at_cell (i := 3) HT0.out.1 rfl; have p0 := at_cell (i := 0) HT0.out.2.1 rfl; have p1 := at_cell (i := 1) HT0.out.2.1 rfl
    clear hr hh0 hh1 hf hfit hx sn hxn hcm hac hm0 hm1 hru
    go_enter Try.func5, Try.ntmps5
    go_wp2_with (first
      | (go_at_call 8; refine (dfixed_any _).mono ?_; rintro e w9 ⟨rfl, hb9⟩; have HB9 := Lib.hid (HT2.out.2.2.1.trans (hb9.mono HT2.out.2.2.1.size)); clear hb9)
      | (go_at_call 6; refine (HNG.out _ HT0.out.2.2.1).mono ?_; rintro e w2 ⟨he, hb2⟩; obtain rfl := he.yes SN.out; have HT2 := Lib.hid (HT0.out.below hb2); have n0 := at_cell (i := 0) HT2.out.1 rfl; have n1 := at_cell (i := 1) HT2.out.1 rfl; have n2 := at_cell (i := 2) HT2.out.1 rfl; have n3 := at_cell (i := 3) HT2.out.1 rfl; have p0 := at_cell (i := 0) HT2.out.2.1 rfl; have p1 := at_cell (i := 1) HT2.out.2.1 rfl; clear hb2))
    go_ret
    exact ⟨rfl, HB9.out⟩

end Go.Proofs.Ytbaokcigfgfoaaa
