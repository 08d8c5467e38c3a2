/- dirty.Trace. -/
import Derived.Test.YtbaokcigfgfoaaaRza
import Derived.Test.YtbaokcigfgfoaaaGm
import Derived.Test.YtbaokcigfgfoaaaDd1
import Derived.Test.YtbaokcigfgfoaaaH3
import Derived.Test.YtbaokcigfgfoaaaXb
namespace Go.Proofs.Ytbaokcigfgfoaaa
open Go.RowKit

theorem wp_cutz {P : Program} {c : Code} {Q : Exit → Act → World → Prop} {K : Act → World → Prop} {a : Act} {w : World} (M : Act → World → Prop) (hm : ∀ a w, M a w → K a w) (h : c.wp P (Exit.then M Q) a w) : c.wp P (Exit.then K Q) a w :=
  Code.wp_mono (fun e a w q => by cases e <;> first | exact hm _ _ q | exact q) h
theorem dinfo : (Try.prog.info? 60).map (fun i => (i.zero, i.size, i.bytes)) = some (some (.agg #[.string { data := #[] }, .int .u64 0, .bool false]), 3, 32) := by kernel_rfl

/-- Names beside hashes, as deps. -/
def zipD (ds : List (List UInt8)) (hs : List Int) : List Dp := (ds.zip hs).map fun p => ⟨p.1, p.2, false⟩
theorem zipD_len {ds : List (List UInt8)} {hs : List Int} {n : Nat} (h1 : ds.length = n) (h2 : hs.length = n) : (zipD ds hs).length = n := by simp [zipD, h1, h2]
theorem zipD_at {ds : List (List UInt8)} {hs : List Int} {i : Nat} {s : List UInt8} {h : Int} (h1 : ds[i]? = some s) (h2 : hs[i]? = some h) : (zipD ds hs)[i]? = some ⟨s, h, false⟩ := by
  unfold zipD
  rw [List.getElem?_map, (List.getElem?_zip_eq_some (z := (s, h))).2 ⟨h1, h2⟩]
  rfl
theorem zipD_step {ds : List (List UInt8)} {hs : List Int} {i : Nat} {s : List UInt8} {h : Int} (h1 : ds[i]? = some s) (h2 : hs[i]? = some h) : dps ((zipD ds hs).take (i + 1)) = dps ((zipD ds hs).take i) ++ dps [⟨s, h, false⟩] := by
  rw [List.take_add_one, zipD_at h1 h2]
  exact List.flatMap_append
/-- Two boxes, and all that was there, stay. -/
def Tri (w : World) (N Z : Obj) (v : World) : Prop := v.heap[w.heap.size]? = some N ∧ v.heap[w.heap.size + 1]? = some Z ∧ Below w.heap.size w v ∧ w.heap.size + 2 ≤ v.heap.size
theorem Tri.start (w : World) (N Z : Obj) : Tri w N Z ((w.alloc N).alloc Z) := by
  obtain ⟨h1, h2, h3⟩ := two_new w N Z
  exact ⟨h1, h2, ((Below.refl _ w).alloc (Nat.le_refl _) N).alloc (by simp) Z, by omega⟩
theorem Tri.drew {w v : World} {N Z : Obj} (h : Tri w N Z v) : Tri w N Z v.drew := ⟨h.1, h.2.1, h.2.2.1.drew, h.2.2.2⟩
theorem Tri.below {w v u : World} {N Z : Obj} (h : Tri w N Z v) (hb : Below v.heap.size v u) : Tri w N Z u :=
  ⟨(hb.block _ (by have := h.2.2.2; omega)).trans h.1, (hb.block _ (by have := h.2.2.2; omega)).trans h.2.1, h.2.2.1.trans (hb.mono h.2.2.1.size), Nat.le_trans h.2.2.2 hb.size⟩
theorem Tri.alloc {w v : World} {N Z : Obj} (h : Tri w N Z v) (o : Obj) : Tri w N Z (v.alloc o) := h.below ((Below.refl _ v).alloc (Nat.le_refl _) o)
theorem Tri.grown {w v u : World} {N Z : Obj} {row : Option Nat} (h : Tri w N Z v) (hg : v.grownBy u row) (hr : ∀ k, row = some k → w.heap.size + 2 ≤ k) : Tri w N Z u :=
  ⟨(hg.block _ (by have := h.2.2.2; omega) (fun e => by have := hr _ e.symm; omega)).trans h.1, (hg.block _ (by have := h.2.2.2; omega) (fun e => by have := hr _ e.symm; omega)).trans h.2.1, h.2.2.1.grown hg h.2.2.1.size (fun k e => by have := hr k e; omega), Nat.le_trans h.2.2.2 hg.size⟩
theorem Tri.setCell {w v : World} {N Z : Obj} (h : Tri w N Z v) {g : Nat} (hg : w.heap.size + 2 ≤ g) (i : Nat) (u : Value) : Tri w N Z (v.setCell ⟨g, i, none⟩ u) :=
  ⟨(Below.heap_setCell _ _ _ _ (by show _ ≠ g; omega)).trans h.1, (Below.heap_setCell _ _ _ _ (by show _ ≠ g; omega)).trans h.2.1, h.2.2.1.setCell (p := ⟨g, i, none⟩) (show w.heap.size ≤ g by omega) u, by rw [World.size_setCell]; exact h.2.2.2⟩
theorem reads_dep2 (w : World) (x : Dp) : Reads (w.alloc (.cells #[.string (tx x.name), .int .u64 x.hash, .bool x.order] 60)) (w.heap.size + 1) 3 (some ⟨w.heap.size, 0, none⟩) 1 (dps [x]) :=
  ⟨rfl, fun _ => ⟨_, rfl, by show w.heap.size < _; omega, fun j u hu => by
    rw [show (⟨w.heap.size, 0, none⟩ : Addr).add j = ⟨w.heap.size, j, none⟩ from by unfold Addr.add; split <;> simp_all]
    exact at_cell (one_new w _) (by simpa [dps, Dp.cells, rsv] using hu)⟩⟩
/-- Behind a dep that is put behind a record's. -/
theorem tr_push {w W7 W8 : World} {N Z : Obj} {g k i : Nat} {va v8 : Value} {xs ys : List Value} {c0 c1 c2 c4 c5 c6 : Value} (hT : Tri w N Z W7) (hg7 : W7.heap[g]? = some (.cells #[c0, c1, c2, va, c4, c5, c6] 36 (0, 0))) (hgs : w.heap.size + 2 ≤ g) (hgl : g < W7.heap.size)
    (ho7 : W7.ownsRow (w.heap.size + 2) 60 3 va i ys) (ho8 : W8.ownsRow (w.heap.size + 2) 60 3 v8 k xs) (hg8 : W7.grownBy W8 va.ownBlock) :
    W8.heap[g]? = some (.cells #[c0, c1, c2, va, c4, c5, c6] 36 (0, 0)) ∧ Tri w N Z W8 ∧ (W8.setCell ⟨g, 3, none⟩ v8).heap[g]? = some (.cells #[c0, c1, c2, v8, c4, c5, c6] 36 (0, 0)) ∧ Tri w N Z (W8.setCell ⟨g, 3, none⟩ v8) ∧ (W8.setCell ⟨g, 3, none⟩ v8).ownsRow (w.heap.size + 2) 60 3 v8 k xs := by
  have h1 : W8.heap[g]? = some (.cells #[c0, c1, c2, va, c4, c5, c6] 36 (0, 0)) := (hg8.block g hgl (fun e => own_cells ho7 hg7 (by decide) e.symm)).trans hg7
  have h2 : Tri w N Z W8 := hT.grown hg8 (fun k hk => own_block ho7 k hk)
  refine ⟨h1, h2, set_same h1 3 v8, h2.setCell hgs 3 v8, own_heap ho8 (fun j hj => Below.heap_setCell _ _ _ j (fun e => own_cells ho8 h1 (by decide) (hj.trans (congrArg some e))))⟩
/-- At the head of a round of Trace. -/
def TrRel (w : World) (N Z : Obj) (g : Nat) (c0 c1 c2 c4 c5 c6 : Value) (dl : List Dp) (m : Nat) (idx : Value) (wr : World) : Prop :=
  ∃ i : Nat, i ≤ m ∧ idx = .int .i64 (i : Int) ∧ ∃ va : Value, Tri w N Z wr ∧ wr.heap[g]? = some (.cells #[c0, c1, c2, va, c4, c5, c6] 36 (0, 0)) ∧ wr.ownsRow (w.heap.size + 2) 60 3 va i (dps (dl.take i))
/-- What a trace is, or that there is none. -/
def TrPost (x : Nd) (hs : List Int) (z wh : Int) (w : World) (e : Ending) (w' : World) : Prop :=
  ((x.src = true ∨ hs.length ≠ x.deps.length) ∧ e = .returned (.tuple #[rcv ⟨0, [], 0, 0, 0, []⟩ none 0 0, .int .i64 1]) ∧ Below w.heap.size w w') ∨
  (x.src = false ∧ hs.length = x.deps.length ∧ ∃ A' n' c', e = .returned (.tuple #[rcv ⟨1, x.name, x.rule, z, wh, []⟩ A' n' c', .int .i64 0]) ∧ (A' = none → c' = 0) ∧ n' = x.deps.length ∧ Reads w' w'.heap.size 3 A' n' (dps (zipD x.deps hs)) ∧ Below w.heap.size w w')

set_option maxRecDepth 100000 in
set_option maxHeartbeats 4000000 in
theorem trace_any (x : Nw) (H : Option Addr) (m d : Nat) (hs : List Int) (cq : Q64) (wh : Int) (hm : m ≤ 1000000) (hxn : x.n ≤ 1000000) (w : World) (hx : NIn w w.heap.size x) (hh : Reads w w.heap.size 1 H m (hs.map (Value.int .u64))) :
    Calls Try.prog 11 #[x.val, .slice H m d, qv cq, .int .u64 wh] w fun e w' => TrPost x.d hs ((dg cq).toNat : Int) wh w e w' := by
  have HHL : Hid (hs.length = m) := by have := hh.1; simp at this; exact this
  have HXL : Hid (x.d.deps.length = x.n) := hx.len
  have HX : Hid (Reads w w.heap.size 1 x.A x.n (x.d.deps.map tsv)) := hx
  have HH := Lib.hid hh
  obtain ⟨i0, ii0, iz0, iz1, iz2⟩ := info_parts dinfo
  have HOF : Hid (∀ W, Calls Try.prog 22 #[.int .u64 (cq.toNat : Int)] W fun e w' => e = .returned (.int .u64 ((dg cq).toNat : Int)) ∧ Below W.heap.size W w') := fun W => of_any cq W
  unfold qv at *
  generalize ((dg cq).toNat : Int) = z at *
  generalize (cq.toNat : Int) = cn at *
  obtain ⟨⟨nm, sc, ru, ds⟩, xA, xn, xc⟩ := x
  unfold Nw.val
  simp only at *
  clear hx hh
  cases sc with
  | true =>
    have hz := (Tri.start w (.cells #[.string (tx nm), .bool true, .int .u64 ru, .slice xA xn xc] 25) (.cells #[.int .i64 0, .string { data := #[] }, .int .u64 0, .slice none 0 0, .int .u64 0, .int .u64 0, .string { data := #[] }] 36))
    have n1 := at_cell (i := 1) hz.1 rfl
    have n3 := at_cell (i := 3) hz.1 rfl
    have HZ : Hid (((w.alloc (.cells #[.string (tx nm), .bool true, .int .u64 ru, .slice xA xn xc] 25)).alloc (.cells #[.int .i64 0, .string { data := #[] }, .int .u64 0, .slice none 0 0, .int .u64 0, .int .u64 0, .string { data := #[] }] 36)).heap[w.heap.size + 1]? = some (.cells #[.int .i64 0, .string { data := #[] }, .int .u64 0, .slice none 0 0, .int .u64 0, .int .u64 0, .string { data := #[] }] 36 (0, 0))) := hz.2.1
    have HFIN := Lib.hid (setRow_heap ((w.alloc (.cells #[.string (tx nm), .bool true, .int .u64 ru, .slice xA xn xc] 25)).alloc (.cells #[.int .i64 0, .string { data := #[] }, .int .u64 0, .slice none 0 0, .int .u64 0, .int .u64 0, .string { data := #[] }] 36)) (w.heap.size + 1) _ #[.int .i64 0, .string { data := #[] }, .int .u64 0, .slice none 0 0, .int .u64 0, .int .u64 0, .string { data := #[] }] _ _ HZ.out)
    have HBE := Lib.hid (hz.2.2.1.grown (grownBy_setRow ((w.alloc (.cells #[.string (tx nm), .bool true, .int .u64 ru, .slice xA xn xc] 25)).alloc (.cells #[.int .i64 0, .string { data := #[] }, .int .u64 0, .slice none 0 0, .int .u64 0, .int .u64 0, .string { data := #[] }] 36)) (w.heap.size + 1) #[.int .i64 0, .string { data := #[] }, .int .u64 0, .slice none 0 0, .int .u64 0, .int .u64 0, .string { data := #[] }]) hz.2.2.1.size (fun j hj => by cases hj; omega))
    clear hz
    go_enter Try.func11, Try.ntmps11
    go_wp2_with ((with_reducible show wpList _ _ _ (Oper.mk _ (Op.store _ _ _) _ _ _ _ :: _) _ _); refine wpList_store_row rfl 36 (.tmp 8) (.tmp 23) rfl (w.heap.size + 1) #[.int .i64 0, .string { data := #[] }, .int .u64 0, .slice none 0 0, .int .u64 0, .int .u64 0, .string { data := #[] }] rfl rfl 36 _ HZ.out (by kernel_rfl) rfl (by simp [Value.oneCell']) ?_)
    refine bodyPost_ret (gresults_cell_tmp_row Try.results11 _ _ (w.heap.size + 1) _ _ (0, 0) _ rfl HFIN.out Try.underlying36 rfl (by kernel_rfl)) rfl ?_
    exact .inl ⟨.inl rfl, rfl, HBE.out⟩
  | false =>
    by_cases h1 : m = xn
    · subst h1
      have d1 : ((m : Int) != (m : Int)) = false := by simp
      have hz := (Tri.start w (.cells #[.string (tx nm), .bool false, .int .u64 ru, .slice xA m xc] 25) (.cells #[.int .i64 0, .string { data := #[] }, .int .u64 0, .slice none 0 0, .int .u64 0, .int .u64 0, .string { data := #[] }] 36))
      have n0 := at_cell (i := 0) hz.1 rfl
      have n1 := at_cell (i := 1) hz.1 rfl
      have n2 := at_cell (i := 2) hz.1 rfl
      have n3 := at_cell (i := 3) hz.1 rfl
      clear hz
      go_enter Try.func11, Try.ntmps11
      go_wp2
      obtain ⟨M, hM⟩ : ∃ M : Act → World → Prop, M = (fun a v => ∃ (g : Nat) (v2 v5 v6 v7 v11 v12 v13 v14 v15 v16 v17 v18 v19 v20 v21 v22 v23 v24 v25 v26 v27 v28 v29 v30 v31 : Value), a = ({ tmps := #[.agg #[.string (tx nm), .bool false, .int .u64 ru, .slice xA m xc], .slice H m d, v2, .int .u64 wh, .pointer (some ⟨w.heap.size, 0, none⟩), v5, v6, v7, .pointer (some ⟨w.heap.size + 1, 0, none⟩), .int .i64 0, .pointer (some ⟨g, 0, none⟩), v11, v12, v13, v14, v15, v16, v17, v18, v19, v20, v21, v22, v23, v24, v25, v26, v27, v28, v29, v30, v31, undef, undef, undef, undef, undef, undef, undef, undef, undef, undef, undef, undef, undef, undef, undef, undef, undef, undef, undef, undef, undef], defers := [] } : Act) ∧ w.heap.size + 2 ≤ g ∧ v.heap[g]? = some (.cells #[.int .i64 1, .string (tx nm), .int .u64 ru, .slice none 0 0, .int .u64 z, .int .u64 wh, .string { data := #[] }] 36 (0, 0)) ∧ Tri w (.cells #[.string (tx nm), .bool false, .int .u64 ru, .slice xA m xc] 25) (.cells #[.int .i64 0, .string { data := #[] }, .int .u64 0, .slice none 0 0, .int .u64 0, .int .u64 0, .string { data := #[] }] 36) v) := ⟨_, rfl⟩
      have HM := Lib.hid hM
      clear hM n0 n1 n2 n3
      refine wp_cutz M ?_ ?_
      · intro a v hM
        rw [HM.out] at hM
        obtain ⟨g, v2, v5, v6, v7, v11, v12, v13, v14, v15, v16, v17, v18, v19, v20, v21, v22, v23, v24, v25, v26, v27, v28, v29, v30, v31, rfl, hgs, hg, htr⟩ := hM
        have HGS := Lib.hid hgs
        have HG := Lib.hid hg
        have HTR := Lib.hid htr
        have n3 := at_cell (i := 3) htr.1 rfl
        clear hgs hg htr HM
        go_wp2
        go_loopw [35] (fun idx wr => TrRel w (.cells #[.string (tx nm), .bool false, .int .u64 ru, .slice xA m xc] 25) (.cells #[.int .i64 0, .string { data := #[] }, .int .u64 0, .slice none 0 0, .int .u64 0, .int .u64 0, .string { data := #[] }] 36) g (.int .i64 1) (.string (tx nm)) (.int .u64 ru) (.int .u64 z) (.int .u64 wh) (.string { data := #[] }) (zipD ds hs) m idx wr) (fun idx _ => m - (intOf idx).toNat)
        case atStart => exact ⟨0, by omega, rfl, .slice none 0 0, HTR.out, HG.out, ⟨by simp [dps], .inl ⟨rfl, rfl⟩⟩⟩
        case round =>
          obtain ⟨i, hi, rfl, va, ht, hg, ho⟩ := hrel
          obtain ⟨Av, cv, rfl, hav⟩ := own_slice ho
          have HT := Lib.hid ht
          have HGW := Lib.hid hg
          have HO := Lib.hid ho
          have n3 := at_cell (i := 3) ht.1 rfl
          by_cases hlt : i < m
          · obtain ⟨s, hsn⟩ : ∃ s, ds[i]? = some s := ⟨_, List.getElem?_eq_getElem (by rw [HXL.out]; exact hlt)⟩
            obtain ⟨h, hhn⟩ : ∃ h, hs[i]? = some h := ⟨_, List.getElem?_eq_getElem (by rw [HHL.out]; exact hlt)⟩
            obtain ⟨ax, sv, hax, hxs, hsv, hsc⟩ := Reads.at_ HX.out hlt
            obtain ⟨ah, hv, hah, hxb, hhv, hhc⟩ := HH.out.at_ hlt
            subst hax hah
            obtain rfl : sv = tsv s := by rw [List.getElem?_map, hsn] at hsv; simpa using hsv.symm
            obtain rfl : hv = .int .u64 h := by rw [List.getElem?_map, hhn] at hhv; simpa using hhv.symm
            unfold tsv at hsc
            have HSC := Lib.hid hsc
            have HXS := Lib.hid hxs
            have HHC := Lib.hid hhc
            have HXB := Lib.hid hxb
            have HZS := Lib.hid (zipD_step hsn hhn)
            have hsw := (ht.2.2.1.cell (p := ax.add i) (by rw [block_of_add]; exact hxs)).trans hsc
            have hgl : g < wr.heap.size := (Array.getElem?_eq_some_iff.1 hg).1
            have HGD : Hid (wr.drew.heap[g]? = some (.cells #[.int .i64 1, .string (tx nm), .int .u64 ru, .slice Av i cv, .int .u64 z, .int .u64 wh, .string { data := #[] }] 36 (0, 0))) := hg
            have HT7 := Lib.hid (Tri.alloc (Tri.drew ht) (.cells #[.string (tx s), .int .u64 h, .bool false] 60))
            have HG7 := Lib.hid ((Below.heap_alloc wr.drew (.cells #[.string (tx s), .int .u64 h, .bool false] 60) g hgl).trans hg)
            have HO7 : Hid ((wr.drew.alloc (.cells #[.string (tx s), .int .u64 h, .bool false] 60)).ownsRow (w.heap.size + 2) 60 3 (.slice Av i cv) i (dps ((zipD ds hs).take i))) := World.ownsRow.alloc (show wr.drew.ownsRow _ _ _ _ _ _ from ho) _
            have HGL : Hid (g < (wr.drew.alloc (.cells #[.string (tx s), .int .u64 h, .bool false] 60)).heap.size) := (by have h1 : (wr.drew.alloc (.cells #[.string (tx s), .int .u64 h, .bool false] 60)).heap.size = wr.drew.heap.size + 1 := (by simp); have h2 : wr.drew.heap.size = wr.heap.size := rfl; show _ < _; omega)
            have hi0 : (0 : Int) ≤ (i : Int) := by omega
            have hi1 : (i : Int) < (m : Int) := by omega
            clear hsn hhn hsv hhv hsc hhc hxs hxb ht hg ho hav hgl
            go_wp2
            refine wp_region_held (S := Tri w (.cells #[.string (tx nm), .bool false, .int .u64 ru, .slice (some ax) m xc] 25) (.cells #[.int .i64 0, .string { data := #[] }, .int .u64 0, .slice none 0 0, .int .u64 0, .int .u64 0, .string { data := #[] }] 36)) (by kernel_rfl) ?_
            have HSD := Lib.hid (Tri.drew HT.out)
            refine h_take 0 (.pointer (some ⟨g, 3, none⟩)) rfl (by kernel_rfl) (by kernel_rfl) (by kernel_rfl) (fun _ _ _ h => h) (by kernel_rfl) HSD.out (fun _ _ => by kernel_rfl) ?_
            refine h_take 2 (.string (tx s)) rfl (by kernel_rfl) (by kernel_rfl) (by kernel_rfl) (fun _ _ _ h => h) (by kernel_rfl) HSD.out (fun _ _ => by kernel_rfl) ?_
            refine h_take 3 (.slice (some ah) m d) rfl (by kernel_rfl) (by kernel_rfl) (by kernel_rfl) (fun _ _ _ h => h) (by kernel_rfl) HSD.out (fun _ _ => by kernel_rfl) ?_
            refine h_take 4 (.int .i64 (i : Int)) rfl (by kernel_rfl) (by kernel_rfl) (by kernel_rfl) (fun _ _ _ h => h) (by kernel_rfl) HSD.out (fun _ _ => by kernel_rfl) ?_
            refine h_take 5 (.pointer (some (ah.add i))) rfl (by kernel_rfl) (by kernel_rfl) (by kernel_rfl) (fun _ _ _ h => h) (by kernel_rfl) HSD.out (by intro v hv; go_simp) ?_
            refine h_take 6 (.int .u64 h) rfl (by kernel_rfl) (by kernel_rfl) (by kernel_rfl) (fun _ _ _ h => h) (by kernel_rfl) HSD.out (by intro v hv; have hcc := (hv.2.2.1.cell (p := ah.add i) (by rw [block_of_add]; exact HXB.out)).trans HHC.out; go_simp) ?_
            refine h_take 7 (.agg #[.string (tx s), .int .u64 h, .bool false]) rfl (by kernel_rfl) (by kernel_rfl) (by kernel_rfl) (fun _ _ _ h => h) (by kernel_rfl) HSD.out (by intro v hv; go_simp) ?_
            refine h_either 1 8 rfl rfl (by kernel_rfl) (by kernel_rfl) (by kernel_rfl) (fun K hK => ?_) (fun K hK => ?_)
            · have c3 : wr.cell? ⟨g, 3, none⟩ = some (.slice Av i cv) := at_cell (i := 3) HGW.out rfl
              go_simp
              refine hK _ _ HSD.out ?_
              clear hK K c3
              refine h_one 8 rfl (by kernel_rfl) (by kernel_rfl) (fun K hK => ?_)
              go_simp
              refine hK _ _ HT7.out ?_
              clear hK K
              refine h_one 9 rfl (by kernel_rfl) (by kernel_rfl) (fun K hK => ?_)
              refine wp_append_many (.tmp 41) (.tmp 48) 34 rfl (w.heap.size + 2) 60 i0 _ 3 32 Try.underlying34 ii0 iz0 iz1 iz2 rfl (by decide) (.slice Av i cv) i _ rfl HO7.out (some ⟨wr.drew.heap.size, 0, none⟩) 1 1 (wr.drew.heap.size + 1) (dps [⟨s, h, false⟩]) rfl (by simp) (reads_dep2 wr.drew ⟨s, h, false⟩) (dps_one _) (by unfold maxLen; omega) (by omega) HT7.out.2.2.2 ?_
              intro v8 w8 ho8 hg8 hv8
              rw [← HZS.out] at ho8
              obtain ⟨g1, g2, g3, g4, g5⟩ := tr_push HT7.out HG7.out HGS.out HGL.out HO7.out ho8 hg8
              obtain ⟨A8, c8, rfl, _⟩ := own_slice ho8
              have G3 := Lib.hid g3
              have G4 := Lib.hid g4
              have G5 := Lib.hid g5
              have G1 := Lib.hid g1
              have G2 := Lib.hid g2
              refine hK _ _ g2 ?_
              clear hK K g1 g2 g3 g4 g5 ho8 hg8 hv8
              refine h_take 10 (.pointer (some ⟨g, 3, none⟩)) rfl (by kernel_rfl) (by kernel_rfl) (by kernel_rfl) (fun _ _ _ h => h) (by kernel_rfl) G2.out (fun _ _ => by kernel_rfl) ?_
              refine h_one 11 rfl (by kernel_rfl) (by kernel_rfl) (fun K hK => ?_)
              have p3 := at_cell (i := 3) G1.out rfl
              have z3 := at_frozen (i := 3) G1.out
              go_simp
              refine hK _ _ G4.out ?_
              refine wpAnyH_done (by kernel_rfl) ?_ _
              clear hK K p3 z3
              go_simp
              go_wp2
              exact ⟨⟨i + 1, by omega, by go_num, _, G4.out, G3.out, G5.out⟩, by simp [intOf]; omega⟩
            · go_simp
              refine hK _ _ HT7.out ?_
              clear hK K
              refine h_one 1 rfl (by kernel_rfl) (by kernel_rfl) (fun K hK => ?_)
              have c3 : (wr.alloc (.cells #[.string (tx s), .int .u64 h, .bool false] 60)).cell? ⟨g, 3, none⟩ = some (.slice Av i cv) := at_cell (i := 3) HG7.out rfl
              go_simp
              refine hK _ _ HT7.out ?_
              clear hK K c3
              refine h_one 9 rfl (by kernel_rfl) (by kernel_rfl) (fun K hK => ?_)
              refine wp_append_many (.tmp 41) (.tmp 48) 34 rfl (w.heap.size + 2) 60 i0 _ 3 32 Try.underlying34 ii0 iz0 iz1 iz2 rfl (by decide) (.slice Av i cv) i _ rfl HO7.out (some ⟨wr.drew.heap.size, 0, none⟩) 1 1 (wr.drew.heap.size + 1) (dps [⟨s, h, false⟩]) rfl (by simp) (reads_dep2 wr.drew ⟨s, h, false⟩) (dps_one _) (by unfold maxLen; omega) (by omega) HT7.out.2.2.2 ?_
              intro v8 w8 ho8 hg8 hv8
              rw [← HZS.out] at ho8
              obtain ⟨g1, g2, g3, g4, g5⟩ := tr_push HT7.out HG7.out HGS.out HGL.out HO7.out ho8 hg8
              obtain ⟨A8, c8, rfl, _⟩ := own_slice ho8
              have G3 := Lib.hid g3
              have G4 := Lib.hid g4
              have G5 := Lib.hid g5
              have G1 := Lib.hid g1
              have G2 := Lib.hid g2
              refine hK _ _ g2 ?_
              clear hK K g1 g2 g3 g4 g5 ho8 hg8 hv8
              refine h_take 10 (.pointer (some ⟨g, 3, none⟩)) rfl (by kernel_rfl) (by kernel_rfl) (by kernel_rfl) (fun _ _ _ h => h) (by kernel_rfl) G2.out (fun _ _ => by kernel_rfl) ?_
              refine h_one 11 rfl (by kernel_rfl) (by kernel_rfl) (fun K hK => ?_)
              have p3 := at_cell (i := 3) G1.out rfl
              have z3 := at_frozen (i := 3) G1.out
              go_simp
              refine hK _ _ G4.out ?_
              refine wpAnyH_done (by kernel_rfl) ?_ _
              clear hK K p3 z3
              go_simp
              go_wp2
              exact ⟨⟨i + 1, by omega, by go_num, _, G4.out, G3.out, G5.out⟩, by simp [intOf]; omega⟩
          · obtain rfl : i = m := by omega
            rw [List.take_of_length_le (by rw [zipD_len HXL.out HHL.out]; omega)] at HO
            have HZ : Hid (wr.heap[w.heap.size + 1]? = some (.cells #[.int .i64 0, .string { data := #[] }, .int .u64 0, .slice none 0 0, .int .u64 0, .int .u64 0, .string { data := #[] }] 36 (0, 0))) := ht.2.1
            have g0 := at_cell (i := 0) hg rfl
            have g1 := at_cell (i := 1) hg rfl
            have g2 := at_cell (i := 2) hg rfl
            have g3 := at_cell (i := 3) hg rfl
            have g4 := at_cell (i := 4) hg rfl
            have g5 := at_cell (i := 5) hg rfl
            have g6 := at_cell (i := 6) hg rfl
            have HAV := Lib.hid hav
            clear ht hg ho hav
            have HFIN := Lib.hid (setRow_heap wr (w.heap.size + 1) _ #[.int .i64 1, .string (tx nm), .int .u64 ru, .slice Av i cv, .int .u64 z, .int .u64 wh, .string { data := #[] }] _ _ HZ.out)
            have HBE := Lib.hid (HT.out.2.2.1.grown (grownBy_setRow wr (w.heap.size + 1) #[.int .i64 1, .string (tx nm), .int .u64 ru, .slice Av i cv, .int .u64 z, .int .u64 wh, .string { data := #[] }]) HT.out.2.2.1.size (fun j hj => by cases hj; omega))
            have HRE : Hid (Reads (wr.setRow (w.heap.size + 1) #[.int .i64 1, .string (tx nm), .int .u64 ru, .slice Av i cv, .int .u64 z, .int .u64 wh, .string { data := #[] }]) (wr.setRow (w.heap.size + 1) #[.int .i64 1, .string (tx nm), .int .u64 ru, .slice Av i cv, .int .u64 z, .int .u64 wh, .string { data := #[] }]).heap.size 3 Av i (dps (zipD ds hs))) := Reads.of_own (World.ownsRow.kept HO.out (grownBy_setRow wr (w.heap.size + 1) #[.int .i64 1, .string (tx nm), .int .u64 ru, .slice Av i cv, .int .u64 z, .int .u64 wh, .string { data := #[] }]) (by
              cases hv : (Value.slice Av i cv).ownBlock with
              | none => exact .inl rfl
              | some j => exact .inr (fun e => by have := own_block HO.out j hv; injection e with e; omega)))
            go_wp2_with ((with_reducible show wpList _ _ _ (Oper.mk _ (Op.store _ _ _) _ _ _ _ :: _) _ _); refine wpList_store_row rfl 36 (.tmp 8) (.tmp 52) rfl (w.heap.size + 1) #[.int .i64 1, .string (tx nm), .int .u64 ru, .slice Av i cv, .int .u64 z, .int .u64 wh, .string { data := #[] }] rfl rfl 36 _ HZ.out (by kernel_rfl) rfl (by simp [Value.oneCell']) ?_)
            refine bodyPost_ret (gresults_cell_tmp_row Try.results11 _ _ (w.heap.size + 1) _ _ (0, 0) _ rfl HFIN.out Try.underlying36 rfl (by kernel_rfl)) rfl ?_
            exact .inr ⟨rfl, by rw [HHL.out, HXL.out], Av, i, cv, rfl, HAV.out, HXL.out.symm, HRE.out, HBE.out⟩
      · have hS0 := Tri.start w (.cells #[.string (tx nm), .bool false, .int .u64 ru, .slice xA m xc] 25) (.cells #[.int .i64 0, .string { data := #[] }, .int .u64 0, .slice none 0 0, .int .u64 0, .int .u64 0, .string { data := #[] }] 36)
        generalize ((w.alloc (.cells #[.string (tx nm), .bool false, .int .u64 ru, .slice xA m xc] 25)).alloc (.cells #[.int .i64 0, .string { data := #[] }, .int .u64 0, .slice none 0 0, .int .u64 0, .int .u64 0, .string { data := #[] }] 36)) = W0 at *
        have HS : Hid (Tri w (.cells #[.string (tx nm), .bool false, .int .u64 ru, .slice xA m xc] 25) (.cells #[.int .i64 0, .string { data := #[] }, .int .u64 0, .slice none 0 0, .int .u64 0, .int .u64 0, .string { data := #[] }] 36) W0.drew) := hS0.drew
        clear hS0
        refine wp_region_held (S := Tri w (.cells #[.string (tx nm), .bool false, .int .u64 ru, .slice xA m xc] 25) (.cells #[.int .i64 0, .string { data := #[] }, .int .u64 0, .slice none 0 0, .int .u64 0, .int .u64 0, .string { data := #[] }] 36)) (by kernel_rfl) ?_
        refine h_take 0 (.pointer (some ⟨w.heap.size, 0, none⟩)) rfl (by kernel_rfl) (by kernel_rfl) (by kernel_rfl) (fun _ _ _ h => h) (by kernel_rfl) HS.out (fun _ _ => by kernel_rfl) ?_
        refine h_take 1 (.string (tx nm)) rfl (by kernel_rfl) (by kernel_rfl) (by kernel_rfl) (fun _ _ _ h => h) (by kernel_rfl) HS.out (by intro v hv; have b0 := at_cell (i := 0) hv.1 rfl; have b1 := at_cell (i := 1) hv.1 rfl; have b2 := at_cell (i := 2) hv.1 rfl; have b3 := at_cell (i := 3) hv.1 rfl; go_simp) ?_
        refine h_take 2 (.pointer (some ⟨w.heap.size, 2, none⟩)) rfl (by kernel_rfl) (by kernel_rfl) (by kernel_rfl) (fun _ _ _ h => h) (by kernel_rfl) HS.out (fun _ _ => by kernel_rfl) ?_
        refine h_take 3 (.int .u64 ru) rfl (by kernel_rfl) (by kernel_rfl) (by kernel_rfl) (fun _ _ _ h => h) (by kernel_rfl) HS.out (by intro v hv; have b0 := at_cell (i := 0) hv.1 rfl; have b1 := at_cell (i := 1) hv.1 rfl; have b2 := at_cell (i := 2) hv.1 rfl; have b3 := at_cell (i := 3) hv.1 rfl; go_simp) ?_
        refine h_take 4 (.int .u64 cn) rfl (by kernel_rfl) (by kernel_rfl) (by kernel_rfl) (fun _ _ _ h => h) (by kernel_rfl) HS.out (fun _ _ => by kernel_rfl) ?_
        refine h_take 6 (.int .u64 wh) rfl (by kernel_rfl) (by kernel_rfl) (by kernel_rfl) (fun _ _ _ h => h) (by kernel_rfl) HS.out (fun _ _ => by kernel_rfl) ?_
        refine h_either 5 8 rfl rfl (by kernel_rfl) (by kernel_rfl) (by kernel_rfl) (fun K hK => ?_) (fun K hK => ?_)
        · go_simp
          refine (HOF.out _).mono ?_
          rintro e w3 ⟨rfl, hbo⟩
          have HS3 := Lib.hid (Tri.below HS.out hbo)
          refine hK _ _ HS3.out ?_
          clear hK K
          refine h_take 7 (.agg #[.int .i64 1, .string (tx nm), .int .u64 ru, .slice none 0 0, .int .u64 z, .int .u64 wh, .string { data := #[] }]) rfl (by kernel_rfl) (by kernel_rfl) (by kernel_rfl) (fun _ _ _ h => h) (by kernel_rfl) HS3.out (by intro v hv; go_simp) ?_
          refine h_one 8 rfl (by kernel_rfl) (by kernel_rfl) (fun K hK => ?_)
          go_simp
          have HGS : Hid (w.heap.size + 2 ≤ w3.heap.size) := HS3.out.2.2.2
          have HS4 := Lib.hid (Tri.alloc HS3.out (.cells #[.int .i64 0, .string { data := #[] }, .int .u64 0, .slice none 0 0, .int .u64 0, .int .u64 0, .string { data := #[] }] 36))
          have hgn := one_new w3 (.cells #[.int .i64 0, .string { data := #[] }, .int .u64 0, .slice none 0 0, .int .u64 0, .int .u64 0, .string { data := #[] }] 36)
          have HGN := Lib.hid hgn
          clear hgn
          refine hK _ _ HS4.out ?_
          clear hK K
          refine h_one 9 rfl (by kernel_rfl) (by kernel_rfl) (fun K hK => ?_)
          refine wp_store_row 36 (.tmp 10) (.tmp 31) rfl (w3.heap.size) #[.int .i64 1, .string (tx nm), .int .u64 ru, .slice none 0 0, .int .u64 z, .int .u64 wh, .string { data := #[] }] rfl rfl 36 #[.int .i64 0, .string { data := #[] }, .int .u64 0, .slice none 0 0, .int .u64 0, .int .u64 0, .string { data := #[] }] HGN.out (by kernel_rfl) rfl (by simp [Value.oneCell']) ?_
          have hfin := setRow_heap (w3.alloc (.cells #[.int .i64 0, .string { data := #[] }, .int .u64 0, .slice none 0 0, .int .u64 0, .int .u64 0, .string { data := #[] }] 36)) (w3.heap.size) _ #[.int .i64 1, .string (tx nm), .int .u64 ru, .slice none 0 0, .int .u64 z, .int .u64 wh, .string { data := #[] }] _ _ HGN.out
          have htr := Tri.grown HS4.out (grownBy_setRow (w3.alloc (.cells #[.int .i64 0, .string { data := #[] }, .int .u64 0, .slice none 0 0, .int .u64 0, .int .u64 0, .string { data := #[] }] 36)) (w3.heap.size) #[.int .i64 1, .string (tx nm), .int .u64 ru, .slice none 0 0, .int .u64 z, .int .u64 wh, .string { data := #[] }]) (fun k hk => by injection hk with hk; subst hk; exact HGS.out)
          refine hK _ _ htr ?_
          clear hK K
          refine wpAnyH_done (by kernel_rfl) ?_ _
          have HFN := Lib.hid hfin
          have HTR := Lib.hid htr
          clear hfin htr
          go_simp
          rw [HM.out]
          exact ⟨_, _, _, _, _, _, _, _, _, _, _, _, _, _, _, _, _, _, _, _, _, _, _, _, _, _, rfl, HGS.out, HFN.out, HTR.out⟩
        · go_simp
          have HGS : Hid (w.heap.size + 2 ≤ W0.drew.heap.size) := HS.out.2.2.2
          have HS3 := Lib.hid (Tri.alloc HS.out (.cells #[.int .i64 0, .string { data := #[] }, .int .u64 0, .slice none 0 0, .int .u64 0, .int .u64 0, .string { data := #[] }] 36))
          have HGN0 := Lib.hid (one_new W0.drew (.cells #[.int .i64 0, .string { data := #[] }, .int .u64 0, .slice none 0 0, .int .u64 0, .int .u64 0, .string { data := #[] }] 36))
          have hlt : W0.drew.heap.size < (W0.drew.alloc (.cells #[.int .i64 0, .string { data := #[] }, .int .u64 0, .slice none 0 0, .int .u64 0, .int .u64 0, .string { data := #[] }] 36)).heap.size := by simp
          refine hK _ _ HS3.out ?_
          clear hK K
          refine h_one 5 rfl (by kernel_rfl) (by kernel_rfl) (fun K hK => ?_)
          go_simp
          refine (HOF.out _).mono ?_
          rintro e w3 ⟨rfl, hbo⟩
          have HS4 := Lib.hid (Tri.below HS3.out hbo)
          have HGN := Lib.hid ((hbo.block W0.drew.heap.size hlt).trans HGN0.out)
          clear hbo
          clear hlt
          refine hK _ _ HS4.out ?_
          clear hK K
          refine h_take 7 (.agg #[.int .i64 1, .string (tx nm), .int .u64 ru, .slice none 0 0, .int .u64 z, .int .u64 wh, .string { data := #[] }]) rfl (by kernel_rfl) (by kernel_rfl) (by kernel_rfl) (fun _ _ _ h => h) (by kernel_rfl) HS4.out (by intro v hv; go_simp) ?_
          refine h_one 9 rfl (by kernel_rfl) (by kernel_rfl) (fun K hK => ?_)
          refine wp_store_row 36 (.tmp 10) (.tmp 31) rfl (W0.drew.heap.size) #[.int .i64 1, .string (tx nm), .int .u64 ru, .slice none 0 0, .int .u64 z, .int .u64 wh, .string { data := #[] }] rfl rfl 36 #[.int .i64 0, .string { data := #[] }, .int .u64 0, .slice none 0 0, .int .u64 0, .int .u64 0, .string { data := #[] }] HGN.out (by kernel_rfl) rfl (by simp [Value.oneCell']) ?_
          have hfin := setRow_heap w3 (W0.drew.heap.size) _ #[.int .i64 1, .string (tx nm), .int .u64 ru, .slice none 0 0, .int .u64 z, .int .u64 wh, .string { data := #[] }] _ _ HGN.out
          have htr := Tri.grown HS4.out (grownBy_setRow w3 (W0.drew.heap.size) #[.int .i64 1, .string (tx nm), .int .u64 ru, .slice none 0 0, .int .u64 z, .int .u64 wh, .string { data := #[] }]) (fun k hk => by injection hk with hk; subst hk; exact HGS.out)
          refine hK _ _ htr ?_
          clear hK K
          refine wpAnyH_done (by kernel_rfl) ?_ _
          have HFN := Lib.hid hfin
          have HTR := Lib.hid htr
          clear hfin htr
          go_simp
          rw [HM.out]
          exact ⟨_, _, _, _, _, _, _, _, _, _, _, _, _, _, _, _, _, _, _, _, _, _, _, _, _, _, rfl, HGS.out, HFN.out, HTR.out⟩
    · have d1 : ((m : Int) != (xn : Int)) = true := by rw [bne_iff_ne]; omega
      have hz := (Tri.start w (.cells #[.string (tx nm), .bool false, .int .u64 ru, .slice xA xn xc] 25) (.cells #[.int .i64 0, .string { data := #[] }, .int .u64 0, .slice none 0 0, .int .u64 0, .int .u64 0, .string { data := #[] }] 36))
      have n1 := at_cell (i := 1) hz.1 rfl
      have n3 := at_cell (i := 3) hz.1 rfl
      have HZ : Hid (((w.alloc (.cells #[.string (tx nm), .bool false, .int .u64 ru, .slice xA xn xc] 25)).alloc (.cells #[.int .i64 0, .string { data := #[] }, .int .u64 0, .slice none 0 0, .int .u64 0, .int .u64 0, .string { data := #[] }] 36)).heap[w.heap.size + 1]? = some (.cells #[.int .i64 0, .string { data := #[] }, .int .u64 0, .slice none 0 0, .int .u64 0, .int .u64 0, .string { data := #[] }] 36 (0, 0))) := hz.2.1
      have HFIN := Lib.hid (setRow_heap ((w.alloc (.cells #[.string (tx nm), .bool false, .int .u64 ru, .slice xA xn xc] 25)).alloc (.cells #[.int .i64 0, .string { data := #[] }, .int .u64 0, .slice none 0 0, .int .u64 0, .int .u64 0, .string { data := #[] }] 36)) (w.heap.size + 1) _ #[.int .i64 0, .string { data := #[] }, .int .u64 0, .slice none 0 0, .int .u64 0, .int .u64 0, .string { data := #[] }] _ _ HZ.out)
      have HBE := Lib.hid (hz.2.2.1.grown (grownBy_setRow ((w.alloc (.cells #[.string (tx nm), .bool false, .int .u64 ru, .slice xA xn xc] 25)).alloc (.cells #[.int .i64 0, .string { data := #[] }, .int .u64 0, .slice none 0 0, .int .u64 0, .int .u64 0, .string { data := #[] }] 36)) (w.heap.size + 1) #[.int .i64 0, .string { data := #[] }, .int .u64 0, .slice none 0 0, .int .u64 0, .int .u64 0, .string { data := #[] }]) hz.2.2.1.size (fun j hj => by cases hj; omega))
      clear hz
      go_enter Try.func11, Try.ntmps11
      go_wp2_with ((with_reducible show wpList _ _ _ (Oper.mk _ (Op.store _ _ _) _ _ _ _ :: _) _ _); refine wpList_store_row rfl 36 (.tmp 8) (.tmp 23) rfl (w.heap.size + 1) #[.int .i64 0, .string { data := #[] }, .int .u64 0, .slice none 0 0, .int .u64 0, .int .u64 0, .string { data := #[] }] rfl rfl 36 _ HZ.out (by kernel_rfl) rfl (by simp [Value.oneCell']) ?_)
      refine bodyPost_ret (gresults_cell_tmp_row Try.results11 _ _ (w.heap.size + 1) _ _ (0, 0) _ rfl HFIN.out Try.underlying36 rfl (by kernel_rfl)) rfl ?_
      exact .inl ⟨.inr (fun h => h1 (by rw [← HHL.out, h]; exact HXL.out)), rfl, HBE.out⟩

end Go.Proofs.Ytbaokcigfgfoaaa
