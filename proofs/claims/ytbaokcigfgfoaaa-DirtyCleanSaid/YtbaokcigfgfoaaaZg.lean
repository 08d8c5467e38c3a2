/- The document's Trace. -/
import Derived.Test.YtbaokcigfgfoaaaZf
namespace Go.Proofs.Ytbaokcigfgfoaaa
open Go.RowKit

set_option maxRecDepth 100000 in
set_option maxHeartbeats 4000000 in
theorem rtrace_any (x : Nw) (H : Option Addr) (m d : Nat) (hs : List Int) (cq : Q64) (wh : Int) (hm : m ≤ 1000000) (hxn : x.n ≤ 1000000) (w : World) (hx : NIn w w.heap.size x) (hh : Reads w w.heap.size 1 H m (hs.map (Value.int .u64))) :
    Calls Try.prog 12 #[x.val, .slice H m d, qv cq, .int .u64 wh] w fun e w' => TrPost x.d hs ((dg cq).toNat : Int) wh w e w' := by
  have HHL : Hid (hs.length = m) := by have := hh.1; simp at this; exact this
  have HXL : Hid (x.d.deps.length = x.n) := hx.len
  have HX : Hid (Reads w w.heap.size 1 x.A x.n (x.d.deps.map tsv)) := hx
  have HH := Lib.hid hh
  obtain ⟨i0, ii0, iz0, iz1, iz2⟩ := info_parts dinfo
  have HOF : Hid (∀ W, Calls Try.prog 23 #[.int .u64 (cq.toNat : Int)] W fun e w' => e = .returned (.int .u64 ((dg cq).toNat : Int)) ∧ W = w') := fun W => refof_any cq W
  unfold qv at *
  generalize ((dg cq).toNat : Int) = z at *
  generalize (cq.toNat : Int) = cn at *
  obtain ⟨⟨nm, sc, ru, ds⟩, xA, xn, xc⟩ := x
  unfold Nw.val
  simp only at *
  clear hx hh
  cases sc with
  | true =>
    have hz := (Tri.start w (.cells #[.string (tx nm), .bool true, .int .u64 ru, .slice xA xn xc] 25) (.cells #[.int .i64 0, .string { data := #[] }, .int .u64 0, .slice none 0 0, .int .u64 0, .int .u64 0, .string { data := #[] }] 36))
    have n1 := at_cell (i := 1) hz.1 rfl
    have n3 := at_cell (i := 3) hz.1 rfl
    have HZ : Hid (((w.alloc (.cells #[.string (tx nm), .bool true, .int .u64 ru, .slice xA xn xc] 25)).alloc (.cells #[.int .i64 0, .string { data := #[] }, .int .u64 0, .slice none 0 0, .int .u64 0, .int .u64 0, .string { data := #[] }] 36)).heap[w.heap.size + 1]? = some (.cells #[.int .i64 0, .string { data := #[] }, .int .u64 0, .slice none 0 0, .int .u64 0, .int .u64 0, .string { data := #[] }] 36 (0, 0))) := hz.2.1
    have HFIN := Lib.hid (setRow_heap ((w.alloc (.cells #[.string (tx nm), .bool true, .int .u64 ru, .slice xA xn xc] 25)).alloc (.cells #[.int .i64 0, .string { data := #[] }, .int .u64 0, .slice none 0 0, .int .u64 0, .int .u64 0, .string { data := #[] }] 36)) (w.heap.size + 1) _ #[.int .i64 0, .string { data := #[] }, .int .u64 0, .slice none 0 0, .int .u64 0, .int .u64 0, .string { data := #[] }] _ _ HZ.out)
    have HBE := Lib.hid (hz.2.2.1.grown (grownBy_setRow ((w.alloc (.cells #[.string (tx nm), .bool true, .int .u64 ru, .slice xA xn xc] 25)).alloc (.cells #[.int .i64 0, .string { data := #[] }, .int .u64 0, .slice none 0 0, .int .u64 0, .int .u64 0, .string { data := #[] }] 36)) (w.heap.size + 1) #[.int .i64 0, .string { data := #[] }, .int .u64 0, .slice none 0 0, .int .u64 0, .int .u64 0, .string { data := #[] }]) hz.2.2.1.size (fun j hj => by cases hj; omega))
    clear hz
    go_enter Try.func12, Try.ntmps12
    go_wp2_with ((with_reducible show wpList _ _ _ (Oper.mk _ (Op.store _ _ _) _ _ _ _ :: _) _ _); refine wpList_store_row rfl 36 (.tmp 8) (.tmp 22) rfl (w.heap.size + 1) #[.int .i64 0, .string { data := #[] }, .int .u64 0, .slice none 0 0, .int .u64 0, .int .u64 0, .string { data := #[] }] rfl rfl 36 _ HZ.out (by kernel_rfl) rfl (by simp [Value.oneCell']) ?_)
    refine bodyPost_ret (gresults_cell_tmp_row Try.results12 _ _ (w.heap.size + 1) _ _ (0, 0) _ rfl HFIN.out Try.underlying36 rfl (by kernel_rfl)) rfl ?_
    exact .inl ⟨.inl rfl, rfl, HBE.out⟩
  | false =>
    by_cases h1 : m = xn
    · subst h1
      have d1 : ((m : Int) != (m : Int)) = false := by simp
      have hz := (Tri.start w (.cells #[.string (tx nm), .bool false, .int .u64 ru, .slice xA m xc] 25) (.cells #[.int .i64 0, .string { data := #[] }, .int .u64 0, .slice none 0 0, .int .u64 0, .int .u64 0, .string { data := #[] }] 36))
      have n0 := at_cell (i := 0) hz.1 rfl
      have n1 := at_cell (i := 1) hz.1 rfl
      have n2 := at_cell (i := 2) hz.1 rfl
      have n3 := at_cell (i := 3) hz.1 rfl
      clear hz
      go_enter Try.func12, Try.ntmps12
      go_wp2
      obtain ⟨M, hM⟩ : ∃ M : Act → World → Prop, M = (fun a v => ∃ (g : Nat) (v2 v5 v6 v7 v11 v12 v13 v14 v15 v16 v17 v18 v19 v20 v21 v22 v23 v24 v25 v26 v27 v28 v29 v30 : Value), a = ({ tmps := #[.agg #[.string (tx nm), .bool false, .int .u64 ru, .slice xA m xc], .slice H m d, v2, .int .u64 wh, .pointer (some ⟨w.heap.size, 0, none⟩), v5, v6, v7, .pointer (some ⟨w.heap.size + 1, 0, none⟩), .int .i64 0, .pointer (some ⟨g, 0, none⟩), v11, v12, v13, v14, v15, v16, v17, v18, v19, v20, v21, v22, v23, v24, v25, v26, v27, v28, v29, v30, undef, undef, undef, undef, undef, undef, undef, undef, undef, undef, undef, undef, undef, undef, undef, undef, undef, undef, undef, undef, undef, undef], defers := [] } : Act) ∧ w.heap.size + 2 ≤ g ∧ v.heap[g]? = some (.cells #[.int .i64 1, .string (tx nm), .int .u64 ru, .slice none 0 0, .int .u64 z, .int .u64 wh, .string { data := #[] }] 36 (0, 0)) ∧ Tri w (.cells #[.string (tx nm), .bool false, .int .u64 ru, .slice xA m xc] 25) (.cells #[.int .i64 0, .string { data := #[] }, .int .u64 0, .slice none 0 0, .int .u64 0, .int .u64 0, .string { data := #[] }] 36) v) := ⟨_, rfl⟩
      have HM := Lib.hid hM
      clear hM n0 n1 n2 n3
      refine wp_cutz M ?_ ?_
      · intro a v hM
        rw [HM.out] at hM
        obtain ⟨g, v2, v5, v6, v7, v11, v12, v13, v14, v15, v16, v17, v18, v19, v20, v21, v22, v23, v24, v25, v26, v27, v28, v29, v30, rfl, hgs, hg, htr⟩ := hM
        have HGS := Lib.hid hgs
        have HG := Lib.hid hg
        have HTR := Lib.hid htr
        have n3 := at_cell (i := 3) htr.1 rfl
        clear hgs hg htr HM
        go_wp2
        go_loopw [11] (fun idx wr => TrRel w (.cells #[.string (tx nm), .bool false, .int .u64 ru, .slice xA m xc] 25) (.cells #[.int .i64 0, .string { data := #[] }, .int .u64 0, .slice none 0 0, .int .u64 0, .int .u64 0, .string { data := #[] }] 36) g (.int .i64 1) (.string (tx nm)) (.int .u64 ru) (.int .u64 z) (.int .u64 wh) (.string { data := #[] }) (zipD ds hs) m idx wr) (fun idx _ => m - (intOf idx).toNat)
        case atStart => exact ⟨0, by omega, rfl, .slice none 0 0, HTR.out, HG.out, ⟨by simp [dps], .inl ⟨rfl, rfl⟩⟩⟩
        case round =>
          obtain ⟨i, hi, rfl, va, ht, hg, ho⟩ := hrel
          obtain ⟨Av, cv, rfl, hav⟩ := own_slice ho
          have HT := Lib.hid ht
          have HGW := Lib.hid hg
          have HO := Lib.hid ho
          have n3 := at_cell (i := 3) ht.1 rfl
          by_cases hlt : i < m
          · obtain ⟨s, hsn⟩ : ∃ s, ds[i]? = some s := ⟨_, List.getElem?_eq_getElem (by rw [HXL.out]; exact hlt)⟩
            obtain ⟨h, hhn⟩ : ∃ h, hs[i]? = some h := ⟨_, List.getElem?_eq_getElem (by rw [HHL.out]; exact hlt)⟩
            obtain ⟨ax, sv, hax, hxs, hsv, hsc⟩ := Reads.at_ HX.out hlt
            obtain ⟨ah, hv, hah, hxb, hhv, hhc⟩ := HH.out.at_ hlt
            subst hax hah
            obtain rfl : sv = tsv s := by rw [List.getElem?_map, hsn] at hsv; simpa using hsv.symm
            obtain rfl : hv = .int .u64 h := by rw [List.getElem?_map, hhn] at hhv; simpa using hhv.symm
            unfold tsv at hsc
            have HSC := Lib.hid hsc
            have HXS := Lib.hid hxs
            have HHC := Lib.hid hhc
            have HXB := Lib.hid hxb
            have HZS := Lib.hid (zipD_step hsn hhn)
            have hsw := (ht.2.2.1.cell (p := ax.add i) (by rw [block_of_add]; exact hxs)).trans hsc
            have hgl : g < wr.heap.size := (Array.getElem?_eq_some_iff.1 hg).1
            have HGD : Hid (wr.drew.heap[g]? = some (.cells #[.int .i64 1, .string (tx nm), .int .u64 ru, .slice Av i cv, .int .u64 z, .int .u64 wh, .string { data := #[] }] 36 (0, 0))) := hg
            have HT7 := Lib.hid (Tri.alloc (Tri.drew ht) (.cells #[.string (tx s), .int .u64 h, .bool false] 60))
            have HG7 := Lib.hid ((Below.heap_alloc wr.drew (.cells #[.string (tx s), .int .u64 h, .bool false] 60) g hgl).trans hg)
            have HO7 : Hid ((wr.drew.alloc (.cells #[.string (tx s), .int .u64 h, .bool false] 60)).ownsRow (w.heap.size + 2) 60 3 (.slice Av i cv) i (dps ((zipD ds hs).take i))) := World.ownsRow.alloc (show wr.drew.ownsRow _ _ _ _ _ _ from ho) _
            have HGL : Hid (g < (wr.drew.alloc (.cells #[.string (tx s), .int .u64 h, .bool false] 60)).heap.size) := (by have h1 : (wr.drew.alloc (.cells #[.string (tx s), .int .u64 h, .bool false] 60)).heap.size = wr.drew.heap.size + 1 := (by simp); have h2 : wr.drew.heap.size = wr.heap.size := rfl; show _ < _; omega)
            have hi0 : (0 : Int) ≤ (i : Int) := by omega
            have hi1 : (i : Int) < (m : Int) := by omega
            clear hsn hhn hsv hhv hsc hhc hxs hxb ht hg ho hav hgl
            go_wp2
            refine wp_region_held (S := Tri w (.cells #[.string (tx nm), .bool false, .int .u64 ru, .slice (some ax) m xc] 25) (.cells #[.int .i64 0, .string { data := #[] }, .int .u64 0, .slice none 0 0, .int .u64 0, .int .u64 0, .string { data := #[] }] 36)) (by kernel_rfl) ?_
            have HSD := Lib.hid (Tri.drew HT.out)
            refine h_take 0 (.pointer (some ⟨g, 3, none⟩)) rfl (by kernel_rfl) (by kernel_rfl) (by kernel_rfl) (fun _ _ _ h => h) (by kernel_rfl) HSD.out (fun _ _ => by kernel_rfl) ?_
            refine h_take 2 (.pointer (some ⟨w.heap.size, 3, none⟩)) rfl (by kernel_rfl) (by kernel_rfl) (by kernel_rfl) (fun _ _ _ h => h) (by kernel_rfl) HSD.out (fun _ _ => by kernel_rfl) ?_
            refine h_take 3 (.slice (some ax) m xc) rfl (by kernel_rfl) (by kernel_rfl) (by kernel_rfl) (fun _ _ _ h => h) (by kernel_rfl) HSD.out (by intro v hv; have b0 := at_cell (i := 0) hv.1 rfl; have b1 := at_cell (i := 1) hv.1 rfl; have b2 := at_cell (i := 2) hv.1 rfl; have b3 := at_cell (i := 3) hv.1 rfl; go_simp) ?_
            refine h_take 4 (.int .i64 (i : Int)) rfl (by kernel_rfl) (by kernel_rfl) (by kernel_rfl) (fun _ _ _ h => h) (by kernel_rfl) HSD.out (fun _ _ => by kernel_rfl) ?_
            refine h_take 5 (.pointer (some (ax.add i))) rfl (by kernel_rfl) (by kernel_rfl) (by kernel_rfl) (fun _ _ _ h => h) (by kernel_rfl) HSD.out (by intro v hv; go_simp) ?_
            refine h_take 6 (.string (tx s)) rfl (by kernel_rfl) (by kernel_rfl) (by kernel_rfl) (fun _ _ _ h => h) (by kernel_rfl) HSD.out (by intro v hv; have hcc := (hv.2.2.1.cell (p := ax.add i) (by rw [block_of_add]; exact HXS.out)).trans HSC.out; go_simp) ?_
            refine h_take 7 (.slice (some ah) m d) rfl (by kernel_rfl) (by kernel_rfl) (by kernel_rfl) (fun _ _ _ h => h) (by kernel_rfl) HSD.out (fun _ _ => by kernel_rfl) ?_
            refine h_take 8 (.int .i64 (i : Int)) rfl (by kernel_rfl) (by kernel_rfl) (by kernel_rfl) (fun _ _ _ h => h) (by kernel_rfl) HSD.out (fun _ _ => by kernel_rfl) ?_
            refine h_take 9 (.pointer (some (ah.add i))) rfl (by kernel_rfl) (by kernel_rfl) (by kernel_rfl) (fun _ _ _ h => h) (by kernel_rfl) HSD.out (by intro v hv; go_simp) ?_
            refine h_take 10 (.int .u64 h) rfl (by kernel_rfl) (by kernel_rfl) (by kernel_rfl) (fun _ _ _ h => h) (by kernel_rfl) HSD.out (by intro v hv; have hcc := (hv.2.2.1.cell (p := ah.add i) (by rw [block_of_add]; exact HXB.out)).trans HHC.out; go_simp) ?_
            refine h_take 11 (.agg #[.string (tx s), .int .u64 h, .bool false]) rfl (by kernel_rfl) (by kernel_rfl) (by kernel_rfl) (fun _ _ _ h => h) (by kernel_rfl) HSD.out (by intro v hv; go_simp) ?_
            refine h_either 1 12 rfl rfl (by kernel_rfl) (by kernel_rfl) (by kernel_rfl) (fun K hK => ?_) (fun K hK => ?_)
            · have c3 : wr.cell? ⟨g, 3, none⟩ = some (.slice Av i cv) := at_cell (i := 3) HGW.out rfl
              go_simp
              refine hK _ _ HSD.out ?_
              clear hK K c3
              refine h_one 12 rfl (by kernel_rfl) (by kernel_rfl) (fun K hK => ?_)
              go_simp
              refine hK _ _ HT7.out ?_
              clear hK K
              refine h_one 13 rfl (by kernel_rfl) (by kernel_rfl) (fun K hK => ?_)
              refine wp_append_many (.tmp 38) (.tmp 49) 34 rfl (w.heap.size + 2) 60 i0 _ 3 32 Try.underlying34 ii0 iz0 iz1 iz2 rfl (by decide) (.slice Av i cv) i _ rfl HO7.out (some ⟨wr.drew.heap.size, 0, none⟩) 1 1 (wr.drew.heap.size + 1) (dps [⟨s, h, false⟩]) rfl (by simp) (reads_dep2 wr.drew ⟨s, h, false⟩) (dps_one _) (by unfold maxLen; omega) (by omega) HT7.out.2.2.2 ?_
              intro v8 w8 ho8 hg8 hv8
              rw [← HZS.out] at ho8
              obtain ⟨g1, g2, g3, g4, g5⟩ := tr_push HT7.out HG7.out HGS.out HGL.out HO7.out ho8 hg8
              obtain ⟨A8, c8, rfl, _⟩ := own_slice ho8
              have G3 := Lib.hid g3
              have G4 := Lib.hid g4
              have G5 := Lib.hid g5
              have G1 := Lib.hid g1
              have G2 := Lib.hid g2
              refine hK _ _ g2 ?_
              clear hK K g1 g2 g3 g4 g5 ho8 hg8 hv8
              refine h_take 14 (.pointer (some ⟨g, 3, none⟩)) rfl (by kernel_rfl) (by kernel_rfl) (by kernel_rfl) (fun _ _ _ h => h) (by kernel_rfl) G2.out (fun _ _ => by kernel_rfl) ?_
              refine h_one 15 rfl (by kernel_rfl) (by kernel_rfl) (fun K hK => ?_)
              have p3 := at_cell (i := 3) G1.out rfl
              have z3 := at_frozen (i := 3) G1.out
              go_simp
              refine hK _ _ G4.out ?_
              refine wpAnyH_done (by kernel_rfl) ?_ _
              clear hK K p3 z3
              go_simp
              go_wp2
              exact ⟨⟨i + 1, by omega, by go_num, _, G4.out, G3.out, G5.out⟩, by simp [intOf]; omega⟩
            · go_simp
              refine hK _ _ HT7.out ?_
              clear hK K
              refine h_one 1 rfl (by kernel_rfl) (by kernel_rfl) (fun K hK => ?_)
              have c3 : (wr.alloc (.cells #[.string (tx s), .int .u64 h, .bool false] 60)).cell? ⟨g, 3, none⟩ = some (.slice Av i cv) := at_cell (i := 3) HG7.out rfl
              go_simp
              refine hK _ _ HT7.out ?_
              clear hK K c3
              refine h_one 13 rfl (by kernel_rfl) (by kernel_rfl) (fun K hK => ?_)
              refine wp_append_many (.tmp 38) (.tmp 49) 34 rfl (w.heap.size + 2) 60 i0 _ 3 32 Try.underlying34 ii0 iz0 iz1 iz2 rfl (by decide) (.slice Av i cv) i _ rfl HO7.out (some ⟨wr.drew.heap.size, 0, none⟩) 1 1 (wr.drew.heap.size + 1) (dps [⟨s, h, false⟩]) rfl (by simp) (reads_dep2 wr.drew ⟨s, h, false⟩) (dps_one _) (by unfold maxLen; omega) (by omega) HT7.out.2.2.2 ?_
              intro v8 w8 ho8 hg8 hv8
              rw [← HZS.out] at ho8
              obtain ⟨g1, g2, g3, g4, g5⟩ := tr_push HT7.out HG7.out HGS.out HGL.out HO7.out ho8 hg8
              obtain ⟨A8, c8, rfl, _⟩ := own_slice ho8
              have G3 := Lib.hid g3
              have G4 := Lib.hid g4
              have G5 := Lib.hid g5
              have G1 := Lib.hid g1
              have G2 := Lib.hid g2
              refine hK _ _ g2 ?_
              clear hK K g1 g2 g3 g4 g5 ho8 hg8 hv8
              refine h_take 14 (.pointer (some ⟨g, 3, none⟩)) rfl (by kernel_rfl) (by kernel_rfl) (by kernel_rfl) (fun _ _ _ h => h) (by kernel_rfl) G2.out (fun _ _ => by kernel_rfl) ?_
              refine h_one 15 rfl (by kernel_rfl) (by kernel_rfl) (fun K hK => ?_)
              have p3 := at_cell (i := 3) G1.out rfl
              have z3 := at_frozen (i := 3) G1.out
              go_simp
              refine hK _ _ G4.out ?_
              refine wpAnyH_done (by kernel_rfl) ?_ _
              clear hK K p3 z3
              go_simp
              go_wp2
              exact ⟨⟨i + 1, by omega, by go_num, _, G4.out, G3.out, G5.out⟩, by simp [intOf]; omega⟩
          · obtain rfl : i = m := by omega
            rw [List.take_of_length_le (by rw [zipD_len HXL.out HHL.out]; omega)] at HO
            have HZ : Hid (wr.heap[w.heap.size + 1]? = some (.cells #[.int .i64 0, .string { data := #[] }, .int .u64 0, .slice none 0 0, .int .u64 0, .int .u64 0, .string { data := #[] }] 36 (0, 0))) := ht.2.1
            have g0 := at_cell (i := 0) hg rfl
            have g1 := at_cell (i := 1) hg rfl
            have g2 := at_cell (i := 2) hg rfl
            have g3 := at_cell (i := 3) hg rfl
            have g4 := at_cell (i := 4) hg rfl
            have g5 := at_cell (i := 5) hg rfl
            have g6 := at_cell (i := 6) hg rfl
            have HAV := Lib.hid hav
            clear ht hg ho hav
            have HFIN := Lib.hid (setRow_heap wr (w.heap.size + 1) _ #[.int .i64 1, .string (tx nm), .int .u64 ru, .slice Av i cv, .int .u64 z, .int .u64 wh, .string { data := #[] }] _ _ HZ.out)
            have HBE := Lib.hid (HT.out.2.2.1.grown (grownBy_setRow wr (w.heap.size + 1) #[.int .i64 1, .string (tx nm), .int .u64 ru, .slice Av i cv, .int .u64 z, .int .u64 wh, .string { data := #[] }]) HT.out.2.2.1.size (fun j hj => by cases hj; omega))
            have HRE : Hid (Reads (wr.setRow (w.heap.size + 1) #[.int .i64 1, .string (tx nm), .int .u64 ru, .slice Av i cv, .int .u64 z, .int .u64 wh, .string { data := #[] }]) (wr.setRow (w.heap.size + 1) #[.int .i64 1, .string (tx nm), .int .u64 ru, .slice Av i cv, .int .u64 z, .int .u64 wh, .string { data := #[] }]).heap.size 3 Av i (dps (zipD ds hs))) := Reads.of_own (World.ownsRow.kept HO.out (grownBy_setRow wr (w.heap.size + 1) #[.int .i64 1, .string (tx nm), .int .u64 ru, .slice Av i cv, .int .u64 z, .int .u64 wh, .string { data := #[] }]) (by
              cases hv : (Value.slice Av i cv).ownBlock with
              | none => exact .inl rfl
              | some j => exact .inr (fun e => by have := own_block HO.out j hv; injection e with e; omega)))
            go_wp2_with ((with_reducible show wpList _ _ _ (Oper.mk _ (Op.store _ _ _) _ _ _ _ :: _) _ _); refine wpList_store_row rfl 36 (.tmp 8) (.tmp 52) rfl (w.heap.size + 1) #[.int .i64 1, .string (tx nm), .int .u64 ru, .slice Av i cv, .int .u64 z, .int .u64 wh, .string { data := #[] }] rfl rfl 36 _ HZ.out (by kernel_rfl) rfl (by simp [Value.oneCell']) ?_)
            refine bodyPost_ret (gresults_cell_tmp_row Try.results12 _ _ (w.heap.size + 1) _ _ (0, 0) _ rfl HFIN.out Try.underlying36 rfl (by kernel_rfl)) rfl ?_
            exact .inr ⟨rfl, by rw [HHL.out, HXL.out], Av, i, cv, rfl, HAV.out, HXL.out.symm, HRE.out, HBE.out⟩
      · have hS0 := Tri.start w (.cells #[.string (tx nm), .bool false, .int .u64 ru, .slice xA m xc] 25) (.cells #[.int .i64 0, .string { data := #[] }, .int .u64 0, .slice none 0 0, .int .u64 0, .int .u64 0, .string { data := #[] }] 36)
        generalize ((w.alloc (.cells #[.string (tx nm), .bool false, .int .u64 ru, .slice xA m xc] 25)).alloc (.cells #[.int .i64 0, .string { data := #[] }, .int .u64 0, .slice none 0 0, .int .u64 0, .int .u64 0, .string { data := #[] }] 36)) = W0 at *
        have HS : Hid (Tri w (.cells #[.string (tx nm), .bool false, .int .u64 ru, .slice xA m xc] 25) (.cells #[.int .i64 0, .string { data := #[] }, .int .u64 0, .slice none 0 0, .int .u64 0, .int .u64 0, .string { data := #[] }] 36) W0.drew) := hS0.drew
        clear hS0
        refine wp_region_held (S := Tri w (.cells #[.string (tx nm), .bool false, .int .u64 ru, .slice xA m xc] 25) (.cells #[.int .i64 0, .string { data := #[] }, .int .u64 0, .slice none 0 0, .int .u64 0, .int .u64 0, .string { data := #[] }] 36)) (by kernel_rfl) ?_
        refine h_take 0 (.pointer (some ⟨w.heap.size, 0, none⟩)) rfl (by kernel_rfl) (by kernel_rfl) (by kernel_rfl) (fun _ _ _ h => h) (by kernel_rfl) HS.out (fun _ _ => by kernel_rfl) ?_
        refine h_take 1 (.string (tx nm)) rfl (by kernel_rfl) (by kernel_rfl) (by kernel_rfl) (fun _ _ _ h => h) (by kernel_rfl) HS.out (by intro v hv; have b0 := at_cell (i := 0) hv.1 rfl; have b1 := at_cell (i := 1) hv.1 rfl; have b2 := at_cell (i := 2) hv.1 rfl; have b3 := at_cell (i := 3) hv.1 rfl; go_simp) ?_
        refine h_take 2 (.pointer (some ⟨w.heap.size, 2, none⟩)) rfl (by kernel_rfl) (by kernel_rfl) (by kernel_rfl) (fun _ _ _ h => h) (by kernel_rfl) HS.out (fun _ _ => by kernel_rfl) ?_
        refine h_take 3 (.int .u64 ru) rfl (by kernel_rfl) (by kernel_rfl) (by kernel_rfl) (fun _ _ _ h => h) (by kernel_rfl) HS.out (by intro v hv; have b0 := at_cell (i := 0) hv.1 rfl; have b1 := at_cell (i := 1) hv.1 rfl; have b2 := at_cell (i := 2) hv.1 rfl; have b3 := at_cell (i := 3) hv.1 rfl; go_simp) ?_
        refine h_take 4 (.int .u64 cn) rfl (by kernel_rfl) (by kernel_rfl) (by kernel_rfl) (fun _ _ _ h => h) (by kernel_rfl) HS.out (fun _ _ => by kernel_rfl) ?_
        refine h_take 6 (.int .u64 wh) rfl (by kernel_rfl) (by kernel_rfl) (by kernel_rfl) (fun _ _ _ h => h) (by kernel_rfl) HS.out (fun _ _ => by kernel_rfl) ?_
        refine h_either 5 8 rfl rfl (by kernel_rfl) (by kernel_rfl) (by kernel_rfl) (fun K hK => ?_) (fun K hK => ?_)
        · go_simp
          refine (HOF.out _).mono ?_
          rintro e w3 ⟨rfl, rfl⟩
          have HS3 := HS
          refine hK _ _ HS3.out ?_
          clear hK K
          refine h_take 7 (.agg #[.int .i64 1, .string (tx nm), .int .u64 ru, .slice none 0 0, .int .u64 z, .int .u64 wh, .string { data := #[] }]) rfl (by kernel_rfl) (by kernel_rfl) (by kernel_rfl) (fun _ _ _ h => h) (by kernel_rfl) HS3.out (by intro v hv; go_simp) ?_
          refine h_one 8 rfl (by kernel_rfl) (by kernel_rfl) (fun K hK => ?_)
          go_simp
          have HGS : Hid (w.heap.size + 2 ≤ W0.drew.heap.size) := HS3.out.2.2.2
          have HS4 := Lib.hid (Tri.alloc HS3.out (.cells #[.int .i64 0, .string { data := #[] }, .int .u64 0, .slice none 0 0, .int .u64 0, .int .u64 0, .string { data := #[] }] 36))
          have hgn := one_new W0.drew (.cells #[.int .i64 0, .string { data := #[] }, .int .u64 0, .slice none 0 0, .int .u64 0, .int .u64 0, .string { data := #[] }] 36)
          have HGN := Lib.hid hgn
          clear hgn
          refine hK _ _ HS4.out ?_
          clear hK K
          refine h_one 9 rfl (by kernel_rfl) (by kernel_rfl) (fun K hK => ?_)
          refine wp_store_row 36 (.tmp 10) (.tmp 30) rfl (W0.drew.heap.size) #[.int .i64 1, .string (tx nm), .int .u64 ru, .slice none 0 0, .int .u64 z, .int .u64 wh, .string { data := #[] }] rfl rfl 36 #[.int .i64 0, .string { data := #[] }, .int .u64 0, .slice none 0 0, .int .u64 0, .int .u64 0, .string { data := #[] }] HGN.out (by kernel_rfl) rfl (by simp [Value.oneCell']) ?_
          have hfin := setRow_heap (W0.drew.alloc (.cells #[.int .i64 0, .string { data := #[] }, .int .u64 0, .slice none 0 0, .int .u64 0, .int .u64 0, .string { data := #[] }] 36)) (W0.drew.heap.size) _ #[.int .i64 1, .string (tx nm), .int .u64 ru, .slice none 0 0, .int .u64 z, .int .u64 wh, .string { data := #[] }] _ _ HGN.out
          have htr := Tri.grown HS4.out (grownBy_setRow (W0.drew.alloc (.cells #[.int .i64 0, .string { data := #[] }, .int .u64 0, .slice none 0 0, .int .u64 0, .int .u64 0, .string { data := #[] }] 36)) (W0.drew.heap.size) #[.int .i64 1, .string (tx nm), .int .u64 ru, .slice none 0 0, .int .u64 z, .int .u64 wh, .string { data := #[] }]) (fun k hk => by injection hk with hk; subst hk; exact HGS.out)
          refine hK _ _ htr ?_
          clear hK K
          refine wpAnyH_done (by kernel_rfl) ?_ _
          have HFN := Lib.hid hfin
          have HTR := Lib.hid htr
          clear hfin htr
          go_simp
          rw [HM.out]
          exact ⟨_, _, _, _, _, _, _, _, _, _, _, _, _, _, _, _, _, _, _, _, _, _, _, _, _, rfl, HGS.out, HFN.out, HTR.out⟩
        · go_simp
          have HGS : Hid (w.heap.size + 2 ≤ W0.drew.heap.size) := HS.out.2.2.2
          have HS3 := Lib.hid (Tri.alloc HS.out (.cells #[.int .i64 0, .string { data := #[] }, .int .u64 0, .slice none 0 0, .int .u64 0, .int .u64 0, .string { data := #[] }] 36))
          have HGN0 := Lib.hid (one_new W0.drew (.cells #[.int .i64 0, .string { data := #[] }, .int .u64 0, .slice none 0 0, .int .u64 0, .int .u64 0, .string { data := #[] }] 36))
          have hlt : W0.drew.heap.size < (W0.drew.alloc (.cells #[.int .i64 0, .string { data := #[] }, .int .u64 0, .slice none 0 0, .int .u64 0, .int .u64 0, .string { data := #[] }] 36)).heap.size := by simp
          refine hK _ _ HS3.out ?_
          clear hK K
          refine h_one 5 rfl (by kernel_rfl) (by kernel_rfl) (fun K hK => ?_)
          go_simp
          refine (HOF.out _).mono ?_
          rintro e w3 ⟨rfl, rfl⟩
          have HS4 := HS3
          have HGN := HGN0
          clear hlt
          refine hK _ _ HS4.out ?_
          clear hK K
          refine h_take 7 (.agg #[.int .i64 1, .string (tx nm), .int .u64 ru, .slice none 0 0, .int .u64 z, .int .u64 wh, .string { data := #[] }]) rfl (by kernel_rfl) (by kernel_rfl) (by kernel_rfl) (fun _ _ _ h => h) (by kernel_rfl) HS4.out (by intro v hv; go_simp) ?_
          refine h_one 9 rfl (by kernel_rfl) (by kernel_rfl) (fun K hK => ?_)
          refine wp_store_row 36 (.tmp 10) (.tmp 30) rfl (W0.drew.heap.size) #[.int .i64 1, .string (tx nm), .int .u64 ru, .slice none 0 0, .int .u64 z, .int .u64 wh, .string { data := #[] }] rfl rfl 36 #[.int .i64 0, .string { data := #[] }, .int .u64 0, .slice none 0 0, .int .u64 0, .int .u64 0, .string { data := #[] }] HGN.out (by kernel_rfl) rfl (by simp [Value.oneCell']) ?_
          have hfin := setRow_heap (W0.drew.alloc (.cells #[.int .i64 0, .string { data := #[] }, .int .u64 0, .slice none 0 0, .int .u64 0, .int .u64 0, .string { data := #[] }] 36)) (W0.drew.heap.size) _ #[.int .i64 1, .string (tx nm), .int .u64 ru, .slice none 0 0, .int .u64 z, .int .u64 wh, .string { data := #[] }] _ _ HGN.out
          have htr := Tri.grown HS4.out (grownBy_setRow (W0.drew.alloc (.cells #[.int .i64 0, .string { data := #[] }, .int .u64 0, .slice none 0 0, .int .u64 0, .int .u64 0, .string { data := #[] }] 36)) (W0.drew.heap.size) #[.int .i64 1, .string (tx nm), .int .u64 ru, .slice none 0 0, .int .u64 z, .int .u64 wh, .string { data := #[] }]) (fun k hk => by injection hk with hk; subst hk; exact HGS.out)
          refine hK _ _ htr ?_
          clear hK K
          refine wpAnyH_done (by kernel_rfl) ?_ _
          have HFN := Lib.hid hfin
          have HTR := Lib.hid htr
          clear hfin htr
          go_simp
          rw [HM.out]
          exact ⟨_, _, _, _, _, _, _, _, _, _, _, _, _, _, _, _, _, _, _, _, _, _, _, _, _, rfl, HGS.out, HFN.out, HTR.out⟩
    · have d1 : ((m : Int) != (xn : Int)) = true := by rw [bne_iff_ne]; omega
      have hz := (Tri.start w (.cells #[.string (tx nm), .bool false, .int .u64 ru, .slice xA xn xc] 25) (.cells #[.int .i64 0, .string { data := #[] }, .int .u64 0, .slice none 0 0, .int .u64 0, .int .u64 0, .string { data := #[] }] 36))
      have n1 := at_cell (i := 1) hz.1 rfl
      have n3 := at_cell (i := 3) hz.1 rfl
      have HZ : Hid (((w.alloc (.cells #[.string (tx nm), .bool false, .int .u64 ru, .slice xA xn xc] 25)).alloc (.cells #[.int .i64 0, .string { data := #[] }, .int .u64 0, .slice none 0 0, .int .u64 0, .int .u64 0, .string { data := #[] }] 36)).heap[w.heap.size + 1]? = some (.cells #[.int .i64 0, .string { data := #[] }, .int .u64 0, .slice none 0 0, .int .u64 0, .int .u64 0, .string { data := #[] }] 36 (0, 0))) := hz.2.1
      have HFIN := Lib.hid (setRow_heap ((w.alloc (.cells #[.string (tx nm), .bool false, .int .u64 ru, .slice xA xn xc] 25)).alloc (.cells #[.int .i64 0, .string { data := #[] }, .int .u64 0, .slice none 0 0, .int .u64 0, .int .u64 0, .string { data := #[] }] 36)) (w.heap.size + 1) _ #[.int .i64 0, .string { data := #[] }, .int .u64 0, .slice none 0 0, .int .u64 0, .int .u64 0, .string { data := #[] }] _ _ HZ.out)
      have HBE := Lib.hid (hz.2.2.1.grown (grownBy_setRow ((w.alloc (.cells #[.string (tx nm), .bool false, .int .u64 ru, .slice xA xn xc] 25)).alloc (.cells #[.int .i64 0, .string { data := #[] }, .int .u64 0, .slice none 0 0, .int .u64 0, .int .u64 0, .string { data := #[] }] 36)) (w.heap.size + 1) #[.int .i64 0, .string { data := #[] }, .int .u64 0, .slice none 0 0, .int .u64 0, .int .u64 0, .string { data := #[] }]) hz.2.2.1.size (fun j hj => by cases hj; omega))
      clear hz
      go_enter Try.func12, Try.ntmps12
      go_wp2_with ((with_reducible show wpList _ _ _ (Oper.mk _ (Op.store _ _ _) _ _ _ _ :: _) _ _); refine wpList_store_row rfl 36 (.tmp 8) (.tmp 22) rfl (w.heap.size + 1) #[.int .i64 0, .string { data := #[] }, .int .u64 0, .slice none 0 0, .int .u64 0, .int .u64 0, .string { data := #[] }] rfl rfl 36 _ HZ.out (by kernel_rfl) rfl (by simp [Value.oneCell']) ?_)
      refine bodyPost_ret (gresults_cell_tmp_row Try.results12 _ _ (w.heap.size + 1) _ _ (0, 0) _ rfl HFIN.out Try.underlying36 rfl (by kernel_rfl)) rfl ?_
      exact .inl ⟨.inr (fun h => h1 (by rw [← HHL.out, h]; exact HXL.out)), rfl, HBE.out⟩

end Go.Proofs.Ytbaokcigfgfoaaa
