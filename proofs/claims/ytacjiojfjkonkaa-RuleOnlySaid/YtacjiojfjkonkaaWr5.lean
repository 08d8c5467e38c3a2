/- rule.made of a node that is no source. -/
import Derived.Laws.Tables
import Derived.Test.YtacjiojfjkonkaaWr4
namespace Go.Proofs.Ytacjiojfjkonkaa
open Go.RowKit

theorem info_q : (Try.prog.info? 34).map (fun i => (i.zero, i.size, i.bytes)) = some (some (.int .u64 0), 1, 8) := by kernel_rfl
theorem con_step (l : List Stp) {ds : List (List UInt8)} {i : Nat} {s : List UInt8} (h : ds[i]? = some s) : ((ds.take (i + 1)).map (fun d => givN l d l.length)).map qv = ((ds.take i).map (fun d => givN l d l.length)).map qv ++ [qv (givN l s l.length)] := by
  rw [List.take_add_one, h, List.map_append, List.map_append]
  rfl

set_option maxRecDepth 100000 in
set_option maxHeartbeats 4000000 in
theorem made_node (nm : List UInt8) (ru : Int) (r : Q64) (hru : qv r = .int .u64 ru) (xA : Option Addr) (xn xc : Nat) (ds : List (List UInt8)) (hds : ∀ d ∈ ds, d.length ≤ maxLen) (G : Option Addr) (gn gc : Nat) (b mb N : Nat) (l : List Stp) (hn : xn ≤ 1000) (w : World)
    (hx : Reads w w.heap.size 1 xA xn (ds.map tsv)) (hbs : b < w.heap.size) (hb : w.cell? ⟨b, 0, none⟩ = some (.map (some mb))) (ht : TMap w mb N (conF l)) :
    Calls Try.prog 20 #[.agg #[.string (tx nm), .bool false, .int .u64 ru, .slice xA xn xc], .slice G gn gc, .func (.func 19) #[] #[.pointer (some ⟨b, 0, none⟩)]] w fun e w' => e = .returned (.agg #[.string (tx nm), .bool true, qv (foq (dg r) (ds.map (fun d => givN l d l.length)))]) ∧ Below w.heap.size w w' := by
  have HCON : Hid (∀ (W : World), Below w.heap.size w W → ∀ s : List UInt8, s.length ≤ maxLen → Calls Try.prog 19 #[.string (tx s), .pointer (some ⟨b, 0, none⟩)] W fun e w' => e = .returned (qv (givN l s l.length)) ∧ W = w') := fun W hbw s hs => contents_any s hs b mb N l W ((hbw.cell (p := ⟨b, 0, none⟩) hbs).trans hb) (ht.below hbw)
  have HL : Hid (ds.length = xn) := by show _ = _; have := hx.1; simpa using this
  have HX := Lib.hid hx
  have HD := Lib.hid hds
  have HRU := Lib.hid hru
  obtain ⟨z, hz⟩ : ∃ z : Int, qv (foq (dg r) (ds.map (fun d => givN l d l.length))) = .int .u64 z := ⟨_, rfl⟩
  rw [hz]
  have HZ := Lib.hid hz
  obtain ⟨ii, hi0, hz0, hz1, hz2⟩ := info_parts info_q
  clear hx hds hru hz hb ht hbs
  have HT := Lib.hid (two_new w (.cells #[.string (tx nm), .bool false, .int .u64 ru, .slice xA xn xc] 37) (.cells #[.string { data := #[] }, .bool false, .int .u64 0] 44))
  have HB0 := Lib.hid (((Below.refl w.heap.size w).alloc (Nat.le_refl _) (.cells #[.string (tx nm), .bool false, .int .u64 ru, .slice xA xn xc] 37)).alloc (by simp) (.cells #[.string { data := #[] }, .bool false, .int .u64 0] 44))
  have p1 := at_cell (i := 1) HT.out.1 rfl
  have p3 := at_cell (i := 3) HT.out.1 rfl
  have HN0 : Hid ((((w.alloc (.cells #[.string (tx nm), .bool false, .int .u64 ru, .slice xA xn xc] 37)).alloc (.cells #[.string { data := #[] }, .bool false, .int .u64 0] 44))).ownsRow (w.heap.size + 2) 34 1 (.slice none 0 0) 0 []) := World.ownsRow_nil _ _ _ _
  go_enter Try.func20, Try.ntmps20
  go_wp2
  go_loopw [22, 7] (fun idx v wr => ∃ (i : Nat) (A7 : Option Addr) (c7 : Nat), i ≤ xn ∧ idx = .int .i64 (i : Int) ∧ v = .slice A7 i c7 ∧ wr.ownsRow (w.heap.size + 2) 34 1 v i (((ds.take i).map (fun d => givN l d l.length)).map qv) ∧ (wr.heap[w.heap.size]? = some (.cells #[.string (tx nm), .bool false, .int .u64 ru, .slice xA xn xc] 37) ∧ wr.heap[w.heap.size + 1]? = some (.cells #[.string { data := #[] }, .bool false, .int .u64 0] 44)) ∧ Below w.heap.size w wr) (fun idx _ _ => xn - (intOf idx).toNat)
  case atStart => exact ⟨0, none, 0, by omega, rfl, rfl, HN0.out, ⟨HT.out.1, HT.out.2.1⟩, HB0.out⟩
  case round =>
    obtain ⟨i, A7, c7, hi, rfl, rfl, hown, hh, hb⟩ := hrel
    have HOWN := Lib.hid hown
    have HH := Lib.hid hh
    have HB := Lib.hid hb
    have q3 := at_cell (i := 3) hh.1 rfl
    by_cases hlt : i < xn
    · obtain ⟨s, hs⟩ : ∃ s, ds[i]? = some s := ⟨_, List.getElem?_eq_getElem (by rw [HL.out]; exact hlt)⟩
      obtain ⟨ax, sv, rfl, hxb, hsv, hsc⟩ := (HX.out.below hb).at_ hlt
      obtain rfl : sv = tsv s := by rw [List.getElem?_map, hs] at hsv; simpa using hsv.symm
      unfold tsv at hsc
      have HST := Lib.hid (con_step l hs)
      have HCC := Lib.hid (HCON.out wr hb s (HD.out s (List.mem_of_getElem? hs)))
      obtain ⟨y, hy⟩ : ∃ y : Int, qv (givN l s l.length) = .int .u64 y := ⟨_, rfl⟩
      rw [hy] at HCC HST
      have hj0 : (0 : Int) ≤ (i : Int) := by omega
      have hj1 : (i : Int) < (xn : Int) := by omega
      have hsz : w.heap.size + 2 ≤ wr.heap.size := (Array.getElem?_eq_some_iff.1 hh.2).1
      have HSZ := Lib.hid hsz
      clear hs hsv hown hh hb hy hsz
      go_wp2_with (first
        | (at_builtin; refine wpList_append_many _ rfl (.tmp 26) (.tmp 30) 38 rfl (w.heap.size + 2) 34 ii _ 1 8 Try.underlying38 hi0 hz0 hz1 hz2 rfl (by decide) (.slice A7 i c7) i _ rfl (HOWN.out.alloc _) (some ⟨wr.heap.size, 0, none⟩) 1 1 (wr.heap.size + 1) [.int .u64 y] rfl (by intro h; cases h) (reads_one_row wr 34 _) (by intro u hu; simp at hu; subst hu; rfl) (by unfold maxLen; omega) (by omega) (by have := HSZ.out; simp; omega) ?_; intro v4 w4 ho4 hg4; have HO4 := Lib.hid ho4; have HG4 := Lib.hid hg4; clear ho4 hg4)
        | (go_at_call 19; refine HCC.out.mono ?_; rintro e w3 ⟨rfl, rfl⟩))
      obtain ⟨A5, c5, rfl, _⟩ := own_slice HO4.out
      have hal : Below wr.heap.size wr (wr.alloc (.cells #[.int .u64 y] 34)) := (Below.refl _ wr).alloc (Nat.le_refl _) _
      have hob := own_block HOWN.out
      have hk : ∀ k, k < w.heap.size + 2 → w4.heap[k]? = wr.heap[k]? := fun k hk => (HG4.out.block k (by have := HSZ.out; simp; omega) (fun e => by have := hob k e.symm; omega)).trans (hal.block k (by have := HSZ.out; omega))
      have hb4 := ((HB.out.trans (hal.mono HB.out.size)).grown HG4.out (by have := HB.out.size; simp; omega) (fun j hj => by have := hob j hj; omega))
      have ho5 : w4.ownsRow (w.heap.size + 2) 34 1 (.slice A5 (i + 1) c5) (i + 1) (((ds.take (i + 1)).map (fun d => givN l d l.length)).map qv) := by rw [HST.out]; exact HO4.out
      exact ⟨⟨i + 1, A5, c5, by omega, by go_num, rfl, ho5, ⟨(hk _ (by omega)).trans HH.out.1, (hk _ (by omega)).trans HH.out.2⟩, hb4⟩, by simp [intOf]; omega⟩
    · obtain rfl : xn = i := by omega
      have hrd := Reads.of_own hown
      rw [List.take_of_length_le (by rw [HL.out]; omega)] at hrd
      have HRD := Lib.hid hrd
      clear hown hh hb hrd
      go_wp2
      refine wp_region_held (S := fun v => v.heap[w.heap.size]? = some (.cells #[.string (tx nm), .bool false, .int .u64 ru, .slice xA xn xc] 37)) (by kernel_rfl) (show wpAnyH _ _ _ _ _ _ _ _ (wr.drew) from ?_)
      have HS : Hid (wr.drew.heap[w.heap.size]? = some (.cells #[.string (tx nm), .bool false, .int .u64 ru, .slice xA xn xc] 37)) := HH.out.1
      have HR : Hid (wr.drew.heap[w.heap.size + 1]? = some (.cells #[.string { data := #[] }, .bool false, .int .u64 0] 44)) := HH.out.2
      have HBD : Hid (Below w.heap.size w wr.drew) := HB.out.drew
      have HRR : Hid (Reads wr.drew wr.drew.heap.size 1 A7 xn ((ds.map (fun d => givN l d l.length)).map qv)) := HRD.out
      have HSZ : Hid (w.heap.size + 1 < wr.drew.heap.size) := (Array.getElem?_eq_some_iff.1 HH.out.2).1
      clear HH HB q3
      generalize wr.drew = wq at HS HR HBD HRR HSZ ⊢
      refine h_take 0 (.pointer (some ⟨w.heap.size, 0, none⟩)) rfl (by kernel_rfl) (by kernel_rfl) (by kernel_rfl) (fun _ _ _ h => h) (by kernel_rfl) HS.out (fun _ _ => by kernel_rfl) ?_
      refine h_take 1 (.string (tx nm)) rfl (by kernel_rfl) (by kernel_rfl) (by kernel_rfl) (fun _ _ _ h => h) (by kernel_rfl) HS.out (by intro v hv; have c0 := at_cell (i := 0) hv rfl; go_simp) ?_
      refine h_take 2 (.agg #[.string (tx nm), .bool false, .int .u64 ru, .slice xA xn xc]) rfl (by kernel_rfl) (by kernel_rfl) (by kernel_rfl) (fun _ _ _ h => h) (by kernel_rfl) HS.out (by intro v hv; have c0 := at_cell (i := 0) hv rfl; have c1 := at_cell (i := 1) hv rfl; have c2 := at_cell (i := 2) hv rfl; have c3 := at_cell (i := 3) hv rfl; go_simp) ?_
      refine h_take 3 (.slice A7 xn c7) rfl (by kernel_rfl) (by kernel_rfl) (by kernel_rfl) (fun _ _ _ h => h) (by kernel_rfl) HS.out (fun _ _ => by kernel_rfl) ?_
      refine h_one 4 rfl (by kernel_rfl) (by kernel_rfl) (fun K hK => ?_)
      go_simp
      have HRUN := run_any nm false r xA xn xc A7 xn c7 (ds.map (fun d => givN l d l.length)) (by omega) wq HRR.out
      rw [HRU.out, HZ.out] at HRUN
      refine HRUN.mono ?_
      rintro e wg ⟨rfl, hbg⟩
      have HS2 : Hid (wg.heap[w.heap.size]? = some (.cells #[.string (tx nm), .bool false, .int .u64 ru, .slice xA xn xc] 37)) := (hbg.block _ (by have := HSZ.out; omega)).trans HS.out
      have HR2 : Hid (wg.heap[w.heap.size + 1]? = some (.cells #[.string { data := #[] }, .bool false, .int .u64 0] 44)) := (hbg.block _ HSZ.out).trans HR.out
      have HB2 := Lib.hid (HBD.out.trans (hbg.mono HBD.out.size))
      clear HRUN hbg
      refine hK _ _ HS2.out ?_
      clear hK K
      refine h_take 5 (.agg #[.string (tx nm), .bool true, .int .u64 z]) rfl (by kernel_rfl) (by kernel_rfl) (by kernel_rfl) (fun _ _ _ h => h) (by kernel_rfl) HS2.out (fun _ _ => by first | kernel_rfl | go_simp) ?_
      refine h_one 6 rfl (by kernel_rfl) (by kernel_rfl) (fun K hK => ?_)
      refine wp_store_row 44 (.tmp 6) (.tmp 38) rfl (w.heap.size + 1) #[.string (tx nm), .bool true, .int .u64 z] rfl rfl 44 _ HR2.out (by kernel_rfl) rfl (by simp [Value.oneCell']) ?_
      have hs2 : (wg.setRow (w.heap.size + 1) #[.string (tx nm), .bool true, .int .u64 z]).heap[w.heap.size]? = some (.cells #[.string (tx nm), .bool false, .int .u64 ru, .slice xA xn xc] 37) := (setRow_other wg (w.heap.size + 1) w.heap.size _ (by omega)).trans HS2.out
      have HFIN := Lib.hid (setRow_heap wg (w.heap.size + 1) _ #[.string (tx nm), .bool true, .int .u64 z] _ _ HR2.out)
      have HBE := Lib.hid (HB2.out.grown (grownBy_setRow wg (w.heap.size + 1) #[.string (tx nm), .bool true, .int .u64 z]) HB2.out.size (fun j hj => by cases hj; omega))
      refine hK _ _ hs2 ?_
      clear hK K hs2 HS2 HR2
      refine wpAnyH_done (by kernel_rfl) ?_ _
      go_simp
      go_wp2
      refine bodyPost_ret (results_cell_row rfl _ _ _ _ _ _ _ rfl HFIN.out Try.underlying44 rfl (by kernel_rfl)) rfl ?_
      exact ⟨rfl, HBE.out⟩

end Go.Proofs.Ytacjiojfjkonkaa
