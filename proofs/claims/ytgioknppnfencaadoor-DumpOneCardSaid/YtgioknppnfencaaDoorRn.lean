/- record.mayDeps. -/
import Derived.Test.YtgioknppnfencaaDoorRm
import Derived.Test.YtgioknppnfencaaDoorRb0
namespace Go.Proofs.YtgioknppnfencaaDoor
open Go.RowKit

theorem tfold_nodup : ∀ (ts l : List (List UInt8)), l.Nodup → ((ts.foldl tput l).length = l.length + ts.length ↔ ts.Nodup ∧ ∀ s ∈ ts, s ∉ l)
  | [], l, _ => by simp
  | s :: ts, l, hl => by
    rw [List.foldl_cons, List.nodup_cons]
    by_cases hs : s ∈ l
    · rw [tput_in hs]
      have := tfold_len ts l
      refine ⟨fun h => ?_, fun h => absurd hs (h.2 s (by simp))⟩
      simp at h; omega
    · have ih := tfold_nodup ts (tput l s) (tput_nodup hl)
      rw [tput_new hs] at ih ⊢
      simp only [List.length_append, List.length_cons, List.length_nil, List.mem_append, List.mem_cons, List.not_mem_nil, or_false] at ih ⊢
      rw [show l.length + (ts.length + 1) = l.length + (0 + 1) + ts.length by omega, ih]
      constructor
      · rintro ⟨h1, h2⟩
        refine ⟨⟨fun h => h2 s h (.inr rfl), h1⟩, ?_⟩
        rintro t (rfl | ht)
        · exact hs
        · exact fun h => h2 t ht (.inl h)
      · rintro ⟨⟨h1, h2⟩, h3⟩
        refine ⟨h2, fun t ht h => ?_⟩
        rcases h with h | h
        · exact h3 t (.inr ht) h
        · subst h; exact h1 ht
theorem tnew_nodup (ts : List (List UInt8)) : (tnew ts).length = ts.length ↔ ts.Nodup := by
  have := tfold_nodup ts [] List.nodup_nil
  simpa [tnew] using this

def DepP (v : Int) (d : Dp) : Prop := isName d.name = true ∧ (d.order = true → 3 ≤ v)
def DepsP (v : Int) (r : Rc) (l : List Dp) : Prop := l.length ≤ 16 ∧ (∀ d ∈ l, DepP v d) ∧ (r.target :: names l).Nodup

def MdRel (v : Int) (w : World) (o : Obj) (l : List Dp) (idx : Value) (wr : World) : Prop :=
  ∃ i : Nat, i ≤ l.length ∧ idx = .int .i64 (i : Int) ∧ (∀ d ∈ l.take i, DepP v d) ∧ Below w.heap.size w wr ∧ wr.heap[w.heap.size]? = some o ∧ w.heap.size < wr.heap.size

set_option maxRecDepth 100000 in
set_option maxHeartbeats 1000000 in
theorem deps_any (v : Int) (r : Rc) (A : Option Addr) (n c : Nat) (l : List Dp) (hn : n ≤ 1000) (ht : r.target.length ≤ maxLen) (hl : ∀ d ∈ l, d.name.length ≤ maxLen) (w : World) (h : Reads w w.heap.size 3 A n (dps l)) :
    Calls Tryd.prog 48 #[.int .i64 v, rcv r A n c] w fun e w' => Tells (DepsP v r l) e ∧ Below w.heap.size w w' := by
  have HL : Hid (l.length = n) := by have := h.1; rw [dps_len] at this; show _ = _; omega
  have HF := Lib.hid hl
  have HT := Lib.hid ht
  have H1 := Lib.hid h
  have h0 := one_new w (.cells (rcells r A n c) 35)
  have hb0 := (Below.refl w.heap.size w).alloc (Nat.le_refl _) (.cells (rcells r A n c) 35)
  have q3 := at_cell (i := 3) h0 rfl
  have HB0 := Lib.hid hb0
  have H0 := Lib.hid h0
  have HS0 : Hid (w.heap.size < (w.alloc (.cells (rcells r A n c) 35)).heap.size) := by show w.heap.size < _; simp
  clear hl h ht h0 hb0
  by_cases h16 : n ≤ 16
  · have d16 : decide ((n : Int) > 16) = false := decide_eq_false (by omega)
    unfold rcells at *
    unfold rcv rsv
    go_enter Tryd.func48, Tryd.ntmps48
    go_wp2
    go_loopw [14] (fun idx wr => MdRel v w (.cells (rcells r A n c) 35) l idx wr) (fun idx wr => n - (intOf idx).toNat)
    case atStart => exact ⟨0, by omega, rfl, by simp, HB0.out, H0.out, HS0.out⟩
    case round =>
      obtain ⟨i, hi, rfl, hok, hb, hbx, hz⟩ := hrel
      have HOK := Lib.hid hok
      have HBR := Lib.hid hb
      have HBX := Lib.hid hbx
      have HZ := Lib.hid hz
      rw [HL.out] at hi
      by_cases hlt : i < n
      · obtain ⟨x, hx⟩ : ∃ x, l[i]? = some x := ⟨_, List.getElem?_eq_getElem (by rw [HL.out]; exact hlt)⟩
        obtain ⟨ad, rfl, _, hcx⟩ := (H1.out.below hb).2 (by omega)
        obtain ⟨x0, x1, x2⟩ := dps_at l i x hx
        have k0 := hcx _ _ x0
        have k1 := hcx _ _ x1
        have k2 := hcx _ _ x2
        rw [add_one] at k1
        rw [add_two] at k2
        have hnb := one_new wr (.cells #[.string (tx x.name), .int .u64 x.hash, .bool x.order] 56)
        have p0 := at_cell (i := 0) hnb rfl
        have p1 := at_cell (i := 1) hnb rfl
        have p2 := at_cell (i := 2) hnb rfl
        have hbn := Lib.hid (hb.alloc (by omega) (.cells #[.string (tx x.name), .int .u64 x.hash, .bool x.order] 56))
        have hbxn := Lib.hid ((Below.heap_alloc wr (.cells #[.string (tx x.name), .int .u64 x.hash, .bool x.order] 56) w.heap.size hz).trans hbx)
        have hzn : Hid (w.heap.size < (wr.alloc (.cells #[.string (tx x.name), .int .u64 x.hash, .bool x.order] 56)).heap.size) := by show w.heap.size < _; simp; omega
        have hname := Lib.hid (name_any x.name)
        have hi0 : (0 : Int) ≤ (i : Int) := by omega
        have hi1 : (i : Int) < (n : Int) := by omega
        have HIN : Hid (DepP v x → ∀ d ∈ l.take (i + 1), DepP v d) := fun hp d hd => by
          rw [List.take_add_one, hx, List.mem_append] at hd
          rcases hd with hd | hd
          · exact HOK.out d hd
          · simp at hd; subst hd; exact hp
        have HOUT : Hid (¬ DepP v x → ¬ DepsP v r l) := fun hp hd => hp (hd.2.1 x (List.mem_of_getElem? hx))
        obtain ⟨xn, xh, xo⟩ := x
        unfold rsv at k0 hname
        simp only at k0 k1 k2 p0 p1 p2 hbn hbxn hzn hname
        clear hcx x0 x1 x2 hx hok hb hbx hz hnb
        cases hq : isName xn
        · have HNO := Lib.hid (HOUT.out (fun hp => by have := hp.1; simp only at this; rw [hq] at this; cases this))
          rw [hq] at hname
          go_wp2_with (go_at_call 45; refine (hname.out _).mono ?_; rintro e w2 ⟨rfl, rfl⟩)
          go_ret
          exact ⟨tells_false HNO.out, hbn.out⟩
        · rw [hq] at hname
          cases xo
          · have HGO := Lib.hid (HIN.out ⟨hq, fun h => by cases h⟩)
            go_wp2_with (go_at_call 45; refine (hname.out _).mono ?_; rintro e w2 ⟨rfl, rfl⟩)
            exact ⟨⟨i + 1, by rw [HL.out]; omega, by go_num, HGO.out, hbn.out, hbxn.out, hzn.out⟩, by simp [intOf]; omega⟩
          · by_cases hv : v < 3
            · have HNO := Lib.hid (HOUT.out (fun hp => by have := hp.2 rfl; omega))
              have dv : decide (v < 3) = true := decide_eq_true hv
              go_wp2_with (go_at_call 45; refine (hname.out _).mono ?_; rintro e w2 ⟨rfl, rfl⟩)
              go_ret
              exact ⟨tells_false HNO.out, hbn.out⟩
            · have HGO := Lib.hid (HIN.out ⟨hq, fun _ => by omega⟩)
              have dv : decide (v < 3) = false := decide_eq_false hv
              go_wp2_with (go_at_call 45; refine (hname.out _).mono ?_; rintro e w2 ⟨rfl, rfl⟩)
              exact ⟨⟨i + 1, by rw [HL.out]; omega, by go_num, HGO.out, hbn.out, hbxn.out, hzn.out⟩, by simp [intOf]; omega⟩
      · obtain rfl : i = n := by omega
        rw [List.take_of_length_le (by rw [HL.out]; omega)] at HOK
        have hnl : (names l).length = i := by unfold names; rw [List.length_map]; exact HL.out
        have hnm := named_any r A i c l hn HT.out HF.out wr.drew ((H1.out.below (hb.drew)).more (by show w.heap.size ≤ wr.heap.size; omega))
        have HNM := Lib.hid hnm
        have HNL := Lib.hid hnl
        have hq3 := at_cell (i := 3) hbx rfl
        clear hnm hnl hok hb hbx
        by_cases hd : (tnew (r.target :: names l)).length = 1 + i
        · have HP : Hid (DepsP v r l) := ⟨by rw [HL.out]; exact h16, HOK.out, (tnew_nodup _).1 (by rw [hd, List.length_cons, HNL.out]; omega)⟩
          go_wp2_with fail
          have hde : decide ((((tnew (r.target :: names l)).length : Nat) : Int) = 1 + (i : Int)) = true := decide_eq_true (by omega)
          have hdf : ((((tnew (r.target :: names l)).length : Nat) : Int) == 1 + (i : Int)) = true := by rw [beq_iff_eq]; omega
          refine wp_region_held (S := fun v1 => Below wr.heap.size wr v1) (by kernel_rfl) ?_
          have hS : Below wr.heap.size wr wr.drew := (Below.refl _ wr).drew
          refine h_take 0 (rcv r A i c) rfl (by kernel_rfl) (by kernel_rfl) (by kernel_rfl) (fun _ _ _ h => h) (by kernel_rfl) hS (by intro v1 hv; have q0 := (hv.cell (p := ⟨w.heap.size, 0, none⟩) HZ.out).trans (at_cell (i := 0) HBX.out rfl); have q1 := (hv.cell (p := ⟨w.heap.size, 1, none⟩) HZ.out).trans (at_cell (i := 1) HBX.out rfl); have q2 := (hv.cell (p := ⟨w.heap.size, 2, none⟩) HZ.out).trans (at_cell (i := 2) HBX.out rfl); have q3 := (hv.cell (p := ⟨w.heap.size, 3, none⟩) HZ.out).trans (at_cell (i := 3) HBX.out rfl); have q4 := (hv.cell (p := ⟨w.heap.size, 4, none⟩) HZ.out).trans (at_cell (i := 4) HBX.out rfl); have q5 := (hv.cell (p := ⟨w.heap.size, 5, none⟩) HZ.out).trans (at_cell (i := 5) HBX.out rfl); have q6 := (hv.cell (p := ⟨w.heap.size, 6, none⟩) HZ.out).trans (at_cell (i := 6) HBX.out rfl); go_simp; rfl) ?_
          refine h_take 3 (.pointer (some ⟨w.heap.size, 3, none⟩)) rfl (by kernel_rfl) (by kernel_rfl) (by kernel_rfl) (fun _ _ _ h => h) (by kernel_rfl) hS (fun _ _ => by kernel_rfl) ?_
          refine h_take 4 (.slice A i c) rfl (by kernel_rfl) (by kernel_rfl) (by kernel_rfl) (fun _ _ _ h => h) (by kernel_rfl) hS (by intro v1 hv; have q3 := (hv.cell (p := ⟨w.heap.size, 3, none⟩) HZ.out).trans (at_cell (i := 3) HBX.out rfl); go_simp; try rfl) ?_
          refine h_take 5 (.int .i64 (i : Int)) rfl (by kernel_rfl) (by kernel_rfl) (by kernel_rfl) (fun _ _ _ h => h) (by kernel_rfl) hS (by intro v1 hv; go_simp) ?_
          refine h_take 6 (.int .i64 (1 + (i : Int))) rfl (by kernel_rfl) (by kernel_rfl) (by kernel_rfl) (fun _ _ _ h => h) (by kernel_rfl) hS (by intro v1 hv; go_simp; exact wrap_small (by omega) (by omega)) ?_
          refine h_one 1 rfl (by kernel_rfl) (by kernel_rfl) (fun K hK => ?_)
          go_simp
          refine HNM.out.mono ?_
          rintro e w2 ⟨tb, rfl, htb0, htb1, htab, hb2⟩
          have hb3 : Below wr.heap.size wr.drew w2 := hb2
          have hS2 : Below wr.heap.size wr w2 := (Below.refl _ wr).drew.trans hb2
          refine hK _ _ hS2 ?_
          clear hK K
          refine h_one 2 rfl (by kernel_rfl) (by kernel_rfl) (fun K hK => ?_)
          go_simp
          refine (Len_any _ tb _ _ w2 htab).mono ?_
          rintro e w3 ⟨rfl, rfl⟩
          refine hK _ _ hS2 ?_
          clear hK K
          refine h_take 7 (.bool true) rfl (by kernel_rfl) (by kernel_rfl) (by kernel_rfl) (fun _ _ _ h => h) (by kernel_rfl) hS2 (by intro v1 hv; go_simp) ?_
          refine h_take 8 (.bool true) rfl (by kernel_rfl) (by kernel_rfl) (by kernel_rfl) (fun _ _ _ h => h) (by kernel_rfl) hS2 (fun _ _ => by kernel_rfl) ?_
          refine wpAnyH_done (by kernel_rfl) ?_ _
          go_simp
          go_wp2
          go_ret
          exact ⟨tells_true HP.out, HBR.out.drew.trans (hb3.mono (by show w.heap.size ≤ wr.heap.size; exact Nat.le_of_lt HZ.out))⟩
        · have HP : Hid (¬ DepsP v r l) := fun h => hd (by have := (tnew_nodup _).2 h.2.2; rw [this, List.length_cons, HNL.out]; omega)
          go_wp2_with fail
          have hde : decide ((((tnew (r.target :: names l)).length : Nat) : Int) = 1 + (i : Int)) = false := decide_eq_false (by omega)
          have hdf : ((((tnew (r.target :: names l)).length : Nat) : Int) == 1 + (i : Int)) = false := by rw [beq_eq_false_iff_ne]; omega
          refine wp_region_held (S := fun v1 => Below wr.heap.size wr v1) (by kernel_rfl) ?_
          have hS : Below wr.heap.size wr wr.drew := (Below.refl _ wr).drew
          refine h_take 0 (rcv r A i c) rfl (by kernel_rfl) (by kernel_rfl) (by kernel_rfl) (fun _ _ _ h => h) (by kernel_rfl) hS (by intro v1 hv; have q0 := (hv.cell (p := ⟨w.heap.size, 0, none⟩) HZ.out).trans (at_cell (i := 0) HBX.out rfl); have q1 := (hv.cell (p := ⟨w.heap.size, 1, none⟩) HZ.out).trans (at_cell (i := 1) HBX.out rfl); have q2 := (hv.cell (p := ⟨w.heap.size, 2, none⟩) HZ.out).trans (at_cell (i := 2) HBX.out rfl); have q3 := (hv.cell (p := ⟨w.heap.size, 3, none⟩) HZ.out).trans (at_cell (i := 3) HBX.out rfl); have q4 := (hv.cell (p := ⟨w.heap.size, 4, none⟩) HZ.out).trans (at_cell (i := 4) HBX.out rfl); have q5 := (hv.cell (p := ⟨w.heap.size, 5, none⟩) HZ.out).trans (at_cell (i := 5) HBX.out rfl); have q6 := (hv.cell (p := ⟨w.heap.size, 6, none⟩) HZ.out).trans (at_cell (i := 6) HBX.out rfl); go_simp; rfl) ?_
          refine h_take 3 (.pointer (some ⟨w.heap.size, 3, none⟩)) rfl (by kernel_rfl) (by kernel_rfl) (by kernel_rfl) (fun _ _ _ h => h) (by kernel_rfl) hS (fun _ _ => by kernel_rfl) ?_
          refine h_take 4 (.slice A i c) rfl (by kernel_rfl) (by kernel_rfl) (by kernel_rfl) (fun _ _ _ h => h) (by kernel_rfl) hS (by intro v1 hv; have q3 := (hv.cell (p := ⟨w.heap.size, 3, none⟩) HZ.out).trans (at_cell (i := 3) HBX.out rfl); go_simp; try rfl) ?_
          refine h_take 5 (.int .i64 (i : Int)) rfl (by kernel_rfl) (by kernel_rfl) (by kernel_rfl) (fun _ _ _ h => h) (by kernel_rfl) hS (by intro v1 hv; go_simp) ?_
          refine h_take 6 (.int .i64 (1 + (i : Int))) rfl (by kernel_rfl) (by kernel_rfl) (by kernel_rfl) (fun _ _ _ h => h) (by kernel_rfl) hS (by intro v1 hv; go_simp; exact wrap_small (by omega) (by omega)) ?_
          refine h_one 1 rfl (by kernel_rfl) (by kernel_rfl) (fun K hK => ?_)
          go_simp
          refine HNM.out.mono ?_
          rintro e w2 ⟨tb, rfl, htb0, htb1, htab, hb2⟩
          have hb3 : Below wr.heap.size wr.drew w2 := hb2
          have hS2 : Below wr.heap.size wr w2 := (Below.refl _ wr).drew.trans hb2
          refine hK _ _ hS2 ?_
          clear hK K
          refine h_one 2 rfl (by kernel_rfl) (by kernel_rfl) (fun K hK => ?_)
          go_simp
          refine (Len_any _ tb _ _ w2 htab).mono ?_
          rintro e w3 ⟨rfl, rfl⟩
          refine hK _ _ hS2 ?_
          clear hK K
          refine h_take 7 (.bool false) rfl (by kernel_rfl) (by kernel_rfl) (by kernel_rfl) (fun _ _ _ h => h) (by kernel_rfl) hS2 (by intro v1 hv; go_simp) ?_
          refine h_take 8 (.bool false) rfl (by kernel_rfl) (by kernel_rfl) (by kernel_rfl) (fun _ _ _ h => h) (by kernel_rfl) hS2 (fun _ _ => by kernel_rfl) ?_
          refine wpAnyH_done (by kernel_rfl) ?_ _
          go_simp
          go_wp2
          go_ret
          exact ⟨tells_false HP.out, HBR.out.drew.trans (hb3.mono (by show w.heap.size ≤ wr.heap.size; exact Nat.le_of_lt HZ.out))⟩
  · have d16 : decide ((n : Int) > 16) = true := decide_eq_true (by omega)
    have HP : Hid (¬ DepsP v r l) := fun h => h16 (by have := h.1; rw [HL.out] at this; exact this)
    unfold rcells at *
    unfold rcv rsv
    go_enter Tryd.func48, Tryd.ntmps48
    go_wp2
    go_ret
    exact ⟨tells_false HP.out, HB0.out⟩

end Go.Proofs.YtgioknppnfencaaDoor
