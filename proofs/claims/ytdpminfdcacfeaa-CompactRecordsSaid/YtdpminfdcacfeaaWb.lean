/- CompactRecords. -/
import Derived.Test.YtdpminfdcacfeaaWa
import Derived.Test.YtdpminfdcacfeaaTb
namespace Go.Proofs.Ytdpminfdcacfeaa
open Go.RowKit

theorem reads_new2 (w : World) (cs : List Value) (T : TypeId) (size n : Nat) (h : cs.length = n * size) : Reads (w.alloc (.cells cs.toArray T)) (w.heap.size + 1) size (some ⟨w.heap.size, 0, none⟩) n cs :=
  ⟨h, fun _ => ⟨_, rfl, by show w.heap.size < _; omega, fun j u hu => by
    rw [Addr.add_mid, Nat.zero_add]
    exact at_cell (one_new w _) (by simpa using hu)⟩⟩
def cx1 : Rw := ⟨⟨1, [97], 0, 1, 0, []⟩, none, 0, 0, []⟩
def cx2 : Rw := ⟨⟨1, [97], 0, 2, 0, []⟩, none, 0, 0, []⟩
theorem cx_fo : fo Rw.k Rw.t [cx1, cx2] = [cx2] := by kernel_rfl
theorem cx_recs (w : World) : Recs (w.alloc (.cells (rws [cx1, cx2]).toArray 29)) (w.alloc (.cells (rws [cx1, cx2]).toArray 29)).heap.size (some ⟨w.heap.size, 0, none⟩) 2 [cx1, cx2] := by
  refine ⟨(reads_new2 w _ _ 7 2 rfl).more (by simp), fun x hx => ?_⟩
  simp only [List.mem_cons, List.not_mem_nil, or_false] at hx
  rcases hx with rfl | rfl <;> exact ⟨Reads.none_, fun _ => rfl⟩
theorem cx_small : ∀ x ∈ [cx1, cx2], x.t.length ≤ maxLen ∧ x.n ≤ 1000000 := fun x hx => by
  simp only [List.mem_cons, List.not_mem_nil, or_false] at hx
  rcases hx with rfl | rfl <;> exact ⟨by show _ ≤ maxLen; unfold maxLen; decide, by decide⟩

set_option maxRecDepth 100000 in
set_option maxHeartbeats 1000000 in
theorem cfixed_any (w : World) : Calls Try.prog 5 #[] w fun e w' => e = .returned (.bool true) ∧ Below w.heap.size w w' := by
  have hb0 := (Below.refl w.heap.size w).alloc (Nat.le_refl _) (.cells (rws [cx1, cx2]).toArray 29)
  have hq := records_any (some ⟨w.heap.size, 0, none⟩) 2 2 [cx1, cx2] (by omega) cx_small _ (cx_recs w)
  have HQ : Hid (Calls Try.prog 6 #[.slice (some ⟨w.heap.size, 0, none⟩) 2 2] (w.alloc (.cells (rws [cx1, cx2]).toArray 29)) fun e w' => ∃ g c', e = .returned (.slice (some ⟨g, 0, none⟩) 1 c') ∧ w'.cell? ⟨g, 4, none⟩ = some (.int .u64 2) ∧ Below (w.alloc (.cells (rws [cx1, cx2]).toArray 29)).heap.size (w.alloc (.cells (rws [cx1, cx2]).toArray 29)) w') := by
    refine hq.mono fun e w' ⟨A', c', zs, he, hs, hst, hb⟩ => ?_
    rw [cx_fo] at he hs hst
    obtain ⟨g, cap, hv⟩ := own_succ hst.1
    injection hv with e1 e2 e3
    subst e1 e3
    obtain ⟨z, rfl, hz⟩ : ∃ z, zs = [z] ∧ z.r = cx2.r := by
      match zs, hs with
      | [z], hs => exact ⟨z, rfl, (say_eq.1 (by simpa using hs)).1⟩
    refine ⟨g, c', he, ?_, hb⟩
    refine own_cell hst.1 4 ?_
    show (rws [z])[4]? = _
    simp [rws, Rw.cells, hz]
    rfl
  have HW : Hid (∀ W, Below (w.alloc (.cells (rws [cx1, cx2]).toArray 29)).heap.size (w.alloc (.cells (rws [cx1, cx2]).toArray 29)) W → Calls Try.prog 9 #[.slice (some ⟨w.heap.size, 0, none⟩) 2 2] W fun e w' => e = .returned (.int .i64 1) ∧ Below W.heap.size W w') := fun W hb => by
    have h := waste_any (some ⟨w.heap.size, 0, none⟩) 2 2 [cx1, cx2] (by omega) cx_small W (((cx_recs w).below hb).more hb.size)
    rw [cx_fo] at h
    exact h
  have HB0 := Lib.hid hb0
  clear hq hb0
  go_enter Try.func5, Try.ntmps5
  go_wp2_with fail
  refine HQ.out.mono ?_
  rintro e w2 ⟨g, c', rfl, h4, hb⟩
  have HB := Lib.hid hb
  have HB2 := Lib.hid (HB0.out.trans (hb.mono HB0.out.size))
  clear hb
  go_wp2_with fail
  refine (HW.out _ HB.out).mono ?_
  rintro e w3 ⟨rfl, hb3⟩
  have HB3 := Lib.hid (HB2.out.trans (hb3.mono HB2.out.size))
  clear hb3
  go_wp2
  go_ret
  exact ⟨rfl, HB3.out⟩

theorem wup_says {zs ys : List Rw} (h : zs.map Rw.say = ys.map Rw.say) (hr : Up Rw.t ys) : Up Rw.t zs := by
  have h1 : (ys.map Rw.say).Pairwise fun a b => a.1.target < b.1.target := List.pairwise_map.2 hr
  rw [← h] at h1
  exact (List.pairwise_map (f := Rw.say) (R := fun a b : Rc × List Dp => a.1.target < b.1.target)).1 h1
theorem wsay_mem {xs zs : List Rw} (h : zs.map Rw.say = xs.map Rw.say) {z : Rw} (hz : z ∈ zs) : ∃ x ∈ xs, x.say = z.say := by
  have : z.say ∈ xs.map Rw.say := by rw [← h]; exact List.mem_map_of_mem hz
  obtain ⟨x, hx, e⟩ := List.mem_map.1 this
  exact ⟨x, hx, e⟩
theorem wrecs_n {w : World} {B : Nat} {A : Option Addr} {n : Nat} {zs : List Rw} (h : Recs w B A n zs) {z : Rw} (hz : z ∈ zs) : z.l.length = z.n := by
  have := (h.2 z hz).1.1
  rw [dps_len] at this
  omega
theorem own_cap {w : World} {base n m c size : Nat} {e : TypeId} {A : Option Addr} {xs : List Value} (h : w.ownsRow base e size (.slice A m c) n xs) : m ≤ c := by
  rcases h.2 with ⟨h1, _⟩ | ⟨g, cap, cur, h1, _, _, hn, _⟩
  · injection h1 with _ h2 h3
    omega
  · injection h1 with _ h2 h3
    omega
/-- What stands behind Records. -/
structure WSt (w : World) (n : Nat) (xs zs : List Rw) (w2 : World) (A' : Option Addr) (m c' : Nat) : Prop where
  len : m = (fo Rw.k Rw.t xs).length
  le : m ≤ 30
  say : zs.map Rw.say = (fo Rw.k Rw.t xs).map Rw.say
  up : Up Rw.t zs
  one : fo Rw.k Rw.t zs = zs
  fit : ∀ z ∈ zs, z.t.length ≤ maxLen ∧ z.n ≤ 60
  recs : Recs w2 w2.heap.size A' m zs
  below : Below w.heap.size w w2
  cap : m ≤ c'

set_option maxRecDepth 100000 in
set_option maxHeartbeats 2000000 in
theorem crec_any (A : Option Addr) (n c : Nat) (xs : List Rw) (hn : n ≤ maxLen) (hf : ∀ x ∈ xs, Fits x.r x.l ∧ x.n ≤ maxLen) (w : World) (h : Recs w w.heap.size A n xs) :
    Calls Try.prog 3 #[.slice A n c] w fun e w' => e = .returned (.bool true) ∧ Below w.heap.size w w' := by
  have HFX : Hid (∀ W, Calls Try.prog 5 #[] W fun e w' => e = .returned (.bool true) ∧ Below W.heap.size W w') := cfixed_any
  have HG := Lib.hid (greats_any A n c xs hn hf w h)
  by_cases sm : smalls xs
  · have SM := Lib.hid sm
    have rd : ∀ W, Below w.heap.size w W → Recs W W.heap.size A n xs := fun W hb => (h.below hb).more hb.size
    have hl : xs.length = n := h.len
    have h30 : n ≤ 30 := by rw [← hl]; exact sm.2
    have hnn : ∀ z ∈ xs, z.l.length = z.n ∧ z.n ≤ 60 := fun z hz => by
      have e1 := wrecs_n h hz
      have e2 := (sm.1 z hz).2.1
      exact ⟨e1, by omega⟩
    have hlt : ∀ x ∈ xs, x.t.length ≤ maxLen ∧ x.n ≤ 1000000 := fun x hx => ⟨(hf x hx).1.1, by have := (hnn x hx).2; omega⟩
    have hlo : (fo Rw.k Rw.t xs).length ≤ 30 := by have := fo_len (k := Rw.k) (t := Rw.t) xs; omega
    have HREC : Hid (∀ W, Below w.heap.size w W → Calls Try.prog 6 #[.slice A n c] W fun e w' => ∃ A' m c' zs, e = .returned (.slice A' m c') ∧ WSt w n xs zs w' A' m c') := fun W hb =>
      (records_any A n c xs (by omega) hlt W (rd W hb)).mono fun e w' ⟨A', c', zs, he, hs, hst, hb2⟩ => by
        have hr := hst.recs
        have hup := wup_says hs (fo_up xs)
        refine ⟨A', _, c', zs, he, rfl, hlo, hs, hup, fo_state hup (fun z hz => ?_), fun z hz => ?_, hr, hb.trans (hb2.mono hb.size), own_cap hst.1⟩
        · obtain ⟨x, hx, e⟩ := wsay_mem hs hz
          have h1 := (fo_mem hx).2
          show z.say.1.kind = 1
          rw [← e]
          exact h1
        · obtain ⟨x, hx, e⟩ := wsay_mem hs hz
          have h1 := hlt x (fo_mem hx).1
          have h2 := hnn x (fo_mem hx).1
          have h3 := wrecs_n hr hz
          obtain ⟨e1, e2⟩ := say_eq.1 e
          refine ⟨?_, by rw [e2] at h2; omega⟩
          show z.r.target.length ≤ maxLen
          rw [← e1]
          exact h1.1
    have HOD := Lib.hid (fun W hb => rof_any A n c xs (by omega) (fun x hx => (hlt x hx).1) W (rd W hb))
    have HWL := Lib.hid (fun W hb => waste_any A n c xs (by omega) hlt W (rd W hb))
    have HRL := Lib.hid (fun W hb => rwaste_any A n c xs (by omega) (fun x hx => (hlt x hx).1) W (rd W hb))
    generalize ((n : Int) - ((fo Rw.k Rw.t xs).length : Int)) = wv at HWL HRL
    have HLO := Lib.hid hlo
    have HFN : Hid (∀ z ∈ fo Rw.k Rw.t xs, z.n ≤ 60) := fun z hz => (hnn z (fo_mem hz).1).2
    clear h hf rd hn hl h30 hnn sm hlt hlo
    go_enter Try.func3, Try.ntmps3
    go_wp2_with (first
      | (go_at_call 6; refine (HREC.out _ HB1.out).mono ?_; rintro e w2 ⟨A', m, c', zs, rfl, hst⟩; have HST := Lib.hid hst; clear hst)
      | (go_at_call 4; refine HG.out.mono ?_; rintro e w1 ⟨he, hb1⟩; obtain rfl := he.no (fun h => h SM.out); have HB1 := Lib.hid hb1; clear hb1))
    have hm30 := HST.out.le
    have hcap := HST.out.cap
    go_loopw [15] (fun idx wr => ∃ i : Nat, i ≤ m ∧ idx = .int .i64 (i : Int) ∧ Below w2.heap.size w2 wr) (fun idx _ => m - (intOf idx).toNat)
    case atStart => exact ⟨0, by omega, rfl, Below.refl _ _⟩
    case round =>
      obtain ⟨i, hi, rfl, hb⟩ := hrel
      have HB := Lib.hid hb
      have hlz : zs.length = m := HST.out.recs.len
      by_cases hlt : i < m
      · obtain ⟨a, ha⟩ : ∃ a, zs[i]? = some a := ⟨_, List.getElem?_eq_getElem (by rw [hlz]; exact hlt)⟩
        obtain ⟨ad, e0, _, k0, k1, k2, k3, k4, k5, k6⟩ := recs_cells (HST.out.recs.below hb).1 i a ha
        have HBA := Lib.hid (hb.alloc hb.size (.cells #[.int .i64 a.r.kind, .string (tx a.r.target), .int .u64 a.r.rule, .slice a.A a.n a.c, .int .u64 a.r.out, .int .u64 a.r.time, .string (tx a.r.tag)] 29))
        have HBX := Lib.hid (one_new wr (.cells #[.int .i64 a.r.kind, .string (tx a.r.target), .int .u64 a.r.rule, .slice a.A a.n a.c, .int .u64 a.r.out, .int .u64 a.r.time, .string (tx a.r.tag)] 29))
        have HRD : Hid (∀ W, Below w2.heap.size w2 W → ∀ j b, zs[j]? = some b → W.cell? (ad.add (j * 7)) = some (.int .i64 b.r.kind) ∧ W.cell? ⟨(ad.add (j * 7)).block, (ad.add (j * 7)).off + 1, none⟩ = some (.string (tx b.r.target)) ∧ W.cell? ⟨(ad.add (j * 7)).block, (ad.add (j * 7)).off + 2, none⟩ = some (.int .u64 b.r.rule) ∧ W.cell? ⟨(ad.add (j * 7)).block, (ad.add (j * 7)).off + 3, none⟩ = some (.slice b.A b.n b.c) ∧ W.cell? ⟨(ad.add (j * 7)).block, (ad.add (j * 7)).off + 4, none⟩ = some (.int .u64 b.r.out) ∧ W.cell? ⟨(ad.add (j * 7)).block, (ad.add (j * 7)).off + 5, none⟩ = some (.int .u64 b.r.time) ∧ W.cell? ⟨(ad.add (j * 7)).block, (ad.add (j * 7)).off + 6, none⟩ = some (.string (tx b.r.tag))) := fun W hW j b hj => by
          obtain ⟨ad2, e, _, h⟩ := recs_cells (HST.out.recs.below hW).1 j b hj
          obtain rfl : ad = ad2 := by rw [e0] at e; injection e
          exact h
        have HUN : Hid (∀ j b, j < i → zs[j]? = some b → ((tx a.r.target).toList == (tx b.r.target).toList) = false) := fun j b hj hb => tx_unlike (fun e => by
          have h1 : b.t < a.t := by
            obtain ⟨x1, y1⟩ := List.getElem?_eq_some_iff.1 hb
            obtain ⟨x2, y2⟩ := List.getElem?_eq_some_iff.1 ha
            have h2 := List.pairwise_iff_getElem.1 HST.out.up j i x1 x2 hj
            rwa [y1, y2] at h2
          exact lx_ne h1 e.symm)
        have HA' : Hid (A' = some ad) := e0
        have e1 := e0
        subst e1
        obtain ⟨⟨k, t, u, o, mm, g⟩, A4, n4, c4, l4⟩ := a
        simp only at k0 k1 k2 k3 k4 k5 k6 HBA HBX HUN
        have hi0 : (0 : Int) ≤ (i : Int) := by omega
        have hi1 : (i : Int) < (m : Int) := by omega
        have hi2 : (i : Int) ≤ (c' : Int) := by omega
        clear ha hb e0 hlz
        obtain ⟨wo, hwo⟩ : ∃ x, x = wr := ⟨wr, rfl⟩
        subst hwo
        go_wp2
        go_loopw [24] (fun idx wr => ∃ j : Nat, j ≤ i ∧ idx = .int .i64 (j : Int) ∧ wr.heap[wo.heap.size]? = some (.cells #[.int .i64 k, .string (tx t), .int .u64 u, .slice A4 n4 c4, .int .u64 o, .int .u64 mm, .string (tx g)] 29 (0, 0)) ∧ Below w2.heap.size w2 wr) (fun idx _ => i - (intOf idx).toNat)
        case atStart => exact ⟨0, by omega, rfl, HBX.out, HBA.out⟩
        case round =>
          obtain ⟨j, hj, rfl, hbx, hbj⟩ := hrel
          have HBJ := Lib.hid hbj
          have HBXJ := Lib.hid hbx
          have p1 := at_cell (i := 1) hbx rfl
          by_cases hjt : j < i
          · obtain ⟨b, hb⟩ : ∃ b, zs[j]? = some b := ⟨_, List.getElem?_eq_getElem (by have := HST.out.recs.len; omega)⟩
            obtain ⟨j0, j1, j2, j3, j4, j5, j6⟩ := HRD.out wr hbj j b hb
            have hun := HUN.out j b hjt hb
            have hlt2 : wo.heap.size < wr.heap.size := (Array.getElem?_eq_some_iff.1 hbx).1
            obtain ⟨⟨kb, tb, ub, ob, mb, gb⟩, B4, m4, d4, l5⟩ := b
            simp only at j0 j1 j2 j3 j4 j5 j6 hun
            have hbx2 := (Below.heap_alloc wr (.cells #[.int .i64 kb, .string (tx tb), .int .u64 ub, .slice B4 m4 d4, .int .u64 ob, .int .u64 mb, .string (tx gb)] 29) wo.heap.size hlt2).trans hbx
            have HBX2 := Lib.hid hbx2
            have HBJ2 := Lib.hid (hbj.alloc hbj.size (.cells #[.int .i64 kb, .string (tx tb), .int .u64 ub, .slice B4 m4 d4, .int .u64 ob, .int .u64 mb, .string (tx gb)] 29))
            have r1 := at_cell (i := 1) hbx2 rfl
            have hj0 : (0 : Int) ≤ (j : Int) := by omega
            have hj1 : (j : Int) < (i : Int) := by omega
            clear hb hbj hbx hbx2 hlt2
            go_wp2
            exact ⟨⟨j + 1, by omega, by go_num, HBX2.out, HBJ2.out⟩, by simp [intOf] <;> omega⟩
          · obtain rfl : j = i := by omega
            clear hbj hbx p1
            go_wp2
            exact ⟨⟨j + 1, by omega, by go_num, HBJ.out⟩, by simp [intOf] <;> omega⟩
      · obtain rfl : i = m := by omega
        have HBB := Lib.hid hb
        have HBI := Lib.hid (HST.out.below.trans (hb.mono HST.out.below.size))
        have HSY := Lib.hid HST.out.say
        have HML := Lib.hid HST.out.len
        have HZF := Lib.hid HST.out.fit
        have HRZ : Hid (∀ W, Below w2.heap.size w2 W → Recs W W.heap.size A' i zs) := fun W hW => (HST.out.recs.below hW).more hW.size
        have HOZ : Hid (∀ W, Below w2.heap.size w2 W → Calls Try.prog 8 #[.slice A' i c'] W fun e w' => ∃ A5 c5, e = .returned (.slice A5 i c5) ∧ Recs w' w'.heap.size A5 i zs ∧ Below W.heap.size W w') := fun W hW => by
          have h1 := rof_any A' i c' zs (by omega) (fun z hz => (HST.out.fit z hz).1) W (HRZ.out W hW)
          rw [HST.out.one, hlz] at h1
          exact h1
        have HWZ : Hid (∀ W, Below w2.heap.size w2 W → Calls Try.prog 9 #[.slice A' i c'] W fun e w' => e = .returned (.int .i64 0) ∧ Below W.heap.size W w') := fun W hW => by
          have h1 := waste_any A' i c' zs (by omega) (fun z hz => ⟨(HST.out.fit z hz).1, by have := (HST.out.fit z hz).2; omega⟩) W (HRZ.out W hW)
          rw [HST.out.one, hlz] at h1
          simpa using h1
        rw [← HML.out] at HOD HLO
        clear hb hlz hlt
        go_wp2_with (first
          | (go_at_call 9; refine (HWZ.out _ HB9.out.2).mono ?_; rintro e wa ⟨rfl, hba⟩; have HBA := Lib.hid (HB9.out.1.trans (hba.mono HB9.out.1.size)); clear hba)
          | (go_at_call 10; refine (HRL.out _ HB8.out.1).mono ?_; rintro e w9 ⟨rfl, hb9⟩; have HB9 := Lib.hid (And.intro (HB8.out.1.trans (hb9.mono HB8.out.1.size)) (HB8.out.2.trans (hb9.mono HB8.out.2.size))); clear hb9)
          | (go_at_call 9; refine (HWL.out _ HB7.out.1).mono ?_; rintro e w8 ⟨rfl, hb8⟩; have HB8 := Lib.hid (And.intro (HB7.out.1.trans (hb8.mono HB7.out.1.size)) (HB7.out.2.trans (hb8.mono HB7.out.2.size))); clear hb8)
          | (go_at_call 7; refine (rall_any A6 A7 _ _ c6 c7 zs _ (by unfold maxLen; omega) (by unfold maxLen; omega) (fun z hz => by have := (HZF.out z hz).2; omega) _ HR66.out HR67.out).mono ?_; rintro e w7 ⟨he, hb7⟩; obtain rfl := he.yes HSY.out; have HB7 := Lib.hid (And.intro (HB66.out.1.trans (hb7.mono HB66.out.1.size)) (HB66.out.2.trans (hb7.mono HB66.out.2.size))); clear hb7)
          | (go_at_call 8; refine (HOD.out _ HB6.out.1).mono ?_; rintro e w66 ⟨A7, c7, rfl, hr, hb⟩; have HR67 := Lib.hid hr; have HR66 := Lib.hid ((HR6.out.below hb).more hb.size); have HB66 := Lib.hid (And.intro (HB6.out.1.trans (hb.mono HB6.out.1.size)) (HB6.out.2.trans (hb.mono HB6.out.2.size))); clear hb hr)
          | (go_at_call 8; refine (HOZ.out _ HB5.out.2).mono ?_; rintro e w6 ⟨A6, c6, rfl, hr, hb⟩; have HR6 := Lib.hid hr; have HB6 := Lib.hid (And.intro (HB5.out.1.trans (hb.mono HB5.out.1.size)) (HB5.out.2.trans (hb.mono HB5.out.2.size))); clear hb hr)
          | (go_at_call 7; refine (rall_any A' A5 _ _ c' c5 zs _ (by unfold maxLen; omega) (by unfold maxLen; omega) (fun z hz => by have := (HZF.out z hz).2; omega) _ (HRZ.out _ HB44.out.2) HR5.out).mono ?_; rintro e w5 ⟨he, hb5⟩; obtain rfl := he.yes HSY.out; have HB5 := Lib.hid (And.intro (HB44.out.1.trans (hb5.mono HB44.out.1.size)) (HB44.out.2.trans (hb5.mono HB44.out.2.size))); clear hb5)
          | (go_at_call 8; refine (HOD.out _ HB4.out.1).mono ?_; rintro e w44 ⟨A5, c5, rfl, hr, hb⟩; have HR5 := Lib.hid hr; have HB44 := Lib.hid (And.intro (HB4.out.1.trans (hb.mono HB4.out.1.size)) (HB4.out.2.trans (hb.mono HB4.out.2.size))); clear hb hr)
          | (go_at_call 5; refine (HFX.out _).mono ?_; rintro e w4 ⟨rfl, hb4⟩; have HB4 := Lib.hid (And.intro (HBI.out.trans (hb4.mono HBI.out.size)) (HBB.out.trans (hb4.mono HBB.out.size))); clear hb4))
        go_ret
        exact ⟨rfl, HBA.out⟩
  · have SM := Lib.hid sm
    clear h hf sm hn
    go_enter Try.func3, Try.ntmps3
    go_wp2_with (first
      | (go_at_call 5; refine (HFX.out _).mono ?_; rintro e w4 ⟨rfl, hb4⟩; have HB4 := Lib.hid (HB1.out.trans (hb4.mono HB1.out.size)); clear hb4)
      | (go_at_call 4; refine HG.out.mono ?_; rintro e w1 ⟨he, hb1⟩; obtain rfl := he.yes SM.out; have HB1 := Lib.hid hb1; clear hb1))
    go_ret
    exact ⟨rfl, HB4.out⟩

end Go.Proofs.Ytdpminfdcacfeaa
