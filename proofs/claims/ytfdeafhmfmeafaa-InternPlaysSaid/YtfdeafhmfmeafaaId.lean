/- The walks of cut and Cut. -/
import Derived.Test.YtfdeafhmfmeafaaIc
import Derived.Lib.SliceRun
import Derived.Deep.Upon
namespace Go.Proofs.Ytfdeafhmfmeafaa
open Go.RowKit Go.Maps Go.ChangeMaps Go.WideMaps

theorem clear_none {P : Program} (W : World) (t e ty : TypeId) (A : Option Addr) (c : Nat) (ht : P.underlying t = some (.slice e)) : (Builtin.clear_ #[t] ty #[.slice A 0 c]).run P W = .ok (.tuple #[]) W := by
  cases A <;> simp [Builtin.clear_, run_underlying ht]

set_option maxRecDepth 100000 in
set_option maxHeartbeats 1000000 in
theorem cut_all (L : Option Addr) (b n c : Nat) (sz : Int) (w : World) (hc0 : w.cell? ⟨b, 0, none⟩ = some (.slice L n c)) (hnc : n ≤ c) (hc1 : c ≤ 9223372036854775807) (hf0 : w.frozen? ⟨b, 0, none⟩ = false) (hsz : (n : Int) < sz ∨ sz = (n : Int) ∨ (sz < 0 ∧ n = 0)) :
    Calls Try.prog 21 #[.pointer (some ⟨b, 0, none⟩), .int .i64 sz] w fun e w' => e = .returned (.tuple #[]) ∧ w' = w.setCell ⟨b, 0, none⟩ (.slice L n c) := by
  have hcl := fun (W : World) (ty : TypeId) (A : Option Addr) (c : Nat) => clear_none (P := Try.prog) W 22 9 ty A c Try.underlying22
  rcases hsz with hsz | rfl | ⟨hsz, rfl⟩
  all_goals
    go_enter Try.func21, Try.ntmps21
    go_wp2
  all_goals
    (go_loopw [22] (fun idx wr => idx = .int .i64 0 ∧ wr = w) (fun idx wr => 0)
     case atStart => exact ⟨rfl, rfl⟩
     case round =>
       obtain ⟨rfl, rfl⟩ := hrel
       go_wp2
       go_end0
       first | exact ⟨rfl, rfl⟩ | (refine ⟨rfl, ?_⟩; subst_vars; rfl))

theorem setCells_row (g : Nat) (e : TypeId) (f : Nat × Nat) : ∀ (vs : List Value) (o : Nat) (w : World) (cur : Array Value), w.heap[g]? = some (.cells cur e f) →
    ∃ cur', (w.setCells g o vs).heap[g]? = some (.cells cur' e f) ∧ cur'.size = cur.size ∧ ∀ j : Nat, j < o → cur'[j]? = cur[j]?
  | [], _, _, cur, h => ⟨cur, h, rfl, fun _ _ => rfl⟩
  | v :: vs, o, w, _, h => by
    obtain ⟨cur', h1, h2, h3⟩ := setCells_row g e f vs (o + 1) (w.setCell ⟨g, o, none⟩ v) _ (field_set (u := v) (j := o) h)
    refine ⟨cur', h1, by rw [h2]; simp, fun j hj => ?_⟩
    rw [h3 j (by omega), Array.getElem?_setIfInBounds, if_neg (by omega)]

theorem setCells_turn (g : Nat) (S : Nat → Prop) (hs : S g) : ∀ (vs : List Value) (o : Nat) (a w : World), Turn S a w → Turn S a (w.setCells g o vs)
  | [], _, _, _, h => h
  | v :: vs, o, a, _, h => setCells_turn g S hs vs (o + 1) a _ (h.setCell g o v hs)

/-- A row that was written over from k on: what comes first stays. -/
theorem own_first {w : World} {g n k c : Nat} {e : TypeId} {xs : List Value} (h : w.ownsRow 0 e 1 (.slice (some ⟨g, 0, none⟩) n c) n xs) (hk : k ≤ n) (vs : List Value) :
    (w.setCells g k vs).ownsRow 0 e 1 (.slice (some ⟨g, 0, none⟩) k c) k (xs.take k) := by
  have hlen := h.1
  rcases h.2 with ⟨h0, _⟩ | ⟨g', cap, cur, hv, _, hg, h1, h2, h3, h4⟩
  · cases h0
  · injection hv with hv _ hv2
    cases hv
    subst hv2
    obtain ⟨cur', g1, g2, g3⟩ := setCells_row g e (0, 0) vs k w cur hg
    refine ⟨by rw [List.length_take]; omega, .inr ⟨g, c, cur', rfl, Nat.zero_le _, g1, by omega, h2, by rw [g2, h3], ?_⟩⟩
    rw [← h4, List.take_take]
    apply List.ext_getElem?
    intro j
    rw [List.getElem?_take, List.getElem?_take]
    by_cases hj : j < k * 1
    · rw [if_pos hj, if_pos (by omega)]
      have := g3 j (by omega)
      simpa using this
    · rw [if_neg hj, if_neg (by omega)]

set_option maxRecDepth 100000 in
set_option maxHeartbeats 1000000 in
theorem cut_some (S : Nat → Prop) (b g mb n k c N : Nat) (D : DataW Nat) (l : List (List UInt8)) (sz : Int) (hkn : k < n) (hnl : n = l.length) (hnb : n ≤ 1073741824) (w : World) (hh : w.heap[b]? = some (.cells #[.slice (some ⟨g, 0, none⟩) n c, .map (some mb)] 46 (0, 0)))
    (ho : w.ownsRow 0 9 1 (.slice (some ⟨g, 0, none⟩) n c) n (l.map tsv)) (hm : w.ownsMap Try.prog 9 (plainElem Try.prog 32) mb N D) (hn : NumOf D l) (hnd : l.Nodup) (hlen : ∀ s ∈ l, s.length ≤ maxLen) (hSb : S b) (hSg : S g) (hSm : S mb)
    (hsz : (sz < 0 ∧ k = 0) ∨ sz = (k : Int)) :
    Calls Try.prog 21 #[.pointer (some ⟨b, 0, none⟩), .int .i64 sz] w fun e w' => e = .returned (.tuple #[]) ∧ Tab w' S b N (l.take k) ∧ Turn S w w' := by
  have hbm : b ≠ mb := by
    intro e
    subst e
    obtain ⟨es, clock, hb, _⟩ := hm
    rw [hh] at hb; cases hb
  have hgm : g ≠ mb := own_map ho hm g rfl
  have hgb : g ≠ b := fun e => own_cells ho hh (by decide) (by rw [e]; rfl)
  have hcn : n ≤ c ∧ c ≤ maxLen := by
    rcases ho.2 with ⟨h0, _⟩ | ⟨g', cap, cur, hv, _, hg, h1, h2, h3, h4⟩
    · cases h0
    · injection hv with _ _ hv2
      subst hv2
      exact ⟨h1, h2⟩
  have hc1 : c ≤ 9223372036854775807 := by have := hcn.2; unfold maxLen at this; omega
  have hck : ¬ c = k := by omega
  have hc0 : w.cell? ⟨b, 0, none⟩ = some (.slice (some ⟨g, 0, none⟩) n c) := field_cell hh rfl
  have hcm : w.cell? ⟨b, 1, none⟩ = some (.map (some mb)) := field_cell hh rfl
  have hf0 : w.frozen? ⟨b, 0, none⟩ = false := field_free hh
  have hrow := Reads.of_own ho
  have HH := Lib.hid hh
  have HO := Lib.hid ho
  have HM := Lib.hid hm
  have HROW := Lib.hid hrow
  have HN := Lib.hid (numTill_start k hn)
  have HND := Lib.hid hnd
  have HLEN := Lib.hid hlen
  have HNL := Lib.hid hnl
  have HBM := Lib.hid hbm
  have HGM := Lib.hid hgm
  have HGB := Lib.hid hgb
  have HSS : Hid (S b ∧ S g ∧ S mb) := ⟨hSb, hSg, hSm⟩
  have hnc := hcn.1
  clear hh ho hm hrow hn hnd hlen hnl hbm hgm hgb hSb hSg hSm hcn
  rcases hsz with ⟨hsz, rfl⟩ | rfl
  · go_enter Try.func21, Try.ntmps21
    go_wp2
    go_loopw [22] (fun idx wr => ∃ (i : Nat) (D' : DataW Nat), i ≤ n ∧ idx = .int .i64 (i : Int) ∧ wr.ownsMap Try.prog 9 (plainElem Try.prog 32) mb N D' ∧ NumTill D' l 0 (0 + i) ∧ Turn (fun q => q = mb) w wr) (fun idx wr => n - (intOf idx).toNat)
    case atStart => exact ⟨0, D, by omega, rfl, HM.out, HN.out, Turn.refl _ _⟩
    case round =>
      obtain ⟨i, D', hi, rfl, hm', hn', ht'⟩ := hrel
      have hhr : wr.heap[b]? = some (.cells #[.slice (some ⟨g, 0, none⟩) n c, .map (some mb)] 46 (0, 0)) := (ht'.2.2.2.2 b (Array.getElem?_eq_some_iff.1 HH.out).1 HBM.out).trans HH.out
      have hor := own_heap (w' := wr) HO.out (fun q hq => by
        obtain rfl : g = q := by simpa [Value.ownBlock] using hq
        exact ht'.2.2.2.2 g (own_lt HO.out g rfl) HGM.out)
      have hcmr : wr.cell? ⟨b, 1, none⟩ = some (.map (some mb)) := field_cell hhr rfl
      by_cases hlt : i < n
      · obtain ⟨s, hs⟩ : ∃ s, l[0 + i]? = some s := ⟨_, List.getElem?_eq_getElem (by rw [← HNL.out]; omega)⟩
        have hcell : wr.cell? ⟨g, i, none⟩ = some (.string (tx s)) := by
          have h := hor.cellAt (0 + i) (by omega)
          rw [List.getElem?_map, hs] at h
          simpa [tsv] using h
        have hkey := tkeyOf (HLEN.out s (List.mem_of_getElem? hs))
        unfold tsv at hkey
        have HST := Lib.hid (numTill_step HND.out (by omega) hs hn')
        have HTT := Lib.hid ht'
        clear hs hhr hor hn' ht'
        go_wp2_with (at_delete; refine wpList_delete_own _ rfl _ _ 42 9 rfl 32 tkey Try.underlying42 _ mb N D' rfl hm' _ _ rfl hkey ?_; intro w1 hm1 ht1)
        exact ⟨⟨i + 1, _, by omega, by go_num, hm1, HST.out, HTT.out.grown ht1.grown (fun q e _ => by cases e; rfl)⟩, by simp [intOf]; omega⟩
      · have hk0 : 0 + i = l.length := by have := HNL.out; omega
        rw [hk0] at hn'
        have hend := numTill_end HND.out hn'
        have hc0r : wr.cell? ⟨b, 0, none⟩ = some (.slice (some ⟨g, 0, none⟩) n c) := field_cell hhr rfl
        have hf0r : wr.frozen? ⟨b, 0, none⟩ = false := field_free hhr
        have hcl : ∀ ty, (Builtin.clear_ #[22] ty #[.slice (some ⟨g, 0, none⟩) (n) (c)]).run Try.prog wr = .ok (.tuple #[]) (wr.setCells g 0 (List.replicate (n) (.string ⟨#[]⟩))) := fun ty =>
          Lib.run_clear_slice wr 22 9 ty (.string ⟨#[]⟩) Try.underlying22 (fun w => by kernel_rfl) rfl rfl g 0 (n) (c) (by omega)
            (fun j hj => by rw [hor.cellAt (0 + j) (by omega)]; simp; rw [← HNL.out]; omega) (fun j _ => hor.frozenAt _)
        have hs1 : ∀ vs : List Value, (wr.setCells g 0 vs).heap[b]? = wr.heap[b]? := fun vs => World.heap_setCells_other wr g 0 vs (Array.getElem?_eq_some_iff.1 hhr).1 (fun e => HGB.out e.symm)
        have hhs := (hs1 (List.replicate (n) (.string ⟨#[]⟩))).trans hhr
        have hc0s : (wr.setCells g 0 (List.replicate (n) (.string ⟨#[]⟩))).cell? ⟨b, 0, none⟩ = some (.slice (some ⟨g, 0, none⟩) n c) := field_cell hhs rfl
        have hf0s : (wr.setCells g 0 (List.replicate (n) (.string ⟨#[]⟩))).frozen? ⟨b, 0, none⟩ = false := field_free hhs
        have HHS := Lib.hid hhs
        have HOR := Lib.hid hor
        have HMM := Lib.hid hm'
        have HTT := Lib.hid ht'
        have HEND := Lib.hid hend
        have HHR := Lib.hid hhr
        clear hhs hor hm' ht' hend hs1 hn' hk0 hhr
        generalize hvs : List.replicate (n) (Value.string ⟨#[]⟩) = vs at hcl hc0s hf0s HHS
        clear hvs
        go_wp2
        go_end0
        obtain ⟨sb, sg, sm⟩ := HSS.out
        have hlk : (l.take 0).length = 0 := by rw [List.length_take, ← HNL.out]; omega
        have htu : Turn S w wr := ⟨HTT.out.1, HTT.out.2.1, HTT.out.2.2.1, HTT.out.2.2.2.1, fun q h1 h2 => HTT.out.2.2.2.2 q h1 (fun e => h2 (by rw [e]; exact sm))⟩
        have hof := own_first HOR.out (k := 0) (by omega) vs
        have hmb : ((wr.setCells g 0 vs).setCell ⟨b, 0, none⟩ (.slice (some ⟨g, 0, none⟩) 0 c)).heap[mb]? = wr.heap[mb]? :=
          (Below.heap_setCell _ _ _ mb (fun e => HBM.out e.symm)).trans (World.heap_setCells_other wr g 0 vs HMM.out.lt (fun e => HGM.out e.symm))
        refine ⟨rfl, ⟨some ⟨g, 0, none⟩, c, some mb, ?_, sb, ?_, fun q hq => ?_, .inr ⟨mb, D', rfl, sm, map_heap HMM.out hmb, HEND.out⟩, HND.out.sublist (List.take_sublist _ _), fun s hs => HLEN.out s (List.mem_of_mem_take hs)⟩, ?_⟩
        · rw [hlk]; exact field_set HHS.out
        · rw [hlk, List.map_take]
          exact own_heap hof (fun q hq => Below.heap_setCell _ _ _ q (fun e => by
            obtain rfl : g = q := by simpa [Value.ownBlock] using hq
            exact HGB.out e))
        · obtain rfl : g = q := by simpa [Value.ownBlock] using hq
          exact sg
        · exact (setCells_turn g S sg vs 0 w wr htu).setCell b 0 _ sb
  · go_enter Try.func21, Try.ntmps21
    go_wp2
    go_loopw [22] (fun idx wr => ∃ (i : Nat) (D' : DataW Nat), i ≤ n - k ∧ idx = .int .i64 (i : Int) ∧ wr.ownsMap Try.prog 9 (plainElem Try.prog 32) mb N D' ∧ NumTill D' l k (k + i) ∧ Turn (fun q => q = mb) w wr) (fun idx wr => n - k - (intOf idx).toNat)
    case atStart => exact ⟨0, D, by omega, rfl, HM.out, HN.out, Turn.refl _ _⟩
    case round =>
      obtain ⟨i, D', hi, rfl, hm', hn', ht'⟩ := hrel
      have hhr : wr.heap[b]? = some (.cells #[.slice (some ⟨g, 0, none⟩) n c, .map (some mb)] 46 (0, 0)) := (ht'.2.2.2.2 b (Array.getElem?_eq_some_iff.1 HH.out).1 HBM.out).trans HH.out
      have hor := own_heap (w' := wr) HO.out (fun q hq => by
        obtain rfl : g = q := by simpa [Value.ownBlock] using hq
        exact ht'.2.2.2.2 g (own_lt HO.out g rfl) HGM.out)
      have hcmr : wr.cell? ⟨b, 1, none⟩ = some (.map (some mb)) := field_cell hhr rfl
      by_cases hlt : i < n - k
      · obtain ⟨s, hs⟩ : ∃ s, l[k + i]? = some s := ⟨_, List.getElem?_eq_getElem (by rw [← HNL.out]; omega)⟩
        have hcell : wr.cell? ⟨g, k + i, none⟩ = some (.string (tx s)) := by
          have h := hor.cellAt (k + i) (by omega)
          rw [List.getElem?_map, hs] at h
          simpa [tsv] using h
        have hkey := tkeyOf (HLEN.out s (List.mem_of_getElem? hs))
        unfold tsv at hkey
        have HST := Lib.hid (numTill_step HND.out (by omega) hs hn')
        have HTT := Lib.hid ht'
        clear hs hhr hor hn' ht'
        go_wp2_with (at_delete; refine wpList_delete_own _ rfl _ _ 42 9 rfl 32 tkey Try.underlying42 _ mb N D' rfl hm' _ _ rfl hkey ?_; intro w1 hm1 ht1)
        exact ⟨⟨i + 1, _, by omega, by go_num, hm1, HST.out, HTT.out.grown ht1.grown (fun q e _ => by cases e; rfl)⟩, by simp [intOf]; omega⟩
      · have hk0 : k + i = l.length := by have := HNL.out; omega
        rw [hk0] at hn'
        have hend := numTill_end HND.out hn'
        have hc0r : wr.cell? ⟨b, 0, none⟩ = some (.slice (some ⟨g, 0, none⟩) n c) := field_cell hhr rfl
        have hf0r : wr.frozen? ⟨b, 0, none⟩ = false := field_free hhr
        have hcl : ∀ ty, (Builtin.clear_ #[22] ty #[.slice (some ⟨g, k, none⟩) (n - k) (c - k)]).run Try.prog wr = .ok (.tuple #[]) (wr.setCells g k (List.replicate (n - k) (.string ⟨#[]⟩))) := fun ty =>
          Lib.run_clear_slice wr 22 9 ty (.string ⟨#[]⟩) Try.underlying22 (fun w => by kernel_rfl) rfl rfl g k (n - k) (c - k) (by omega)
            (fun j hj => by rw [hor.cellAt (k + j) (by omega)]; simp; rw [← HNL.out]; omega) (fun j _ => hor.frozenAt _)
        have hs1 : ∀ vs : List Value, (wr.setCells g k vs).heap[b]? = wr.heap[b]? := fun vs => World.heap_setCells_other wr g k vs (Array.getElem?_eq_some_iff.1 hhr).1 (fun e => HGB.out e.symm)
        have hhs := (hs1 (List.replicate (n - k) (.string ⟨#[]⟩))).trans hhr
        have hc0s : (wr.setCells g k (List.replicate (n - k) (.string ⟨#[]⟩))).cell? ⟨b, 0, none⟩ = some (.slice (some ⟨g, 0, none⟩) n c) := field_cell hhs rfl
        have hf0s : (wr.setCells g k (List.replicate (n - k) (.string ⟨#[]⟩))).frozen? ⟨b, 0, none⟩ = false := field_free hhs
        have HHS := Lib.hid hhs
        have HOR := Lib.hid hor
        have HMM := Lib.hid hm'
        have HTT := Lib.hid ht'
        have HEND := Lib.hid hend
        have HHR := Lib.hid hhr
        clear hhs hor hm' ht' hend hs1 hn' hk0 hhr
        generalize hvs : List.replicate (n - k) (Value.string ⟨#[]⟩) = vs at hcl hc0s hf0s HHS
        clear hvs
        go_wp2
        go_end0
        obtain ⟨sb, sg, sm⟩ := HSS.out
        have hlk : (l.take k).length = k := by rw [List.length_take, ← HNL.out]; omega
        have htu : Turn S w wr := ⟨HTT.out.1, HTT.out.2.1, HTT.out.2.2.1, HTT.out.2.2.2.1, fun q h1 h2 => HTT.out.2.2.2.2 q h1 (fun e => h2 (by rw [e]; exact sm))⟩
        have hof := own_first HOR.out (k := k) (by omega) vs
        have hmb : ((wr.setCells g k vs).setCell ⟨b, 0, none⟩ (.slice (some ⟨g, 0, none⟩) k c)).heap[mb]? = wr.heap[mb]? :=
          (Below.heap_setCell _ _ _ mb (fun e => HBM.out e.symm)).trans (World.heap_setCells_other wr g k vs HMM.out.lt (fun e => HGM.out e.symm))
        refine ⟨rfl, ⟨some ⟨g, 0, none⟩, c, some mb, ?_, sb, ?_, fun q hq => ?_, .inr ⟨mb, D', rfl, sm, map_heap HMM.out hmb, HEND.out⟩, HND.out.sublist (List.take_sublist _ _), fun s hs => HLEN.out s (List.mem_of_mem_take hs)⟩, ?_⟩
        · rw [hlk]; exact field_set HHS.out
        · rw [hlk, List.map_take]
          exact own_heap hof (fun q hq => Below.heap_setCell _ _ _ q (fun e => by
            obtain rfl : g = q := by simpa [Value.ownBlock] using hq
            exact HGB.out e))
        · obtain rfl : g = q := by simpa [Value.ownBlock] using hq
          exact sg
        · exact (setCells_turn g S sg vs k w wr htu).setCell b 0 _ sb

set_option maxRecDepth 100000 in
theorem Cut_call (b : Nat) (sz : Int) (w : World) (Q : World → Prop) (h : Calls Try.prog 21 #[.pointer (some ⟨b, 0, none⟩), .int .i64 sz] w fun e w' => e = .returned (.tuple #[]) ∧ Q w') :
    Calls Try.prog 13 #[.pointer (some ⟨b, 0, none⟩), .int .i64 sz] w fun e w' => e = .returned (.tuple #[]) ∧ Q w' := by
  have H := Lib.hid h
  clear h
  go_enter Try.func13, Try.ntmps13
  go_wp2_with (first
    | (go_at_call 18; refine (all_any b _).mono ?_; rintro e w1 ⟨rfl, rfl⟩)
    | (go_at_call 21; refine H.out.mono ?_; rintro e w1 ⟨rfl, hq⟩))
  go_end0
  exact ⟨rfl, hq⟩

/-- How many stay. -/
def tcut (n : Nat) (sz : Int) : Nat := min n (max sz 0).toNat

theorem Cut_any (S : Nat → Prop) (b N : Nat) (l : List (List UInt8)) (sz : Int) (hl : l.length ≤ 1073741824) (w : World) (h : Tab w S b N l) :
    Calls Try.prog 13 #[.pointer (some ⟨b, 0, none⟩), .int .i64 sz] w fun e w' => e = .returned (.tuple #[]) ∧ Tab w' S b N (l.take (tcut l.length sz)) ∧ Turn S w w' := by
  refine Cut_call b sz w (fun w' => Tab w' S b N (l.take (tcut l.length sz)) ∧ Turn S w w') ?_
  have htab := h
  obtain ⟨L, c, mv, h1, hSb, h3, h4, h5, hnd, hlen⟩ := h
  by_cases hk : tcut l.length sz = l.length
  · rw [hk, List.take_length]
    have hcap : l.length ≤ c ∧ c ≤ maxLen := by
      rcases h3.2 with ⟨h0, h00⟩ | ⟨g', cap, cur, hv, _, _, g1, g2, _⟩
      · injection h0 with _ _ h0; subst h0; rw [h00]; exact ⟨Nat.le_refl _, Nat.zero_le _⟩
      · injection hv with _ _ hv2; subst hv2; exact ⟨g1, g2⟩
    refine (cut_all L b l.length c sz w (field_cell h1 rfl) hcap.1 (by have := hcap.2; unfold maxLen at this; omega) (field_free h1) (by unfold tcut at hk; omega)).mono ?_
    rintro e w' ⟨rfl, rfl⟩
    refine ⟨rfl, ?_, (Turn.refl S w).setCell b 0 _ hSb⟩
    have hb2 : (w.setCell ⟨b, 0, none⟩ (.slice L l.length c)).heap[b]? = w.heap[b]? := by rw [field_set h1, h1]; rfl
    exact htab.keep fun q _ hq => by
      by_cases e : q = b
      · rw [e]; exact hb2
      · exact Below.heap_setCell _ _ _ q e
  · have hlt : tcut l.length sz < l.length := by unfold tcut at hk ⊢; omega
    obtain ⟨g, hL⟩ : ∃ g, L = some ⟨g, 0, none⟩ := by
      rcases h3.2 with ⟨_, h00⟩ | ⟨g', cap, cur, hv, _⟩
      · omega
      · injection hv with hv _ _; exact ⟨g', hv⟩
    subst hL
    rcases h5 with ⟨_, e⟩ | ⟨mb, D, rfl, hSm, hm, hn⟩
    · rw [e] at hlt; simp at hlt
    · exact cut_some S b g mb l.length (tcut l.length sz) c N D l sz hlt rfl hl w h1 h3 hm hn hnd hlen hSb (h4 g rfl) hSm (by unfold tcut at hlt ⊢; omega)

end Go.Proofs.Ytfdeafhmfmeafaa
