/- The walks of a table's calls: all, find, Find, thing, Text, Len, number, ID. -/
import Derived.Maps.AppendAt
import Derived.Deep.AppendLies
import Derived.Test.YtgioknppnfencaaDoorIa
import Derived.Test.YtgioknppnfencaaDoorMw
namespace Go.Proofs.YtgioknppnfencaaDoor
open Go.RowKit Go.Maps Go.ChangeMaps Go.WideMaps

theorem tkeyOf {s : List UInt8} (h : s.length ≤ maxLen) : keyOf Tryd.prog 9 (tsv s) = some (.string s) := by
  rw [tsv, keyOf_string_mk Tryd.underlying9 (by rw [tx_size]; exact h)]
  simp [tx]

set_option maxRecDepth 100000 in
theorem all_any (b : Nat) (w : World) : Calls Tryd.prog 74 #[.pointer (some ⟨b, 0, none⟩)] w fun e w' => e = .returned (.pointer (some ⟨b, 0, none⟩)) ∧ w = w' := by
  go_enter Tryd.func74, Tryd.ntmps74
  go_wp2
  go_ret
  exact ⟨rfl, rfl⟩

set_option maxRecDepth 100000 in
set_option maxHeartbeats 400000 in
theorem Len_any (S : Nat → Prop) (b N : Nat) (l : List (List UInt8)) (w : World) (h : Tab w S b N l) :
    Calls Tryd.prog 62 #[.pointer (some ⟨b, 0, none⟩)] w fun e w' => e = .returned (.int .i64 (l.length : Int)) ∧ w = w' := by
  obtain ⟨L, c, mv, h1, _⟩ := h
  have hc0 := field_cell (i := 0) h1 rfl
  clear h1
  go_enter Tryd.func62, Tryd.ntmps62
  go_wp2_with (go_at_call 74; refine (all_any b _).mono ?_; rintro e w1 ⟨rfl, rfl⟩)
  go_ret
  exact ⟨rfl, rfl⟩

theorem own_map {w : World} {base n size : Nat} {e : TypeId} {v : Value} {xs : List Value} {b m : Nat} {D : DataW Nat} {k : TypeId} {R : Value → Option (DataW Nat × List MemPlace)} (h : w.ownsRow base e size v n xs) (hm : w.ownsMap Tryd.prog k R b m D) : ∀ g, v.ownBlock = some g → g ≠ b := by
  intro g hg e2
  subst e2
  obtain ⟨es, clock, hb, _⟩ := hm
  rcases h.2 with ⟨rfl, _⟩ | ⟨g2, cap, cur, rfl, _, hh, _⟩
  · simp [Value.ownBlock] at hg
  · simp only [Value.ownBlock, Option.some.injEq] at hg
    subst hg
    rw [hb] at hh
    cases hh

/-- Behind a text that came in: what stands. -/
theorem number_end (S : Nat → Prop) (b n N mb g3 c3 c : Nat) (L : Option Addr) (l : List (List UInt8)) (s : List UInt8) (w Wp w2 w3 : World) (D : DataW Nat) (hn : n = l.length) (hin : s ∉ l) (hnd : (l ++ [s]).Nodup) (hlen : ∀ t ∈ l ++ [s], t.length ≤ maxLen) (hSb : S b) (htp : Turn S w Wp) (hpm : S mb ∨ w.heap.size ≤ mb)
    (hp1 : Wp.heap[b]? = some (.cells #[.slice L n c, .map (some mb)] 110 (0, 0))) (hpo : Wp.ownsRow 0 9 1 (.slice L n c) n (l.map tsv)) (hmp : Wp.ownsMap Tryd.prog 9 (plainElem Tryd.prog 32) mb N D) (hno : NumOf D l) (hbl : ∀ g, (Value.slice L n c).ownBlock = some g → S g)
    (hm2 : w2.ownsMap Tryd.prog 9 (plainElem Tryd.prog 32) mb (N + 1) (D.put (.string s) (.lit (.int .u64 (n : Int))))) (ht2 : Wp.mapTurned w2 mb)
    (hgl : (Value.slice L n c).ownBlock = some g3 ∨ g3 = w2.heap.size + 1) (hg3 : (w2.alloc (.cells #[.string (tx s)] 9)).grownBy w3 (Value.slice L n c).ownBlock) (ho3 : w3.ownsRow 0 9 1 (.slice (some ⟨g3, 0, none⟩) (n + 1) c3) (n + 1) (l.map tsv ++ [.string (tx s)])) (hh3 : w3.heap[b]? = some (.cells #[.slice L n c, .map (some mb)] 110 (0, 0))) (hb : b < w.heap.size) :
    Tab (w3.setCell ⟨b, 0, none⟩ (.slice (some ⟨g3, 0, none⟩) (n + 1) c3)) (fun k => S k ∨ w.heap.size ≤ k) b (N + 1) (l ++ [s]) ∧ Turn S w (w3.setCell ⟨b, 0, none⟩ (.slice (some ⟨g3, 0, none⟩) (n + 1) c3)) := by
  have hgrow := ht2.grown
  have t2 : Turn S w w2 := htp.grown hgrow (fun i e hi => by
    obtain rfl := Option.some.inj e
    rcases hpm with h | h
    · exact h
    · omega)
  have t3 : Turn S w w3 := (t2.grown (World.grownBy_alloc w2 _ none) (by simp)).grown hg3 (fun i e _ => hbl i e)
  have t4 := t3.setCell b 0 (.slice (some ⟨g3, 0, none⟩) (n + 1) c3) hSb
  have hl1 : (l ++ [s]).length = n + 1 := by rw [List.length_append, hn]; rfl
  have hmb3 : w3.heap[mb]? = w2.heap[mb]? := by
    have hlt := hm2.lt
    refine (hg3.block mb (by simp; omega) (fun e => ?_)).trans (Below.heap_alloc _ _ _ hlt)
    exact own_map hpo hmp mb e.symm rfl
  have hne : mb ≠ b := by
    intro e
    subst e
    obtain ⟨es, clock, hb2, _⟩ := hm2
    rw [hh3] at hmb3
    rw [hb2] at hmb3
    cases hmb3
  refine ⟨⟨some ⟨g3, 0, none⟩, c3, some mb, ?_, .inl hSb, ?_, ?_, .inr ⟨mb, D.put (.string s) (.lit (.int .u64 (n : Int))), rfl, hpm, ?_, ?_⟩, hnd, hlen⟩, t4⟩
  · rw [hl1]; exact field_set hh3
  · rw [hl1, List.map_append]
    exact own_heap ho3 (fun g hg => Below.heap_setCell _ _ _ g (fun e => own_cells ho3 hh3 (by decide) (hg.trans (congrArg some e))))
  · intro g hg
    obtain rfl : g3 = g := by simpa [Value.ownBlock] using hg
    rcases hgl with h | h
    · exact .inl (hbl _ h)
    · exact .inr (by have := t2.2.2.2.1; omega)
  · exact map_heap hm2 ((Below.heap_setCell _ _ _ mb hne).trans hmb3)
  · rw [hn]; exact numOf_put hno hin

set_option maxRecDepth 100000 in
set_option maxHeartbeats 1000000 in
theorem number_any (S : Nat → Prop) (b N : Nat) (l : List (List UInt8)) (s : List UInt8) (hs : s.length ≤ maxLen) (hl : l.length + 1 ≤ 1073741824) (hN : N < 1073741824) (w : World) (h : Tab w S b N l) :
    Calls Tryd.prog 77 #[.pointer (some ⟨b, 0, none⟩), tsv s] w fun e w' => e = .returned (.tuple #[.int .u64 (tnum (tput l s) s : Int), .bool (!decide (s ∈ l))]) ∧
      Tab w' (fun k => S k ∨ w.heap.size ≤ k) b (N + 1) (tput l s) ∧ Turn S w w' := by
  obtain ⟨is, his, his0, his1, his2⟩ := info_parts tinfo
  have htab := h
  obtain ⟨L, c, mv, h1, hSb, h3, h4, h5, hnd, hlen⟩ := h
  have hc1 := field_cell (i := 1) h1 rfl
  have hf1 := field_free (i := 1) h1
  have hc0 := field_cell (i := 0) h1 rfl
  have hf0 := field_free (i := 0) h1
  have hkey := tkeyOf hs
  have HS := Lib.hid hs
  unfold tsv at hkey ⊢
  by_cases hin : s ∈ l
  · rw [tput_in hin, decide_eq_true hin]
    obtain ⟨mb, D, rfl, hSm, hm, hn⟩ : ∃ (mb : Nat) (D : DataW Nat), mv = some mb ∧ S mb ∧ w.ownsMap Tryd.prog 9 (plainElem Tryd.prog 32) mb N D ∧ NumOf D l := by
      rcases h5 with ⟨_, e⟩ | h5
      · rw [e] at hin; simp at hin
      · exact h5
    obtain ⟨e1, e2⟩ := hn.2 s
    rw [decide_eq_true hin] at e1
    have E2 := Lib.hid e2
    have HT := Lib.hid htab
    clear e2 h1 h3 h4 h5 hnd hlen htab
    go_enter Tryd.func77, Tryd.ntmps77
    go_wp2_with (at_lookup; refine wpList_lookup_own_ok_int _ rfl _ _ 103 rfl 9 32 .u64 tkey Tryd.underlying103 Tryd.underlying32 (zeroU _) mb N D rfl hm _ _ rfl hkey ?_; intro cv hat hwc)
    go_ret2
    have e3 := E2.out
    unfold u0 at e3
    rw [e3] at hat
    have : cv = (tnum l s : Int) := by injection hat with hat; injection hat with _ hat; exact hat.symm
    rw [this]
    exact ⟨rfl, (HT.out.wide fun k hk _ => .inl hk).more (by omega), Turn.refl _ _⟩
  · rw [tput_new hin, decide_eq_false hin]
    have hnum : tnum (l ++ [s]) s = l.length := by
      rw [tnum, if_pos (by simp), List.idxOf_append, if_neg hin]; simp
    have HNUM := Lib.hid hnum
    have hnd2 := tput_nodup (s := s) hnd
    rw [tput_new hin] at hnd2
    have HND := Lib.hid hnd2
    have hlen2 : ∀ t ∈ l ++ [s], t.length ≤ maxLen := fun t ht => by
      rcases List.mem_append.1 ht with ht | ht
      · exact hlen t ht
      · obtain rfl := List.mem_singleton.1 ht; exact hs
    have HLEN := Lib.hid hlen2
    have HIN := Lib.hid hin
    have HB := Lib.hid h4
    have HSB := Lib.hid hSb
    have hbl := (Array.getElem?_eq_some_iff.1 h1).1
    obtain ⟨n, hnl⟩ : ∃ n, n = l.length := ⟨_, rfl⟩
    have HNL := Lib.hid hnl
    have hown := h3
    rw [← hnl] at h1 hc0 hl hown
    have hw1 : IntKind.u64.wrap (n : Int) = (n : Int) := by rw [IntKind.wrap_u64]; omega
    have hwf : (Lit.int .u64 (n : Int)).wf = true := by simp [Lit.wf, IntKind.min, IntKind.max, IntKind.signed, IntKind.bits]; omega
    have HOWN := Lib.hid hown
    rcases h5 with ⟨rfl, e0⟩ | ⟨mb, D, rfl, hSm, hm, hn⟩
    · have hnil := fun W : World => look_nil (w := W) (P := Tryd.prog) true tkey Tryd.underlying103 (zeroU W) hkey
      have hq := fun W => run_eql_map_nil_sl (P := Tryd.prog) W 103 _ _ none Tryd.underlying103
      have hmm := @run_makeMap Tryd.prog

      have hbl2 : b ≠ w.heap.size := by omega
      have HP1 : Hid (((w.setCell ⟨b, 1, none⟩ (.map (some w.heap.size))).alloc (.map #[] 0)).heap[b]? = some (.cells #[.slice L n c, .map (some w.heap.size)] 110 (0, 0))) := (Below.heap_alloc _ _ _ (by simpa using hbl)).trans (field_set h1)
      have HPO : Hid (((w.setCell ⟨b, 1, none⟩ (.map (some w.heap.size))).alloc (.map #[] 0)).ownsRow 0 9 1 (.slice L n c) n (l.map tsv)) :=
        (own_heap (w' := w.setCell ⟨b, 1, none⟩ (.map (some w.heap.size))) hown (fun g hg => Below.heap_setCell _ _ _ g (fun e => own_cells hown h1 (by decide) (hg.trans (congrArg some e))))).alloc _
      have HMP : Hid (((w.setCell ⟨b, 1, none⟩ (.map (some w.heap.size))).alloc (.map #[] 0)).ownsMap Tryd.prog 9 (plainElem Tryd.prog 32) w.heap.size N (.map [] : DataW Nat)) := by
        have h := World.ownsMap_made (H := Nat) (w.setCell ⟨b, 1, none⟩ (.map (some w.heap.size))) Tryd.prog 9 (plainElem Tryd.prog 32)
        rw [World.size_setCell] at h
        exact h.mono (Nat.zero_le _)
      have HTP : Hid (Turn S w ((w.setCell ⟨b, 1, none⟩ (.map (some w.heap.size))).alloc (.map #[] 0))) := ((Turn.refl S w).setCell b 1 _ hSb).grown (World.grownBy_alloc _ _ none) (by simp)
      have HPM : Hid (S w.heap.size ∨ w.heap.size ≤ w.heap.size) := .inr (Nat.le_refl _)
      have HNO : Hid (NumOf (.map []) l) := by show NumOf _ _; rw [e0]; exact numOf_nil
      have HBM : Hid (b ≠ w.heap.size) := hbl2
      have HBL : Hid (∀ g, (Value.slice L n c).ownBlock = some g → S g) := by show ∀ g, _; rw [hnl]; exact h4
      have HKEY := Lib.hid hkey
      clear hnl hnum hnd2 hlen2 hin h1 h3 h4 hnd hlen htab hown e0 hbl2 hSb hs
      go_enter Tryd.func77, Tryd.ntmps77
      go_wp2_with (first
        | (at_mapUpdate; refine wpList_mapUpdate_in _ rfl _ _ _ 103 rfl 9 32 tkey Tryd.underlying103 _ w.heap.size N (.map []) rfl HMP.out (by unfold maxLen; omega) _ _ _ rfl rfl HKEY.out _ [] (plainElem_int Tryd.underlying32 hwf) ?_
           intro w2 hm2 ht2
           have hh2 : w2.heap[b]? = some (.cells #[.slice L n c, .map (some w.heap.size)] 110 (0, 0)) := (ht2.grown.block b (Array.getElem?_eq_some_iff.1 HP1.out).1 (fun e => HBM.out (Option.some.inj e))).trans HP1.out
           have hc0' : w2.cell? ⟨b, 0, none⟩ = some (.slice L n c) := field_cell hh2 rfl
           have hf0' : w2.frozen? ⟨b, 0, none⟩ = false := field_free hh2
           have ho2 := own_heap (w' := w2) HPO.out (fun g hg => ht2.grown.block g (own_lt HPO.out g hg) (fun e => own_map HPO.out HMP.out g hg (Option.some.inj e)))
           have HM2 := Lib.hid hm2
           have HT2 := Lib.hid ht2
           have HH2 := Lib.hid hh2
           clear hm2 ht2 hh2)
        | (at_builtin; refine wpList_append_lies _ rfl (.tmp 44) (.tmp 46) 57 rfl 0 9 is (.string { data := #[] }) 1 16 Tryd.underlying57 his his0 his1 his2 rfl (by decide) _ n _ rfl (ho2.alloc _) ⟨w2.heap.size, 0, none⟩ 1 1 [.string (tx s)] rfl rfl (cell_one_new _ _ _) (by simp [Value.oneCell']) (by omega) (by unfold maxLen; omega) (by omega) (Nat.zero_le _) (w2.heap.size + 1) (by simp) ?_
           intro g3 c3 w3 ho3 hg3 hgl3 _
           have hh3 : w3.heap[b]? = some (.cells #[.slice L n c, .map (some w.heap.size)] 110 (0, 0)) := (hg3.block b (by have := (Array.getElem?_eq_some_iff.1 HH2.out).1; simp; omega) (fun e => own_cells ho2 HH2.out (by decide) e.symm)).trans ((Below.heap_alloc _ _ _ (Array.getElem?_eq_some_iff.1 HH2.out).1).trans HH2.out)
           have hf3 : w3.frozen? ⟨b, 0, none⟩ = false := field_free hh3
           have hc3 : w3.cell? ⟨b, 0, none⟩ = some (.slice L n c) := field_cell hh3 rfl
           have HG3 := Lib.hid hg3
           have HGL := Lib.hid hgl3
           have HO3 := Lib.hid ho3
           have HO2 := Lib.hid ho2
           have HH3 := Lib.hid hh3
           clear hgl3 hg3 ho3 hh3 hc0' hf0'))
      go_ret2
      refine ⟨by first | (rw [HNUM.out, ← HNL.out]; done) | (rw [HNUM.out, ← HNL.out]; rfl), ?_⟩
      exact number_end S b n N w.heap.size g3 c3 c L l s w _ w2 w3 (.map []) HNL.out HIN.out HND.out HLEN.out HSB.out HTP.out HPM.out HP1.out HPO.out HMP.out HNO.out HBL.out HM2.out HT2.out HGL.out HG3.out HO3.out HH3.out (by omega)
    · have hnl0 := hnl
      clear hnl0
      obtain ⟨e1, e2⟩ := hn.2 s
      rw [decide_eq_false hin] at e1
      have hq := fun W => run_eql_map_nil_sl (P := Tryd.prog) W 103 _ _ (some mb) Tryd.underlying103
      have HP1 := Lib.hid h1
      have HPO := Lib.hid hown
      have HMP := Lib.hid hm
      have HTP := Lib.hid (Turn.refl S w)
      have HPM : Hid (S mb ∨ w.heap.size ≤ mb) := .inl hSm
      have HNO := Lib.hid hn
      have HBM : Hid (b ≠ mb) := fun e => by
        subst e
        obtain ⟨es, clock, hb, _⟩ := hm
        rw [h1] at hb; cases hb
      have HBL : Hid (∀ g, (Value.slice L n c).ownBlock = some g → S g) := by show ∀ g, _; rw [hnl]; exact h4
      have HKEY := Lib.hid hkey
      clear hnl hnum hnd2 hlen2 hin h1 h3 h4 hnd hlen htab hown e2 hSb hs hn
      go_enter Tryd.func77, Tryd.ntmps77
      go_wp2_with (first
        | (at_lookup; refine wpList_lookup_own_ok_int _ rfl _ _ 103 rfl 9 32 .u64 tkey Tryd.underlying103 Tryd.underlying32 (zeroU _) mb N D rfl hm _ _ rfl HKEY.out ?_; intro cv hat hwc; clear hat hwc)
        | (at_mapUpdate; refine wpList_mapUpdate_in _ rfl _ _ _ 103 rfl 9 32 tkey Tryd.underlying103 _ mb N D rfl HMP.out (by unfold maxLen; omega) _ _ _ rfl rfl HKEY.out _ [] (plainElem_int Tryd.underlying32 hwf) ?_
           intro w2 hm2 ht2
           have hh2 : w2.heap[b]? = some (.cells #[.slice L n c, .map (some mb)] 110 (0, 0)) := (ht2.grown.block b (Array.getElem?_eq_some_iff.1 HP1.out).1 (fun e => HBM.out (Option.some.inj e))).trans HP1.out
           have hc0' : w2.cell? ⟨b, 0, none⟩ = some (.slice L n c) := field_cell hh2 rfl
           have hf0' : w2.frozen? ⟨b, 0, none⟩ = false := field_free hh2
           have ho2 := own_heap (w' := w2) HPO.out (fun g hg => ht2.grown.block g (own_lt HPO.out g hg) (fun e => own_map HPO.out HMP.out g hg (Option.some.inj e)))
           have HM2 := Lib.hid hm2
           have HT2 := Lib.hid ht2
           have HH2 := Lib.hid hh2
           clear hm2 ht2 hh2)
        | (at_builtin; refine wpList_append_lies _ rfl (.tmp 44) (.tmp 46) 57 rfl 0 9 is (.string { data := #[] }) 1 16 Tryd.underlying57 his his0 his1 his2 rfl (by decide) _ n _ rfl (ho2.alloc _) ⟨w2.heap.size, 0, none⟩ 1 1 [.string (tx s)] rfl rfl (cell_one_new _ _ _) (by simp [Value.oneCell']) (by omega) (by unfold maxLen; omega) (by omega) (Nat.zero_le _) (w2.heap.size + 1) (by simp) ?_
           intro g3 c3 w3 ho3 hg3 hgl3 _
           have hh3 : w3.heap[b]? = some (.cells #[.slice L n c, .map (some mb)] 110 (0, 0)) := (hg3.block b (by have := (Array.getElem?_eq_some_iff.1 HH2.out).1; simp; omega) (fun e => own_cells ho2 HH2.out (by decide) e.symm)).trans ((Below.heap_alloc _ _ _ (Array.getElem?_eq_some_iff.1 HH2.out).1).trans HH2.out)
           have hf3 : w3.frozen? ⟨b, 0, none⟩ = false := field_free hh3
           have hc3 : w3.cell? ⟨b, 0, none⟩ = some (.slice L n c) := field_cell hh3 rfl
           have HG3 := Lib.hid hg3
           have HGL := Lib.hid hgl3
           have HO3 := Lib.hid ho3
           have HO2 := Lib.hid ho2
           have HH3 := Lib.hid hh3
           clear hgl3 hg3 ho3 hh3 hc0' hf0'))
      go_ret2
      refine ⟨by first | (rw [HNUM.out, ← HNL.out]; done) | (rw [HNUM.out, ← HNL.out]; rfl), ?_⟩
      exact number_end S b n N mb g3 c3 c L l s w w w2 w3 D HNL.out HIN.out HND.out HLEN.out HSB.out HTP.out HPM.out HP1.out HPO.out HMP.out HNO.out HBL.out HM2.out HT2.out HGL.out HG3.out HO3.out HH3.out (by omega)

set_option maxRecDepth 100000 in
set_option maxHeartbeats 400000 in
theorem ID_any (S : Nat → Prop) (b N : Nat) (l : List (List UInt8)) (s : List UInt8) (hs : s.length ≤ maxLen) (hl : l.length + 1 ≤ 1073741824) (hN : N < 1073741824) (w : World) (h : Tab w S b N l) :
    Calls Tryd.prog 73 #[.pointer (some ⟨b, 0, none⟩), tsv s] w fun e w' => e = .returned (.tuple #[.int .u64 (tnum (tput l s) s : Int), .bool (!decide (s ∈ l))]) ∧
      Tab w' (fun k => S k ∨ w.heap.size ≤ k) b (N + 1) (tput l s) ∧ Turn S w w' := by
  have HF := Lib.hid (number_any S b N l s hs hl hN w h)
  unfold tsv at HF ⊢
  generalize (!decide (s ∈ l)) = q at HF ⊢
  clear h hs hl hN
  go_enter Tryd.func73, Tryd.ntmps73
  go_wp2_with (first
    | (go_at_call 74; refine (all_any b _).mono ?_; rintro e w1 ⟨rfl, rfl⟩)
    | (go_at_call 77; refine HF.out.mono ?_; rintro e w1 ⟨rfl, ht1, htu1⟩))
  go_ret2
  exact ⟨rfl, ht1, htu1⟩

end Go.Proofs.YtgioknppnfencaaDoor
