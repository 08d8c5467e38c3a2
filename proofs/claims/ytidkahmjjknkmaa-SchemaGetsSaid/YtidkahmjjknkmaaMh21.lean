/- Texts of one proof, one behind the other. -/
import Derived.Test.YtidkahmjjknkmaaMh20
import Derived.Test.YtidkahmjjknkmaaMh7
import Derived.Test.YtidkahmjjknkmaaMh10

/- The document's walk over a record's last payload, whole. -/
namespace Go.Proofs.Ytidkahmjjknkmaa
open Go.RowKit

theorem atV_len {c : Cu} {m : Nat} : atV c = (m : Int) ↔ (decide (c.e = 0 ∧ c.at_ = m) = true) := by
  unfold atV
  rw [decide_eq_true_iff]
  by_cases h : c.e = 0
  · rw [if_pos h]
    exact ⟨fun e => ⟨h, by omega⟩, fun e => by omega⟩
  · rw [if_neg h]
    exact ⟨fun e => by omega, fun e => absurd e.1 h⟩
theorem atV_neg {c : Cu} : atV c < 0 ↔ c.e ≠ 0 := by
  unfold atV
  by_cases h : c.e = 0
  · rw [if_pos h]; exact ⟨fun e => by omega, fun e => absurd h e⟩
  · rw [if_neg h]; exact ⟨fun _ => h, fun _ => by omega⟩
theorem LastPost.iff {w w' : World} {kd : Int} {tg : ByteArray} {ru : Int} {l : List Dp} {ou ti : Int} {ta : ByteArray} {P Q : Prop} {e : Ending} (h : LastPost w kd tg ru l ou ti ta P e w') (hq : P ↔ Q) : LastPost w kd tg ru l ou ti ta Q e w' := by
  obtain ⟨A, c, q, h1, h2, h3⟩ := h
  exact ⟨A, c, q, h1, h2.trans hq, h3⟩

theorem last_any (ver : Int) (hv : ver = 1 ∨ ver = 2 ∨ ver = 3) (tl : List (List UInt8)) (p : List UInt8) (hp : p.length ≤ 100000) (T : Option Addr) (n k : Nat) (htn : n ≤ 1000000) (w : World) (hr : Reads w w.heap.size 1 T n (tl.map tsv)) :
    Calls Try.prog 37 #[.int .i64 ver, .slice T n k, .string (tx p)] w fun e w' => LastPost w (dLast ver tl p).1.kind (tx (dLast ver tl p).1.target) (dLast ver tl p).1.rule (dLast ver tl p).2.1 (dLast ver tl p).1.out (dLast ver tl p).1.time (tx (dLast ver tl p).1.tag) ((dLast ver tl p).2.2 = true) e w' := by
  have HNU : ∀ d : Cu, d.ok → d.bs = p → ∀ W, Below w.heap.size w W → Calls Try.prog 65 #[.agg #[.string (tx p), .int .i64 (atV d), .slice T n k]] W fun e w' => e = .returned (.tuple #[.int .u64 (d.num.1 : Int), .agg #[.string (tx p), .int .i64 (atV d.num.2), .slice T n k]]) ∧ Below W.heap.size W w' := fun d hd hb W _ => by
    have h1 := wnum_any d hd (by rw [hb]; omega) T n k W
    unfold wkV at h1
    rw [num_bs, hb] at h1
    exact h1
  have HNM : ∀ d : Cu, d.ok → d.bs = p → ∀ W, Below w.heap.size w W → Calls Try.prog 66 #[.agg #[.string (tx p), .int .i64 (atV d), .slice T n k], .int .i64 ver] W fun e w' => e = .returned (.tuple #[.string (tx (dNm ver tl d).1), .agg #[.string (tx p), .int .i64 (atV (dNm ver tl d).2), .slice T n k]]) ∧ Below W.heap.size W w' := fun d hd hb W hW => by
    have h1 := wnm_any ver d hd (by rw [hb]; omega) T n k tl htn W ((hr.below hW).more hW.size)
    unfold wkV at h1
    rw [nm_bs, hb] at h1
    exact h1
  have HKN : ∀ (d : Cu) (j : Nat), d.bs = p → ∀ W, Below w.heap.size w W → Calls Try.prog 68 #[.agg #[.string (tx p), .int .i64 (atV d), .slice T n k], .int .u64 (j : Int)] W fun e w' => e = .returned (.tuple #[.string (tx (dKn tl j d).1), .agg #[.string (tx p), .int .i64 (atV (dKn tl j d).2), .slice T n k]]) ∧ Below W.heap.size W w' := fun d j hb W hW => by
    have h1 := wkn_any d j T n k tl htn W ((hr.below hW).more hW.size)
    unfold wkV at h1
    rw [kn_bs, hb] at h1
    exact h1
  have HDP : ∀ (d : Cu) (m : Nat), d.ok → d.bs = p → m < 18446744073709551616 → ∀ W, Below w.heap.size w W → Calls Try.prog 67 #[.agg #[.string (tx p), .int .i64 (atV d), .slice T n k], .int .i64 ver, .int .u64 (m : Int)] W fun e w' => (∃ A c', e = .returned (.tuple #[.slice A (dDs ver tl m ([], d)).1.length c', .agg #[.string (tx p), .int .i64 (atV (dDs ver tl m ([], d)).2), .slice T n k]]) ∧ (A = none → c' = 0) ∧ w'.ownsRow W.heap.size 55 3 (.slice A (dDs ver tl m ([], d)).1.length c') (dDs ver tl m ([], d)).1.length (dps (dDs ver tl m ([], d)).1)) ∧ Below W.heap.size W w' := fun d m hd hb hm W hW => by
    have h1 := wdeps_any ver d hd (by rw [hb]; omega) m hm T n k tl htn W ((hr.below hW).more hW.size)
    unfold wkV at h1
    rw [ds_bs, hb] at h1
    exact h1
  have hbs : (Cu.new p 0).bs = p := by unfold Cu.new; rw [if_neg (by omega)]
  have hok : (Cu.new p 0).ok := by unfold Cu.new Cu.ok; rw [if_neg (by omega)]; simp
  have h00 : Cu.new p 0 = ⟨p, 0, 0⟩ := by unfold Cu.new; rw [if_neg (by omega)]; rfl
  have ha0 : atV (Cu.new p 0) = 0 := by rw [h00]; unfold atV; rw [if_pos rfl]; rfl
  have hsz : (tx p).size = p.length := tx_size p
  obtain ⟨c0, hc0⟩ : ∃ c0, c0 = Cu.new p 0 := ⟨_, rfl⟩
  unfold dLast
  rw [← hc0] at hbs hok ha0 ⊢
  have h1 := HNU c0 hok hbs
  rw [ha0] at h1
  have a1 := num_adv hok
  have b1 : c0.num.2.bs = p := by rw [num_bs]; exact hbs
  simp only
  by_cases hc : c0.num.2.e = 0 ∧ (c0.num.1 = 1 ∨ c0.num.1 = 2)
  · rw [if_pos hc]
    have hn1 : 0 ≤ atV c0.num.2 := by have : ¬ atV c0.num.2 < 0 := fun h => (atV_neg.1 h) hc.1; omega
    have h2 := HNM c0.num.2 a1.ok b1
    have a2 := nm_adv ver tl a1.ok
    have b2 : (dNm ver tl c0.num.2).2.bs = p := by rw [nm_bs]; exact b1
    by_cases hk1 : c0.num.1 = 1
    · rw [if_pos hk1]
      rw [hk1] at h1
      have h3 := HNU _ a2.ok b2
      have a3 := num_adv a2.ok
      have b3 : (dNm ver tl c0.num.2).2.num.2.bs = p := by rw [num_bs]; exact b2
      have h4 := HNU _ a3.ok b3
      have a4 := num_adv a3.ok
      have b4 : (dNm ver tl c0.num.2).2.num.2.num.2.bs = p := by rw [num_bs]; exact b3
      have h5 := HDP _ (dNm ver tl c0.num.2).2.num.2.num.1 a4.ok b4 Cu.num_lt
      have a5 := (ds_adv ver tl a4.ok (dNm ver tl c0.num.2).2.num.2.num.1).1
      have b5 : (dDs ver tl (dNm ver tl c0.num.2).2.num.2.num.1 ([], (dNm ver tl c0.num.2).2.num.2.num.2)).2.bs = p := by rw [ds_bs]; exact b4
      have h6 := HNU _ a5.ok b5
      have a6 := num_adv a5.ok
      have b6 : (dDs ver tl (dNm ver tl c0.num.2).2.num.2.num.1 ([], (dNm ver tl c0.num.2).2.num.2.num.2)).2.num.2.bs = p := by rw [num_bs]; exact b5
      obtain ⟨c6, hc6⟩ : ∃ c6, c6 = (dDs ver tl (dNm ver tl c0.num.2).2.num.2.num.1 ([], (dNm ver tl c0.num.2).2.num.2.num.2)).2.num.2 := ⟨_, rfl⟩
      rw [← hc6] at h6 a6 b6 ⊢
      rcases hv with rfl | rfl | rfl
      · refine (last_11 (tx p) T n k _ _ _ _ _ _ _ _ _ _ _ hn1 w h1 h2 h3 h4 h5 h6).mono fun e w' h => h.iff ?_
        rw [hsz]
        exact atV_len
      · refine (last_12 (tx p) T n k _ _ _ _ _ _ _ _ _ _ _ _ _ hn1 w h1 h2 h3 h4 h5 h6 (HNU c6 a6.ok b6)).mono fun e w' h => h.iff ?_
        rw [hsz]
        exact atV_len
      · have h7 := HNU c6 a6.ok b6
        have a7 := num_adv a6.ok
        have b7 : c6.num.2.bs = p := by rw [num_bs]; exact b6
        have h8 := HNU _ a7.ok b7
        have a8 := num_adv a7.ok
        have b8 : c6.num.2.num.2.bs = p := by rw [num_bs]; exact b7
        have hw : dWhen 3 c6 = c6.num := if_pos (by omega)
        rw [hw]
        by_cases hz : c6.num.2.num.1 = 0
        · have ht : dTag 3 tl c6.num.2 = ([], c6.num.2.num.2) := by unfold dTag; rw [if_pos (by omega), if_neg (by omega)]
          rw [ht]
          rw [hz] at h8
          refine (last_13z (tx p) T n k _ _ _ _ _ _ _ _ _ _ _ _ _ _ hn1 w h1 h2 h3 h4 h5 h6 h7 h8).mono fun e w' h => h.iff ?_
          rw [hsz]
          exact atV_len
        · have ht : dTag 3 tl c6.num.2 = dKn tl (c6.num.2.num.1 - 1) c6.num.2.num.2 := by unfold dTag; rw [if_pos (by omega), if_pos (by omega)]
          rw [ht]
          have h9 := HKN c6.num.2.num.2 (c6.num.2.num.1 - 1) b8
          have hl : c6.num.2.num.1 < 18446744073709551616 := Cu.num_lt
          have hgw : IntKind.u64.wrap ((c6.num.2.num.1 : Int) - 1) = ((c6.num.2.num.1 - 1 : Nat) : Int) := by rw [show IntKind.u64.wrap ((c6.num.2.num.1 : Int) - 1) = ((c6.num.2.num.1 : Int) - 1) % 18446744073709551616 from rfl]; omega
          refine (last_13g (tx p) T n k _ _ _ _ _ _ _ _ _ _ _ _ _ _ _ _ _ hn1 (by omega) hgw _ w h1 h2 h3 h4 h5 h6 h7 h8 h9).mono fun e w' h => h.iff ?_
          rw [hsz]
          exact atV_len
    · rw [if_neg hk1]
      have hk2 : c0.num.1 = 2 := hc.2.resolve_left hk1
      rw [hk2] at h1
      refine (last_2 (tx p) T n k ver _ _ _ hn1 w h1 h2).mono fun e w' h => h.iff ?_
      rw [hsz]
      exact atV_len
  · rw [if_neg hc]
    by_cases he : c0.num.2.e = 0
    · have hn1 : 0 ≤ atV c0.num.2 := by have : ¬ atV c0.num.2 < 0 := fun h => (atV_neg.1 h) he; omega
      have hk : ¬ (c0.num.1 = 1 ∨ c0.num.1 = 2) := fun h => hc ⟨he, h⟩
      refine (last_b2 (tx p) T n k ver _ _ hn1 (by omega) (by omega) w h1).mono fun e w' h => h.iff (by simp)
    · refine (last_b1 (tx p) T n k ver _ _ (atV_neg.2 he) w h1).mono fun e w' h => h.iff (by simp)

end Go.Proofs.Ytidkahmjjknkmaa

/- What the document's walk answers lies within bounds. -/
namespace Go.Proofs.Ytidkahmjjknkmaa
open Go.RowKit

theorem ttext_mem (tl : List (List UInt8)) (n m : Nat) (h : ∀ s ∈ tl, s.length ≤ m) : (ttext tl n).length ≤ m := by
  unfold ttext
  cases e : tl[n]? with
  | none => simp
  | some s => exact h s (List.mem_of_getElem? e)
theorem kn_len (tl : List (List UInt8)) (n m : Nat) (c : Cu) (h : ∀ s ∈ tl, s.length ≤ m) : (dKn tl n c).1.length ≤ m := by
  unfold dKn
  split
  · exact ttext_mem tl n m h
  · simp
theorem text_len (c : Cu) : (c.text 64).1.length ≤ 64 := by
  unfold Cu.text Cu.tk
  split
  · split
    · unfold Cu.txR bg
      simp only
      split
      · simp
      · split
        · simp
        · split
          · simp
          · simp only [List.length_take]
            omega
    · simp
  · simp
theorem nm_len (ver : Int) (tl : List (List UInt8)) (m : Nat) (hm : 64 ≤ m) (c : Cu) (h : ∀ s ∈ tl, s.length ≤ m) : (dNm ver tl c).1.length ≤ m := by
  unfold dNm
  split
  · exact Nat.le_trans (text_len c) hm
  · exact kn_len tl _ m _ h
theorem num64 (c : Cu) : (0 : Int) ≤ (c.num.1 : Int) ∧ (c.num.1 : Int) < 18446744073709551616 := ⟨by omega, by have := @Cu.num_lt c; unfold top at this; omega⟩
theorem dp_good (ver : Int) (tl : List (List UInt8)) (m : Nat) (hm : 64 ≤ m) (c : Cu) (h : ∀ s ∈ tl, s.length ≤ m) : (dDp ver tl c).1.name.length ≤ m ∧ 0 ≤ (dDp ver tl c).1.hash ∧ (dDp ver tl c).1.hash < 18446744073709551616 := by
  unfold dDp
  split
  · exact ⟨nm_len ver tl m hm c h, num64 _⟩
  · exact ⟨kn_len tl _ m _ h, num64 _⟩
theorem ds_good (ver : Int) (tl : List (List UInt8)) (m : Nat) (hm : 64 ≤ m) (c : Cu) (h : ∀ s ∈ tl, s.length ≤ m) : ∀ i, ∀ d ∈ (dDs ver tl i ([], c)).1, d.name.length ≤ m ∧ 0 ≤ d.hash ∧ d.hash < 18446744073709551616
  | 0 => by simp [dDs]
  | i + 1 => by
    have h1 := ds_good ver tl m hm c h i
    intro d hd
    have hd' : d ∈ (if (dDs ver tl i ([], c)).2.e = 0 then ((dDs ver tl i ([], c)).1 ++ [(dDp ver tl (dDs ver tl i ([], c)).2).1], (dDp ver tl (dDs ver tl i ([], c)).2).2) else dDs ver tl i ([], c)).1 := hd
    split at hd'
    · rcases List.mem_append.1 hd' with h2 | h2
      · exact h1 d h2
      · obtain rfl := List.mem_singleton.1 h2
        exact dp_good ver tl m hm _ h
    · exact h1 d hd'
theorem ds_few (ver : Int) (tl : List (List UInt8)) {c : Cu} (h : c.ok) : ∀ i, (dDs ver tl i ([], c)).1.length ≤ c.bs.length + 1
  | 0 => by simp [dDs]
  | i + 1 => by
    have h1 := ds_few ver tl h i
    obtain ⟨h2, h3⟩ := ds_adv ver tl h i
    show (if (dDs ver tl i ([], c)).2.e = 0 then ((dDs ver tl i ([], c)).1 ++ [(dDp ver tl (dDs ver tl i ([], c)).2).1], (dDp ver tl (dDs ver tl i ([], c)).2).2) else dDs ver tl i ([], c)).1.length ≤ _
    split
    · rename_i e
      obtain ⟨h4, h5⟩ := h3 e
      have h6 := h2.ok
      unfold Cu.ok at h6
      rw [h2.bs] at h6
      simp only [List.length_append, List.length_singleton]
      omega
    · exact h1
/-- Texts and numbers within bounds; few deps. -/
theorem last_good (ver : Int) (tl : List (List UInt8)) (p : List UInt8) (m : Nat) (hm : 64 ≤ m) (hmx : m ≤ maxLen) (h : ∀ s ∈ tl, s.length ≤ m) : Fits (dLast ver tl p).1 (dLast ver tl p).2.1 ∧ Nums (dLast ver tl p).1 (dLast ver tl p).2.1 ∧ (dLast ver tl p).2.1.length ≤ p.length + 1 := by
  have hok : (Cu.new p 0).ok := by unfold Cu.new Cu.ok; rw [if_neg (by omega)]; simp
  have hbs : (Cu.new p 0).bs = p := by unfold Cu.new; rw [if_neg (by omega)]
  obtain ⟨c0, hc0⟩ : ∃ c0, c0 = Cu.new p 0 := ⟨_, rfl⟩
  unfold dLast
  rw [← hc0] at hok hbs ⊢
  simp only
  have hz : (0 : Int) ≤ 0 ∧ (0 : Int) < 18446744073709551616 := ⟨by omega, by omega⟩
  split
  · have hnm := nm_len ver tl m hm c0.num.2 h
    split
    · have a1 := num_adv hok
      have a2 := nm_adv ver tl a1.ok
      have a3 := num_adv a2.ok
      have a4 := num_adv a3.ok
      have hds := ds_good ver tl m hm (dNm ver tl c0.num.2).2.num.2.num.2 h (dNm ver tl c0.num.2).2.num.2.num.1
      have hfw := ds_few ver tl a4.ok (dNm ver tl c0.num.2).2.num.2.num.1
      have hb4 : (dNm ver tl c0.num.2).2.num.2.num.2.bs = p := by rw [num_bs, num_bs, nm_bs, num_bs, hbs]
      rw [hb4] at hfw
      have hwh : ∀ c, (0 : Int) ≤ ((dWhen ver c).1 : Int) ∧ ((dWhen ver c).1 : Int) < 18446744073709551616 := fun c => by
        unfold dWhen
        split
        · exact num64 c
        · exact hz
      have htg : ∀ c, (dTag ver tl c).1.length ≤ m := fun c => by
        unfold dTag
        split
        · split
          · exact kn_len tl _ m _ h
          · simp
        · simp
      exact ⟨⟨Nat.le_trans hnm hmx, Nat.le_trans (htg _) hmx, fun d hd => Nat.le_trans (hds d hd).1 hmx⟩, ⟨num64 _, num64 _, hwh _, fun d hd => (hds d hd).2⟩, hfw⟩
    · exact ⟨⟨Nat.le_trans hnm hmx, by simp, by simp⟩, ⟨hz, hz, hz, by simp⟩, by simp⟩
  · exact ⟨⟨by simp, by simp, by simp⟩, ⟨hz, hz, hz, by simp⟩, by simp⟩

end Go.Proofs.Ytidkahmjjknkmaa

/- Name, in the document. -/
namespace Go.Proofs.Ytidkahmjjknkmaa
open Go.RowKit

set_option maxRecDepth 100000 in
set_option maxHeartbeats 400000 in
theorem rname_any (t : List UInt8) (w : World) : Calls Try.prog 53 #[rsv t] w fun e w' => e = .returned (.bool (isName t)) ∧ w = w' := by
  unfold rsv
  have hsz := tx_size0 t
  by_cases h0 : t = []
  · subst h0
    have he : (tx ([] : List UInt8)).toList = [] := by simp [tx]
    go_enter Try.func53, Try.ntmps53
    go_wp2
    go_ret
    exact ⟨rfl, rfl⟩
  · have h1 := tx_empty t h0
    have hl : 1 ≤ t.length := by
      rcases t with _ | ⟨a, t⟩
      · exact absurd rfl h0
      · simp
    obtain ⟨n, hn⟩ : ∃ n, n = t.length := ⟨_, rfl⟩
    rw [← hn] at hsz hl
    by_cases h2 : n ≤ 64
    · have hi : Hid (isName t = true) := by show isName t = true; unfold isName; rw [← hn]; exact decide_eq_true ⟨hl, h2⟩
      have h3 : decide ((n : Int) < 65) = true := by rw [decide_eq_true_iff]; omega
      clear hn h0
      go_enter Try.func53, Try.ntmps53
      go_wp2
      go_ret
      exact ⟨by rw [hi.out]; first | rfl | (congr 2; simp; omega), rfl⟩
    · have hi : Hid (isName t = false) := by show isName t = false; unfold isName; rw [← hn]; exact decide_eq_false (by omega)
      have h3 : decide ((n : Int) < 65) = false := by rw [decide_eq_false_iff_not]; omega
      clear hn h0
      go_enter Try.func53, Try.ntmps53
      go_wp2
      go_ret
      exact ⟨by rw [hi.out]; first | rfl | (congr 2; simp; omega), rfl⟩

end Go.Proofs.Ytidkahmjjknkmaa

/- The document's May. -/
namespace Go.Proofs.Ytidkahmjjknkmaa
open Go.RowKit

theorem nodup_snoc {t : List UInt8} {ns : List (List UInt8)} {s : List UInt8} : (t :: (ns ++ [s])).Nodup ↔ (t :: ns).Nodup ∧ s ≠ t ∧ s ∉ ns := by
  rw [List.nodup_cons, List.nodup_cons, List.nodup_append]
  simp only [List.mem_append, List.mem_singleton, List.nodup_cons, List.not_mem_nil, not_false_iff, List.nodup_nil, and_true, true_and]
  constructor
  · rintro ⟨h1, h2, h3⟩
    exact ⟨⟨fun h => h1 (.inl h), h2⟩, fun h => h1 (.inr h.symm), fun h => h3 s h s rfl rfl⟩
  · rintro ⟨⟨h1, h2⟩, h3, h4⟩
    refine ⟨fun h => ?_, h2, fun a ha b hb e => ?_⟩
    · rcases h with h | h
      · exact h1 h
      · exact h3 h.symm
    · subst hb; subst e; exact h4 ha
theorem nodup_take {t : List UInt8} {ns : List (List UInt8)} (h : (t :: ns).Nodup) (i : Nat) : (t :: ns.take i).Nodup := by
  rw [List.nodup_cons] at h ⊢
  exact ⟨fun hm => h.1 (List.mem_of_mem_take hm), h.2.sublist (List.take_sublist _ _)⟩

def OmRel (v : Int) (w : World) (o : Obj) (t : List UInt8) (l : List Dp) (idx : Value) (wr : World) : Prop :=
  ∃ i : Nat, i ≤ l.length ∧ idx = .int .i64 (i : Int) ∧ (∀ d ∈ l.take i, DepP v d) ∧ (t :: (names l).take i).Nodup ∧ Below w.heap.size w wr ∧ wr.heap[w.heap.size]? = some o ∧ w.heap.size < wr.heap.size
def ImRel (w : World) (o x : Obj) (b i : Nat) (s : List UInt8) (l : List Dp) (idx : Value) (wr : World) : Prop :=
  ∃ j : Nat, j ≤ i ∧ idx = .int .i64 (j : Int) ∧ s ∉ (names l).take j ∧ Below w.heap.size w wr ∧ wr.heap[w.heap.size]? = some o ∧ w.heap.size < wr.heap.size ∧ wr.heap[b]? = some x ∧ b < wr.heap.size

end Go.Proofs.Ytidkahmjjknkmaa

/- The document's May: its loops. -/
namespace Go.Proofs.Ytidkahmjjknkmaa
open Go.RowKit

set_option maxRecDepth 100000 in
set_option maxHeartbeats 2000000 in
theorem rmay_l1 (t : List UInt8) (u o : Int) (A : Option Addr) (n c : Nat) (l : List Dp) (hn : n ≤ 1000) (hfit : Fits ⟨1, t, u, o, 0, []⟩ l) (hq : isName t = true) (h16 : n ≤ 16) (w : World) (h : Reads w w.heap.size 3 A n (dps l)) :
    Calls Try.prog 24 #[.int .i64 1, rcv ⟨1, t, u, o, 0, []⟩ A n c] w fun e w' => Tells (MayP 1 ⟨1, t, u, o, 0, []⟩ l) e ∧ Below w.heap.size w w' := by
  have HL : Hid (l.length = n) := by have := h.1; rw [dps_len] at this; show _ = _; omega
  have H1 := Lib.hid h
  have H0 := Lib.hid (one_new w (.cells (rcells ⟨1, t, u, o, 0, []⟩ A n c) 26))
  have HB0 := Lib.hid ((Below.refl w.heap.size w).alloc (Nat.le_refl _) (.cells (rcells ⟨1, t, u, o, 0, []⟩ A n c) 26))
  have HS0 : Hid (w.heap.size < (w.alloc (.cells (rcells ⟨1, t, u, o, 0, []⟩ A n c) 26)).heap.size) := by show w.heap.size < _; simp
  have hst := tx_size0 t
  have hsg := tx_size0 []
  obtain ⟨hft, hfg, hfd⟩ := hfit
  have HFD := Lib.hid hfd
  have HNAME := Lib.hid (rname_any t)
  have q0 := at_cell (i := 0) H0.out rfl
  have q1 := at_cell (i := 1) H0.out rfl
  have q2 := at_cell (i := 2) H0.out rfl
  have q3 := at_cell (i := 3) H0.out rfl
  have q4 := at_cell (i := 4) H0.out rfl
  have q5 := at_cell (i := 5) H0.out rfl
  have q6 := at_cell (i := 6) H0.out rfl
  unfold maxLen at hft hfg
  simp only at hft hfg
  clear h hfd
  unfold rcells at *
  unfold rcv rsv at *
  rw [hq] at HNAME
  have d16 : decide ((n : Int) > 16) = false := decide_eq_false (by omega)
  have he : (tx ([] : List UInt8)).toList = [] := by simp [tx]
  have HIFF : Hid (MayP 1 ⟨1, t, u, o, 0, []⟩ l ↔ DepsP 1 ⟨1, t, u, o, 0, []⟩ l) := ⟨fun h => by rcases h.2.2.2 with h | h; exact h.2.2.2; exact absurd h.1 (by simp), fun h => ⟨by omega, by omega, hq, .inl ⟨rfl, .inl rfl, .inl rfl, h⟩⟩⟩
  have H16 : Hid (n ≤ 16) := h16
  go_enter Try.func24, Try.ntmps24
  go_wp2_with (go_at_call 53; refine (HNAME.out _).mono ?_; rintro e w2 ⟨rfl, rfl⟩)
  go_loopw [5] (fun idx wr => OmRel 1 w (.cells #[.int .i64 1, .string (tx t), .int .u64 u, .slice A n c, .int .u64 o, .int .u64 0, .string (tx [])] 26) t l idx wr) (fun idx wr => n - (intOf idx).toNat)
  case atStart => exact ⟨0, by omega, rfl, by simp, by simp, HB0.out, H0.out, HS0.out⟩
  case round =>
    obtain ⟨i, hi, rfl, hok, hnd, hb, hbx, hz⟩ := hrel
    obtain ⟨wo, hwo⟩ : ∃ x, x = wr := ⟨wr, rfl⟩
    subst hwo
    have HOK := Lib.hid hok
    have HND := Lib.hid hnd
    have HBR := Lib.hid hb
    have HBX := Lib.hid hbx
    have HZ := Lib.hid hz
    rw [HL.out] at hi
    have b1 := at_cell (i := 1) hbx rfl
    have b3 := at_cell (i := 3) hbx rfl
    by_cases hlt : i < n
    · obtain ⟨y, hy⟩ : ∃ y, l[i]? = some y := ⟨_, List.getElem?_eq_getElem (by rw [HL.out]; exact hlt)⟩
      obtain ⟨ad, rfl, _, hcx⟩ := (H1.out.below hb).2 (by omega)
      obtain ⟨x0, x1, x2⟩ := dps_at l i y hy
      have k0 := hcx _ _ x0
      have k1 := hcx _ _ x1
      have k2 := hcx _ _ x2
      rw [add_one] at k1
      rw [add_two] at k2
      have hnb := one_new wo (.cells #[.string (tx y.name), .int .u64 y.hash, .bool y.order] 55)
      have p0 := at_cell (i := 0) hnb rfl
      have p2 := at_cell (i := 2) hnb rfl
      have hbn := Lib.hid (hb.alloc (by omega) (.cells #[.string (tx y.name), .int .u64 y.hash, .bool y.order] 55))
      have hbxn := Lib.hid ((Below.heap_alloc wo (.cells #[.string (tx y.name), .int .u64 y.hash, .bool y.order] 55) w.heap.size hz).trans hbx)
      have hzn : Hid (w.heap.size < (wo.alloc (.cells #[.string (tx y.name), .int .u64 y.hash, .bool y.order] 55)).heap.size) := by show w.heap.size < _; simp; omega
      have HNB := Lib.hid hnb
      have HNBZ : Hid (wo.heap.size < (wo.alloc (.cells #[.string (tx y.name), .int .u64 y.hash, .bool y.order] 55)).heap.size) := by show _ < _; simp
      have c1 := (World.cell?_alloc_lt wo (.cells #[.string (tx y.name), .int .u64 y.hash, .bool y.order] 55) ⟨w.heap.size, 1, none⟩ hz).trans b1
      have hname := Lib.hid (rname_any y.name)
      have hi0 : (0 : Int) ≤ (i : Int) := by omega
      have hi1 : (i : Int) < (n : Int) := by omega
      have HNM : Hid ((names l)[i]? = some y.name) := by show _ = _; unfold names; rw [List.getElem?_map, hy]; rfl
      have HIN : Hid (DepP 1 y → ∀ d ∈ l.take (i + 1), DepP 1 d) := fun hp d hd => by
        rw [List.take_add_one, hy, List.mem_append] at hd
        rcases hd with hd | hd
        · exact HOK.out d hd
        · simp at hd; subst hd; exact hp
      have HOUT : Hid (¬ DepP 1 y → ¬ MayP 1 ⟨1, t, u, o, 0, []⟩ l) := fun hp hd => hp ((HIFF.out.1 hd).2.1 y (List.mem_of_getElem? hy))
      have HDUP : Hid (y.name = t ∨ y.name ∈ (names l).take i → ¬ MayP 1 ⟨1, t, u, o, 0, []⟩ l) := fun hp hd => by
        have h1 := nodup_take (HIFF.out.1 hd).2.2 (i + 1)
        rw [List.take_add_one, HNM.out] at h1
        have h2 := nodup_snoc.1 h1
        rcases hp with hp | hp
        · exact h2.2.1 hp
        · exact h2.2.2 hp
      obtain ⟨xn, xh, xo⟩ := y
      unfold rsv at k0 hname
      simp only at k0 k1 k2 p0 p2 hbn hbxn hzn HNB HNBZ c1 hname HNM HDUP
      clear hcx x0 x1 x2 hok hnd hb hbx hnb hy
      cases hqn : isName xn
      · have HNO := Lib.hid (HOUT.out (fun hp => by have := hp.1; simp only at this; rw [hqn] at this; cases this))
        rw [hqn] at hname
        go_wp2_with (go_at_call 53; refine (hname.out _).mono ?_; rintro e w2 ⟨rfl, rfl⟩)
        go_ret
        exact ⟨tells_false HNO.out, hbn.out⟩
      rw [hqn] at hname
      by_cases het : xn = t
      · subst het
        have HNO := Lib.hid (HDUP.out (.inl rfl))
        have hlk := tx_like xn
        go_wp2_with (go_at_call 53; refine (hname.out _).mono ?_; rintro e w2 ⟨rfl, rfl⟩)
        go_ret
        exact ⟨tells_false HNO.out, hbn.out⟩
      have hun := tx_unlike het
      have HET := Lib.hid het
      clear het
      cases xo
      rotate_left
      · have HNO := Lib.hid (HOUT.out (fun hp => by have := hp.2 rfl; omega))
        go_wp2_with (go_at_call 53; refine (hname.out _).mono ?_; rintro e w2 ⟨rfl, rfl⟩)
        go_ret
        exact ⟨tells_false HNO.out, hbn.out⟩
      have HGO := Lib.hid (HIN.out ⟨hqn, fun h => by cases h⟩)
      · go_wp2_with (go_at_call 53; refine (hname.out _).mono ?_; rintro e w2 ⟨rfl, rfl⟩)
        go_loopw [7] (fun idx wr => ImRel w (.cells #[.int .i64 1, .string (tx t), .int .u64 u, .slice (some ad) n c, .int .u64 o, .int .u64 0, .string (tx [])] 26) (.cells #[.string (tx xn), .int .u64 xh, .bool false] 55) wo.heap.size i xn l idx wr) (fun idx wr => i - (intOf idx).toNat)
        case atStart => exact ⟨0, by omega, rfl, by simp, hbn.out, hbxn.out, hzn.out, HNB.out, HNBZ.out⟩
        case round =>
          obtain ⟨j, hj, rfl, hnm, hb2, hbx2, hz2, hnb2, hnz2⟩ := hrel
          have HNM2 := Lib.hid hnm
          have HB2 := Lib.hid hb2
          have HBX2 := Lib.hid hbx2
          have HNB2 := Lib.hid hnb2
          have HZ2 := Lib.hid hz2
          have HNZ2 := Lib.hid hnz2
          have e3 := at_cell (i := 3) hbx2 rfl
          have e0 := at_cell (i := 0) hnb2 rfl
          by_cases hjlt : j < i
          · obtain ⟨z, hzz⟩ : ∃ z, l[j]? = some z := ⟨_, List.getElem?_eq_getElem (by rw [HL.out]; omega)⟩
            obtain ⟨ad', had, _, hcz⟩ := (H1.out.below hb2).2 (by omega)
            obtain rfl : ad = ad' := by injection had
            have m0 := hcz _ _ (dps_at l j z hzz).1
            have HNZ : Hid ((names l)[j]? = some z.name) := by show _ = _; unfold names; rw [List.getElem?_map, hzz]; rfl
            obtain ⟨zn, zh, zo⟩ := z
            unfold rsv at m0
            simp only at m0 HNZ
            have hj0 : (0 : Int) ≤ (j : Int) := by omega
            have hj1 : (j : Int) < (n : Int) := by omega
            clear hcz hzz hnm hb2 hbx2 hnb2 had
            by_cases hzx : zn = xn
            · subst hzx
              have hlk := tx_like zn
              have HNO := Lib.hid (HDUP.out (.inr (List.mem_of_getElem? (show ((names l).take i)[j]? = some zn by rw [List.getElem?_take, if_pos hjlt]; exact HNZ.out))))
              go_wp2_with fail
              refine wp_region_held (S := fun v1 => v1.heap = wr.heap) (by kernel_rfl) ?_
              have hS : wr.drew.heap = wr.heap := rfl
              refine h_take 0 (.pointer (some ⟨w.heap.size, 3, none⟩)) rfl (by kernel_rfl) (by kernel_rfl) (by kernel_rfl) (fun _ _ _ h => h) (by kernel_rfl) hS (fun _ _ => by kernel_rfl) ?_
              refine h_take 1 (.slice (some ad) n c) rfl (by kernel_rfl) (by kernel_rfl) (by kernel_rfl) (fun _ _ _ h => h) (by kernel_rfl) hS (by intro v1 hv; have q := (at_heap hv _).trans e3; go_simp) ?_
              refine h_take 2 (.int .i64 (j : Int)) rfl (by kernel_rfl) (by kernel_rfl) (by kernel_rfl) (fun _ _ _ h => h) (by kernel_rfl) hS (fun _ _ => by kernel_rfl) ?_
              refine h_take 3 (.pointer (some (ad.add (j * 3)))) rfl (by kernel_rfl) (by kernel_rfl) (by kernel_rfl) (fun _ _ _ h => h) (by kernel_rfl) hS (by intro v1 hv; go_simp) ?_
              refine h_take 4 (.pointer (some (ad.add (j * 3)))) rfl (by kernel_rfl) (by kernel_rfl) (by kernel_rfl) (fun _ _ _ h => h) (by kernel_rfl) hS (by intro v1 hv; go_simp) ?_
              refine h_take 5 (.string (tx zn)) rfl (by kernel_rfl) (by kernel_rfl) (by kernel_rfl) (fun _ _ _ h => h) (by kernel_rfl) hS (by intro v1 hv; have q := (at_heap hv _).trans m0; go_simp) ?_
              refine h_take 6 (.pointer (some ⟨wo.heap.size, 0, none⟩)) rfl (by kernel_rfl) (by kernel_rfl) (by kernel_rfl) (fun _ _ _ h => h) (by kernel_rfl) hS (fun _ _ => by kernel_rfl) ?_
              refine h_take 7 (.string (tx zn)) rfl (by kernel_rfl) (by kernel_rfl) (by kernel_rfl) (fun _ _ _ h => h) (by kernel_rfl) hS (by intro v1 hv; have q := (at_heap hv _).trans e0; go_simp) ?_
              refine h_take 8 (.bool true) rfl (by kernel_rfl) (by kernel_rfl) (by kernel_rfl) (fun _ _ _ h => h) (by kernel_rfl) hS (by intro v1 hv; go_simp) ?_
              refine wpAnyH_done (by kernel_rfl) ?_ _
              go_simp
              go_wp2
              go_ret
              exact ⟨tells_false HNO.out, HB2.out.drew⟩
            · have hul := tx_unlike hzx
              have HN2 : Hid (xn ∉ (names l).take (j + 1)) := fun h => by
                rw [List.take_add_one, HNZ.out, List.mem_append] at h
                rcases h with h | h
                · exact HNM2.out h
                · simp at h; exact hzx h.symm
              clear hzx
              go_wp2_with fail
              refine wp_region_held (S := fun v1 => v1.heap = wr.heap) (by kernel_rfl) ?_
              have hS : wr.drew.heap = wr.heap := rfl
              refine h_take 0 (.pointer (some ⟨w.heap.size, 3, none⟩)) rfl (by kernel_rfl) (by kernel_rfl) (by kernel_rfl) (fun _ _ _ h => h) (by kernel_rfl) hS (fun _ _ => by kernel_rfl) ?_
              refine h_take 1 (.slice (some ad) n c) rfl (by kernel_rfl) (by kernel_rfl) (by kernel_rfl) (fun _ _ _ h => h) (by kernel_rfl) hS (by intro v1 hv; have q := (at_heap hv _).trans e3; go_simp) ?_
              refine h_take 2 (.int .i64 (j : Int)) rfl (by kernel_rfl) (by kernel_rfl) (by kernel_rfl) (fun _ _ _ h => h) (by kernel_rfl) hS (fun _ _ => by kernel_rfl) ?_
              refine h_take 3 (.pointer (some (ad.add (j * 3)))) rfl (by kernel_rfl) (by kernel_rfl) (by kernel_rfl) (fun _ _ _ h => h) (by kernel_rfl) hS (by intro v1 hv; go_simp) ?_
              refine h_take 4 (.pointer (some (ad.add (j * 3)))) rfl (by kernel_rfl) (by kernel_rfl) (by kernel_rfl) (fun _ _ _ h => h) (by kernel_rfl) hS (by intro v1 hv; go_simp) ?_
              refine h_take 5 (.string (tx zn)) rfl (by kernel_rfl) (by kernel_rfl) (by kernel_rfl) (fun _ _ _ h => h) (by kernel_rfl) hS (by intro v1 hv; have q := (at_heap hv _).trans m0; go_simp) ?_
              refine h_take 6 (.pointer (some ⟨wo.heap.size, 0, none⟩)) rfl (by kernel_rfl) (by kernel_rfl) (by kernel_rfl) (fun _ _ _ h => h) (by kernel_rfl) hS (fun _ _ => by kernel_rfl) ?_
              refine h_take 7 (.string (tx xn)) rfl (by kernel_rfl) (by kernel_rfl) (by kernel_rfl) (fun _ _ _ h => h) (by kernel_rfl) hS (by intro v1 hv; have q := (at_heap hv _).trans e0; go_simp) ?_
              refine h_take 8 (.bool false) rfl (by kernel_rfl) (by kernel_rfl) (by kernel_rfl) (fun _ _ _ h => h) (by kernel_rfl) hS (by intro v1 hv; go_simp) ?_
              refine wpAnyH_done (by kernel_rfl) ?_ _
              go_simp
              go_wp2
              exact ⟨⟨j + 1, by omega, by go_num, HN2.out, HB2.out.drew, HBX2.out, HZ2.out, HNB2.out, HNZ2.out⟩, by simp [intOf]; omega⟩
          · obtain rfl : j = i := by omega
            have HND2 : Hid ((t :: (names l).take (j + 1)).Nodup) := by
              show List.Nodup _
              rw [List.take_add_one, HNM.out]
              exact nodup_snoc.2 ⟨HND.out, HET.out, HNM2.out⟩
            clear hnm hb2 hbx2 hnb2
            go_wp2
            exact ⟨⟨j + 1, by rw [HL.out]; omega, by go_num, HGO.out, HND2.out, HB2.out, HBX2.out, HZ2.out⟩, by simp [intOf]; omega⟩
    · obtain rfl : i = n := by omega
      rw [List.take_of_length_le (by rw [HL.out]; omega)] at HOK
      rw [List.take_of_length_le (by unfold names; rw [List.length_map, HL.out]; omega)] at HND
      have HP : Hid (MayP 1 ⟨1, t, u, o, 0, []⟩ l) := HIFF.out.2 ⟨by rw [HL.out]; exact H16.out, HOK.out, HND.out⟩
      clear hok hnd hb hbx
      go_wp2
      go_ret
      exact ⟨tells_true HP.out, HBR.out⟩

end Go.Proofs.Ytidkahmjjknkmaa
