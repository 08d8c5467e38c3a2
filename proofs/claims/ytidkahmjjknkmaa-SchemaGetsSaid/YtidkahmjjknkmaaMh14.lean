/- Texts of one proof, one behind the other. -/
import Derived.Test.YtidkahmjjknkmaaMh12
import Derived.Test.YtidkahmjjknkmaaMh13
import Derived.Test.YtidkahmjjknkmaaMh6
import Derived.Lib.SliceRun
import Derived.Deep.Upon
import Derived.Test.YtidkahmjjknkmaaMh11

/- schema.taken, over every version and kind. -/
namespace Go.Proofs.Ytidkahmjjknkmaa
open Go.RowKit

/-- The fields that are read. -/
def rdFs (ver : Int) (tl : List (List UInt8)) (k : Nat) : List (Nat × (Rst → Rst)) :=
  if k = 2 then [(58, st_target ver tl)]
  else if k = 1 then
    if ver = 1 then [(58, st_target ver tl), (59, st_rule ver tl), (60, st_deps ver tl), (61, st_out ver tl)]
    else if ver = 2 then [(58, st_target ver tl), (59, st_rule ver tl), (60, st_deps ver tl), (61, st_out ver tl), (62, st_when ver tl)]
    else [(58, st_target ver tl), (59, st_rule ver tl), (60, st_deps ver tl), (61, st_out ver tl), (62, st_when ver tl), (63, st_tag ver tl)]
  else []
theorem rdFs_2 (ver : Int) (tl : List (List UInt8)) : rdFs ver tl 2 = [(58, st_target ver tl)] := rfl
theorem rdFs_11 (tl : List (List UInt8)) : rdFs 1 tl 1 = [(58, st_target 1 tl), (59, st_rule 1 tl), (60, st_deps 1 tl), (61, st_out 1 tl)] := rfl
theorem rdFs_12 (tl : List (List UInt8)) : rdFs 2 tl 1 = [(58, st_target 2 tl), (59, st_rule 2 tl), (60, st_deps 2 tl), (61, st_out 2 tl), (62, st_when 2 tl)] := rfl
theorem rdFs_13 (tl : List (List UInt8)) : rdFs 3 tl 1 = [(58, st_target 3 tl), (59, st_rule 3 tl), (60, st_deps 3 tl), (61, st_out 3 tl), (62, st_when 3 tl), (63, st_tag 3 tl)] := rfl
theorem rdFs_none (ver : Int) (tl : List (List UInt8)) (k : Nat) (h1 : k ≠ 1) (h2 : k ≠ 2) : rdFs ver tl k = [] := by
  unfold rdFs
  rw [if_neg h2, if_neg h1]
theorem rdFs_mem {ver : Int} {tl : List (List UInt8)} {k : Nat} {f : Nat × (Rst → Rst)} (h : f ∈ rdFs ver tl k) : f = (58, st_target ver tl) ∨ f = (59, st_rule ver tl) ∨ f = (60, st_deps ver tl) ∨ f = (61, st_out ver tl) ∨ f = (62, st_when ver tl) ∨ f = (63, st_tag ver tl) := by
  unfold rdFs at h
  split at h
  · simp at h; simp [h]
  · split at h
    · split at h
      · simp at h; rcases h with h | h | h | h <;> simp [h]
      · split at h
        · simp at h; rcases h with h | h | h | h | h <;> simp [h]
        · simp at h; rcases h with h | h | h | h | h | h <;> simp [h]
    · simp at h
theorem rdFs_len (ver : Int) (tl : List (List UInt8)) (k : Nat) : (rdFs ver tl k).length ≤ 6 := by
  unfold rdFs
  split
  · simp
  · split
    · split
      · simp
      · split <;> simp
    · simp
theorem rdFs_fold (ver : Int) (tl : List (List UInt8)) (k : Nat) (hv : ver = 1 ∨ ver = 2 ∨ ver = 3) (s : Rst) : rdFold (rdFs ver tl k) s = rdAll ver tl k s := by
  unfold rdFs rdAll
  by_cases h2 : k = 2
  · rw [if_pos h2, if_pos h2]; rfl
  · rw [if_neg h2, if_neg h2]
    by_cases h1 : k = 1
    · rw [if_pos h1, if_pos h1]
      rcases hv with rfl | rfl | rfl <;> rfl
    · rw [if_neg h1, if_neg h1]; rfl
theorem rdFs_grow {ver : Int} {tl : List (List UInt8)} {k : Nat} {f : Nat × (Rst → Rst)} (h : f ∈ rdFs ver tl k) (s : Rst) : (f.2 s).l.length ≤ s.l.length + 16 := by
  rcases rdFs_mem h with rfl | rfl | rfl | rfl | rfl | rfl
  · exact Nat.le_add_right _ _
  · exact Nat.le_add_right _ _
  · show (st_deps ver tl s).l.length ≤ _
    unfold st_deps
    rw [rdIter_len]
    show s.l.length + _ ≤ _
    omega
  · exact Nat.le_add_right _ _
  · exact Nat.le_add_right _ _
  · exact Nat.le_add_right _ _

set_option maxRecDepth 100000 in
theorem taken_any (S : Nat → Prop) (bt B N n c : Nat) (ver : Int) (hv : ver = 1 ∨ ver = 2 ∨ ver = 3) (tl ts : List (List UInt8)) (p : List UInt8) (A : Option Addr) (hts : ∀ t ∈ ts, t ≠ [] ∧ t.length ≤ 1000000) (hp : p.length ≤ 1000000) (hn : ts.length + 1 = n) (hn2 : n ≤ 100000) (htl : tl.length ≤ 900000000) (hN : N ≤ 900000000) (w : World) (hB : B ≤ w.heap.size) (hT : Tab w S bt N tl) (hr : PlsT w B S A n c (ts ++ [p])) (tl1 : List (List UInt8)) (htl1 : tl1 = (ts.map List.tail).foldl tput tl) :
    Calls Try.prog 33 #[.int .i64 ver, .pointer (some ⟨bt, 0, none⟩), .slice A n c] w fun e w' => ∃ (A' : Option Addr) (n' c' : Nat) (S' : Nat → Prop), e = .returned (rcv (rdAll ver tl1 (Cu.new p 0).byte.1.toNat (rdStart p)).r A' n' c') ∧ Deps w' w.heap.size A' n' c' (rdAll ver tl1 (Cu.new p 0).byte.1.toNat (rdStart p)).l ∧ (∀ ad, A' = some ad → ¬ S' ad.block) ∧ Tab w' S' bt (N + ts.length) tl1 ∧ (∀ k, S' k → k < w'.heap.size ∧ (S k ∨ w.heap.size ≤ k)) ∧ Turn S w w' := by
  rw [← rdFs_fold ver tl1 _ hv (rdStart p)]
  refine taken_core S bt B N n c ver tl ts p A hts hp hn hn2 htl hN w hB hT hr tl1 htl1 (rdFs ver tl1 (Cu.new p 0).byte.1.toNat) (rdFs_len _ _ _) ?_ (fun f hf s => rdFs_grow hf s) ?_ ?_
  · intro f hf
    rcases rdFs_mem hf with rfl | rfl | rfl | rfl | rfl | rfl <;> simp
  · intro P W
    generalize (Cu.new p 0).byte.1.toNat = k
    by_cases h2 : k = 2
    · subst h2
      exact of_2 58 59 60 61 62 63 P ver W
    · by_cases h1 : k = 1
      · subst h1
        rcases hv with rfl | rfl | rfl
        · exact of_11 58 59 60 61 62 63 P W
        · exact of_21 58 59 60 61 62 63 P W
        · exact of_31 58 59 60 61 62 63 P W
      · rw [rdFs_none _ _ _ h1 h2]
        exact of_none 58 59 60 61 62 63 P ver k ⟨by omega, by omega⟩ W
  · intro f hf S0 T0 brd bc brr B0 s W hsl hE hTT
    rcases rdFs_mem hf with rfl | rfl | rfl | rfl | rfl | rfl
    · exact rd_target S0 T0 brd bt bc brr B0 (N + ts.length) ver tl1 s W hE hTT
    · exact rd_rule S0 T0 brd bt bc brr B0 (N + ts.length) ver tl1 s W hE hTT
    · exact rd_deps S0 T0 brd bt bc brr B0 (N + ts.length) ver tl1 s hsl W hE hTT
    · exact rd_out S0 T0 brd bt bc brr B0 (N + ts.length) ver tl1 s W hE hTT
    · exact rd_when S0 T0 brd bt bc brr B0 (N + ts.length) ver tl1 s W hE hTT
    · exact rd_tag S0 T0 brd bt bc brr B0 (N + ts.length) ver tl1 s W hE hTT

end Go.Proofs.Ytidkahmjjknkmaa

/- textsAhead. -/
namespace Go.Proofs.Ytidkahmjjknkmaa
open Go.RowKit

/-- A payload that is a text. -/
def isTxt : List UInt8 → Bool
  | [] => false
  | x :: _ => x == 0
/-- How many payloads ahead are texts. -/
def tahead : List (List UInt8) → Nat
  | [] => 0
  | p :: l => if isTxt p then tahead l + 1 else 0
theorem tahead_le : ∀ ps, tahead ps ≤ ps.length
  | [] => Nat.le_refl _
  | p :: l => by
    unfold tahead
    split
    · have := tahead_le l; simp; omega
    · exact Nat.zero_le _
theorem tahead_texts (ts : List (List UInt8)) (p : List UInt8) (l : List (List UInt8)) (ht : ∀ t ∈ ts, isTxt t = true) (hp : isTxt p = false) : tahead (ts ++ p :: l) = ts.length := by
  induction ts with
  | nil => simp [tahead, hp]
  | cons t ts ih =>
    rw [List.cons_append, tahead, if_pos (ht t (by simp)), ih (fun x hx => ht x (by simp [hx]))]
    rfl
theorem tahead_drop {ps : List (List UInt8)} {i : Nat} {p : List UInt8} (h : ps[i]? = some p) : tahead (ps.drop i) = if isTxt p then tahead (ps.drop (i + 1)) + 1 else 0 := by
  obtain ⟨hlt, hp⟩ := List.getElem?_eq_some_iff.1 h
  rw [List.drop_eq_getElem_cons hlt, hp]
  rfl

def AhRel (ps : List (List UInt8)) (w : World) (idx : Value) (wr : World) : Prop :=
  ∃ i : Nat, i ≤ ps.length ∧ idx = .int .i64 (i : Int) ∧ wr = w ∧ tahead ps = i + tahead (ps.drop i)

set_option maxRecDepth 100000 in
set_option maxHeartbeats 1000000 in
theorem ahead_any (B n c : Nat) (ps : List (List UInt8)) (A : Option Addr) (hn : n ≤ 100000) (w : World) (hr : PlsC w B A n c ps) :
    Calls Try.prog 32 #[.slice A n c] w fun e w' => e = .returned (.int .i64 (tahead ps : Int)) ∧ w = w' := by
  obtain ⟨hnc, hpn, vs, hrv, hps⟩ := hr
  have HRV := Lib.hid hrv
  have HPS := Lib.hid hps
  have HN := Lib.hid hpn
  clear hrv hps hpn
  go_enter Try.func32, Try.ntmps32
  go_wp2_with fail
  go_loopw [7] (fun idx wr => AhRel ps w idx wr) (fun idx wr => n - (intOf idx).toNat)
  case atStart => exact ⟨0, by omega, rfl, rfl, by simp⟩
  case round =>
    obtain ⟨i, hi, rfl, rfl, hta⟩ := hrel
    rw [HN.out] at hi
    have HTA := Lib.hid hta
    clear hta
    by_cases hlt : i < n
    · obtain ⟨p, hp⟩ : ∃ p, ps[i]? = some p := ⟨_, List.getElem?_eq_getElem (by rw [HN.out]; exact hlt)⟩
      obtain ⟨A4, c4, hv4, hc4, hr4⟩ := HPS.out i p hp
      obtain ⟨ad, rfl, _, hcx⟩ := HRV.out.2 (by omega)
      have k0 := hcx i _ hv4
      have hi0 : (0 : Int) ≤ (i : Int) := by omega
      have hi1 : (i : Int) < (n : Int) := by omega
      have HD := Lib.hid (tahead_drop hp)
      cases p with
      | nil =>
        simp only [List.length_nil] at k0
        have HF : Hid ((tahead ps : Int) = (i : Int)) := by have h1 : tahead (ps.drop i) = 0 := HD.out; have h2 := HTA.out; show _ = _; omega
        clear hcx hv4 hp hc4 hr4
        go_wp2
        go_ret
        exact ⟨by rw [HF.out]; rfl, rfl⟩
      | cons x t =>
        obtain ⟨ad4, rfl, _, hcx4⟩ := hr4.2 (by simp)
        have k1 : wr.cell? ad4 = some (.int .u8 (x.toNat : Int)) := hcx4 0 (bv x) rfl
        obtain ⟨kl, hkl⟩ : ∃ kl, kl = t.length := ⟨_, rfl⟩
        simp only [List.length_cons] at k0
        rw [← hkl] at k0
        by_cases hx : x = 0
        · subst hx
          have HF : Hid (tahead ps = (i + 1) + tahead (ps.drop (i + 1))) := by have h1 : tahead (ps.drop i) = tahead (ps.drop (i + 1)) + 1 := HD.out; have h2 := HTA.out; show _ = _; omega
          clear hcx hv4 hp hc4 hr4 hcx4 hkl
          go_wp2
          exact ⟨⟨i + 1, by rw [HN.out]; omega, by go_num, rfl, HF.out⟩, by simp [intOf]; omega⟩
        · have HF : Hid ((tahead ps : Int) = (i : Int)) := by have h1 := HD.out; have h2 := HTA.out; rw [if_neg (by simp [isTxt, hx])] at h1; show _ = _; omega
          obtain ⟨kx, hkx⟩ : ∃ kx, kx = x.toNat := ⟨_, rfl⟩
          have hkx0 : ¬ (kx : Int) = 0 := fun h => hx (by apply UInt8.toNat_inj.1; rw [← hkx]; simpa using h)
          rw [← hkx] at k1
          have hq1 : ((kx : Int) != 0) = true := by simpa using hkx0
          have hq2 : ((kl : Int) + 1 == 0) = false := by simp; omega
          clear hcx hv4 hp hc4 hr4 hcx4 hkl hkx hx
          go_wp2
          go_ret
          exact ⟨by rw [HF.out]; rfl, rfl⟩
    · obtain rfl : i = n := by omega
      have HF : Hid ((tahead ps : Int) = (i : Int)) := by have h2 := HTA.out; rw [List.drop_of_length_le (by rw [HN.out]; exact Nat.le_refl _)] at h2; show _ = _; simp only [tahead] at h2; omega
      go_wp2
      go_ret
      exact ⟨by rw [HF.out]; rfl, rfl⟩

end Go.Proofs.Ytidkahmjjknkmaa

/- bytes.Equal and slices.EqualFunc. -/
namespace Go.Proofs.Ytidkahmjjknkmaa
open Go.RowKit

theorem tx_same {p q : List UInt8} : ((tx p).toList == (tx q).toList) = decide (p = q) := by
  rw [tx_toList, tx_toList]
  by_cases h : p = q
  · subst h; simp
  · rw [decide_eq_false h]
    exact beq_eq_false_iff_ne.2 h

set_option maxRecDepth 100000 in
set_option maxHeartbeats 400000 in
theorem equal_any (B B2 n c n2 c2 : Nat) (A A2 : Option Addr) (p q : List UInt8) (w : World) (h1 : Reads w B 1 A n (p.map bv)) (h2 : Reads w B2 1 A2 n2 (q.map bv)) :
    Calls Try.prog 36 #[.slice A n c, .slice A2 n2 c2] w fun e w' => e = .returned (.bool (decide (p = q))) ∧ w = w' := by
  have hc1 : (convert 44 9 (.slice A n c)).run Try.prog w = .ok (.string (tx p)) w := conv_reads Try.underlying44 Try.underlying5 Try.underlying9 h1
  have hc2 : (convert 44 9 (.slice A2 n2 c2)).run Try.prog w = .ok (.string (tx q)) w := conv_reads Try.underlying44 Try.underlying5 Try.underlying9 h2
  have HE := Lib.hid (tx_same (p := p) (q := q))
  generalize decide (p = q) = b at *
  clear h1 h2
  go_enter Try.func36, Try.ntmps36
  go_wp2
  go_ret
  exact ⟨by rw [← HE.out]; rfl, rfl⟩

def EqRel (ps qs : List (List UInt8)) (w : World) (idx : Value) (wr : World) : Prop :=
  ∃ i : Nat, i ≤ ps.length ∧ idx = .int .i64 (i : Int) ∧ wr = w ∧ ps.take i = qs.take i

set_option maxRecDepth 100000 in
set_option maxHeartbeats 1000000 in
theorem equalFunc_any (B B2 n c n2 c2 : Nat) (A A2 : Option Addr) (ps qs : List (List UInt8)) (hn : n ≤ 100000) (hn2 : n2 ≤ 100000) (w : World) (hr : PlsC w B A n c ps) (hr2 : PlsC w B2 A2 n2 c2 qs) :
    Calls Try.prog 35 #[.slice A n c, .slice A2 n2 c2, .func (.func 36) #[] #[]] w fun e w' => e = .returned (.bool (decide (ps = qs))) ∧ w = w' := by
  obtain ⟨hnc, hpn, vs, hrv, hps⟩ := hr
  obtain ⟨hnc2, hpn2, vs2, hrv2, hps2⟩ := hr2
  have HRV := Lib.hid hrv
  have HPS := Lib.hid hps
  have HN := Lib.hid hpn
  have HRV2 := Lib.hid hrv2
  have HPS2 := Lib.hid hps2
  have HN2 := Lib.hid hpn2
  clear hrv hps hpn hrv2 hps2 hpn2
  by_cases hnn : n = n2
  · subst hnn
    go_enter Try.func35, Try.ntmps35
    go_wp2_with fail
    go_loopw [17] (fun idx wr => EqRel ps qs w idx wr) (fun idx wr => n - (intOf idx).toNat)
    case atStart => exact ⟨0, by omega, rfl, rfl, by simp⟩
    case round =>
      obtain ⟨i, hi, rfl, rfl, hta⟩ := hrel
      rw [HN.out] at hi
      have HTA := Lib.hid hta
      clear hta
      by_cases hlt : i < n
      · obtain ⟨p, hp⟩ : ∃ p, ps[i]? = some p := ⟨_, List.getElem?_eq_getElem (by rw [HN.out]; exact hlt)⟩
        obtain ⟨q, hq⟩ : ∃ q, qs[i]? = some q := ⟨_, List.getElem?_eq_getElem (by rw [HN2.out]; exact hlt)⟩
        obtain ⟨A4, c4, hv4, hc4, hr4⟩ := HPS.out i p hp
        obtain ⟨A5, c5, hv5, hc5, hr5⟩ := HPS2.out i q hq
        obtain ⟨ad, rfl, _, hcx⟩ := HRV.out.2 (by omega)
        obtain ⟨ad2, rfl, _, hcx2⟩ := HRV2.out.2 (by omega)
        have k0 := hcx i _ hv4
        have k1 := hcx2 i _ hv5
        have hi0 : (0 : Int) ≤ (i : Int) := by omega
        have hi1 : (i : Int) < (n : Int) := by omega
        have HEQ := Lib.hid (equal_any B B2 p.length c4 q.length c5 A4 A5 p q wr hr4 hr5)
        obtain ⟨lp, hlp⟩ : ∃ lp, lp = p.length := ⟨_, rfl⟩
        obtain ⟨lq, hlq⟩ : ∃ lq, lq = q.length := ⟨_, rfl⟩
        rw [← hlp] at HEQ k0
        rw [← hlq] at HEQ k1
        by_cases hpq : p = q
        · have HF : Hid (ps.take (i + 1) = qs.take (i + 1)) := by show _ = _; rw [List.take_add_one, List.take_add_one, HTA.out, hp, hq, hpq]
          rw [decide_eq_true hpq] at HEQ
          clear hcx hcx2 hv4 hv5 hp hq hc4 hc5 hr4 hr5 hlp hlq hpq
          go_wp2_with (go_at_call 36; refine HEQ.out.mono ?_; rintro e w3 ⟨rfl, rfl⟩)
          exact ⟨⟨i + 1, by rw [HN.out]; omega, by go_num, rfl, HF.out⟩, by simp [intOf]; omega⟩
        · have HF : Hid (decide (ps = qs) = false) := by
            refine decide_eq_false fun h => hpq ?_
            rw [h] at hp
            exact Option.some.inj (hp.symm.trans hq)
          rw [decide_eq_false hpq] at HEQ
          clear hcx hcx2 hv4 hv5 hp hq hc4 hc5 hr4 hr5 hlp hlq hpq
          go_wp2_with (go_at_call 36; refine HEQ.out.mono ?_; rintro e w3 ⟨rfl, rfl⟩)
          go_ret
          exact ⟨by rw [HF.out]; rfl, rfl⟩
      · obtain rfl : i = n := by omega
        have HF : Hid (decide (ps = qs) = true) := by
          refine decide_eq_true ?_
          have h1 := HTA.out
          rw [List.take_of_length_le (by rw [HN.out]; exact Nat.le_refl _), List.take_of_length_le (by rw [HN2.out]; exact Nat.le_refl _)] at h1
          exact h1
        go_wp2
        go_ret
        exact ⟨by rw [HF.out]; rfl, rfl⟩
  · have HF : Hid (decide (ps = qs) = false) := decide_eq_false fun h => hnn (by rw [← HN.out, ← HN2.out, h])
    have hni : ¬ (n : Int) = (n2 : Int) := by omega
    have hq1 : ((n : Int) != (n2 : Int)) = true := by simpa using hni
    go_enter Try.func35, Try.ntmps35
    go_wp2
    go_ret
    exact ⟨by rw [HF.out]; rfl, rfl⟩

/-- Rows in memory of their own are read. -/
theorem PlsC.of_rows {w : World} {base : Nat} {S : Nat → Prop} {A : Option Addr} {n c : Nat} {ps : List (List UInt8)} (hn : n = ps.length) (h : Rows w base S (.slice A n c) ps) : PlsC w w.heap.size A n c ps := by
  subst hn
  obtain ⟨vs, h1, h2, h3, h4⟩ := h
  have cap : ∀ {e : TypeId} {A : Option Addr} {n c : Nat} {xs : List Value}, w.ownsRow base e 1 (.slice A n c) n xs → n ≤ c := fun h => by
    rcases h.2 with ⟨h5, h6⟩ | ⟨g, cap, cur, h5, _, _, h6, _⟩
    · cases h5; exact Nat.le_refl _
    · cases h5; exact h6
  refine ⟨cap h1, rfl, vs, Reads.of_own h1, fun i p hp => ?_⟩
  obtain ⟨v, h5, h6, h7⟩ := h4 i p hp
  obtain ⟨A', c', rfl, _⟩ := own_slice h6
  exact ⟨A', c', h5, cap h6, Reads.of_own h6⟩

end Go.Proofs.Ytidkahmjjknkmaa

/- The walks of cut and Cut. -/
namespace Go.Proofs.Ytidkahmjjknkmaa
open Go.RowKit Go.Maps Go.ChangeMaps Go.WideMaps

theorem clear_none {P : Program} (W : World) (t e ty : TypeId) (A : Option Addr) (c : Nat) (ht : P.underlying t = some (.slice e)) : (Builtin.clear_ #[t] ty #[.slice A 0 c]).run P W = .ok (.tuple #[]) W := by
  cases A <;> simp [Builtin.clear_, run_underlying ht]

set_option maxRecDepth 100000 in
set_option maxHeartbeats 1000000 in
theorem cut_all (L : Option Addr) (b n c : Nat) (sz : Int) (w : World) (hc0 : w.cell? ⟨b, 0, none⟩ = some (.slice L n c)) (hnc : n ≤ c) (hc1 : c ≤ 9223372036854775807) (hf0 : w.frozen? ⟨b, 0, none⟩ = false) (hsz : (n : Int) < sz ∨ sz = (n : Int) ∨ (sz < 0 ∧ n = 0)) :
    Calls Try.prog 64 #[.pointer (some ⟨b, 0, none⟩), .int .i64 sz] w fun e w' => e = .returned (.tuple #[]) ∧ w' = w.setCell ⟨b, 0, none⟩ (.slice L n c) := by
  have hcl := fun (W : World) (ty : TypeId) (A : Option Addr) (c : Nat) => clear_none (P := Try.prog) W 22 9 ty A c Try.underlying22
  rcases hsz with hsz | rfl | ⟨hsz, rfl⟩
  all_goals
    go_enter Try.func64, Try.ntmps64
    go_wp2
  all_goals
    (go_loopw [22] (fun idx wr => idx = .int .i64 0 ∧ wr = w) (fun idx wr => 0)
     case atStart => exact ⟨rfl, rfl⟩
     case round =>
       obtain ⟨rfl, rfl⟩ := hrel
       go_wp2
       go_end0
       first | exact ⟨rfl, rfl⟩ | (refine ⟨rfl, ?_⟩; subst_vars; rfl))

theorem setCells_row (g : Nat) (e : TypeId) (f : Nat × Nat) : ∀ (vs : List Value) (o : Nat) (w : World) (cur : Array Value), w.heap[g]? = some (.cells cur e f) →
    ∃ cur', (w.setCells g o vs).heap[g]? = some (.cells cur' e f) ∧ cur'.size = cur.size ∧ ∀ j : Nat, j < o → cur'[j]? = cur[j]?
  | [], _, _, cur, h => ⟨cur, h, rfl, fun _ _ => rfl⟩
  | v :: vs, o, w, _, h => by
    obtain ⟨cur', h1, h2, h3⟩ := setCells_row g e f vs (o + 1) (w.setCell ⟨g, o, none⟩ v) _ (field_set (u := v) (j := o) h)
    refine ⟨cur', h1, by rw [h2]; simp, fun j hj => ?_⟩
    rw [h3 j (by omega), Array.getElem?_setIfInBounds, if_neg (by omega)]

theorem setCells_turn (g : Nat) (S : Nat → Prop) (hs : S g) : ∀ (vs : List Value) (o : Nat) (a w : World), Turn S a w → Turn S a (w.setCells g o vs)
  | [], _, _, _, h => h
  | v :: vs, o, a, _, h => setCells_turn g S hs vs (o + 1) a _ (h.setCell g o v hs)

/-- A row that was written over from k on: what comes first stays. -/
theorem own_first {w : World} {g n k c : Nat} {e : TypeId} {xs : List Value} (h : w.ownsRow 0 e 1 (.slice (some ⟨g, 0, none⟩) n c) n xs) (hk : k ≤ n) (vs : List Value) :
    (w.setCells g k vs).ownsRow 0 e 1 (.slice (some ⟨g, 0, none⟩) k c) k (xs.take k) := by
  have hlen := h.1
  rcases h.2 with ⟨h0, _⟩ | ⟨g', cap, cur, hv, _, hg, h1, h2, h3, h4⟩
  · cases h0
  · injection hv with hv _ hv2
    cases hv
    subst hv2
    obtain ⟨cur', g1, g2, g3⟩ := setCells_row g e (0, 0) vs k w cur hg
    refine ⟨by rw [List.length_take]; omega, .inr ⟨g, c, cur', rfl, Nat.zero_le _, g1, by omega, h2, by rw [g2, h3], ?_⟩⟩
    rw [← h4, List.take_take]
    apply List.ext_getElem?
    intro j
    rw [List.getElem?_take, List.getElem?_take]
    by_cases hj : j < k * 1
    · rw [if_pos hj, if_pos (by omega)]
      have := g3 j (by omega)
      simpa using this
    · rw [if_neg hj, if_neg (by omega)]

set_option maxRecDepth 100000 in
set_option maxHeartbeats 1000000 in
theorem cut_some (S : Nat → Prop) (b g mb n k c N : Nat) (D : DataW Nat) (l : List (List UInt8)) (sz : Int) (hkn : k < n) (hnl : n = l.length) (hnb : n ≤ 1073741824) (w : World) (hh : w.heap[b]? = some (.cells #[.slice (some ⟨g, 0, none⟩) n c, .map (some mb)] 60 (0, 0)))
    (ho : w.ownsRow 0 9 1 (.slice (some ⟨g, 0, none⟩) n c) n (l.map tsv)) (hm : w.ownsMap Try.prog 9 (plainElem Try.prog 23) mb N D) (hn : NumOf D l) (hnd : l.Nodup) (hlen : ∀ s ∈ l, s.length ≤ maxLen) (hSb : S b) (hSg : S g) (hSm : S mb)
    (hsz : (sz < 0 ∧ k = 0) ∨ sz = (k : Int)) :
    Calls Try.prog 64 #[.pointer (some ⟨b, 0, none⟩), .int .i64 sz] w fun e w' => e = .returned (.tuple #[]) ∧ Tab w' S b N (l.take k) ∧ Turn S w w' := by
  have hbm : b ≠ mb := by
    intro e
    subst e
    obtain ⟨es, clock, hb, _⟩ := hm
    rw [hh] at hb; cases hb
  have hgm : g ≠ mb := own_map ho hm g rfl
  have hgb : g ≠ b := fun e => own_cells ho hh (by decide) (by rw [e]; rfl)
  have hcn : n ≤ c ∧ c ≤ maxLen := by
    rcases ho.2 with ⟨h0, _⟩ | ⟨g', cap, cur, hv, _, hg, h1, h2, h3, h4⟩
    · cases h0
    · injection hv with _ _ hv2
      subst hv2
      exact ⟨h1, h2⟩
  have hc1 : c ≤ 9223372036854775807 := by have := hcn.2; unfold maxLen at this; omega
  have hck : ¬ c = k := by omega
  have hc0 : w.cell? ⟨b, 0, none⟩ = some (.slice (some ⟨g, 0, none⟩) n c) := field_cell hh rfl
  have hcm : w.cell? ⟨b, 1, none⟩ = some (.map (some mb)) := field_cell hh rfl
  have hf0 : w.frozen? ⟨b, 0, none⟩ = false := field_free hh
  have hrow := Reads.of_own ho
  have HH := Lib.hid hh
  have HO := Lib.hid ho
  have HM := Lib.hid hm
  have HROW := Lib.hid hrow
  have HN := Lib.hid (numTill_start k hn)
  have HND := Lib.hid hnd
  have HLEN := Lib.hid hlen
  have HNL := Lib.hid hnl
  have HBM := Lib.hid hbm
  have HGM := Lib.hid hgm
  have HGB := Lib.hid hgb
  have HSS : Hid (S b ∧ S g ∧ S mb) := ⟨hSb, hSg, hSm⟩
  have hnc := hcn.1
  clear hh ho hm hrow hn hnd hlen hnl hbm hgm hgb hSb hSg hSm hcn
  rcases hsz with ⟨hsz, rfl⟩ | rfl
  · go_enter Try.func64, Try.ntmps64
    go_wp2
    go_loopw [22] (fun idx wr => ∃ (i : Nat) (D' : DataW Nat), i ≤ n ∧ idx = .int .i64 (i : Int) ∧ wr.ownsMap Try.prog 9 (plainElem Try.prog 23) mb N D' ∧ NumTill D' l 0 (0 + i) ∧ Turn (fun q => q = mb) w wr) (fun idx wr => n - (intOf idx).toNat)
    case atStart => exact ⟨0, D, by omega, rfl, HM.out, HN.out, Turn.refl _ _⟩
    case round =>
      obtain ⟨i, D', hi, rfl, hm', hn', ht'⟩ := hrel
      have hhr : wr.heap[b]? = some (.cells #[.slice (some ⟨g, 0, none⟩) n c, .map (some mb)] 60 (0, 0)) := (ht'.2.2.2.2 b (Array.getElem?_eq_some_iff.1 HH.out).1 HBM.out).trans HH.out
      have hor := own_heap (w' := wr) HO.out (fun q hq => by
        obtain rfl : g = q := by simpa [Value.ownBlock] using hq
        exact ht'.2.2.2.2 g (own_lt HO.out g rfl) HGM.out)
      have hcmr : wr.cell? ⟨b, 1, none⟩ = some (.map (some mb)) := field_cell hhr rfl
      by_cases hlt : i < n
      · obtain ⟨s, hs⟩ : ∃ s, l[0 + i]? = some s := ⟨_, List.getElem?_eq_getElem (by rw [← HNL.out]; omega)⟩
        have hcell : wr.cell? ⟨g, i, none⟩ = some (.string (tx s)) := by
          have h := hor.cellAt (0 + i) (by omega)
          rw [List.getElem?_map, hs] at h
          simpa [tsv] using h
        have hkey := tkeyOf (HLEN.out s (List.mem_of_getElem? hs))
        unfold tsv at hkey
        have HST := Lib.hid (numTill_step HND.out (by omega) hs hn')
        have HTT := Lib.hid ht'
        clear hs hhr hor hn' ht'
        go_wp2_with (at_delete; refine wpList_delete_own _ rfl _ _ 56 9 rfl 23 tkey Try.underlying56 _ mb N D' rfl hm' _ _ rfl hkey ?_; intro w1 hm1 ht1)
        exact ⟨⟨i + 1, _, by omega, by go_num, hm1, HST.out, HTT.out.grown ht1.grown (fun q e _ => by cases e; rfl)⟩, by simp [intOf]; omega⟩
      · have hk0 : 0 + i = l.length := by have := HNL.out; omega
        rw [hk0] at hn'
        have hend := numTill_end HND.out hn'
        have hc0r : wr.cell? ⟨b, 0, none⟩ = some (.slice (some ⟨g, 0, none⟩) n c) := field_cell hhr rfl
        have hf0r : wr.frozen? ⟨b, 0, none⟩ = false := field_free hhr
        have hcl : ∀ ty, (Builtin.clear_ #[22] ty #[.slice (some ⟨g, 0, none⟩) (n) (c)]).run Try.prog wr = .ok (.tuple #[]) (wr.setCells g 0 (List.replicate (n) (.string ⟨#[]⟩))) := fun ty =>
          Lib.run_clear_slice wr 22 9 ty (.string ⟨#[]⟩) Try.underlying22 (fun w => by kernel_rfl) rfl rfl g 0 (n) (c) (by omega)
            (fun j hj => by rw [hor.cellAt (0 + j) (by omega)]; simp; rw [← HNL.out]; omega) (fun j _ => hor.frozenAt _)
        have hs1 : ∀ vs : List Value, (wr.setCells g 0 vs).heap[b]? = wr.heap[b]? := fun vs => World.heap_setCells_other wr g 0 vs (Array.getElem?_eq_some_iff.1 hhr).1 (fun e => HGB.out e.symm)
        have hhs := (hs1 (List.replicate (n) (.string ⟨#[]⟩))).trans hhr
        have hc0s : (wr.setCells g 0 (List.replicate (n) (.string ⟨#[]⟩))).cell? ⟨b, 0, none⟩ = some (.slice (some ⟨g, 0, none⟩) n c) := field_cell hhs rfl
        have hf0s : (wr.setCells g 0 (List.replicate (n) (.string ⟨#[]⟩))).frozen? ⟨b, 0, none⟩ = false := field_free hhs
        have HHS := Lib.hid hhs
        have HOR := Lib.hid hor
        have HMM := Lib.hid hm'
        have HTT := Lib.hid ht'
        have HEND := Lib.hid hend
        have HHR := Lib.hid hhr
        clear hhs hor hm' ht' hend hs1 hn' hk0 hhr
        generalize hvs : List.replicate (n) (Value.string ⟨#[]⟩) = vs at hcl hc0s hf0s HHS
        clear hvs
        go_wp2
        go_end0
        obtain ⟨sb, sg, sm⟩ := HSS.out
        have hlk : (l.take 0).length = 0 := by rw [List.length_take, ← HNL.out]; omega
        have htu : Turn S w wr := ⟨HTT.out.1, HTT.out.2.1, HTT.out.2.2.1, HTT.out.2.2.2.1, fun q h1 h2 => HTT.out.2.2.2.2 q h1 (fun e => h2 (by rw [e]; exact sm))⟩
        have hof := own_first HOR.out (k := 0) (by omega) vs
        have hmb : ((wr.setCells g 0 vs).setCell ⟨b, 0, none⟩ (.slice (some ⟨g, 0, none⟩) 0 c)).heap[mb]? = wr.heap[mb]? :=
          (Below.heap_setCell _ _ _ mb (fun e => HBM.out e.symm)).trans (World.heap_setCells_other wr g 0 vs HMM.out.lt (fun e => HGM.out e.symm))
        refine ⟨rfl, ⟨some ⟨g, 0, none⟩, c, some mb, ?_, sb, ?_, fun q hq => ?_, .inr ⟨mb, D', rfl, sm, map_heap HMM.out hmb, HEND.out⟩, HND.out.sublist (List.take_sublist _ _), fun s hs => HLEN.out s (List.mem_of_mem_take hs)⟩, ?_⟩
        · rw [hlk]; exact field_set HHS.out
        · rw [hlk, List.map_take]
          exact own_heap hof (fun q hq => Below.heap_setCell _ _ _ q (fun e => by
            obtain rfl : g = q := by simpa [Value.ownBlock] using hq
            exact HGB.out e))
        · obtain rfl : g = q := by simpa [Value.ownBlock] using hq
          exact sg
        · exact (setCells_turn g S sg vs 0 w wr htu).setCell b 0 _ sb
  · go_enter Try.func64, Try.ntmps64
    go_wp2
    go_loopw [22] (fun idx wr => ∃ (i : Nat) (D' : DataW Nat), i ≤ n - k ∧ idx = .int .i64 (i : Int) ∧ wr.ownsMap Try.prog 9 (plainElem Try.prog 23) mb N D' ∧ NumTill D' l k (k + i) ∧ Turn (fun q => q = mb) w wr) (fun idx wr => n - k - (intOf idx).toNat)
    case atStart => exact ⟨0, D, by omega, rfl, HM.out, HN.out, Turn.refl _ _⟩
    case round =>
      obtain ⟨i, D', hi, rfl, hm', hn', ht'⟩ := hrel
      have hhr : wr.heap[b]? = some (.cells #[.slice (some ⟨g, 0, none⟩) n c, .map (some mb)] 60 (0, 0)) := (ht'.2.2.2.2 b (Array.getElem?_eq_some_iff.1 HH.out).1 HBM.out).trans HH.out
      have hor := own_heap (w' := wr) HO.out (fun q hq => by
        obtain rfl : g = q := by simpa [Value.ownBlock] using hq
        exact ht'.2.2.2.2 g (own_lt HO.out g rfl) HGM.out)
      have hcmr : wr.cell? ⟨b, 1, none⟩ = some (.map (some mb)) := field_cell hhr rfl
      by_cases hlt : i < n - k
      · obtain ⟨s, hs⟩ : ∃ s, l[k + i]? = some s := ⟨_, List.getElem?_eq_getElem (by rw [← HNL.out]; omega)⟩
        have hcell : wr.cell? ⟨g, k + i, none⟩ = some (.string (tx s)) := by
          have h := hor.cellAt (k + i) (by omega)
          rw [List.getElem?_map, hs] at h
          simpa [tsv] using h
        have hkey := tkeyOf (HLEN.out s (List.mem_of_getElem? hs))
        unfold tsv at hkey
        have HST := Lib.hid (numTill_step HND.out (by omega) hs hn')
        have HTT := Lib.hid ht'
        clear hs hhr hor hn' ht'
        go_wp2_with (at_delete; refine wpList_delete_own _ rfl _ _ 56 9 rfl 23 tkey Try.underlying56 _ mb N D' rfl hm' _ _ rfl hkey ?_; intro w1 hm1 ht1)
        exact ⟨⟨i + 1, _, by omega, by go_num, hm1, HST.out, HTT.out.grown ht1.grown (fun q e _ => by cases e; rfl)⟩, by simp [intOf]; omega⟩
      · have hk0 : k + i = l.length := by have := HNL.out; omega
        rw [hk0] at hn'
        have hend := numTill_end HND.out hn'
        have hc0r : wr.cell? ⟨b, 0, none⟩ = some (.slice (some ⟨g, 0, none⟩) n c) := field_cell hhr rfl
        have hf0r : wr.frozen? ⟨b, 0, none⟩ = false := field_free hhr
        have hcl : ∀ ty, (Builtin.clear_ #[22] ty #[.slice (some ⟨g, k, none⟩) (n - k) (c - k)]).run Try.prog wr = .ok (.tuple #[]) (wr.setCells g k (List.replicate (n - k) (.string ⟨#[]⟩))) := fun ty =>
          Lib.run_clear_slice wr 22 9 ty (.string ⟨#[]⟩) Try.underlying22 (fun w => by kernel_rfl) rfl rfl g k (n - k) (c - k) (by omega)
            (fun j hj => by rw [hor.cellAt (k + j) (by omega)]; simp; rw [← HNL.out]; omega) (fun j _ => hor.frozenAt _)
        have hs1 : ∀ vs : List Value, (wr.setCells g k vs).heap[b]? = wr.heap[b]? := fun vs => World.heap_setCells_other wr g k vs (Array.getElem?_eq_some_iff.1 hhr).1 (fun e => HGB.out e.symm)
        have hhs := (hs1 (List.replicate (n - k) (.string ⟨#[]⟩))).trans hhr
        have hc0s : (wr.setCells g k (List.replicate (n - k) (.string ⟨#[]⟩))).cell? ⟨b, 0, none⟩ = some (.slice (some ⟨g, 0, none⟩) n c) := field_cell hhs rfl
        have hf0s : (wr.setCells g k (List.replicate (n - k) (.string ⟨#[]⟩))).frozen? ⟨b, 0, none⟩ = false := field_free hhs
        have HHS := Lib.hid hhs
        have HOR := Lib.hid hor
        have HMM := Lib.hid hm'
        have HTT := Lib.hid ht'
        have HEND := Lib.hid hend
        have HHR := Lib.hid hhr
        clear hhs hor hm' ht' hend hs1 hn' hk0 hhr
        generalize hvs : List.replicate (n - k) (Value.string ⟨#[]⟩) = vs at hcl hc0s hf0s HHS
        clear hvs
        go_wp2
        go_end0
        obtain ⟨sb, sg, sm⟩ := HSS.out
        have hlk : (l.take k).length = k := by rw [List.length_take, ← HNL.out]; omega
        have htu : Turn S w wr := ⟨HTT.out.1, HTT.out.2.1, HTT.out.2.2.1, HTT.out.2.2.2.1, fun q h1 h2 => HTT.out.2.2.2.2 q h1 (fun e => h2 (by rw [e]; exact sm))⟩
        have hof := own_first HOR.out (k := k) (by omega) vs
        have hmb : ((wr.setCells g k vs).setCell ⟨b, 0, none⟩ (.slice (some ⟨g, 0, none⟩) k c)).heap[mb]? = wr.heap[mb]? :=
          (Below.heap_setCell _ _ _ mb (fun e => HBM.out e.symm)).trans (World.heap_setCells_other wr g k vs HMM.out.lt (fun e => HGM.out e.symm))
        refine ⟨rfl, ⟨some ⟨g, 0, none⟩, c, some mb, ?_, sb, ?_, fun q hq => ?_, .inr ⟨mb, D', rfl, sm, map_heap HMM.out hmb, HEND.out⟩, HND.out.sublist (List.take_sublist _ _), fun s hs => HLEN.out s (List.mem_of_mem_take hs)⟩, ?_⟩
        · rw [hlk]; exact field_set HHS.out
        · rw [hlk, List.map_take]
          exact own_heap hof (fun q hq => Below.heap_setCell _ _ _ q (fun e => by
            obtain rfl : g = q := by simpa [Value.ownBlock] using hq
            exact HGB.out e))
        · obtain rfl : g = q := by simpa [Value.ownBlock] using hq
          exact sg
        · exact (setCells_turn g S sg vs k w wr htu).setCell b 0 _ sb

set_option maxRecDepth 100000 in
theorem Cut_call (b : Nat) (sz : Int) (w : World) (Q : World → Prop) (h : Calls Try.prog 64 #[.pointer (some ⟨b, 0, none⟩), .int .i64 sz] w fun e w' => e = .returned (.tuple #[]) ∧ Q w') :
    Calls Try.prog 34 #[.pointer (some ⟨b, 0, none⟩), .int .i64 sz] w fun e w' => e = .returned (.tuple #[]) ∧ Q w' := by
  have H := Lib.hid h
  clear h
  go_enter Try.func34, Try.ntmps34
  go_wp2_with (first
    | (go_at_call 38; refine (all_any b _).mono ?_; rintro e w1 ⟨rfl, rfl⟩)
    | (go_at_call 64; refine H.out.mono ?_; rintro e w1 ⟨rfl, hq⟩))
  go_end0
  exact ⟨rfl, hq⟩

/-- How many stay. -/
def tcut (n : Nat) (sz : Int) : Nat := min n (max sz 0).toNat

theorem Cut_any (S : Nat → Prop) (b N : Nat) (l : List (List UInt8)) (sz : Int) (hl : l.length ≤ 1073741824) (w : World) (h : Tab w S b N l) :
    Calls Try.prog 34 #[.pointer (some ⟨b, 0, none⟩), .int .i64 sz] w fun e w' => e = .returned (.tuple #[]) ∧ Tab w' S b N (l.take (tcut l.length sz)) ∧ Turn S w w' := by
  refine Cut_call b sz w (fun w' => Tab w' S b N (l.take (tcut l.length sz)) ∧ Turn S w w') ?_
  have htab := h
  obtain ⟨L, c, mv, h1, hSb, h3, h4, h5, hnd, hlen⟩ := h
  by_cases hk : tcut l.length sz = l.length
  · rw [hk, List.take_length]
    have hcap : l.length ≤ c ∧ c ≤ maxLen := by
      rcases h3.2 with ⟨h0, h00⟩ | ⟨g', cap, cur, hv, _, _, g1, g2, _⟩
      · injection h0 with _ _ h0; subst h0; rw [h00]; exact ⟨Nat.le_refl _, Nat.zero_le _⟩
      · injection hv with _ _ hv2; subst hv2; exact ⟨g1, g2⟩
    refine (cut_all L b l.length c sz w (field_cell h1 rfl) hcap.1 (by have := hcap.2; unfold maxLen at this; omega) (field_free h1) (by unfold tcut at hk; omega)).mono ?_
    rintro e w' ⟨rfl, rfl⟩
    refine ⟨rfl, ?_, (Turn.refl S w).setCell b 0 _ hSb⟩
    have hb2 : (w.setCell ⟨b, 0, none⟩ (.slice L l.length c)).heap[b]? = w.heap[b]? := by rw [field_set h1, h1]; rfl
    exact htab.keep fun q _ hq => by
      by_cases e : q = b
      · rw [e]; exact hb2
      · exact Below.heap_setCell _ _ _ q e
  · have hlt : tcut l.length sz < l.length := by unfold tcut at hk ⊢; omega
    obtain ⟨g, hL⟩ : ∃ g, L = some ⟨g, 0, none⟩ := by
      rcases h3.2 with ⟨_, h00⟩ | ⟨g', cap, cur, hv, _⟩
      · omega
      · injection hv with hv _ _; exact ⟨g', hv⟩
    subst hL
    rcases h5 with ⟨_, e⟩ | ⟨mb, D, rfl, hSm, hm, hn⟩
    · rw [e] at hlt; simp at hlt
    · exact cut_some S b g mb l.length (tcut l.length sz) c N D l sz hlt rfl hl w h1 h3 hm hn hnd hlen hSb (h4 g rfl) hSm (by unfold tcut at hlt ⊢; omega)

end Go.Proofs.Ytidkahmjjknkmaa

/- What Put lays, as Get finds it. -/
namespace Go.Proofs.Ytidkahmjjknkmaa
open Go.RowKit

theorem fresh_back : ∀ (ns tl : List (List UInt8)), ((freshL tl ns).map List.tail).foldl tput tl = ns.foldl tput tl
  | [], _ => rfl
  | s :: ns, tl => by
    unfold freshL
    by_cases h : s ∈ tl
    · rw [if_pos h, List.foldl_cons, tput_in h]
      exact fresh_back ns tl
    · rw [if_neg h, List.map_cons, List.foldl_cons, List.foldl_cons]
      show List.foldl tput (tput tl s) _ = _
      rw [tput_new h]
      exact fresh_back ns (tl ++ [s])
theorem fresh_txt : ∀ (ns tl : List (List UInt8)), (∀ s ∈ ns, s.length ≤ 64) → ∀ t ∈ freshL tl ns, isTxt t = true ∧ t ≠ [] ∧ t.length ≤ 1000000
  | [], _, _, t, ht => by cases ht
  | s :: ns, tl, h, t, ht => by
    unfold freshL at ht
    split at ht
    · exact fresh_txt ns tl (fun x hx => h x (by simp [hx])) t ht
    · rcases List.mem_cons.1 ht with rfl | ht
      · have h1 := h s (by simp)
        exact ⟨rfl, by simp, by simp only [List.length_cons]; omega⟩
      · exact fresh_txt ns _ (fun x hx => h x (by simp [hx])) t ht
theorem tfold_ext : ∀ (ns tl : List (List UInt8)), ∃ x, ns.foldl tput tl = tl ++ x
  | [], tl => ⟨[], by simp⟩
  | s :: ns, tl => by
    obtain ⟨x, hx⟩ := tfold_ext ns (tput tl s)
    rw [List.foldl_cons, hx]
    by_cases h : s ∈ tl
    · rw [tput_in h]; exact ⟨x, rfl⟩
    · rw [tput_new h]; exact ⟨[s] ++ x, by simp⟩
theorem tabT_take (ver : Int) (tl : List (List UInt8)) (r : Rc) (l : List Dp) : (tabT ver tl r l).take (tcut (tabT ver tl r l).length (tl.length : Int)) = tl := by
  have h : ∃ x, tabT ver tl r l = tl ++ x := by
    unfold tabT
    split
    · exact ⟨[], by simp⟩
    · exact tfold_ext _ _
  obtain ⟨x, hx⟩ := h
  have h1 : tcut (tabT ver tl r l).length (tl.length : Int) = tl.length := by
    unfold tcut
    rw [hx, List.length_append]
    omega
  rw [h1, hx, List.take_left]
theorem freT_back (ver : Int) (tl : List (List UInt8)) (r : Rc) (l : List Dp) : tabT ver tl r l = ((freT ver tl r l).map List.tail).foldl tput tl := by
  unfold tabT freT
  split
  · rfl
  · exact (fresh_back _ _).symm
theorem freT_txt {ver : Int} {tl : List (List UInt8)} {r : Rc} {l : List Dp} (h : MayP ver r l) : ∀ t ∈ freT ver tl r l, isTxt t = true ∧ t ≠ [] ∧ t.length ≤ 1000000 := by
  unfold freT
  split
  · intro t ht; cases ht
  · exact fresh_txt _ _ (rnames_le h).1
theorem freT_len {ver : Int} {tl : List (List UInt8)} {r : Rc} {l : List Dp} (h : MayP ver r l) : (freT ver tl r l).length ≤ 18 := by
  have h1 := payL_len (tl := tl) h
  unfold payL at h1
  rw [List.length_append] at h1
  simp at h1
  omega
theorem payB_txt (ver : Int) (tl : List (List UInt8)) (r : Rc) (l : List Dp) : isTxt (payB ver tl r l) = false := by
  unfold payB
  split <;> rfl
theorem payB_len {ver : Int} {tl : List (List UInt8)} {r : Rc} {l : List Dp} (hm : MayP ver r l) (hnu : Nums r l) (htl : tl.length ≤ 1073741824) : (payB ver tl r l).length ≤ 1000000 := by
  obtain ⟨h1, h2, h3, h4⟩ := may_names hm
  have hvt := vb_len _ (num_nat hnu.1).2
  have hvo := vb_len _ (num_nat hnu.2.1).2
  have hvw := vb_len _ (num_nat hnu.2.2.1).2
  have hnm := nmB_len (ver := ver) h1 htl
  have hfd := fDeps_len (ver := ver) h3 h4 hnu.2.2.2 htl
  have hfg := fTag_len (r := r) htl
  have hz : ([] : List UInt8).length = 0 := rfl
  unfold payB
  split
  · rw [List.length_cons]; omega
  · rw [List.length_cons, List.length_append, List.length_append, List.length_append, List.length_append, List.length_append]
    split <;> split <;> (first | omega | (simp only [hz]; omega))
theorem tabT_mem (ver : Int) (tl : List (List UInt8)) (r : Rc) (l : List Dp) : ver < 2 ∨ ∀ s ∈ rnames r l, s ∈ tabT ver tl r l := by
  by_cases h : ver < 2
  · exact .inl h
  · right
    intro s hs
    unfold tabT
    rw [if_neg h]
    exact tfold_mem _ _ _ (.inr hs)
theorem payB_kind {ver : Int} {tl : List (List UInt8)} {r : Rc} {l : List Dp} (hm : MayP ver r l) (hnu : Nums r l) (ht : tl.length ≤ 1073741824) (hin : ver < 2 ∨ ∀ s ∈ rnames r l, s ∈ tl) : (rdAll ver tl (Cu.new (payB ver tl r l) 0).byte.1.toNat (rdStart (payB ver tl r l))).r = r ∧ (rdAll ver tl (Cu.new (payB ver tl r l) 0).byte.1.toNat (rdStart (payB ver tl r l))).l = l := by
  obtain ⟨h1, h2, h3⟩ := pay_back hm hnu ht hin
  have hk : (Cu.new (payB ver tl r l) 0).byte.1.toNat = r.kind.toNat := by
    have h4 : ((Cu.new (payB ver tl r l) 0).byte.1.toNat : Int) = r.kind := h1
    omega
  rw [hk]
  exact ⟨h2, h3⟩

/-- Payloads from one on, and up to one. -/
theorem PlsC.drop {w : World} {B : Nat} {A : Option Addr} {n c k : Nat} {ps : List (List UInt8)} (h : PlsC w B A n c ps) (hk : k ≤ n) : PlsC w B (if c = k then A else A.map (·.add k)) (n - k) (c - k) (ps.drop k) := by
  obtain ⟨h0, h2, vs, h1, h3⟩ := h
  have h4 := h1.cut (cap := c) hk h0
  rw [Nat.mul_one] at h4
  refine ⟨by omega, by rw [List.length_drop, h2], vs.drop k, h4, fun i p hp => ?_⟩
  rw [List.getElem?_drop] at hp
  obtain ⟨A', c', h5, h6⟩ := h3 _ p hp
  exact ⟨A', c', by rw [List.getElem?_drop]; exact h5, h6⟩
theorem PlsC.upto {w : World} {B : Nat} {A : Option Addr} {n c k : Nat} {ps : List (List UInt8)} (h : PlsC w B A n c ps) (hk : k ≤ n) : PlsC w B A k c (ps.take k) := by
  obtain ⟨h0, h2, vs, h1, h3⟩ := h
  refine ⟨by omega, by rw [List.length_take]; omega, vs.take k, h1.take hk, fun i p hp => ?_⟩
  have hi : i < k := by have := (List.getElem?_eq_some_iff.1 hp).1; rw [List.length_take] at this; omega
  rw [List.getElem?_take_of_lt hi] at hp
  obtain ⟨A', c', h5, h6⟩ := h3 _ p hp
  exact ⟨A', c', by rw [List.getElem?_take_of_lt hi]; exact h5, h6⟩

theorem PlsT.drop {w : World} {B : Nat} {S : Nat → Prop} {A : Option Addr} {n c k : Nat} {ps : List (List UInt8)} (h : PlsT w B S A n c ps) (hk : k < n) : PlsT w B S (if c = k then A else A.map (·.add k)) (n - k) (c - k) (ps.drop k) := by
  obtain ⟨h0, h2, vs, h1, ha, h3⟩ := h
  have h4 := h1.cut (cap := c) (Nat.le_of_lt hk) h0
  rw [Nat.mul_one] at h4
  refine ⟨by omega, by rw [List.length_drop, h2], vs.drop k, h4, fun ad e _ => ?_, fun i p hp => ?_⟩
  · rw [if_neg (by omega)] at e
    cases A with
    | none => cases e
    | some a0 =>
      obtain rfl : a0.add k = ad := Option.some.inj e
      rw [block_of_add]
      exact ha a0 rfl (by omega)
  · rw [List.getElem?_drop] at hp
    obtain ⟨A', c', h5, h6⟩ := h3 _ p hp
    exact ⟨A', c', by rw [List.getElem?_drop]; exact h5, h6⟩
theorem PlsT.upto {w : World} {B : Nat} {S : Nat → Prop} {A : Option Addr} {n c k : Nat} {ps : List (List UInt8)} (h : PlsT w B S A n c ps) (hk : k ≤ n) : PlsT w B S A k c (ps.take k) := by
  obtain ⟨h0, h2, vs, h1, ha, h3⟩ := h
  refine ⟨by omega, by rw [List.length_take]; omega, vs.take k, h1.take hk, fun ad e hn => ha ad e (by omega), fun i p hp => ?_⟩
  have hi : i < k := by have := (List.getElem?_eq_some_iff.1 hp).1; rw [List.length_take] at this; omega
  rw [List.getElem?_take_of_lt hi] at hp
  obtain ⟨A', c', h5, h6⟩ := h3 _ p hp
  exact ⟨A', c', by rw [List.getElem?_take_of_lt hi]; exact h5, h6⟩

end Go.Proofs.Ytidkahmjjknkmaa

/- How the document goes over a record's last payload: mathematics. -/
namespace Go.Proofs.Ytidkahmjjknkmaa
open Go.RowKit

/-- The text of a number, or there is none. -/
def dKn (tl : List (List UInt8)) (n : Nat) (c : Cu) : List UInt8 × Cu := if n < tl.length then (ttext tl n, c) else ([], c.fail 1)
def dNm (ver : Int) (tl : List (List UInt8)) (c : Cu) : List UInt8 × Cu := if ver = 1 then c.text 64 else dKn tl c.num.1 c.num.2
def dDp (ver : Int) (tl : List (List UInt8)) (c : Cu) : Dp × Cu :=
  if ver < 3 then (⟨(dNm ver tl c).1, ((dNm ver tl c).2.num.1 : Int), false⟩, (dNm ver tl c).2.num.2)
  else (⟨(dKn tl (c.num.1 / 2) c.num.2).1, ((dKn tl (c.num.1 / 2) c.num.2).2.num.1 : Int), decide (c.num.1 % 2 = 1)⟩, (dKn tl (c.num.1 / 2) c.num.2).2.num.2)
/-- As many deps, up to the first that is none. -/
def dDs (ver : Int) (tl : List (List UInt8)) : Nat → List Dp × Cu → List Dp × Cu
  | 0, s => s
  | i + 1, s => if (dDs ver tl i s).2.e = 0 then ((dDs ver tl i s).1 ++ [(dDp ver tl (dDs ver tl i s).2).1], (dDp ver tl (dDs ver tl i s).2).2) else dDs ver tl i s
def dWhen (ver : Int) (c : Cu) : Nat × Cu := if 1 < ver then c.num else (0, c)
def dTag (ver : Int) (tl : List (List UInt8)) (c : Cu) : List UInt8 × Cu := if 2 < ver then (if 0 < c.num.1 then dKn tl (c.num.1 - 1) c.num.2 else ([], c.num.2)) else ([], c)
/-- All that is gone over of it: the record, its deps, whether it is one. -/
def dLast (ver : Int) (tl : List (List UInt8)) (p : List UInt8) : Rc × List Dp × Bool :=
  let k := (Cu.new p 0).num
  if k.2.e = 0 ∧ (k.1 = 1 ∨ k.1 = 2) then
    let t := dNm ver tl k.2
    if k.1 = 1 then
      let u := t.2.num
      let ds := dDs ver tl u.2.num.1 ([], u.2.num.2)
      let o := ds.2.num
      let m := dWhen ver o.2
      let g := dTag ver tl m.2
      (⟨1, t.1, (u.1 : Int), (o.1 : Int), (m.1 : Int), g.1⟩, ds.1, decide (g.2.e = 0 ∧ g.2.at_ = p.length))
    else (⟨2, t.1, 0, 0, 0, []⟩, [], decide (t.2.e = 0 ∧ t.2.at_ = p.length))
  else (⟨0, [], 0, 0, 0, []⟩, [], false)

/-! Of what Put lays. -/
theorem known_rest {tl : List (List UInt8)} {s suf : List UInt8} {c : Cu} (hin : s ∈ tl) (h : Rest c suf) : dKn tl (tnum tl s) c = (s, c) ∧ Rest c suf := by
  unfold dKn
  have hl : tnum tl s < tl.length := by
    have := tnum_at hin
    exact (List.getElem?_eq_some_iff.1 this).1
  rw [if_pos hl, ttext_tnum hin]
  exact ⟨rfl, h⟩
theorem dname_rest {ver : Int} {tl : List (List UInt8)} {c : Cu} {s suf : List UInt8} (hv : 1 ≤ ver) (hs : s.length ≤ 64) (ht : tl.length ≤ 1073741824) (hm : ver < 2 ∨ s ∈ tl) (h : Rest c (nmB ver tl s ++ suf)) : (dNm ver tl c).1 = s ∧ Rest (dNm ver tl c).2 suf := by
  unfold nmB at h
  unfold dNm
  by_cases hv2 : ver < 2
  · rw [if_pos hv2] at h
    rw [if_pos (by omega)]
    exact text_rest hs h
  · rw [if_neg hv2] at h
    rw [if_neg (by omega)]
    obtain ⟨h1, h2⟩ := num_rest (small_vb (by have := tnum_le (s := s) ht; omega)) h
    rw [h1]
    obtain ⟨h3, h4⟩ := known_rest (hm.resolve_left hv2) h2
    rw [h3]
    exact ⟨rfl, h4⟩
theorem ddep_rest {ver : Int} {tl : List (List UInt8)} {c : Cu} {d : Dp} {suf : List UInt8} (hv : 1 ≤ ver) (ht : tl.length ≤ 1073741824) (hd : DepOk ver tl d) (h : Rest c (fDep ver tl d ++ suf)) : (dDp ver tl c).1 = d ∧ Rest (dDp ver tl c).2 suf := by
  obtain ⟨hs, hm, ho, hh⟩ := hd
  unfold fDep at h
  rw [List.append_assoc] at h
  unfold depB at h
  unfold dDp
  obtain ⟨nm, hash, ord⟩ := d
  simp only at hs hm ho hh h
  by_cases hv3 : ver < 3
  · rw [if_pos hv3] at h ⊢
    obtain ⟨h1, h2⟩ := dname_rest hv hs ht hm h
    obtain ⟨h4, h5⟩ := num_rest (num_nat hh).2 h2
    refine ⟨?_, h5⟩
    have h6 : ord = false := by
      cases ord with
      | false => rfl
      | true => have := ho rfl; omega
    rw [h6]
    simp only [h1, h4]
    rw [← (num_nat hh).1]
  · rw [if_neg hv3] at h ⊢
    have hin : nm ∈ tl := hm.resolve_left (by omega)
    have hle := tnum_le (s := nm) ht
    obtain ⟨h1, h2⟩ := num_rest (small_vb (by split <;> omega)) h
    have e1 : c.num.1 / 2 = tnum tl nm := by rw [h1]; split <;> omega
    rw [e1]
    obtain ⟨h3, h4⟩ := known_rest hin h2
    rw [h3]
    obtain ⟨h5, h6⟩ := num_rest (num_nat hh).2 h4
    refine ⟨?_, h6⟩
    have e2 : decide (c.num.1 % 2 = 1) = ord := by
      rw [h1]
      cases ord <;> simp <;> omega
    simp only [h5, e2]
    rw [← (num_nat hh).1]
theorem ddeps_rest {ver : Int} {tl : List (List UInt8)} (hv : 1 ≤ ver) (ht : tl.length ≤ 1073741824) (c : Cu) (l : List Dp) (suf : List UInt8) (hd : ∀ d ∈ l, DepOk ver tl d) (h : Rest c (l.flatMap (fDep ver tl) ++ suf)) :
    ∀ i, i ≤ l.length → (dDs ver tl i ([], c)).1 = l.take i ∧ Rest (dDs ver tl i ([], c)).2 ((l.drop i).flatMap (fDep ver tl) ++ suf)
  | 0, _ => ⟨by simp [dDs], h⟩
  | i + 1, hi => by
    obtain ⟨h1, h2⟩ := ddeps_rest hv ht c l suf hd h i (by omega)
    have hx : l.drop i = l[i] :: l.drop (i + 1) := List.drop_eq_getElem_cons (by omega)
    rw [hx, List.flatMap_cons, List.append_assoc] at h2
    obtain ⟨h3, h4⟩ := ddep_rest hv ht (hd _ (List.getElem_mem (by omega))) h2
    have e : dDs ver tl (i + 1) ([], c) = ((dDs ver tl i ([], c)).1 ++ [(dDp ver tl (dDs ver tl i ([], c)).2).1], (dDp ver tl (dDs ver tl i ([], c)).2).2) := by
      show (if (dDs ver tl i ([], c)).2.e = 0 then _ else _) = _
      rw [if_pos h2.1]
    rw [e]
    refine ⟨?_, h4⟩
    simp only
    rw [h1, h3, List.take_add_one, List.getElem?_eq_getElem (by omega)]
    rfl
theorem rest_end {c : Cu} {p : List UInt8} (h : Rest c []) (hp : c.bs = p) : decide (c.e = 0 ∧ c.at_ = p.length) = true := by
  obtain ⟨h1, h2, h3⟩ := h
  have := congrArg List.length h3
  rw [List.length_drop] at this
  simp only [List.length_nil] at this
  rw [hp] at this h2
  exact decide_eq_true ⟨h1, by omega⟩
theorem num_bs (c : Cu) : c.num.2.bs = c.bs := by
  unfold Cu.num Cu.tk
  split
  · split <;> rfl
  · rfl
theorem text_bs (c : Cu) (m : Int) : (c.text m).2.bs = c.bs := by
  unfold Cu.text Cu.tk
  split
  · split <;> rfl
  · rfl
theorem kn_bs (tl : List (List UInt8)) (n : Nat) (c : Cu) : (dKn tl n c).2.bs = c.bs := by
  unfold dKn Cu.fail
  split
  · rfl
  · simp only; split <;> rfl
theorem nm_bs (ver : Int) (tl : List (List UInt8)) (c : Cu) : (dNm ver tl c).2.bs = c.bs := by
  unfold dNm
  split
  · exact text_bs _ _
  · rw [kn_bs, num_bs]
theorem dp_bs (ver : Int) (tl : List (List UInt8)) (c : Cu) : (dDp ver tl c).2.bs = c.bs := by
  unfold dDp
  split
  · simp only [num_bs, nm_bs]
  · simp only [num_bs, kn_bs]
theorem ds_bs (ver : Int) (tl : List (List UInt8)) (s : List Dp × Cu) : ∀ i, (dDs ver tl i s).2.bs = s.2.bs
  | 0 => rfl
  | i + 1 => by
    show (if (dDs ver tl i s).2.e = 0 then ((dDs ver tl i s).1 ++ [(dDp ver tl (dDs ver tl i s).2).1], (dDp ver tl (dDs ver tl i s).2).2) else dDs ver tl i s).2.bs = _
    split
    · simp only [dp_bs]; exact ds_bs ver tl s i
    · exact ds_bs ver tl s i
theorem when_bs (ver : Int) (c : Cu) : (dWhen ver c).2.bs = c.bs := by
  unfold dWhen
  split
  · exact num_bs _
  · rfl
theorem tag_bs (ver : Int) (tl : List (List UInt8)) (c : Cu) : (dTag ver tl c).2.bs = c.bs := by
  unfold dTag
  split
  · split
    · rw [kn_bs, num_bs]
    · exact num_bs _
  · rfl

theorem vb_kind (k : Nat) (h : k = 1 ∨ k = 2) : vb k = [UInt8.ofNat k] := by rcases h with rfl | rfl <;> (rw [vb]; simp)
/-- What Put lays is gone over as the record. -/
theorem last_back {ver : Int} {tl : List (List UInt8)} {r : Rc} {l : List Dp} (hm : MayP ver r l) (hnu : Nums r l) (ht : tl.length ≤ 1073741824) (hin : ver < 2 ∨ ∀ s ∈ rnames r l, s ∈ tl) : dLast ver tl (payB ver tl r l) = (r, l, true) := by
  obtain ⟨n1, n2, n3, n4⟩ := may_names hm
  have hv1 : 1 ≤ ver := hm.1
  have tin : ver < 2 ∨ r.target ∈ tl := hin.imp id fun h => h _ (tnew_mem (by simp))
  have din : ∀ d ∈ l, ver < 2 ∨ d.name ∈ tl := fun d hd => hin.imp id fun h => h _ (tnew_mem (by
    refine List.mem_append.2 (.inl (List.mem_cons.2 (.inr ?_)))
    exact List.mem_map.2 ⟨d, hd, rfl⟩))
  have gin : ver < 2 ∨ r.tag = [] ∨ r.tag ∈ tl := by
    by_cases hz : r.tag = []
    · exact .inr (.inl hz)
    · exact hin.imp id fun h => .inr (h _ (tnew_mem (by rw [if_neg hz]; simp)))
  have hstart := new_rest (payB ver tl r l)
  have hbs : (Cu.new (payB ver tl r l) 0).bs = payB ver tl r l := by unfold Cu.new; rw [if_neg (by omega)]
  obtain ⟨k, t, u, o, m, g⟩ := r
  rcases hm with ⟨v1, v2, ht0, ⟨hk, htime, htag, hdeps⟩ | ⟨hk, hgone, hl0⟩⟩
  · simp only at hk n1 n2 tin gin htime htag
    subst hk
    have hpb : payB ver tl ⟨1, t, u, o, m, g⟩ l = vb 1 ++ (nmB ver tl t ++ (vb u.toNat ++ (vb l.length ++ (l.flatMap (fDep ver tl) ++ (vb o.toNat ++ ((if ver < 2 then [] else vb m.toNat) ++ (if ver < 3 then [] else fTag tl ⟨1, t, u, o, m, g⟩))))))) := by
      unfold payB fDeps
      rw [if_neg (by simp), vb_kind 1 (.inl rfl)]
      simp only [List.append_assoc]
      rfl
    have hokd : ∀ d ∈ l, DepOk ver tl d := fun d hd => ⟨n4 d hd, din d hd, (hdeps.2.1 d hd).2, hnu.2.2.2 d hd⟩
    unfold dLast
    obtain ⟨p, hp⟩ : ∃ p, p = payB ver tl ⟨1, t, u, o, m, g⟩ l := ⟨_, rfl⟩
    rw [← hp] at hstart hbs ⊢
    rw [← hp] at hpb
    obtain ⟨c0, hc0⟩ : ∃ c0, c0 = Cu.new p 0 := ⟨_, rfl⟩
    rw [← hc0] at hstart hbs ⊢
    have hst : Rest c0 (vb 1 ++ (nmB ver tl t ++ (vb u.toNat ++ (vb l.length ++ (l.flatMap (fDep ver tl) ++ (vb o.toNat ++ ((if ver < 2 then [] else vb m.toNat) ++ (if ver < 3 then [] else fTag tl ⟨1, t, u, o, m, g⟩)))))))) := by rw [← hpb]; exact hstart
    obtain ⟨b1, b2⟩ := num_rest (small_vb (by omega)) hst
    simp only
    rw [if_pos ⟨b2.1, .inl b1⟩, if_pos b1]
    obtain ⟨a1, a2⟩ := dname_rest hv1 n1 ht tin b2
    obtain ⟨a3, a4⟩ := num_rest (num_nat hnu.1).2 a2
    obtain ⟨a5, a6⟩ := num_rest (small_vb (by omega)) a4
    obtain ⟨q1, q2⟩ := ddeps_rest hv1 ht _ l _ hokd a6 l.length (Nat.le_refl _)
    rw [List.take_length] at q1
    rw [List.drop_length, List.flatMap_nil, List.nil_append] at q2
    rw [a5, a1, a3]
    obtain ⟨a7, a8⟩ := num_rest (num_nat hnu.2.1).2 q2
    rw [q1, a7]
    obtain ⟨cd, hcd⟩ : ∃ cd, cd = (dDs ver tl l.length ([], (dNm ver tl c0.num.2).2.num.2.num.2)).2.num.2 := ⟨_, rfl⟩
    have hcb : cd.bs = p := by rw [hcd, num_bs, ds_bs, num_bs, num_bs, nm_bs, num_bs, hbs]
    rw [← hcd] at a8 ⊢
    have hw : (dWhen ver cd).1 = m.toNat ∧ Rest (dWhen ver cd).2 (if ver < 3 then [] else fTag tl ⟨1, t, u, o, m, g⟩) := by
      unfold dWhen
      by_cases hv2 : ver < 2
      · rw [if_neg (by omega)]
        rw [if_pos hv2, if_pos (by omega)] at a8
        have hm0 : m = 0 := by rcases htime with h | h; exact h; omega
        rw [hm0, if_pos (by omega)]
        exact ⟨rfl, a8⟩
      · rw [if_pos (by omega)]
        rw [if_neg hv2] at a8
        exact num_rest (num_nat hnu.2.2.1).2 a8
    have hwb : (dWhen ver cd).2.bs = p := by rw [when_bs, hcb]
    rw [hw.1]
    obtain ⟨ce, hce⟩ : ∃ ce, ce = (dWhen ver cd).2 := ⟨_, rfl⟩
    have hw2 := hw.2
    rw [← hce] at hw2 hwb ⊢
    have hg : (dTag ver tl ce).1 = g ∧ Rest (dTag ver tl ce).2 [] := by
      unfold dTag
      by_cases hv3 : ver < 3
      · rw [if_neg (by omega)]
        rw [if_pos hv3] at hw2
        have hg0 : g = [] := by rcases htag with h | h; exact h; omega
        rw [hg0]
        exact ⟨rfl, hw2⟩
      · rw [if_pos (by omega)]
        rw [if_neg hv3] at hw2
        have hw3 : Rest ce (fTag tl ⟨1, t, u, o, m, g⟩ ++ []) := by simpa using hw2
        unfold fTag at hw3
        by_cases hz : g = []
        · simp only [hz, if_true] at hw3
          obtain ⟨h1, h2⟩ := num_rest (small_vb (by omega)) hw3
          rw [h1, if_neg (by omega), hz]
          exact ⟨rfl, h2⟩
        · simp only [hz, if_false] at hw3
          have hle := tnum_le (s := g) ht
          obtain ⟨h1, h2⟩ := num_rest (small_vb (by omega)) hw3
          rw [h1, if_pos (by omega), show tnum tl g + 1 - 1 = tnum tl g from rfl]
          obtain ⟨h3, h4⟩ := known_rest ((gin.resolve_left (by omega)).resolve_left hz) h2
          rw [h3]
          exact ⟨rfl, h4⟩
    rw [hg.1, rest_end hg.2 (by rw [tag_bs]; exact hwb), ← (num_nat hnu.1).1, ← (num_nat hnu.2.1).1, ← (num_nat hnu.2.2.1).1]
  · simp only at hk hgone
    obtain rfl : k = 2 := hk
    subst hl0
    have hg := hgone
    simp only [Rc.mk.injEq, true_and] at hg
    obtain ⟨rfl, rfl, rfl, rfl⟩ := hg
    have hpb : payB ver tl ⟨2, t, 0, 0, 0, []⟩ [] = vb 2 ++ (nmB ver tl t ++ []) := by
      unfold payB
      rw [if_pos rfl, vb_kind 2 (.inr rfl), List.append_nil]
      rfl
    unfold dLast
    obtain ⟨p, hp⟩ : ∃ p, p = payB ver tl ⟨2, t, 0, 0, 0, []⟩ [] := ⟨_, rfl⟩
    rw [← hp] at hstart hbs ⊢
    rw [← hp] at hpb
    obtain ⟨c0, hc0⟩ : ∃ c0, c0 = Cu.new p 0 := ⟨_, rfl⟩
    rw [← hc0] at hstart hbs ⊢
    have hst : Rest c0 (vb 2 ++ (nmB ver tl t ++ [])) := by rw [← hpb]; exact hstart
    obtain ⟨b1, b2⟩ := num_rest (small_vb (by omega)) hst
    simp only
    rw [if_pos ⟨b2.1, .inr b1⟩, if_neg (by omega)]
    obtain ⟨a1, a2⟩ := dname_rest hv1 n1 ht tin b2
    rw [a1, rest_end a2 (by rw [nm_bs, num_bs]; exact hbs)]

end Go.Proofs.Ytidkahmjjknkmaa
