/- The walks of small and Laid of tephralaw06. -/
import Derived.Maps.AppendAt
import Derived.Test.YtoanmbhnhofoiaaDoorFr
import Derived.Test.YtoanmbhnhofoiaaDoorFg
import Derived.Test.YtoanmbhnhofoiaaDoorFd
namespace Go.Proofs.YtoanmbhnhofoiaaDoor
open Go.RowKit Go.Shelf

/-- Payloads, no more than are gone through. -/
def smalls (ps : List (List UInt8)) : Prop := ps.length ≤ 20 ∧ ∀ p ∈ ps, 1 ≤ p.length ∧ p.length ≤ 200

def SmRel (ps : List (List UInt8)) (w : World) (idx : Value) (wr : World) : Prop := ∃ i : Nat, i ≤ ps.length ∧ idx = .int .i64 (i : Int) ∧ (∀ p ∈ ps.take i, 1 ≤ p.length ∧ p.length ≤ 200) ∧ w = wr

set_option maxRecDepth 100000 in
set_option maxHeartbeats 400000 in
theorem small_any (L : Option Addr) (m d : Nat) (vs : List Value) (ps : List (List UInt8)) (w : World) (hr : Reads w w.heap.size 1 L m vs) (hp : WRows w w.heap.size vs ps) :
    Calls Tryd.prog 20 #[.slice L m d] w fun e w' => ((smalls ps ∧ e = .returned (.bool true)) ∨ (¬ smalls ps ∧ e = .returned (.bool false))) ∧ w = w' := by
  have hml : ps.length = m := by have := hr.1; have := hp.1; omega
  by_cases h20 : 20 < m
  · have hno : Hid (¬ smalls ps) := fun h => by have := h.1; omega
    clear hml
    go_enter Tryd.func20, Tryd.ntmps20
    go_wp2
    go_ret
    exact ⟨.inr ⟨hno.out, rfl⟩, rfl⟩
  have HML := Lib.hid hml
  have HP := Lib.hid hp
  clear hml hp
  go_enter Tryd.func20, Tryd.ntmps20
  go_wp2
  go_loopw [10] (fun idx wr => SmRel ps w idx wr) (fun idx wr => m - (intOf idx).toNat)
  case atStart => exact ⟨0, by omega, rfl, by simp, rfl⟩
  case round =>
    obtain ⟨i, hi, rfl, hall, rfl⟩ := hrel
    rw [HML.out] at hi
    have HALL := Lib.hid hall
    clear hall
    by_cases hlt : i < m
    · obtain ⟨ad, u, rfl, hadb, hx, hcell⟩ := hr.at_ hlt
      obtain ⟨bs, hbs, A, n, c, rfl, hnc, hrb⟩ := HP.out.2 i u hx
      have hbn : bs.length = n := by have := hrb.1; simpa using this
      have HBS := Lib.hid hbs
      have HBN := Lib.hid hbn
      clear hbs hbn hx hrb
      by_cases h1 : n < 1
      · have hno : Hid (¬ smalls ps) := fun h => by have := (h.2 bs (List.mem_of_getElem? HBS.out)).1; have := HBN.out; omega
        go_wp2
        go_ret
        exact ⟨.inr ⟨hno.out, rfl⟩, rfl⟩
      · by_cases h2 : 200 < n
        · have hno : Hid (¬ smalls ps) := fun h => by have := (h.2 bs (List.mem_of_getElem? HBS.out)).2; have := HBN.out; omega
          have n1 : decide ((n : Int) < 1) = false := by rw [decide_eq_false_iff_not]; omega
          go_wp2
          go_ret
          exact ⟨.inr ⟨hno.out, rfl⟩, rfl⟩
        · have n1 : decide ((n : Int) < 1) = false := by rw [decide_eq_false_iff_not]; omega
          have n2 : decide (200 < (n : Int)) = false := by rw [decide_eq_false_iff_not]; omega
          go_wp2
          refine ⟨⟨i + 1, by rw [HML.out]; omega, by go_num, ?_, rfl⟩, by simp [intOf]; omega⟩
          intro p hp
          rw [List.take_add_one, HBS.out] at hp
          rcases List.mem_append.1 hp with hp | hp
          · exact HALL.out p hp
          · obtain rfl : p = bs := by simpa using hp
            have := HBN.out
            omega
    · obtain rfl : i = m := by omega
      have hall : ps.take i = ps := List.take_of_length_le (by rw [HML.out]; omega)
      have hyes : Hid (smalls ps) := ⟨by rw [HML.out]; omega, by have := HALL.out; rwa [hall] at this⟩
      clear hall
      go_wp2
      go_ret
      exact ⟨.inl ⟨hyes.out, rfl⟩, rfl⟩

theorem told_snoc (n : Nat) (l : List (List UInt8)) (p : List UInt8) : told n (l ++ [p]) = told n l ++ [(p, n + (frs (l ++ [p])).length)] := by
  induction l generalizing n with
  | nil => simp [told, frs]
  | cons q l ih =>
    rw [List.cons_append, told, ih, told, List.cons_append]
    simp [frs, Nat.add_assoc]

theorem fr_small {p : List UInt8} (h : p.length ≤ 200) : (fr p).length ≤ 214 := by
  rw [fr_len, blob_len]
  have := vb_len p.length (by unfold top; omega)
  omega
theorem frs_small : ∀ (ps : List (List UInt8)), (∀ p ∈ ps, p.length ≤ 200) → (frs ps).length ≤ 214 * ps.length
  | [], _ => by simp [frs]
  | p :: l, h => by
    have h1 := frs_small l (fun q hq => h q (by simp [hq]))
    have h2 := fr_small (h p (by simp))
    simp only [frs, List.length_append, List.length_cons]
    omega

def LdRel (ps : List (List UInt8)) (n0 : Nat) (w : World) (b en idx : Value) (wr : World) : Prop :=
  ∃ i : Nat, i ≤ ps.length ∧ idx = .int .i64 (i : Int) ∧ wr.ownsRow n0 5 1 b (frs (ps.take i)).length ((frs (ps.take i)).map bv) ∧ wr.ownsRow n0 3 1 en i ((told 0 (ps.take i)).map tn) ∧ Below n0 w wr

set_option maxRecDepth 100000 in
set_option maxHeartbeats 1000000 in
theorem laid_any2 (L : Option Addr) (m d n0 : Nat) (vs : List Value) (ps : List (List UInt8)) (hs : smalls ps) (w : World) (hn0 : w.heap.size = n0) (hl : Laid w) (hr : Reads w n0 1 L m vs) (hp : WRows w n0 vs ps) :
    Calls Tryd.prog 21 #[.slice L m d] w fun e w' => ∃ b en, e = .returned (.tuple #[b, en, .bool true]) ∧ w'.ownsRow n0 5 1 b (frs ps).length ((frs ps).map bv) ∧ w'.ownsRow n0 3 1 en ps.length ((told 0 ps).map tn) ∧ Below n0 w w' := by
  obtain ⟨ii, hi, hi0, hi1, hi2⟩ := info_parts info_int
  have hml : ps.length = m := by have := hr.1; have := hp.1; omega
  have h20 : m ≤ 20 := by have := hs.1; omega
  have HML := Lib.hid hml
  have HP := Lib.hid hp
  have HS := Lib.hid hs
  have HL := Lib.hid hl
  have HR := Lib.hid hr
  have HN0 := Lib.hid hn0
  clear hml hp hs hl hr hn0
  go_enter Tryd.func21, Tryd.ntmps21
  go_wp2
  go_loopw [5, 6, 13] (fun b en idx wr => LdRel ps n0 w b en idx wr) (fun b en idx wr => m - (intOf idx).toNat)
  case atStart => exact ⟨0, by omega, rfl, World.ownsRow_nil _ _ _ _, World.ownsRow_nil _ _ _ _, Below.refl _ _⟩
  case round =>
    obtain ⟨i, hile, rfl, ho1, ho2, hb⟩ := hrel
    rw [HML.out] at hile
    have hszr : n0 ≤ wr.heap.size := by have := hb.size; have := HN0.out; omega
    by_cases hlt : i < m
    · obtain ⟨ad, u, rfl, hadb, hx, hcell⟩ := (HR.out.below hb).at_ hlt
      obtain ⟨p, hpi, A, n, c, rfl, hnc, hrb⟩ := HP.out.2 i u hx
      have hpm : p ∈ ps := List.mem_of_getElem? hpi
      have hpl := HS.out.2 p hpm
      have htk : ps.take (i + 1) = ps.take i ++ [p] := by rw [List.take_add_one, hpi]; rfl
      have hfl : (frs (ps.take i)).length ≤ 214 * 20 := by
        have h1 := frs_small (ps.take i) (fun q hq => (HS.out.2 q (List.mem_of_mem_take hq)).2)
        have h2 : (ps.take i).length ≤ 20 := by rw [List.length_take]; omega
        have h3 : 214 * (ps.take i).length ≤ 214 * 20 := Nat.mul_le_mul_left _ h2
        omega
      obtain ⟨A1, c1, e1, hc1, hA1, hr1⟩ : ∃ A c, u5 = .slice A (frs (ps.take i)).length c ∧ (frs (ps.take i)).length ≤ c ∧ (A = none → c = 0) ∧ Reads wr wr.heap.size 1 A (frs (ps.take i)).length ((frs (ps.take i)).map bv) := by
        obtain ⟨A, c, e, hc, hr⟩ := own_reads ho1
        refine ⟨A, c, e, hc, fun hA => ?_, hr⟩
        subst hA
        rcases ho1.2 with ⟨h, _⟩ | ⟨g, cap, cur, h, _⟩
        · rw [e] at h; injection h
        · rw [e] at h; injection h with h _; cases h
      subst e1
      have HPUT := Lib.hid (fput_any A1 A (frs (ps.take i)).length c1 n c (frs (ps.take i)) p ⟨hpl.1, by omega⟩ (by omega) hc1 hA1 wr (HL.out.below (by rw [HN0.out]; exact hb)) hr1 ((hrb.below hb).more hszr))
      have e2 : frs (ps.take i) ++ fr p = frs (ps.take (i + 1)) := by rw [htk, frs_append]; simp [frs]
      rw [e2] at HPUT
      have HTK := Lib.hid htk
      have hfl2 : (frs (ps.take (i + 1))).length ≤ 214 * 21 := by
        rw [← e2, List.length_append]
        have := fr_small hpl.2
        omega
      clear hx hpi hrb hpm hpl htk hr1 ho1 e2
      obtain ⟨k, hk⟩ : ∃ k, k = (frs (ps.take (i + 1))).length := ⟨_, rfl⟩
      rw [← hk] at HPUT hfl2
      have HK := Lib.hid hk
      clear hk
      go_wp2_with (first
        | (go_at_call 13; refine HPUT.out.mono ?_; rintro e w1 ⟨v1, rfl, ho1, hb1⟩; obtain ⟨A3, c3, rfl, hc3, -⟩ := own_reads ho1)
        | (at_builtin; refine wpList_append_own _ rfl (.tmp 26) (.tmp 29) 42 rfl n0 3 ii (.int .i64 0) 1 8 Tryd.underlying42 hi hi0 hi1 hi2 rfl (by decide) _ i _ rfl (own_alloc (own_below ho2 hb1) _) ⟨w1.heap.size, 0, none⟩ 1 1 [.int .i64 (k : Int)] rfl rfl (cell_one_new _ _ _) (by simp [Value.oneCell']) (by unfold maxLen; omega) (by omega) (by have := hb1.size; simp; omega) ?_; intro e2 w3 ho4 hg3 _))
      have hbb := ((hb.trans (hb1.mono hszr)).alloc (by have := hb1.size; omega) (.cells #[.int .i64 (k : Int)] 3)).grown hg3 (by have := hb1.size; simp; omega) (own_block ho2)
      have ho5 : w3.ownsRow n0 5 1 (.slice A3 k c3) k ((frs (ps.take (i + 1))).map bv) := own_unlike (own_alloc (own_below ho2 hb1) _) (own_alloc (own_more ho1 hszr) _) (by decide) hg3
      refine ⟨⟨i + 1, by rw [HML.out]; omega, by go_num, by rw [← HK.out]; exact ho5, ?_, hbb⟩, by simp [intOf]; omega⟩
      rw [HTK.out, told_snoc, ← HTK.out, ← HK.out]
      simpa [tn] using ho4
    · obtain rfl : i = m := by omega
      have hall : ps.take i = ps := List.take_of_length_le (by rw [HML.out]; omega)
      rw [hall] at ho1 ho2
      go_wp2
      go_ret3
      exact ⟨_, _, rfl, ho1, by rw [HML.out]; exact ho2, hb⟩

end Go.Proofs.YtoanmbhnhofoiaaDoor
