/- The document's Put of a text. -/
import Derived.Laws.Strings2
import Derived.Test.YtjjhbcijonjlhaaEh
namespace Go.Proofs.Ytjjhbcijonjlhaa
open Go.RowKit

theorem slice_str (s : ByteArray) (k m n : Nat) (hs : s.size = n) (h : k + m ≤ n) (W : World) : (Instr.slice 9 (.string s) (some (.int .i64 (k : Int))) (some (.int .i64 ((k : Int) + (m : Int)))) none).run Try.prog W = .ok (.string (s.extract k (k + m))) W := by
  have h1 := run_slice_string (P := Try.prog) W 9 s .i64 .i64 (k : Int) ((k : Int) + (m : Int)) Try.underlying9 (by omega) (by omega) (by omega)
  rw [show (k : Int).toNat = k from by omega, show ((k : Int) + (m : Int)).toNat = k + m from by omega] at h1
  exact h1

def PRel (all : Bool) (l : List UInt8) (w : World) (v3 v4 : Value) (wr : World) : Prop :=
  ∃ i : Nat, i ≤ l.length ∧ v4 = .int .i64 (i : Int) ∧ v3 = .string (tx ((l.take i).flatMap (sgn all))) ∧ Below w.heap.size w wr

set_option maxRecDepth 100000 in
set_option maxHeartbeats 1000000 in
theorem rput_any (l : List UInt8) (hl : l.length ≤ 1000) (w : World) :
    Calls Try.prog 8 #[.string (tx l)] w fun e w' => e = .returned (.string (tx (eput l))) ∧ Below w.heap.size w w' := by
  by_cases h0 : l = []
  · subst h0
    have h1 : (tx []).toList.isEmpty = true := by rw [emp_bytes]; decide
    go_enter Try.func8, Try.ntmps8
    go_wp2
    go_ret
    exact ⟨rfl, Below.refl _ _⟩
  · have h1 : (tx l).toList.isEmpty = false := by rw [emp_bytes, decide_eq_false h0]
    obtain ⟨all, hall⟩ : ∃ all, all = decide (l = [45]) := ⟨_, rfl⟩
    have hall2 : ((tx l).toList == [45]) = all := by rw [eq_bytes, hall]
    have hfin : eput l = l.flatMap (sgn all) := by unfold eput; rw [if_neg h0, hall]
    have H0 : Hid (PRel all l w (.string { data := #[] }) (.int .i64 0) w) := ⟨0, by omega, rfl, rfl, Below.refl _ _⟩
    rw [hfin]
    obtain ⟨n, hn⟩ : ∃ n, n = l.length := ⟨_, rfl⟩
    have hsz : (tx l).size = n := by rw [tx_size, hn]
    have HN := Lib.hid hn
    have HAT := Lib.hid (fun i x h hp => tx_at l i x h hp)
    rw [← hn] at hl
    generalize hs : tx l = s at *
    clear hs hfin h0 hall hn
    go_enter Try.func8, Try.ntmps8
    go_wp2
    go_loopw [3, 4] (fun v3 v4 wr => PRel all l w v3 v4 wr) (fun _ v4 _ => n - (intOf v4).toNat)
    case atStart => exact H0.out
    case round =>
      obtain ⟨i, hi, rfl, rfl, hb⟩ := hrel
      clear H0
      rw [← HN.out] at hi
      have HB := Lib.hid hb
      by_cases hlt : i < n
      · obtain ⟨b, hbi⟩ : ∃ b, l[i]? = some b := ⟨_, List.getElem?_eq_getElem (by rw [← HN.out]; exact hlt)⟩
        have hk : i < s.size := by omega
        have hat := HAT.out i b hbi hk
        have hsn := flat_snoc (all := all) hbi
        have hl3 := flat_len3 all (l.take i)
        rw [List.length_take] at hl3
        have hsl := sgn_len all b
        have hadd := fun W : World => add_tx (P := Try.prog) W ((l.take i).flatMap (sgn all)) (sgn all b) (by omega)
        rw [← hsn] at hadd
        have HSG := Lib.hid (fun W => sign_any b all W)
        generalize sgn all b = g at *
        generalize hfa : (l.take i).flatMap (sgn all) = fa at *
        have hi0 : (0 : Int) ≤ (i : Int) := by omega
        have hi1 : (i : Int) < (n : Int) := by omega
        clear hsn hl3 hsl hbi hb HAT hfa
        have HX : Hid ((s[i].toNat : Int) = (b.toNat : Int)) := congrArg Int.ofNat hat
        clear hat
        go_wp2_with fail
        rw [HX.out]
        refine (HSG.out _).mono ?_
        rintro e w3 ⟨rfl, hb3⟩
        have HB3 := Lib.hid (HB.out.trans (hb3.mono HB.out.size))
        clear hb3
        go_wp2
        exact ⟨⟨i + 1, by rw [← HN.out]; omega, by go_num, rfl, HB3.out⟩, by simp [intOf]; omega⟩
      · obtain rfl : i = n := by omega
        rw [List.take_of_length_le (by rw [← HN.out]; omega)]
        obtain ⟨fa, hfa⟩ : ∃ fa, fa = l.flatMap (sgn all) := ⟨_, rfl⟩
        rw [← hfa]
        have HFA := Lib.hid hfa
        clear hb hfa
        go_wp2
        go_ret
        exact ⟨by rw [← HFA.out]; rfl, HB.out⟩

/-- At a place stand the signs of this byte. -/
def Mt (all : Bool) (l : List UInt8) (k : Nat) (c : UInt8) : Prop := ∃ m, l.drop k = sgn all c ++ m

theorem mt_iff {all : Bool} {l : List UInt8} {k : Nat} {c : UInt8} : Mt all l k c ↔ (l.take (k + (sgn all c).length)).drop k = sgn all c := by
  constructor
  · rintro ⟨m, hm⟩
    rw [List.drop_take, hm, show k + (sgn all c).length - k = (sgn all c).length by omega, List.take_left]
  · intro h
    rw [List.drop_take, show k + (sgn all c).length - k = (sgn all c).length by omega] at h
    exact ⟨(l.drop k).drop (sgn all c).length, by conv => lhs; rw [← List.take_append_drop (sgn all c).length (l.drop k), h]⟩
theorem mt_len {all : Bool} {l : List UInt8} {k : Nat} {c : UInt8} (h : Mt all l k c) (hk : k ≤ l.length) : k + (sgn all c).length ≤ l.length := by
  obtain ⟨m, hm⟩ := h
  have := congrArg List.length hm
  rw [List.length_drop, List.length_append] at this
  omega

/-- In the midst of the search for a byte whose signs stand at a place. -/
def IRel (all : Bool) (l acc : List UInt8) (k : Nat) (w : World) (v4 v5 v6 v7 : Value) (wr : World) : Prop :=
  ∃ j : Nat, j ≤ 256 ∧ v7 = .int .i64 (j : Int) ∧ Below w.heap.size w wr ∧
    ((v6 = .bool false ∧ v4 = .string (tx acc) ∧ v5 = .int .i64 (k : Int) ∧ ∀ c : UInt8, c.toNat < j → ¬ Mt all l k c) ∨
     (v6 = .bool true ∧ ∃ c : UInt8, Mt all l k c ∧ v4 = .string (tx (acc ++ [c])) ∧ v5 = .int .i64 ((k + (sgn all c).length : Nat) : Int)))

def GRel (all : Bool) (l : List UInt8) (w : World) (v4 v5 : Value) (wr : World) : Prop :=
  ∃ (acc : List UInt8) (k : Nat), v4 = .string (tx acc) ∧ v5 = .int .i64 (k : Int) ∧ k ≤ l.length ∧ l.take k = acc.flatMap (sgn all) ∧ Below w.heap.size w wr

theorem acc_len {all : Bool} {l acc : List UInt8} {k : Nat} (h : l.take k = acc.flatMap (sgn all)) (hk : k ≤ l.length) : acc.length ≤ k := by
  have h1 := congrArg List.length h
  rw [List.length_take] at h1
  have h2 : ∀ acc : List UInt8, acc.length ≤ (acc.flatMap (sgn all)).length := by
    intro acc
    induction acc with
    | nil => simp
    | cons b acc ih => have := sgn_len all b; simp only [List.flatMap_cons, List.length_append, List.length_cons]; omega
  have := h2 acc
  omega

set_option maxRecDepth 100000 in
set_option maxHeartbeats 2000000 in
theorem rget_any (l : List UInt8) (hl : l.length ≤ 1000) (w : World) :
    Calls Try.prog 10 #[.string (tx l)] w fun e w' => e = .returned (.tuple #[.string (tx (eget l).1), .bool (eget l).2]) ∧ Below w.heap.size w w' := by
  by_cases h45 : l = [45]
  · subst h45
    have h1 : ((tx [45]).toList == [45]) = true := by rw [eq_bytes]; decide
    have hv : eget [45] = ([], true) := eget_hyphen
    rw [hv]
    go_enter Try.func10, Try.ntmps10
    go_wp2
    go_ret2
    exact ⟨rfl, Below.refl _ _⟩
  · have h1 : ((tx l).toList == [45]) = false := by rw [eq_bytes, decide_eq_false h45]
    obtain ⟨all, hall⟩ : ∃ all, all = allw l := ⟨_, rfl⟩
    have hall2 : ((tx l).toList == [92, 50, 100]) = all := by rw [eq_bytes, hall]; rfl
    have H0 : Hid (GRel all l w (.string { data := #[] }) (.int .i64 0) w) := ⟨[], 0, rfl, rfl, by omega, rfl, Below.refl _ _⟩
    have HALL := Lib.hid hall
    have H45 := Lib.hid h45
    obtain ⟨n, hn⟩ : ∃ n, n = l.length := ⟨_, rfl⟩
    have hsz : (tx l).size = n := by rw [tx_size, hn]
    have HN := Lib.hid hn
    have HEX := Lib.hid (fun a b => tx_extract l a b)
    rw [← hn] at hl
    generalize hs : tx l = s at *
    clear hs hall hn h45
    go_enter Try.func10, Try.ntmps10
    go_wp2
    go_loopw [4, 5] (fun v4 v5 wr => GRel all l w v4 v5 wr) (fun _ v5 _ => n - (intOf v5).toNat)
    case atStart => exact H0.out
    case round =>
      obtain ⟨acc, k, rfl, rfl, hk, htk, hb⟩ := hrel
      obtain ⟨wo, hwo⟩ : ∃ x, x = wr := ⟨wr, rfl⟩
      subst hwo
      clear H0
      rw [← HN.out] at hk
      have HTK := Lib.hid htk
      have HB := Lib.hid hb
      have hal : acc.length ≤ k := acc_len htk (by rw [← HN.out]; exact hk)
      have HI : Hid (IRel all l acc k w (.string (tx acc)) (.int .i64 (k : Int)) (.bool false) (.int .i64 0) wo) := ⟨0, by omega, rfl, hb, .inl ⟨rfl, rfl, rfl, fun c h => by omega⟩⟩
      clear htk hb
      by_cases hlt : k < n
      · have hk0 : (0 : Int) ≤ (k : Int) := by omega
        have hk1 : (k : Int) < (n : Int) := by omega
        go_wp2
        go_loopw [4, 5, 6, 7] (fun v4 v5 v6 v7 wr => IRel all l acc k w v4 v5 v6 v7 wr) (fun _ _ _ v7 _ => 256 - (intOf v7).toNat)
        case atStart => exact HI.out
        case round =>
          obtain ⟨j, hj, rfl, hbr, hcase⟩ := hrel
          clear HI
          have HBR := Lib.hid hbr
          clear hbr
          rcases hcase with ⟨rfl, rfl, rfl, hno⟩ | ⟨rfl, c, hmt, rfl, rfl⟩
          · by_cases hj2 : j < 256
            · obtain ⟨c, hc⟩ : ∃ c : UInt8, c.toNat = j := ⟨UInt8.ofNat j, by simp; omega⟩
              have hsg := fun W => sign_any c all W
              rw [hc] at hsg
              have HSG := Lib.hid hsg
              have hml := sgn_len all c
              obtain ⟨g, hg⟩ : ∃ g, g = sgn all c := ⟨_, rfl⟩
              obtain ⟨m, hm⟩ : ∃ m, m = (sgn all c).length := ⟨_, rfl⟩
              have hgs : (tx g).size = m := by rw [tx_size, hg, hm]
              have hadd := fun W : World => add_tx (P := Try.prog) W acc [c] (by simp; omega)
              have hbc : bv c = .int .u8 (j : Int) := by unfold bv; rw [hc]
              have HCV : Hid (∀ W : World, (convert 28 9 (.slice (some ⟨W.heap.size, 0, none⟩) 1 1)).run Try.prog (W.alloc (.cells #[.int .u8 (j : Int)] 5)) = .ok (.string (tx [c])) (W.alloc (.cells #[.int .u8 (j : Int)] 5))) := fun W => by
                have h := reads_one W 5 c
                rw [hbc] at h
                exact conv_reads Try.underlying28 Try.underlying5 Try.underlying9 h
              have hj0 : (0 : Int) ≤ (j : Int) := by omega
              have hj1 : (j : Int) < 256 := by omega
              rw [← hg] at HSG
              rw [← hm] at hml
              have hm0 : (0 : Int) ≤ (m : Int) := by omega
              have hm3 : m ≤ 3 := hml.2
              have hm1 : 1 ≤ m := hml.1
              have HG := Lib.hid hg
              have HM := Lib.hid hm
              have HC := Lib.hid hc
              have HNO := Lib.hid hno
              by_cases hmt : Mt all l k c
              · have hkm : k + m ≤ n := by rw [hm, HN.out]; exact mt_len hmt (by rw [← HN.out]; omega)
                have hex : s.extract k (k + m) = tx g := by rw [HEX.out, hm, mt_iff.1 hmt, ← hg]
                have hkm2 : (k : Int) + (m : Int) ≤ (n : Int) := by omega
                have hsl := slice_str s k m n hsz hkm
                rw [hex] at hsl
                clear hex
                have HMT := Lib.hid hmt
                clear hmt hno hsg hml hg hm hc hbc
                go_wp2_with (go_at_call 15; refine (HSG.out _).mono ?_; rintro e w3 ⟨rfl, hb3⟩; have HB3 := Lib.hid ((HBR.out.trans (hb3.mono HBR.out.size)).alloc (by have h1 := HBR.out.size; have h2 := hb3.size; omega) (.cells #[.int .u8 (j : Int)] 5)); have hcv := HCV.out w3; clear hb3)
                exact ⟨⟨j + 1, by omega, by go_num, HB3.out, .inr ⟨rfl, c, HMT.out, rfl, by rw [← HM.out]; go_num⟩⟩, by simp [intOf]; omega⟩
              · have HX : Hid (∀ c' : UInt8, c'.toNat < j + 1 → ¬ Mt all l k c') := fun c' h => by
                  by_cases h2 : c'.toNat < j
                  · exact HNO.out c' h2
                  · obtain rfl : c' = c := UInt8.toNat_inj.1 (by rw [HC.out]; omega)
                    exact hmt
                by_cases hkm : k + m ≤ n
                · have hq : ¬ (l.take (k + m)).drop k = g := by rw [hm, hg]; exact fun h => hmt (mt_iff.2 h)
                  have hex : s.extract k (k + m) = tx ((l.take (k + m)).drop k) := HEX.out k (k + m)
                  have hsl := slice_str s k m n hsz hkm
                  rw [hex] at hsl
                  clear hex
                  have hqb : ((tx ((l.take (k + m)).drop k)).toList == (tx g).toList) = false := by rw [tx_toList (a := g), eq_bytes, decide_eq_false hq]
                  generalize (l.take (k + m)).drop k = q at *
                  have hkm2 : (k : Int) + (m : Int) ≤ (n : Int) := by omega
                  clear hmt hno hsg hml hg hm hc hbc hq
                  go_wp2_with (go_at_call 15; refine (HSG.out _).mono ?_; rintro e w3 ⟨rfl, hb3⟩; have HB3 := Lib.hid (HBR.out.trans (hb3.mono HBR.out.size)); clear hb3)
                  exact ⟨⟨j + 1, by omega, by go_num, HB3.out, .inl ⟨rfl, rfl, rfl, HX.out⟩⟩, by simp [intOf]; omega⟩
                · have hkm2 : (n : Int) < (k : Int) + (m : Int) := by omega
                  clear hmt hno hsg hml hg hm hc hbc
                  go_wp2_with (go_at_call 15; refine (HSG.out _).mono ?_; rintro e w3 ⟨rfl, hb3⟩; have HB3 := Lib.hid (HBR.out.trans (hb3.mono HBR.out.size)); clear hb3)
                  exact ⟨⟨j + 1, by omega, by go_num, HB3.out, .inl ⟨rfl, rfl, rfl, HX.out⟩⟩, by simp [intOf]; omega⟩
            · obtain rfl : j = 256 := by omega
              have hz : Hid (eget l = ([], false)) := by
                have h2 : l = acc.flatMap (sgn (allw l)) ++ l.drop k := by rw [← HALL.out, ← HTK.out, List.take_append_drop]
                refine eget_no H45.out h2 ?_ ?_
                · intro h3
                  have := congrArg List.length h3
                  rw [List.length_drop, ← HN.out] at this
                  simp at this
                  omega
                · intro c m h3
                  rw [← HALL.out] at h3
                  exact hno c c.toNat_lt ⟨m, h3⟩
              clear hno
              go_wp2
              go_ret2
              exact ⟨by rw [hz.out]; rfl, HBR.out⟩
          · have hml := sgn_len all c
            have hkm : k + (sgn all c).length ≤ n := by rw [HN.out]; exact mt_len hmt (by rw [← HN.out]; omega)
            have HNX : Hid (l.take (k + (sgn all c).length) = (acc ++ [c]).flatMap (sgn all)) := by
              obtain ⟨m, hm⟩ := hmt
              show _ = _
              rw [List.take_add, HTK.out, hm, List.take_left, List.flatMap_append]; simp
            obtain ⟨m, hm⟩ : ∃ m, m = (sgn all c).length := ⟨_, rfl⟩
            rw [← hm] at hml hkm HNX ⊢
            generalize acc ++ [c] = ac at *
            have hj0 : (0 : Int) ≤ (j : Int) := by omega
            clear hmt hm
            by_cases hj2 : j < 256
            · have hj1 : (j : Int) < 256 := by omega
              go_wp2
              exact ⟨⟨ac, k + m, rfl, by go_num, by rw [← HN.out]; omega, HNX.out, HBR.out⟩, by simp [intOf]; omega⟩
            · have hj1 : ¬ (j : Int) < 256 := by omega
              go_wp2
              exact ⟨⟨ac, k + m, rfl, by go_num, by rw [← HN.out]; omega, HNX.out, HBR.out⟩, by simp [intOf]; omega⟩
      · obtain rfl : k = n := by omega
        clear HI
        rw [List.take_of_length_le (by rw [← HN.out]; omega)] at HTK
        by_cases hae : acc = []
        · subst hae
          have hz : Hid (eget l = ([], false)) := by
            have h2 : l = [] := HTK.out.trans rfl
            rw [h2]; exact eget_nil
          have h3 : (tx []).toList.isEmpty = true := by rw [emp_bytes]; decide
          have h4 : (!(tx []).toList.isEmpty) = false := by rw [h3]; rfl
          generalize ht : tx [] = t at *
          have HT := Lib.hid ht
          clear ht
          go_wp2
          go_ret2
          exact ⟨by rw [hz.out, HT.out]; rfl, HB.out⟩
        · have hz : Hid (eget l = (acc, true)) := eget_yes H45.out hae (by rw [← HALL.out]; exact HTK.out)
          have h3 : (tx acc).toList.isEmpty = false := by rw [emp_bytes, decide_eq_false hae]
          have h4 : (!(tx acc).toList.isEmpty) = true := by rw [h3]; rfl
          generalize ht : tx acc = t at *
          have HT := Lib.hid ht
          clear ht hae
          go_wp2
          go_ret2
          exact ⟨by rw [hz.out, HT.out]; rfl, HB.out⟩

end Go.Proofs.Ytjjhbcijonjlhaa
