/- The document's Put of a text. -/
import Derived.Laws.Strings2
import Derived.Test.YthpnfdnhaphfgaaDoorEh
namespace Go.Proofs.YthpnfdnhaphfgaaDoor
open Go.RowKit

theorem slice_str (s : ByteArray) (k m n : Nat) (hs : s.size = n) (h : k + m ≤ n) (W : World) : (Instr.slice 9 (.string s) (some (.int .i64 (k : Int))) (some (.int .i64 ((k : Int) + (m : Int)))) none).run Tryd.prog W = .ok (.string (s.extract k (k + m))) W := by
  have h1 := run_slice_string (P := Tryd.prog) W 9 s .i64 .i64 (k : Int) ((k : Int) + (m : Int)) Tryd.underlying9 (by omega) (by omega) (by omega)
  rw [show (k : Int).toNat = k from by omega, show ((k : Int) + (m : Int)).toNat = k + m from by omega] at h1
  exact h1

def PRel (all : Bool) (l : List UInt8) (w : World) (v3 v4 : Value) (wr : World) : Prop :=
  ∃ i : Nat, i ≤ l.length ∧ v4 = .int .i64 (i : Int) ∧ v3 = .string (tx ((l.take i).flatMap (sgn all))) ∧ Below w.heap.size w wr

set_option maxRecDepth 100000 in
set_option maxHeartbeats 1000000 in
theorem rput_any (l : List UInt8) (hl : l.length ≤ 1000) (w : World) :
    Calls Tryd.prog 28 #[.string (tx l)] w fun e w' => e = .returned (.string (tx (eput l))) ∧ Below w.heap.size w w' := by
  by_cases h0 : l = []
  · subst h0
    have h1 : (tx []).toList.isEmpty = true := by rw [emp_bytes]; decide
    go_enter Tryd.func28, Tryd.ntmps28
    go_wp2
    go_ret
    exact ⟨rfl, Below.refl _ _⟩
  · have h1 : (tx l).toList.isEmpty = false := by rw [emp_bytes, decide_eq_false h0]
    obtain ⟨all, hall⟩ : ∃ all, all = decide (l = [45]) := ⟨_, rfl⟩
    have hall2 : ((tx l).toList == [45]) = all := by rw [eq_bytes, hall]
    have hfin : eput l = l.flatMap (sgn all) := by unfold eput; rw [if_neg h0, hall]
    have H0 : Hid (PRel all l w (.string { data := #[] }) (.int .i64 0) w) := ⟨0, by omega, rfl, rfl, Below.refl _ _⟩
    rw [hfin]
    obtain ⟨n, hn⟩ : ∃ n, n = l.length := ⟨_, rfl⟩
    have hsz : (tx l).size = n := by rw [tx_size, hn]
    have HN := Lib.hid hn
    have HAT := Lib.hid (fun i x h hp => tx_at l i x h hp)
    rw [← hn] at hl
    generalize hs : tx l = s at *
    clear hs hfin h0 hall hn
    go_enter Tryd.func28, Tryd.ntmps28
    go_wp2
    go_loopw [3, 4] (fun v3 v4 wr => PRel all l w v3 v4 wr) (fun _ v4 _ => n - (intOf v4).toNat)
    case atStart => exact H0.out
    case round =>
      obtain ⟨i, hi, rfl, rfl, hb⟩ := hrel
      clear H0
      rw [← HN.out] at hi
      have HB := Lib.hid hb
      by_cases hlt : i < n
      · obtain ⟨b, hbi⟩ : ∃ b, l[i]? = some b := ⟨_, List.getElem?_eq_getElem (by rw [← HN.out]; exact hlt)⟩
        have hk : i < s.size := by omega
        have hat := HAT.out i b hbi hk
        have hsn := flat_snoc (all := all) hbi
        have hl3 := flat_len3 all (l.take i)
        rw [List.length_take] at hl3
        have hsl := sgn_len all b
        have hadd := fun W : World => add_tx (P := Tryd.prog) W ((l.take i).flatMap (sgn all)) (sgn all b) (by omega)
        rw [← hsn] at hadd
        have HSG := Lib.hid (fun W => sign_any b all W)
        generalize sgn all b = g at *
        generalize hfa : (l.take i).flatMap (sgn all) = fa at *
        have hi0 : (0 : Int) ≤ (i : Int) := by omega
        have hi1 : (i : Int) < (n : Int) := by omega
        clear hsn hl3 hsl hbi hb HAT hfa
        have HX : Hid ((s[i].toNat : Int) = (b.toNat : Int)) := congrArg Int.ofNat hat
        clear hat
        go_wp2_with fail
        rw [HX.out]
        refine (HSG.out _).mono ?_
        rintro e w3 ⟨rfl, hb3⟩
        have HB3 := Lib.hid (HB.out.trans (hb3.mono HB.out.size))
        clear hb3
        go_wp2
        exact ⟨⟨i + 1, by rw [← HN.out]; omega, by go_num, rfl, HB3.out⟩, by simp [intOf]; omega⟩
      · obtain rfl : i = n := by omega
        rw [List.take_of_length_le (by rw [← HN.out]; omega)]
        obtain ⟨fa, hfa⟩ : ∃ fa, fa = l.flatMap (sgn all) := ⟨_, rfl⟩
        rw [← hfa]
        have HFA := Lib.hid hfa
        clear hb hfa
        go_wp2
        go_ret
        exact ⟨by rw [← HFA.out]; rfl, HB.out⟩

end Go.Proofs.YthpnfdnhaphfgaaDoor
