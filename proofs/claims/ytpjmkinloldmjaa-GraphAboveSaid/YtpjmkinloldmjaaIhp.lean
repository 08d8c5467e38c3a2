/- The document's Put of a text. -/
import Derived.Maps.OwnSet
import Derived.Lib.Hide
import Derived.Test.YtpjmkinloldmjaaItx
import Derived.Test.YtpjmkinloldmjaaIh0
import Derived.Test.YtpjmkinloldmjaaK2
import Derived.Test.YtpjmkinloldmjaaMw
namespace Go.Proofs.Ytpjmkinloldmjaa
open Go.RowKit

/-- A list that a call was handed, or has made: where it lies. -/
def Lis (w : World) (B : Nat) (v : Value) (l : List (List UInt8)) : Prop := ∃ A n c, v = .slice A n c ∧ n = l.length ∧ n ≤ c ∧ (A = none → c = 0) ∧ Reads w B 1 A n (l.map tsv)

theorem Lis.of_own {w : World} {base n : Nat} {e : TypeId} {v : Value} {l : List (List UInt8)} (h : w.ownsRow base e 1 v n (l.map tsv)) : Lis w w.heap.size v l := by
  obtain ⟨A, c, rfl, hn, hr⟩ := own_reads h
  refine ⟨A, n, c, rfl, by have := hr.1; simpa using this.symm, hn, fun e => ?_, hr⟩
  subst e
  rcases h.2 with ⟨h0, h00⟩ | ⟨g', cap, cur, hv, _⟩
  · injection h0
  · injection hv with hv _ _; cases hv

set_option maxRecDepth 100000 in
set_option maxHeartbeats 400000 in
theorem put_in (v : Value) (l : List (List UInt8)) (s : List UInt8) (hin : s ∈ l) (hn : l.length ≤ 1073741824) (w : World) (hl : Lis w w.heap.size v l) :
    Calls Try.prog 27 #[v, tsv s] w fun e w' => e = .returned v ∧ w = w' := by
  obtain ⟨A, n, c, rfl, hnl, _, _, hr⟩ := hl
  have HP := Lib.hid (place_any A n c l s (by omega) w hr)
  have hge : Hid (tplace l s = ((l.idxOf s : Nat) : Int)) := if_pos hin
  rw [hge.out] at HP
  clear hr hge hnl hin
  generalize l.idxOf s = k at HP
  unfold tsv at HP ⊢
  go_enter Try.func27, Try.ntmps27
  go_wp2_with (go_at_call 26; refine HP.out.mono ?_; rintro e w1 ⟨rfl, rfl⟩)
  go_ret
  exact ⟨rfl, rfl⟩

set_option maxRecDepth 100000 in
set_option maxHeartbeats 400000 in
theorem put_new (v : Value) (l : List (List UInt8)) (s : List UInt8) (hin : s ∉ l) (hn : l.length ≤ 1000000) (w : World) (hl : Lis w w.heap.size v l) :
    Calls Try.prog 27 #[v, tsv s] w fun e w' => ∃ v', e = .returned v' ∧ w'.ownsRow w.heap.size 9 1 v' (l.length + 1) ((l ++ [s]).map tsv) ∧ Below w.heap.size w w' := by
  obtain ⟨is, his, his0, his1, his2⟩ := info_parts tinfo
  obtain ⟨A, n, c, rfl, hnl, _, hA, hr⟩ := hl
  have HP := Lib.hid (place_any A n c l s (by omega) w hr)
  have hge : Hid (tplace l s = (-1 : Int)) := if_neg hin
  rw [hge.out] at HP
  have HR := Lib.hid hr
  have HA := Lib.hid hA
  have HNL := Lib.hid hnl
  have hn6 : n ≤ 1000000 := by omega
  clear hr hge hnl hin hn hA
  unfold tsv at HP ⊢
  have H1 := Lib.hid (own_empty w 9)
  have HB0 := Lib.hid ((Below.refl w.heap.size w).alloc (Nat.le_refl _) (.cells #[] 9))
  go_enter Try.func27, Try.ntmps27
  go_wp2_with (first
    | (go_at_call 26; refine HP.out.mono ?_; rintro e w1 ⟨rfl, rfl⟩)
    | (at_builtin; refine wpList_append_reads _ rfl (.tmp 10) (.tmp 11) 34 rfl w.heap.size 9 is (.string { data := #[] }) 16 Try.underlying34 his his0 his1 his2 rfl _ 0 [] rfl H1.out A n c w.heap.size (l.map tsv) rfl HA.out (HR.out.alloc (Nat.le_refl _) _) (by simp [Value.oneCell', tsv]) (by unfold maxLen; omega) (by omega) (by simp) ?_
       intro v2 w2 ho2 hg2
       rw [Nat.zero_add, List.nil_append] at ho2
       have HO2 := Lib.hid ho2
       have HG2 := Lib.hid hg2
       obtain ⟨A2, c2, rfl, hc2, -⟩ := own_reads ho2
       clear ho2 hg2)
    | (at_builtin; refine wpList_append_own _ rfl (.tmp 12) (.tmp 14) 34 rfl w.heap.size 9 is (.string { data := #[] }) 1 16 Try.underlying34 his his0 his1 his2 rfl (by decide) _ n _ rfl (HO2.out.alloc _) ⟨w2.heap.size, 0, none⟩ 1 1 [.string (tx s)] rfl rfl (cell_one_new _ _ _) (by simp [Value.oneCell']) (by unfold maxLen; omega) (by omega) (by have := HG2.out.size; simp at this; simp; omega) ?_
       intro v3 w3 ho3 hg3 _
       have HO3 := Lib.hid ho3
       have HG3 := Lib.hid hg3
       clear ho3 hg3))
  go_ret
  have h2 := HB0.out.grown HG2.out (by simp) (own_block H1.out)
  have h3 := (h2.alloc h2.size (.cells #[.string (tx s)] 9)).grown HG3.out (by have := h2.size; simp; omega) (own_block HO2.out)
  refine ⟨_, rfl, ?_, h3⟩
  have h4 := HO3.out
  rw [← HNL.out, List.map_append]
  exact h4

/-- A list that the document's functions have made. -/
def Own (w : World) (base : Nat) (v : Value) (l : List (List UInt8)) : Prop := w.ownsRow base 9 1 v l.length (l.map tsv)

theorem Own.below {w w' : World} {base : Nat} {v : Value} {l : List (List UInt8)} (h : Own w base v l) (hb : Below w.heap.size w w') : Own w' base v l := own_below h hb
theorem Own.lis {w : World} {base : Nat} {v : Value} {l : List (List UInt8)} (h : Own w base v l) : Lis w w.heap.size v l := Lis.of_own h
theorem Own.less {w : World} {base base' : Nat} {v : Value} {l : List (List UInt8)} (h : Own w base v l) (hb : base' ≤ base) : Own w base' v l := by
  obtain ⟨h1, h2 | ⟨g, cap, cur, hv, hbg, r⟩⟩ := h
  · exact ⟨h1, .inl h2⟩
  · exact ⟨h1, .inr ⟨g, cap, cur, hv, by omega, r⟩⟩

theorem iput_any (base : Nat) (v : Value) (l : List (List UInt8)) (s : List UInt8) (hn : l.length ≤ 1000000) (w : World) (hb : base ≤ w.heap.size) (hl : Own w base v l) :
    Calls Try.prog 27 #[v, tsv s] w fun e w' => ∃ v', e = .returned v' ∧ Own w' base v' (tput l s) ∧ (v' = v ∨ ∀ g, v'.ownBlock = some g → w.heap.size ≤ g) ∧ Below w.heap.size w w' := by
  by_cases hin : s ∈ l
  · refine (put_in v l s hin (by omega) w hl.lis).mono ?_
    rintro e w' ⟨rfl, rfl⟩
    exact ⟨v, rfl, by rw [tput_in hin]; exact hl, .inl rfl, Below.refl _ _⟩
  · refine (put_new v l s hin hn w hl.lis).mono ?_
    rintro e w' ⟨v', rfl, ho, hb'⟩
    have ho' : Own w' w.heap.size v' (l ++ [s]) := by unfold Own; rw [List.length_append]; exact ho
    exact ⟨v', rfl, by rw [tput_new hin]; exact ho'.less hb, .inr (own_block ho), hb'⟩

end Go.Proofs.Ytpjmkinloldmjaa
