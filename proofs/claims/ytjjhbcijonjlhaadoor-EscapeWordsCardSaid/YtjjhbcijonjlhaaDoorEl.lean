/- Lines: escape.Words and Join, and the document's. -/
import Derived.ChangeAgain
import Derived.Laws.Strings2
import Derived.Test.YtjjhbcijonjlhaaDoorSh
import Derived.Test.YtjjhbcijonjlhaaDoorEk
import Derived.Test.YtjjhbcijonjlhaaDoorEe
namespace Go.Proofs.YtjjhbcijonjlhaaDoor
open Go.RowKit

theorem tx_at (l : List UInt8) (i : Nat) (x : UInt8) (h : l[i]? = some x) (hp : i < (tx l).size) : ((tx l)[i]'hp).toNat = x.toNat := by
  obtain ⟨h1, h2⟩ := List.getElem?_eq_some_iff.1 h
  rw [← h2]
  rfl
theorem tx_extract (l : List UInt8) (a b : Nat) : (tx l).extract a b = tx ((l.take b).drop a) := by
  apply ByteArray.ext
  simp [tx, ByteArray.data_extract]
  rw [List.drop_take]

theorem shaped_below {P : Program} {w w' : World} (h : w.ShapedOpen P) (hb : Below w.heap.size w w') : w'.ShapedOpen P := h.keptBut (hb.frame (fun _ => False)) (fun _ hp => hp.elim)

theorem cell_spot {w : World} {a : Addr} {v : Value} (h : w.cell? a = some v) : a = ⟨a.block, a.off, none⟩ := by
  obtain ⟨b, o, s⟩ := a
  cases s with
  | none => rfl
  | some x =>
    unfold World.cell? at h
    split at h
    · simp at h
    · cases h

set_option maxRecDepth 100000 in
theorem ewords_any (l : List UInt8) (hl : l.length ≤ 1000000) (w : World) (hsh : w.ShapedOpen Tryd.prog) :
    Calls Tryd.prog 6 #[.string (tx l)] w fun e w' => ∃ v, e = .returned v ∧ w'.ownsRow w.heap.size 9 1 v (words l).length ((words l).map tsv) ∧ Below w.heap.size w w' := by
  have hsz : (tx l).size = l.length := tx_size l
  obtain ⟨hs1, hs2⟩ := split_words { data := #[32] } rfl l.length l (Nat.le_refl _)
  have hwl := words_len l.length l (Nat.le_refl _)
  have hc := Tryd.strings_Split_shaped (tx l) { data := #[32] } w hsh (by omega) (by decide)
  rw [hs1, hs2] at hc
  have hown : (w.alloc (.cells ((words l).map tsv).toArray 9)).ownsRow w.heap.size 9 1 (.slice (some ⟨w.heap.size, 0, none⟩) (words l).length (words l).length) (words l).length ((words l).map tsv) :=
    ownsRow_of_block (Nat.le_refl _) (one_new w _) (Nat.le_refl _) (by unfold maxLen; omega) (by simp) (List.take_of_length_le (by simp))
  have HOWN := Lib.hid hown
  have HC := Lib.hid hc
  clear hc hown hs1 hs2 hwl
  generalize tx l = s at *
  go_enter Tryd.func6, Tryd.ntmps6
  go_wp2_with fail
  refine HC.out.mono ?_
  rintro e w3 ⟨rfl, rfl⟩
  go_wp2
  go_ret
  exact ⟨_, rfl, HOWN.out, (Below.refl _ _).alloc (Nat.le_refl _) _⟩

theorem joinw_data (xs : List (List UInt8)) : Lib.join ((xs.map tx).map (·.data.toList)) ({ data := #[32] } : ByteArray).data.toList = joinw xs := by
  unfold joinw
  congr 1
  rw [List.map_map]
  conv => rhs; rw [← List.map_id xs]
  apply List.map_congr_left
  intro a _
  simp [tx]

set_option maxRecDepth 100000 in
theorem ejoin_any (L : Option Addr) (n c : Nat) (ws : List (List UInt8)) (hc : n ≤ c) (hn : n ≤ 1000000) (hj : (joinw ws).length ≤ 100000000) (w : World) (hr : Reads w w.heap.size 1 L n (ws.map tsv)) :
    Calls Tryd.prog 9 #[.slice L n c] w fun e w' => e = .returned (.string (tx (joinw ws))) ∧ Below w.heap.size w w' := by
  have hln : ws.length = n := by have := hr.1; simpa using this
  have H : Hid (Calls Tryd.prog 15 #[.slice L n c, .string { data := #[32] }] w fun e w' => e = .returned (.string (tx (joinw ws))) ∧ Below w.heap.size w w') := by
    by_cases h0 : n = 0
    · subst h0
      have : ws = [] := List.eq_nil_of_length_eq_zero hln
      subst this
      refine (Tryd.strings_Join_none L c { data := #[32] } w).mono ?_
      rintro e w' ⟨rfl, rfl⟩
      exact ⟨rfl, Below.refl _ _⟩
    · obtain ⟨ad, rfl, hlt, hcell⟩ := hr.2 (by omega)
      obtain ⟨x0, hx0⟩ : ∃ x0, ws[0]? = some x0 := ⟨_, List.getElem?_eq_getElem (by omega)⟩
      have hsp := cell_spot (show w.cell? ad = some (tsv x0) from by
        have := hcell 0 (tsv x0) (by rw [List.getElem?_map, hx0]; rfl)
        simpa [Addr.add] using this)
      obtain ⟨bk, o, sp⟩ := ad
      have hsp2 : sp = none := congrArg Addr.spot hsp
      subst hsp2
      have h2 := Tryd.strings_Join bk o c (ws.map tx) { data := #[32] } w (fun j x hx => by
        rw [List.getElem?_map] at hx
        obtain ⟨y, hy, rfl⟩ := Option.map_eq_some_iff.1 hx
        have := hcell j (tsv y) (by rw [List.getElem?_map, hy]; rfl)
        rw [show (⟨bk, o, none⟩ : Addr).add j = ⟨bk, o + j, none⟩ from by unfold Addr.add; split <;> simp_all] at this
        exact this) hlt (by simp; omega) (by simp; omega) (by rw [joinw_data]; omega)
      rw [joinw_data, List.length_map, hln] at h2
      exact h2
  clear hr
  go_enter Tryd.func9, Tryd.ntmps9
  go_wp2_with fail
  refine H.out.mono ?_
  rintro e w3 ⟨rfl, hb⟩
  go_wp2
  go_ret
  exact ⟨rfl, hb⟩

theorem take_drop_snoc {l : List UInt8} {f i : Nat} {b : UInt8} (h : l[i]? = some b) (hf : f ≤ i) : (l.drop f).take (i + 1 - f) = (l.drop f).take (i - f) ++ [b] := by
  rw [show i + 1 - f = (i - f) + 1 by omega, List.take_add_one, List.getElem?_drop, show f + (i - f) = i by omega, h]
  rfl
theorem drop_split {l : List UInt8} {f i : Nat} {b : UInt8} (h : l[i]? = some b) (hf : f ≤ i) : l.drop f = (l.drop f).take (i - f) ++ b :: l.drop (i + 1) := by
  conv => lhs; rw [← List.take_append_drop (i - f) (l.drop f)]
  congr 1
  rw [List.drop_drop, show f + (i - f) = i by omega]
  obtain ⟨h1, h2⟩ := List.getElem?_eq_some_iff.1 h
  rw [List.drop_eq_getElem_cons h1, h2]

/-- At a round of the document's Words. -/
def LRel (l : List UInt8) (w : World) (v3 v4 v5 : Value) (wr : World) : Prop :=
  ∃ (i f : Nat) (D : List (List UInt8)) (a3 : Value), a3 = v3 ∧ v4 = .int .i64 (f : Int) ∧ v5 = .int .i64 (i : Int) ∧ f ≤ i ∧ i ≤ l.length ∧ wr.ownsRow w.heap.size 9 1 a3 D.length (D.map tsv) ∧ words l = D ++ words (l.drop f) ∧ (∀ b ∈ (l.drop f).take (i - f), b ≠ 32) ∧ D.length ≤ i ∧ Below w.heap.size w wr

theorem winfo : (Tryd.prog.info? 9).map (fun i => (i.zero, i.size, i.bytes)) = some (some (.string { data := #[] }), 1, 16) := by kernel_rfl

set_option maxRecDepth 100000 in
set_option maxHeartbeats 1000000 in
theorem rwords_any (l : List UInt8) (hl : l.length ≤ 1000000) (w : World) :
    Calls Tryd.prog 8 #[.string (tx l)] w fun e w' => ∃ v, e = .returned v ∧ w'.ownsRow w.heap.size 9 1 v (words l).length ((words l).map tsv) ∧ Below w.heap.size w w' := by
  obtain ⟨i0, ii0, iz0, iz1, iz2⟩ := info_parts winfo
  obtain ⟨n, hn⟩ : ∃ n, n = l.length := ⟨_, rfl⟩
  have hsz : (tx l).size = n := by rw [tx_size, hn]
  have HN := Lib.hid hn
  have HAT := Lib.hid (fun i x h hp => tx_at l i x h hp)
  have HEX := Lib.hid (fun a b => tx_extract l a b)
  have H0 : Hid (LRel l w (.slice (some ⟨w.heap.size, 0, none⟩) 0 0) (.int .i64 0) (.int .i64 0) (w.alloc (.cells #[] 9))) := ⟨0, 0, [], _, rfl, rfl, rfl, Nat.le_refl _, Nat.zero_le _, own_empty w _, rfl, by simp, Nat.le_refl _, (Below.refl _ _).alloc (Nat.le_refl _) _⟩
  rw [← hn] at hl
  generalize tx l = s at *
  clear hn
  go_enter Tryd.func8, Tryd.ntmps8
  go_wp2
  go_loopw [3, 4, 5] (fun v3 v4 v5 wr => LRel l w v3 v4 v5 wr) (fun _ _ v5 _ => n - (intOf v5).toNat)
  case atStart => exact H0.out
  case round =>
    obtain ⟨i, f, D, a3, rfl, rfl, rfl, hfi, hi, hown, hwd, hno, hdl, hb⟩ := hrel
    clear H0
    rw [← HN.out] at hi
    have HOWN := Lib.hid hown
    have HWD := Lib.hid hwd
    have HNO := Lib.hid hno
    have HB := Lib.hid hb
    obtain ⟨A3, c3, rfl, _⟩ := own_slice hown
    clear hwd hno hb hown
    by_cases hlt : i < n
    · obtain ⟨b, hbi⟩ : ∃ b, l[i]? = some b := ⟨_, List.getElem?_eq_getElem (by rw [← HN.out]; exact hlt)⟩
      have hk : i < s.size := by omega
      have hat := HAT.out i b hbi hk
      have hi0 : (0 : Int) ≤ (i : Int) := by omega
      have hi1 : (i : Int) < (n : Int) := by omega
      have hf0 : (0 : Int) ≤ (f : Int) := by omega
      have hf1 : (f : Int) ≤ (i : Int) := by omega
      have HBI := Lib.hid hbi
      have HX : (s[i].toNat : Int) = (b.toNat : Int) := congrArg Int.ofNat hat
      by_cases hb32 : b = 32
      · subst hb32
        have d32 : ((s[i].toNat : Int) == 32) = true := by rw [HX]; rfl
        have hsl : ∀ W, (Instr.slice 9 (.string s) (some (.int .i64 (f : Int))) (some (.int .i64 (i : Int))) none).run Tryd.prog W = .ok (.string (tx ((l.drop f).take (i - f)))) W := fun W => by
          have h1 := run_slice_string (P := Tryd.prog) W 9 s .i64 .i64 (f : Int) (i : Int) Tryd.underlying9 (by omega) (by omega) (by omega)
          rw [Int.toNat_natCast, Int.toNat_natCast, HEX.out, List.drop_take] at h1
          exact h1
        obtain ⟨p, hp⟩ : ∃ p, p = (l.drop f).take (i - f) := ⟨_, rfl⟩
        rw [← hp] at hsl HNO
        have HWN : Hid (words l = (D ++ [p]) ++ words (l.drop (i + 1))) := by
          show _ = _
          rw [HWD.out, drop_split HBI.out hfi, ← hp, words_hit p _ HNO.out]; simp
        have HO2 := Lib.hid (World.ownsRow.alloc HOWN.out (.cells #[.string (tx p)] 9))
        have HR2 := Lib.hid (reads_one_row wr 9 (.string (tx p)))
        have HB2 := Lib.hid (HB.out.alloc HB.out.size (.cells #[.string (tx p)] 9))
        obtain ⟨nd, hnd⟩ : ∃ nd, nd = D.length := ⟨_, rfl⟩
        have HND := Lib.hid hnd
        rw [← hnd] at HO2 hdl ⊢
        clear hbi hat HX hp hnd
        go_wp2_with (at_builtin; refine wpList_append_told _ rfl (.tmp 17) (.tmp 22) 22 rfl w.heap.size 9 i0 _ 1 16 Tryd.underlying22 ii0 iz0 iz1 iz2 rfl (by decide) _ nd _ rfl HO2.out (some ⟨wr.heap.size, 0, none⟩) 1 1 (wr.heap.size + 1) [.string (tx p)] rfl (by simp) HR2.out (fun u hu => by obtain rfl := List.mem_singleton.1 hu; rfl) (by unfold maxLen; omega) (by omega) HB2.out.size ?_; intro v6 w6 ho6 hg6 hv6; have HO6 := Lib.hid ho6; have HB6 := Lib.hid (HB2.out.grown hg6 HB2.out.size (own_block HO2.out)); clear ho6 hg6 hv6)
        exact ⟨⟨i + 1, i + 1, D ++ [p], _, rfl, by go_num, by go_num, Nat.le_refl _, by rw [← HN.out]; omega, by rw [List.length_append, List.map_append, ← HND.out]; exact HO6.out, HWN.out, by simp, by rw [List.length_append, ← HND.out]; simp; omega, HB6.out⟩, by simp [intOf]; omega⟩
      · have d32 : ((s[i].toNat : Int) == 32) = false := by
          rw [HX, beq_eq_false_iff_ne]
          intro h
          apply hb32
          apply UInt8.toNat_inj.1
          show b.toNat = 32
          omega
        have HN2 : Hid (∀ x ∈ (l.drop f).take (i + 1 - f), x ≠ 32) := fun x hx => by
          rw [take_drop_snoc HBI.out hfi, List.mem_append] at hx
          rcases hx with hx | hx
          · exact HNO.out x hx
          · obtain rfl := List.mem_singleton.1 hx
            exact hb32
        clear hbi hat HX
        go_wp2
        exact ⟨⟨i + 1, f, D, _, rfl, rfl, by go_num, by omega, by rw [← HN.out]; omega, HOWN.out, HWD.out, HN2.out, by omega, HB.out⟩, by simp [intOf]; omega⟩
    · obtain rfl : i = n := by omega
      have hi0 : (0 : Int) ≤ (i : Int) := by omega
      have hf0 : (0 : Int) ≤ (f : Int) := by omega
      have hf1 : (f : Int) ≤ (i : Int) := by omega
      have hex : s.extract f i = tx (l.drop f) := by rw [HEX.out, List.take_of_length_le (by rw [HN.out]; exact Nat.le_refl _)]
      obtain ⟨p, hp⟩ : ∃ p, p = l.drop f := ⟨_, rfl⟩
      rw [← hp] at hex
      have HWN : Hid (words l = D ++ [p]) := by
        show _ = _
        have h1 : (l.drop f).take (i - f) = l.drop f := List.take_of_length_le (by rw [List.length_drop, ← HN.out]; exact Nat.le_refl _)
        rw [HWD.out, ← hp, words_miss p (by have h2 := HNO.out; rw [h1, ← hp] at h2; exact h2)]
      have HO2 := Lib.hid (World.ownsRow.alloc HOWN.out (.cells #[.string (tx p)] 9))
      have HR2 := Lib.hid (reads_one_row wr 9 (.string (tx p)))
      have HB2 := Lib.hid (HB.out.alloc HB.out.size (.cells #[.string (tx p)] 9))
      obtain ⟨nd, hnd⟩ : ∃ nd, nd = D.length := ⟨_, rfl⟩
      have HND := Lib.hid hnd
      rw [← hnd] at HO2 hdl ⊢
      clear hp hnd
      go_wp2_with (at_builtin; refine wpList_append_told _ rfl (.tmp 26) (.tmp 30) 22 rfl w.heap.size 9 i0 _ 1 16 Tryd.underlying22 ii0 iz0 iz1 iz2 rfl (by decide) _ nd _ rfl HO2.out (some ⟨wr.heap.size, 0, none⟩) 1 1 (wr.heap.size + 1) [.string (tx p)] rfl (by simp) HR2.out (fun u hu => by obtain rfl := List.mem_singleton.1 hu; rfl) (by unfold maxLen; omega) (by omega) HB2.out.size ?_; intro v6 w6 ho6 hg6 hv6; have HO6 := Lib.hid ho6; have HB6 := Lib.hid (HB2.out.grown hg6 HB2.out.size (own_block HO2.out)); clear ho6 hg6 hv6)
      go_ret
      exact ⟨_, rfl, by rw [HWN.out, List.length_append, List.map_append, ← HND.out]; exact HO6.out, HB6.out⟩

theorem joinw_snoc : ∀ (ws : List (List UInt8)) (a : List UInt8), ws ≠ [] → joinw (ws ++ [a]) = joinw ws ++ 32 :: a
  | [], a, h => absurd rfl h
  | [b], a, _ => by
    show joinw (b :: [a]) = _
    rw [joinw_cons b [a] (by simp), joinw_one, joinw_one]
  | b :: c :: ws, a, _ => by
    show joinw (b :: ((c :: ws) ++ [a])) = _
    rw [joinw_cons b _ (by simp), joinw_snoc (c :: ws) a (by simp), joinw_cons b (c :: ws) (by simp)]
    simp
theorem joinw_take : ∀ (ws : List (List UInt8)), (∀ x ∈ ws, x.length ≤ 2000) → (joinw ws).length ≤ 2001 * ws.length
  | [], _ => by simp [joinw_nil]
  | [a], h => by rw [joinw_one]; have := h a (by simp); simp; omega
  | a :: b :: ws, h => by
    have h1 := joinw_take (b :: ws) (fun x hx => h x (by simp [hx]))
    have h2 := h a (by simp)
    rw [joinw_cons a (b :: ws) (by simp), List.length_append, List.length_cons, List.length_cons]
    omega

def JRel (ws : List (List UInt8)) (w : World) (v3 v4 : Value) (wr : World) : Prop :=
  ∃ i : Nat, i ≤ ws.length ∧ v4 = .int .i64 (i : Int) ∧ v3 = .string (tx (joinw (ws.take i))) ∧ w = wr

set_option maxRecDepth 100000 in
set_option maxHeartbeats 1000000 in
theorem rjoin_any (L : Option Addr) (n c : Nat) (ws : List (List UInt8)) (hn : n ≤ 1000) (hx : ∀ x ∈ ws, x.length ≤ 2000) (w : World) (hr : Reads w w.heap.size 1 L n (ws.map tsv)) :
    Calls Tryd.prog 10 #[.slice L n c] w fun e w' => e = .returned (.string (tx (joinw ws))) ∧ w = w' := by
  have HL : Hid (ws.length = n) := by have := hr.1; show _ = _; simpa using this
  have HR := Lib.hid hr
  have HX := Lib.hid hx
  clear hr hx
  go_enter Tryd.func10, Tryd.ntmps10
  go_wp2
  go_loopw [3, 4] (fun v3 v4 wr => JRel ws w v3 v4 wr) (fun _ v4 _ => n - (intOf v4).toNat)
  case atStart => exact ⟨0, by omega, rfl, rfl, by trivial⟩
  case round =>
    obtain ⟨i, hi, rfl, rfl, rfl⟩ := hrel
    rw [HL.out] at hi
    by_cases hlt : i < n
    · obtain ⟨x, hxi⟩ : ∃ x, ws[i]? = some x := ⟨_, List.getElem?_eq_getElem (by rw [HL.out]; exact hlt)⟩
      obtain ⟨ad, rfl, _, hcx⟩ := HR.out.2 (by omega)
      have k0 := hcx i (tsv x) (by rw [List.getElem?_map, hxi]; rfl)
      unfold tsv at k0
      have hxl := HX.out x (List.mem_of_getElem? hxi)
      have hjl := joinw_take (ws.take i) (fun y hy => HX.out y (List.mem_of_mem_take hy))
      rw [List.length_take, HL.out] at hjl
      have hst : ws.take (i + 1) = ws.take i ++ [x] := by rw [List.take_add_one, hxi]; rfl
      have hi0 : (0 : Int) ≤ (i : Int) := by omega
      have hi1 : (i : Int) < (n : Int) := by omega
      have hjl2 : (joinw (ws.take i)).length ≤ 3000000 := by have : min i n ≤ 1000 := by omega
                                                             omega
      by_cases h0 : i = 0
      · subst h0
        have hfin : joinw (ws.take (0 + 1)) = x := by rw [hst]; exact joinw_one x
        have hadd := fun W : World => add_tx (P := Tryd.prog) W [] x (by simp; omega)
        have hadd2 : ∀ W : World, (Op.stringOp .add (tx (joinw (ws.take 0))) (tx x)).run Tryd.prog W = .ok (.string (tx x)) W := hadd
        obtain ⟨j0, hj0⟩ : ∃ j0, j0 = joinw (ws.take 0) := ⟨_, rfl⟩
        rw [← hj0] at hadd2 ⊢
        have HF := Lib.hid hfin
        have k0' : w.cell? ad = some (.string (tx x)) := by simpa [Addr.add] using k0
        clear hxi hcx hst hadd hfin hj0
        go_wp2
        exact ⟨⟨1, by rw [HL.out]; omega, rfl, by rw [HF.out], by trivial⟩, by simp [intOf]; omega⟩
      · have hne : ws.take i ≠ [] := fun h => by
          have := congrArg List.length h
          rw [List.length_take, HL.out] at this
          simp at this
          omega
        have hfin : joinw (ws.take (i + 1)) = joinw (ws.take i) ++ 32 :: x := by rw [hst]; exact joinw_snoc _ _ hne
        obtain ⟨j0, hj0⟩ : ∃ j0, j0 = joinw (ws.take i) := ⟨_, rfl⟩
        rw [← hj0] at hfin hjl2 ⊢
        have hadd1 : ∀ W : World, (Op.stringOp .add (tx j0) { data := #[32] }).run Tryd.prog W = .ok (.string (tx (j0 ++ [32]))) W := fun W => add_tx W j0 [32] (by simp; omega)
        obtain ⟨j1, hj1⟩ : ∃ j1, j1 = j0 ++ [32] := ⟨_, rfl⟩
        rw [← hj1] at hadd1
        have hadd2 := fun W : World => add_tx (P := Tryd.prog) W j1 x (by rw [hj1]; simp; omega)
        obtain ⟨j2, hj2⟩ : ∃ j2, j2 = j1 ++ x := ⟨_, rfl⟩
        rw [← hj2] at hadd2
        have HF : Hid (joinw (ws.take (i + 1)) = j2) := by show _ = _; rw [hfin, hj2, hj1]; simp
        have hipos : (0 : Int) < (i : Int) := by omega
        clear hxi hcx hst hfin hj0 hj1 hj2 hjl
        go_wp2
        exact ⟨⟨i + 1, by rw [HL.out]; omega, by go_num, by rw [HF.out], by trivial⟩, by simp [intOf]; omega⟩
    · obtain rfl : i = n := by omega
      rw [List.take_of_length_le (by rw [HL.out]; exact Nat.le_refl _)]
      obtain ⟨j0, hj0⟩ : ∃ j0, j0 = joinw ws := ⟨_, rfl⟩
      rw [← hj0]
      have HJ := Lib.hid hj0
      clear hj0
      go_wp2
      go_ret
      exact ⟨by rw [← HJ.out]; rfl, rfl⟩

end Go.Proofs.YtjjhbcijonjlhaaDoor
