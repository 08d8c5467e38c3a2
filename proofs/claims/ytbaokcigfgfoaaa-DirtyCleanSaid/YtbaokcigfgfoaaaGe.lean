/- A map's values, by their keys rising. -/
import Derived.Test.YtbaokcigfgfoaaaGd
import Derived.Maps.RangeWalk
import Derived.Sort.OwnSorted
import Derived.Deep.MidRow
namespace Go.Proofs.Ytbaokcigfgfoaaa
open Go.RowKit Go.Maps Go.ChangeMaps Go.WideMaps Go.Sort

/-- The library's sort, of texts. -/
def SortP : Prop := ∀ (blk off cap : Nat) (ss : List (List UInt8)) (w : World), Holds encStr w blk off ss.toArray → blk < w.heap.size → ss.length < 4611686018427387904 →
  Calls Try.prog 40 #[.slice (some ⟨blk, off, none⟩) ss.length cap] w fun e w' =>
      e = .returned (.tuple #[]) ∧ ∃ n os, w' = grow (putRow encStr (Sort.ahead w n) blk off (ss.mergeSort fun x y => decide (x ≤ y)).toArray) os

theorem gtinfo : (Try.prog.info? 9).map (fun i => (i.zero, i.size, i.bytes)) = some (some (.string ⟨#[]⟩), 1, 16) := by kernel_rfl
theorem grinfo : (Try.prog.info? 36).map (fun i => (i.zero, i.size, i.bytes)) = some (some (.agg #[.int .i64 0, .string { data := #[] }, .int .u64 0, .slice none 0 0, .int .u64 0, .int .u64 0, .string { data := #[] }]), 7, 88) := by kernel_rfl

/-- Values written into a row from a place on. -/
def lput (xs : List Value) : Nat → List Value → List Value
  | _, [] => xs
  | o, v :: vs => lput (xs.set o v) (o + 1) vs
theorem lput_eq : ∀ (vs xs : List Value) (o : Nat), o + vs.length ≤ xs.length → lput xs o vs = xs.take o ++ (vs ++ xs.drop (o + vs.length))
  | [], xs, o, _ => by simp [lput]
  | v :: vs, xs, o, h => by
    have ho : o < xs.length := by simp at h; omega
    rw [lput, lput_eq vs (xs.set o v) (o + 1) (by simp at h ⊢; omega)]
    rw [List.take_set, List.drop_set_of_lt (by omega), List.take_add_one, List.getElem?_eq_getElem ho, List.length_cons, show o + 1 + vs.length = o + (vs.length + 1) by omega]
    rw [List.set_append_right _ _ (by simp; omega)]
    simp [Nat.min_eq_left (Nat.le_of_lt ho)]
theorem own_setCells {base size g n cap : Nat} {e : TypeId} : ∀ (vs xs : List Value) (o : Nat) (w : World), w.ownsRow base e size (.slice (some ⟨g, 0, none⟩) n cap) n xs →
    (w.setCells g o vs).ownsRow base e size (.slice (some ⟨g, 0, none⟩) n cap) n (lput xs o vs) ∧ w.grownBy (w.setCells g o vs) (some g)
  | [], xs, o, w, h => ⟨h, World.grownBy.refl w _⟩
  | v :: vs, xs, o, w, h => by
    obtain ⟨h1, h2⟩ := h.stored o v
    obtain ⟨h3, h4⟩ := own_setCells vs (xs.set o v) (o + 1) _ h1
    exact ⟨h3, h2.andThen h4 (fun j hj => .inr hj)⟩
theorem own_there {w : World} {base size g n cap : Nat} {e : TypeId} {xs : List Value} (h : w.ownsRow base e size (.slice (some ⟨g, 0, none⟩) n cap) n xs) (o m : Nat) (ho : o + m ≤ xs.length) : w.there g o m := fun j hj => by
  have h1 := h.cells (g := g) rfl (o + j) xs[o + j] (List.getElem?_eq_getElem (by omega))
  rw [Addr.add_mid, Nat.zero_add] at h1
  exact ⟨by rw [h1]; rfl, h.frozenAt _⟩
theorem own_cell {w : World} {base size g n cap : Nat} {e : TypeId} {xs : List Value} {u : Value} (h : w.ownsRow base e size (.slice (some ⟨g, 0, none⟩) n cap) n xs) (j : Nat) (hu : xs[j]? = some u) : w.cell? ⟨g, j, none⟩ = some u := by
  have h1 := h.cells (g := g) rfl j u hu
  rwa [Addr.add_mid, Nat.zero_add] at h1
/-- One more of a row of records is laid. -/
theorem rws_laid {S : List Rw} {cs : List Value} {i : Nat} {x : Rw} (hx : S[i]? = some x) (hl : cs.length = S.length * 7) (h : cs.take (i * 7) = rws (S.take i)) : (lput cs (i * 7) x.cells).take ((i + 1) * 7) = rws (S.take (i + 1)) := by
  have hi := (List.getElem?_eq_some_iff.1 hx).1
  rw [lput_eq _ _ _ (by rw [cells_len]; omega), ← List.append_assoc, List.take_append_of_le_length (by rw [List.length_append, cells_len, List.length_take]; omega), List.take_of_length_le (by rw [List.length_append, cells_len, List.length_take]; omega), h, List.take_add_one, hx, rws_app]
  simp [rws_cons, rws_nil]

theorem gzero (w : World) : (zeroValue 36).run Try.prog w = .ok (.agg #[.int .i64 0, .string { data := #[] }, .int .u64 0, .slice none 0 0, .int .u64 0, .int .u64 0, .string { data := #[] }]) w := Try.zeroValue36 w

set_option maxRecDepth 100000 in
set_option maxHeartbeats 1000000 in
theorem values_any (hsort : SortP) (b N : Nat) (hN : N ≤ 1000000) (S : List Rw) (hf : ∀ x ∈ S, x.t.length ≤ maxLen) (w : World) (h : RMap w b N S) :
    Calls Try.prog 36 #[.map (some b)] w fun e w' => ∃ g, e = .returned (.slice (some ⟨g, 0, none⟩) S.length S.length) ∧ w'.ownsRow w.heap.size 36 7 (.slice (some ⟨g, 0, none⟩) S.length S.length) S.length (rws S) ∧ Below w.heap.size w w' := by
  obtain ⟨i0, hi, hz0, hz1, hz2⟩ := info_parts gtinfo
  obtain ⟨D0, hown, hmo⟩ := h
  have hsz := hown.size_le
  have hbl := hown.lt
  have HMO := Lib.hid hmo
  have HF := Lib.hid hf
  clear hmo hf
  go_enter Try.func36, Try.ntmps36
  go_wp2_with (first
    | (at_len; refine wpList_len_own _ rfl _ 63 rfl 9 36 Try.underlying63 _ b N _ rfl hown ?_)
    | (at_make; refine wpList_make_own _ rfl _ _ 23 rfl w.heap.size 9 i0 (.string ⟨#[]⟩) 1 Try.underlying23 hi hz0 hz1 _ _ _ (Maps.size D0) rfl rfl rfl (by rw [hz2]; omega) (by unfold maxLen; omega) (Nat.le_refl _) ?_; intro w1 hrow1 hg1)
    | (at_range; refine wpList_range_own _ rfl _ 63 rfl 9 36 gkey Try.underlying63 _ b N _ rfl (hown.kept hg1 (by simp)) ?_; intro w0 hrg0 hg0 hs0))
  go_frame
  go_loopw [3] (fun v wr => ∃ (left : Lit → Bool) (cnt : Nat) (ss : List (List UInt8)), wr.ranges Try.prog 9 selfElem b w1.heap.size N D0 left cnt ∧ ss.length + cnt ≤ Maps.size D0 ∧
      wr.ownsRow w.heap.size 9 1 v ss.length (ss.map encStr) ∧ v ≠ .slice none 0 0 ∧ Collected D0 left ss ∧ Below w.heap.size w wr)
    (fun _ wr => wr.rangeLeft b w1.heap.size)
  case atStart =>
    exact ⟨_, _, [], hrg0, by simp, hrow1.kept hg0 (Or.inr (by simp [Value.ownBlock])), by simp, Collected.start D0,
      ((Below.refl _ _).grown hg1 (Nat.le_refl _) (fun j hj => by cases hj)).grown hg0 hg1.size (fun j hj => by cases hj)⟩
  case round =>
    obtain ⟨left, cnt, ss, hrg, hcs, hrow, hnn, hC, hnx⟩ := hrel
    go_wp2_with (at_next; refine wpList_next_ranges _ rfl _ rfl 9 gkey selfElem encStr (fun v : Value => v) (fun key kl hk => by obtain ⟨x, hx, _⟩ := Maps.keyOf_str Try.underlying9 hk; exact ⟨x, hx⟩) (fun v y _ => ⟨v, rfl⟩) b w1.heap.size N _ _ _ rfl hrg ?_ ?_)
    · intro hc0 hl0
      rcases hrow.2 with ⟨hnil, _⟩ | ⟨g, cap, cur, rfl, hbase, hb, h1, h2, h3, h4⟩
      · exact absurd hnil hnn
      have hH : Holds encStr wr g 0 ss.toArray := holds_of_block hb (by simpa using h4)
      have hgl : g < wr.heap.size := (Array.getElem?_eq_some_iff.1 hb).1
      have hc := hsort g 0 cap ss wr hH hgl (by omega)
      have hso := HMO.out.sorted hC hl0
      have hmw := hrg.owns
      have hlen : ss.length = S.length := by
        have := congrArg List.length hso
        simpa using this
      obtain ⟨ir, hir, hrz0, hrz1, hrz2⟩ := info_parts grinfo
      have hgb : b < g := by omega
      have H8 : ∀ w2 nn os, w2 = grow (putRow encStr (Sort.ahead wr nn) g 0 (ss.mergeSort fun x y => decide (x ≤ y)).toArray) os → w2.ownsRow w.heap.size 9 1 (.slice (some ⟨g, 0, none⟩) ss.length cap) ss.length ((S.map Rw.t).map encStr) ∧ wr.grownBy w2 (some g) := fun w2 nn os e => by
        subst e
        refine ⟨?_, grownBy_sorted _⟩
        rw [← hso]
        exact ownsRow_sorted (by simp) hbase hb h1 h2 h3
      have H9 := Lib.hid H8
      have HNX := Lib.hid hnx
      have HMW := Lib.hid hmw
      have HC := Lib.hid hc
      generalize hn : ss.length = n at H9 HC hlen h1 hcs ⊢
      have HLEN := Lib.hid hlen
      have hn1 : n ≤ 1000000 := by omega
      clear H8 hso hb hH h2 h3 h4 hrow hC hrg hcs hnn hnx hmw hc hl0 hc0 hlen hn hrow1 hown
      go_wp2_with (first
        | (go_at_call 40; refine HC.out.mono ?_; rintro e w2 ⟨rfl, nn, os, hw2⟩; obtain ⟨hk2, hg2⟩ := H9.out w2 nn os hw2; have HK2 := Lib.hid hk2; have HM2 := Lib.hid (HMW.out.kept hg2 (by simp; omega)); have HB2 := Lib.hid (HNX.out.grown hg2 HNX.out.size (fun j hj => by cases hj; exact hbase)); have hgl2 := hk2.lt g rfl; clear hw2 hk2 hg2)
        | (at_make; refine wpList_make_full _ rfl _ _ 26 rfl w.heap.size 36 ir _ 7 Try.underlying26 hir hrz0 hrz1 _ _ _ _ n rfl rfl rfl rfl (by rw [hrz2]; omega) (by unfold maxLen; omega) HB2.out.size ?_; intro w3 hrow3 hg3))
      have HR3 := Lib.hid hrow3
      have HK3 := Lib.hid (HK2.out.kept hg3 (.inr (by simp [Value.ownBlock])))
      have HM3 := Lib.hid (HM2.out.kept hg3 (by simp))
      have HB3 := Lib.hid (HB2.out.grown hg3 HB2.out.size (fun j hj => by cases hj))
      have hl3 : (madeCells (Value.agg #[.int .i64 0, .string { data := #[] }, .int .u64 0, .slice none 0 0, .int .u64 0, .int .u64 0, .string { data := #[] }]).cells (n * 7)).toList.length = n * 7 := hrow3.1
      have hg22 : g < w2.heap.size := hgl2.2
      generalize (madeCells (Value.agg #[.int .i64 0, .string { data := #[] }, .int .u64 0, .slice none 0 0, .int .u64 0, .int .u64 0, .string { data := #[] }]).cells (n * 7)).toList = cs0 at *
      generalize w2.heap.size = g2 at *
      clear hrow3 hg3 hgl2
      go_loopw [28] (fun idx wr => ∃ (i : Nat) (cs : List Value), i ≤ n ∧ idx = .int .i64 (i : Int) ∧ wr.ownsRow w.heap.size 36 7 (.slice (some ⟨g2, 0, none⟩) n n) n cs ∧ cs.take (i * 7) = rws (S.take i) ∧ wr.ownsRow w.heap.size 9 1 (.slice (some ⟨g, 0, none⟩) n cap) n ((S.map Rw.t).map encStr) ∧ World.ownsMap (H := Value) wr Try.prog 9 selfElem b N D0 ∧ Below w.heap.size w wr) (fun idx _ => n - (intOf idx).toNat)
      case atStart => exact ⟨0, cs0, by omega, rfl, HR3.out, by simp [rws], HK3.out, HM3.out, HB3.out⟩
      case round =>
        obtain ⟨i, cs, hi, rfl, hr, htk, hk, hm, hb⟩ := hrel
        have HR := Lib.hid hr
        have HTK := Lib.hid htk
        have HK := Lib.hid hk
        have HM := Lib.hid hm
        have HB := Lib.hid hb
        clear htk hb
        by_cases hlt : i < n
        · obtain ⟨x, hx⟩ : ∃ x, S[i]? = some x := ⟨_, List.getElem?_eq_getElem (by rw [← HLEN.out]; exact hlt)⟩
          have hkc := own_cell hk i (show ((S.map Rw.t).map encStr)[i]? = some (encStr x.t) by simp [hx])
          have hkey := gkeyOf (HF.out x (List.mem_of_getElem? hx))
          obtain ⟨v, ps, hrun, hv⟩ := hm.lookup gkey Try.underlying63 (gzero _) (zd := _) (zp := _) rfl hkey
          have hv2 : v = x.val := by
            have e1 := (HMO.out.at hx _).symm.trans (self_inv hv)
            injection e1 with e1
            exact e1.symm
          subst hv2
          have HTH := Lib.hid (own_there hr (i * 7) 7 (by rw [hr.1]; omega))
          have HST := Lib.hid (own_setCells x.cells cs (i * 7) wr hr)
          have HLA := Lib.hid (rws_laid hx (by rw [hr.1, HLEN.out]) HTK.out)
          have hi0 : (0 : Int) ≤ (i : Int) := by omega
          have hi1 : (i : Int) < (n : Int) := by omega
          obtain ⟨⟨k, t, u, o, m, gg⟩, A4, n4, c4, l4⟩ := x
          unfold Rw.val rcv rsv at hrun
          unfold Rw.t at hkc hrun
          have hkc2 : wr.cell? ⟨g, i, none⟩ = some (.string (tx t)) := hkc
          clear hkc
          unfold Rw.cells at HST HLA
          simp only at hrun HST HLA
          have HTH2 : Hid (wr.there g2 (i * 7) (#[.int .i64 k, .string (tx t), .int .u64 u, .slice A4 n4 c4, .int .u64 o, .int .u64 m, .string (tx gg)] : Array Value).size) := HTH.out
          have HONE : Hid ((#[.int .i64 k, .string (tx t), .int .u64 u, .slice A4 n4 c4, .int .u64 o, .int .u64 m, .string (tx gg)] : Array Value).all (·.oneCell') = true) := by show _ = _; simp [Value.oneCell']
          have HSI : Hid ((Try.prog.info? 36).map (·.size) = some (#[.int .i64 k, .string (tx t), .int .u64 u, .slice A4 n4 c4, .int .u64 o, .int .u64 m, .string (tx gg)] : Array Value).size) := by show _ = _; kernel_rfl
          clear hv hx hkey hk hm hr
          go_wp2_with ((with_reducible show wpList _ _ _ (Oper.mk _ (Op.store _ _ _) _ _ _ _ :: _) _ _); refine wpList_store_mid rfl 36 (.tmp 38) (.tmp 37) rfl g2 (i * 7) #[.int .i64 k, .string (tx t), .int .u64 u, .slice A4 n4 c4, .int .u64 o, .int .u64 m, .string (tx gg)] rfl rfl HTH2.out HSI.out HONE.out ?_)
          exact ⟨⟨i + 1, _, by omega, by go_num, HST.out.1, HLA.out, HK.out.kept HST.out.2 (.inr (by simp [Value.ownBlock]; omega)), HM.out.kept HST.out.2 (by simp; omega), HB.out.grown HST.out.2 HB.out.size (fun j hj => by cases hj; omega)⟩, by simp [intOf]; omega⟩
        · obtain rfl : i = n := by omega
          have hcs : cs = rws S := by
            have h5 := HTK.out
            rw [List.take_of_length_le (by have := hr.1; omega), List.take_of_length_le (by have := HLEN.out; omega)] at h5
            exact h5
          subst hcs
          have e := HLEN.out
          subst e
          clear hr hk hm
          go_wp2
          go_ret
          exact ⟨g2, rfl, HR.out, HB.out⟩
    · intro x c kl yd yp w2 cnt2 hkey hlk hv hat hrg2 hlt hg2 hs2 hen
      obtain ⟨x', ex, rfl, _⟩ := Maps.keyOf_str Try.underlying9 hkey
      obtain rfl : x = x' := encStr_inj ex
      have hrow2 := hrow.kept hg2 (Or.inr (row_ne_iter hrow hrg).symm)
      clear hs2
      go_wp2_with (at_builtin; refine wpList_append_own _ rfl _ _ 23 rfl w.heap.size 9 i0 (.string ⟨#[]⟩) 1 16 Try.underlying23 hi hz0 hz1 hz2 rfl (by decide) _ _ _ rfl (hrow2.alloc _) ⟨w2.heap.size, 0, none⟩ 1 1 [encStr x] rfl rfl (cell_one_new _ _ _) (by simp [Value.oneCell', encStr]) (by unfold maxLen at *; omega) (by omega) (by have := hnx.size; have := hg2.size; simp; omega) ?_; intro v' w3 hown' hg3 hnil3; go_frame)
      have hrg3 := (hrg2.alloc _).kept hg3 (row_ne_low hrow2 hbl) (row_ne_iter hrow2 hrg2)
      go_roundw
      case rel =>
        refine ⟨_, cnt2, ss ++ [x], hrg3, by simp; omega, by simpa using hown', fun hv' => by have := (hnil3.1 hv').2; omega, hC.step hlk hat, ?_⟩
        exact ((hnx.grown hg2 hnx.size (fun j hj => by cases hj; exact hg1.size)).alloc (by have := hnx.size; have := hg2.size; omega) _).grown hg3 (by have := hnx.size; have := hg2.size; simp; omega) (fun j hj => (hrow2.lt j hj).1)
      case measure => rw [hrg3.left_eq, hrg.left_eq]; exact hlt

end Go.Proofs.Ytbaokcigfgfoaaa
