/- crew.inOrder: nodes, by places. -/
import Derived.Laws.IdiomMaps
import Derived.WalkKit
import Derived.Test.YtcfmpajdhbcimaaQb
import Derived.Test.YtcfmpajdhbcimaaXi
namespace Go.Proofs.Ytcfmpajdhbcimaa
open Go.RowKit Go.Sort

theorem info_nodeq : (Try.prog.info? 36).map (fun i => (i.zero, i.size, i.bytes)) = some (some (.agg #[.string { data := #[] }, .bool false, .int .u64 0, .slice none 0 0]), 4, 56) := by kernel_rfl
/-- Nodes, by places. -/
def pk (xs : List Nw) (o : List Nat) : List Nw := o.filterMap fun j => xs[j]?
theorem pk_step {xs : List Nw} {o : List Nat} {i j : Nat} {x : Nw} (h : o[i]? = some j) (hx : xs[j]? = some x) : pk xs (o.take (i + 1)) = pk xs (o.take i) ++ [x] := by
  unfold pk
  rw [List.take_add_one, h, List.filterMap_append]
  simp [hx]
theorem pk_at {xs : List Nw} : ∀ {o : List Nat}, (∀ j ∈ o, j < xs.length) → ∀ {i j : Nat} {x : Nw}, o[i]? = some j → xs[j]? = some x → (pk xs o)[i]? = some x
  | [], _, i, j, x, h, _ => by simp at h
  | a :: o, hb, i, j, x, h, hx => by
    have ha := hb a (by simp)
    have e : pk xs (a :: o) = xs[a] :: pk xs o := by unfold pk; rw [List.filterMap_cons]; simp [List.getElem?_eq_getElem ha]
    rw [e]
    cases i with
    | zero =>
      obtain rfl : a = j := by simpa using h
      rw [List.getElem?_eq_getElem ha] at hx
      simpa using hx
    | succ i => exact pk_at (fun k hk => hb k (List.mem_cons_of_mem _ hk)) (by simpa using h) hx
theorem pk_mem {xs : List Nw} {o : List Nat} {x : Nw} (h : x ∈ pk xs o) : x ∈ xs := by
  unfold pk at h
  obtain ⟨j, _, hj⟩ := List.mem_filterMap.1 h
  exact List.mem_of_getElem? hj
theorem reads_node (w : World) (nm : List UInt8) (sc : Bool) (ru : Int) (xA : Option Addr) (xn xc : Nat) : Reads (w.alloc (.cells #[.string (tx nm), .bool sc, .int .u64 ru, .slice xA xn xc] 36)) (w.heap.size + 1) 4 (some ⟨w.heap.size, 0, none⟩) 1 [.string (tx nm), .bool sc, .int .u64 ru, .slice xA xn xc] :=
  ⟨rfl, fun _ => ⟨_, rfl, by show w.heap.size < _; omega, fun j u hu => by
    have e : (⟨w.heap.size, 0, none⟩ : Addr).add j = ⟨w.heap.size, j, none⟩ := by
      unfold Addr.add
      split
      · rename_i h; rw [h]
      · simp
    rw [e]
    exact at_cell (one_new w _) ((List.getElem?_toArray ..).trans hu)⟩⟩

set_option maxRecDepth 100000 in
set_option maxHeartbeats 2000000 in
theorem inOrder_any (A : Option Addr) (n c : Nat) (xs : List Nw) (O : Option Addr) (m oc : Nat) (o : List Nat) (hm : m ≤ 1000) (ho : ∀ j ∈ o, j < n) (w : World) (h : Nodes w w.heap.size A n xs) (hr : Reads w w.heap.size 1 O m (ivs o)) :
    Calls Try.prog 10 #[.slice A n c, .slice O m oc] w fun e w' => (∃ A5 c5, e = .returned (.slice A5 m c5) ∧ w'.ownsRow w.heap.size 36 4 (.slice A5 m c5) m (nws (pk xs o))) ∧ Below w.heap.size w w' := by
  have HL : Hid (xs.length = n) := h.len
  have HLO : Hid (o.length = m) := by have := hr.1; show _ = _; simpa [ivs] using this
  have HNS := Lib.hid h
  have HR := Lib.hid hr
  have HO := Lib.hid ho
  obtain ⟨ii, hi0, hz0, hz1, hz2⟩ := info_parts info_nodeq
  clear h hr ho
  go_enter Try.func10, Try.ntmps10
  go_wp2
  go_loopw [10, 5] (fun idx v wr => ∃ (i : Nat) (A7 : Option Addr) (c7 : Nat), i ≤ m ∧ idx = .int .i64 (i : Int) ∧ v = .slice A7 i c7 ∧ wr.ownsRow w.heap.size 36 4 (.slice A7 i c7) i (nws (pk xs (o.take i))) ∧ Below w.heap.size w wr) (fun idx _ _ => m - (intOf idx).toNat)
  case atStart => exact ⟨0, none, 0, by omega, rfl, rfl, World.ownsRow_nil _ _ _ _, Below.refl _ _⟩
  case round =>
    obtain ⟨i, A7, c7, hi, rfl, rfl, hown, hb⟩ := hrel
    have HOWN := Lib.hid hown
    have HB := Lib.hid hb
    by_cases hlt : i < m
    · obtain ⟨j, hj⟩ : ∃ j, o[i]? = some j := ⟨_, List.getElem?_eq_getElem (by rw [HLO.out]; exact hlt)⟩
      have hjn : j < n := HO.out j (List.mem_of_getElem? hj)
      obtain ⟨x, hx⟩ : ∃ x, xs[j]? = some x := ⟨_, List.getElem?_eq_getElem (by rw [HL.out]; exact hjn)⟩
      have HST := Lib.hid (pk_step hj hx)
      obtain ⟨ad, rfl, hab, k0, k1, k2, k3⟩ := nodes_cells (HNS.out.below hb).1 j x hx
      obtain ⟨a6, u6, rfl, _, hu6, hc6⟩ := (HR.out.below hb).at_ hlt
      obtain rfl : u6 = .int .i64 (j : Int) := by unfold ivs at hu6; rw [List.getElem?_map, hj] at hu6; simpa using hu6.symm
      obtain ⟨⟨nm, sc, ru, ds⟩, xA, xn, xc⟩ := x
      simp only at k0 k1 k2 k3
      have hi0' : (0 : Int) ≤ (i : Int) := by omega
      have hi1' : (i : Int) < (m : Int) := by omega
      have hj0 : (0 : Int) ≤ (j : Int) := by omega
      have hj1 : (j : Int) < (n : Int) := by omega
      have HI : Hid (i < m) := hlt
      clear hj hx hu6 hown hb hjn hlt
      go_wp2_with (at_builtin; refine wpList_append_many _ rfl (.tmp 14) (.tmp 19) 22 rfl w.heap.size 36 ii _ 4 56 Try.underlying22 hi0 hz0 hz1 hz2 rfl (by decide) (.slice A7 i c7) i _ rfl (HOWN.out.alloc _) (some ⟨wr.heap.size, 0, none⟩) 1 1 (wr.heap.size + 1) [.string (tx nm), .bool sc, .int .u64 ru, .slice xA xn xc] rfl (by intro h; cases h) (reads_node wr nm sc ru xA xn xc) (by intro u hu; simp at hu; rcases hu with rfl | rfl | rfl | rfl <;> rfl) (by unfold maxLen; omega) (by omega) (by have := HB.out.size; simp; omega) ?_; intro v5 w5 ho5 hg5; have HO5 := Lib.hid ho5; have HG5 := Lib.hid hg5; clear ho5 hg5)
      obtain ⟨A9, c9, rfl, _⟩ := own_slice HO5.out
      have hal : Below wr.heap.size wr (wr.alloc (.cells #[.string (tx nm), .bool sc, .int .u64 ru, .slice xA xn xc] 36)) := (Below.refl _ wr).alloc (Nat.le_refl _) _
      have hob := own_block HOWN.out
      have ho6 : w5.ownsRow w.heap.size 36 4 (.slice A9 (i + 1) c9) (i + 1) (nws (pk xs (o.take (i + 1)))) := by rw [HST.out, nws_app]; exact HO5.out
      have hb5 := (HB.out.trans (hal.mono HB.out.size)).grown HG5.out (by have := HB.out.size; have := hal.size; omega) (fun j hj => by have := hob j hj; omega)
      exact ⟨⟨i + 1, A9, c9, by have := HI.out; omega, by go_num, rfl, ho6, hb5⟩, by have := HI.out; simp [intOf]; omega⟩
    · obtain rfl : i = m := by omega
      rw [List.take_of_length_le (by rw [HLO.out]; omega)] at HOWN
      clear hown hb hlt
      go_wp2
      go_ret
      exact ⟨⟨A7, c7, rfl, HOWN.out⟩, HB.out⟩

end Go.Proofs.Ytcfmpajdhbcimaa
