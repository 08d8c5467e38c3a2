/- Two nodes: the example of layers 21 and 25. -/
import Derived.Test.YtcfmpajdhbcimaaXi
import Derived.Test.YtcfmpajdhbcimaaMw
namespace Go.Proofs.Ytcfmpajdhbcimaa
open Go.RowKit Go.Sort

def exn (b : Nat) : List Nw := [⟨⟨[98], false, 0, [[97]]⟩, some ⟨b, 0, none⟩, 1, 1⟩, ⟨⟨[97], true, 0, []⟩, none, 0, 0⟩]
theorem ex_chk (b : Nat) : chk (nds (exn b)) = 0 := by
  show chk [⟨[98], false, 0, [[97]]⟩, ⟨[97], true, 0, []⟩] = 0
  decide
theorem ex_ord (b : Nat) : ord (nds (exn b)) = [1, 0] := by
  show ord [⟨[98], false, 0, [[97]]⟩, ⟨[97], true, 0, []⟩] = [1, 0]
  decide
theorem ex_ok (b : Nat) : NOk (exn b) := fun x hx => by
  simp only [exn, List.mem_cons, List.not_mem_nil, or_false] at hx
  unfold NFits maxLen
  rcases hx with rfl | rfl <;> simp
theorem add_zero_at (b j : Nat) : (⟨b, 0, none⟩ : Addr).add j = ⟨b, j, none⟩ := by
  unfold Addr.add
  split
  · rename_i h; rw [h]
  · simp
theorem ex_nodes (w : World) : Nodes ((w.alloc (.cells #[.string { data := #[97] }] 9)).alloc (.cells #[.string { data := #[98] }, .bool false, .int .u64 0, .slice (some ⟨w.heap.size, 0, none⟩) 1 1, .string { data := #[97] }, .bool true, .int .u64 0, .slice none 0 0] 36)) ((w.alloc (.cells #[.string { data := #[97] }] 9)).alloc (.cells #[.string { data := #[98] }, .bool false, .int .u64 0, .slice (some ⟨w.heap.size, 0, none⟩) 1 1, .string { data := #[97] }, .bool true, .int .u64 0, .slice none 0 0] 36)).heap.size (some ⟨w.heap.size + 1, 0, none⟩) 2 (exn w.heap.size) := by
  obtain ⟨h1, h2, h3⟩ := two_new w (.cells #[.string { data := #[97] }] 9) (.cells #[.string { data := #[98] }, .bool false, .int .u64 0, .slice (some ⟨w.heap.size, 0, none⟩) 1 1, .string { data := #[97] }, .bool true, .int .u64 0, .slice none 0 0] 36)
  refine ⟨⟨rfl, fun _ => ⟨_, rfl, by rw [h3]; show w.heap.size + 1 < _; omega, fun j u hu => ?_⟩⟩, fun x hx => ?_⟩
  · rw [add_zero_at]
    exact at_cell h2 ((List.getElem?_toArray ..).trans hu)
  · simp only [exn, List.mem_cons, List.not_mem_nil, or_false] at hx
    rcases hx with rfl | rfl
    · exact ((reads_one_row w 9 (.string { data := #[97] })).alloc (by simp) (.cells #[.string { data := #[98] }, .bool false, .int .u64 0, .slice (some ⟨w.heap.size, 0, none⟩) 1 1, .string { data := #[97] }, .bool true, .int .u64 0, .slice none 0 0] 36)).more (by rw [h3]; omega)
    · exact Reads.none_

end Go.Proofs.Ytcfmpajdhbcimaa
