/- The walk of varint.Put: behind any bytes, any number of 64 bits. -/
import Derived.Test.YtfdncdejjlcgpaaW
import Derived.Test.YtfdncdejjlcgpaaK
import Derived.Laws.CopyOwn
namespace Go.Proofs.Ytfdncdejjlcgpaa
open Go.RowKit Go.Shelf
attribute [local go_sem] Oper.semAt_some

theorem info5 : (Try.prog.info? 5).map (fun i => (i.zero, i.size, i.bytes)) = some (some (.int .u8 0), 1, 1) := by kernel_rfl

set_option maxRecDepth 100000 in
set_option maxHeartbeats 400000 in
theorem put_any (A : Option Addr) (c k : Nat) (bs : List UInt8) (hk : k < top) (hbs : bs.length ≤ 1073741824) (w : World) (hr : Reads w w.heap.size 1 A bs.length (bs.map bv)) :
    Calls Try.prog 87 #[.slice A bs.length c, .int .u64 (k : Int)] w fun e w' => ∃ v, e = .returned v ∧ w'.ownsRow w.heap.size 5 1 v (bs ++ vb k).length ((bs ++ vb k).map bv) ∧ Below w.heap.size w w' := by
  have hlen := vb_len k hk
  clear hk
  obtain ⟨i0, hi, hz0, hz1, hz2⟩ := info_parts info5
  obtain ⟨n, hn⟩ : ∃ n, n = bs.length := ⟨_, rfl⟩
  rw [← hn] at hr hbs ⊢
  have HN := Lib.hid hn
  clear hn
  obtain ⟨xs, hx⟩ : ∃ xs, xs = bs.map bv := ⟨_, rfl⟩
  rw [← hx] at hr
  have HX := Lib.hid hx
  clear hx
  refine (callsIn_wide (n := 4)).1 ?_
  refine callsIn_of_wp_marks Try.func87 rfl trivial ?_ rfl
  refine wpIn_wide.2 ?_
  simp only [Try.ntmps87, List.size_toArray, List.length_cons, List.length_nil, Nat.reduceAdd, Nat.reduceSub, Array.replicate_succ, Array.replicate_zero, List.push_toArray, List.append_toArray, List.nil_append, List.cons_append]
  have hxl : xs.length = n := by have := hr.1; omega
  have hx1 : ∀ u ∈ xs, u.oneCell' = true := by rw [HX.out]; exact bv_one bs
  have HX1 := Lib.hid hx1
  have HXL := Lib.hid hxl
  clear hx1 hxl
  go_wp2_with (first
    | (at_make; refine wpList_make_at _ rfl (.tmp 8) (.tmp 11) 44 rfl 5 i0 (.int .u8 0) Try.underlying44 hi hz0 hz1 .i64 .i64 _ _ n (n + 10) rfl rfl rfl (by omega) (by omega) (by rw [hz2]; omega) (by unfold maxLen; omega) ?_; intro Z HZ HZ2; clear HZ2)
    | (with_reducible refine wpList_copy_at rfl (.tmp 13) (.tmp 14) 44 44 rfl 5 Try.underlying44 (by rw [hi]; simp [hz1]) A n (n + 10) n c w.heap.size 0 rfl rfl Z 5 ((Below.heap_alloc _ _ _ (by simp)).trans (World.alloc_heap_new w _)) xs w.heap.size ((hr.alloc (Nat.le_refl _) _).alloc (by simp) _) (Nat.le_refl _) (by rw [HZ.out]; omega) HX1.out ?_
       intro W1 HG1 hgrow1
       have bO := (Boxed.new (w.alloc (.cells Z.toArray 5)) 44 (.slice (some ⟨w.heap.size, 0, none⟩) n (n + 10))).kept hgrow1 (by simp)
       rw [World.size_alloc] at bO
       have hB1 : Below w.heap.size w W1 := (((Below.refl _ w).alloc (Nat.le_refl _) _).alloc (by simp) _).grown hgrow1 (by simp; omega) (fun k e => by cases e; exact Nat.le_refl _)
       have hs1 : w.heap.size + 2 ≤ W1.heap.size := by have := hgrow1.size; simpa using this
       clear hgrow1
       have hc1 := bO.cell
       have hf1 := bO.frozen)
    | (go_at_call 93; refine (laid_any _ _).mono ?_; rintro e w' ⟨rfl, rfl⟩))
  have bN := Boxed.new W1 23 (.int .u64 (k : Int))
  have hB2 : Below w.heap.size w (W1.alloc (.cells #[.int .u64 (k : Int)] 23)) := hB1.alloc (by omega) _
  have hrow1 : W1.ownsRow w.heap.size 5 1 (.slice (some ⟨w.heap.size, 0, none⟩) n (n + 10)) n xs :=
    ownsRow_of_block (Nat.le_refl _) HG1.out (by omega) (by unfold maxLen; omega) (by rw [length_splice _ _ _ (by rw [HXL.out, HZ.out]; omega)]; exact HZ.out) (by simp [splice, HXL.out])
  clear hc1 hf1
  refine (wpIn_wide (n := 4)).1 ?_
  refine wpIn_rangeFunc_ownG rfl (by omega) (gf := 99) (lb := #[.pointer (some ⟨W1.heap.size, 0, none⟩)]) rfl trivial (enters_of Try.func99 (by kernel_rfl) rfl)
    (it_stops Fence.wide 3 trivial rfl (by omega) W1.heap.size k _ (by simp) bN.cell) (fun _ _ => trivial) (fun _ _ _ _ _ _ _ _ => trivial) (Below.refl _ _) (fun _ => rfl)
    (fun pre W => (∃ v, Boxed W (w.heap.size + 1) 44 v ∧ W.ownsRow w.heap.size 5 1 v (n + pre.length) (xs ++ pre.map bv) ∧ True) ∧ Below w.heap.size w W)
    (fun _ _ _ => False)
    (OwnFrom.and (Own.from (holdsRow_own w.heap.size (w.heap.size + 1) 44 5 1 (fun pre : List UInt8 => n + pre.length) (fun pre => xs ++ pre.map bv) (fun _ _ => True)) _) (ownFrom_below (Nat.le_refl _) (by simp; omega)))
    (fun _ _ _ _ _ hs _ _ => hs)
    ⟨⟨_, bO.alloc _, by simpa using hrow1.alloc _, trivial⟩, hB2⟩
    (fun x => { tmps := #[.slice A n c, .int .u64 (k : Int), undef, undef, .slice none 0 0, .pointer (some ⟨w.heap.size + 1, 0, none⟩), .int .u8 (x.toNat : Int), .slice A n c, .int .i64 (n : Int), .slice A n c, .int .i64 (n : Int), .int .i64 ((n : Int) + 10), .slice (some ⟨w.heap.size, 0, none⟩) n (n + 10), .slice (some ⟨w.heap.size, 0, none⟩) n (n + 10), .slice A n c, .int .i64 (n : Int), .int .u64 (k : Int), .func (.func 99) #[] #[.pointer (some ⟨W1.heap.size, 0, none⟩)], .int .u8 (x.toNat : Int), undef, undef, undef, undef, undef], defers := [] }) ?assign ?body ?done ?stop
  case assign =>
    intro l x W K hK
    gi_wp2
    simpa using hK
  case body =>
    rintro l pre x W ⟨⟨v, hv, hrow, _⟩, hB⟩ hlt
    have hc := hv.cell
    gi_wp2_with (gi_at_builtin; refine wpListIn_append_own _ rfl _ _ 44 rfl w.heap.size 5 i0 (.int .u8 0) 1 1 Try.underlying44 hi hz0 hz1 hz2 rfl (by decide) _ _ _ rfl (hrow.alloc _) ⟨W.heap.size, 0, none⟩ 1 1 [.int .u8 (x.toNat : Int)] rfl rfl (cell_one_new _ _ _) (by simp [Value.oneCell']) (by unfold maxLen; omega) (by omega) (by have := hB.size; simp; omega) ?_; intro v' w1 hown' hgrow _; obtain ⟨g', cap', rfl⟩ := ownsRow_succ hown'; obtain ⟨hv1, hv2, hr2, hk2, hb2⟩ := hv.appended (by decide) hrow hB.size (by omega) hown' hgrow; have hc1 := hv1.cell; have hf1 := hv1.frozen)
    refine ⟨hk2.from _, trivial, ⟨_, hv2, ?_, trivial⟩, hB.trans hb2⟩
    have e1 : n + (pre ++ [x]).length = n + pre.length + 1 := by simp; omega
    have e2 : xs ++ (pre ++ [x]).map bv = xs ++ pre.map bv ++ [.int .u8 (x.toNat : Int)] := by simp [bv]
    rw [e1, e2]
    exact hr2
  case done =>
    rintro D ys W hD rfl ⟨⟨v, hv, hrow, _⟩, hB⟩ hK
    have hc := hv.cell
    go_wp2
    refine ⟨by simp, .inl ⟨_, _, rfl, run_takeDeferred hK, ?_⟩⟩
    refine ⟨_, results_tmp rfl _ _ _, v, rfl, ?_, hB.trans (belowK_b (w := w) (Nat.le_refl _) W D _ _ (by simp at hD; omega) hK rfl rfl)⟩
    have := ownsRow_putObj hrow (.deferred none) hK rfl
    rw [HX.out, HN.out] at this
    simpa using this
  case stop =>
    rintro D c pre W _ _ h _
    exact h.elim

theorem put_nil (k : Nat) (hk : k < top) (w : World) :
    Calls Try.prog 87 #[.slice none 0 0, .int .u64 (k : Int)] w fun e w' => ∃ v, e = .returned v ∧ w'.ownsRow w.heap.size 5 1 v (vb k).length ((vb k).map bv) ∧ Below w.heap.size w w' :=
  put_any none 0 k [] hk (by simp) w Reads.none_

end Go.Proofs.Ytfdncdejjlcgpaa
