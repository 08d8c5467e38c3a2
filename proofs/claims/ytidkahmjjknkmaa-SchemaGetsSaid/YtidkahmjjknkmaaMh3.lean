/- Texts of one proof, one behind the other. -/
import Derived.RangeFuncNested
import Derived.RangeFuncBound
import Derived.RangeFuncCalls
import Derived.RangeFuncLeaves
import Derived.RangeFuncBox
import Derived.Shelf.Abstract
import Derived.Shelf.RegionOpen
import Derived.WalkKit
import Derived.OwnWalkIn
import Derived.TacticsInMore
import Derived.LoopNIn
import Derived.LoopIn
import Derived.Maps.AppendAt
import Derived.Lib.Hide
import Derived.Test.YtidkahmjjknkmaaProg
import Derived.Test.YtidkahmjjknkmaaMh1
import Derived.Laws.CopyOwn
import Derived.OneCell
import Derived.Lib.AppendStr
import Derived.Maps.OwnSet
import Derived.Shelf.SlMaps.Clone
import Derived.Deep.AppendLies

/- The walks of varint.laid, and of what it hands on: at every number of 64 bits. -/
namespace Go.Proofs.Ytidkahmjjknkmaa
open Go.RowKit Go.Shelf
attribute [local go_sem] Oper.semAt_some

theorem laid_in (F : Fence) (n : Nat) (h13 : F.fn 92) (hro : F.round = none) (k : Int) (w : World) :
    CallsIn F n Try.prog 92 #[.int .u64 k] w fun e w' => e = .returned (.func (.func 98) #[] #[.pointer (some ⟨w.heap.size, 0, none⟩)]) ∧ w' = w.alloc (.cells #[.int .u64 k] 23) := by
  refine callsIn_of_wp Try.func92 rfl h13 ?_ hro
  simp only [Try.ntmps92, List.size_toArray, List.length_cons, List.length_nil, Nat.reduceAdd, Nat.reduceSub, Array.replicate_succ, Array.replicate_zero, List.push_toArray, List.append_toArray, List.nil_append, List.cons_append]
  gi_wp2
  go_ret
  exact ⟨rfl, rfl⟩

theorem or128 : ∀ x : Fin 256, bits BinOp.or IntKind.u8 ((x : Nat) : Int) 128 = (((x : Nat) % 128 + 128 : Nat) : Int) := by decide +kernel
theorem or128' (m : Nat) : bits BinOp.or IntKind.u8 ((m : Int) % 256) 128 = (((UInt8.ofNat (m % 128 + 128)).toNat : Nat) : Int) := by
  have h := or128 ⟨m % 256, Nat.mod_lt _ (by omega)⟩
  rw [u8_cont]
  have e : ((m : Int) % 256) = ((m % 256 : Nat) : Int) := by omega
  rw [e, h]
  have : m % 256 % 128 = m % 128 := by omega
  show ((m % 256 % 128 + 128 : Nat) : Int) = _
  rw [this]

set_option maxRecDepth 100000 in
set_option maxHeartbeats 400000 in
theorem it_in (F : Fence) (n : Nat) (h15 : F.fn 98) (hro : F.round = none) (hn : 1 ≤ n) (l Bn : Nat) (k : Nat) (Kp : World → World → Prop) (J Jx : List UInt8 → World → Prop)
    (hY : ∀ pre x W, J pre W → pre.length < (vb k).length → YieldAt F (n - 1) Try.prog l #[.int .u8 ((x : UInt8).toNat : Int)] W fun e W' =>
      (e = .returned (.bool true) ∧ J (pre ++ [x]) W' ∧ Kp W W') ∨ (e = .returned (.bool false) ∧ Jx (pre ++ [x]) W'))
    (W : World) (hBn : W.cell? ⟨Bn, 0, none⟩ = some (.int .u64 (k : Int))) (h0 : J [] W) :
    CallsIn F n Try.prog 98 #[.func (.yield l) #[] #[], .pointer (some ⟨Bn, 0, none⟩)] W fun e W' => (∃ v, e = .returned v) ∧
      ((∃ ys, ys = vb k ∧ J ys W') ∨ (∃ pre, pre <+: vb k ∧ Jx pre W')) := by
  refine callsIn_of_wp Try.func98 rfl h15 ?_ hro
  simp only [Try.ntmps98, List.size_toArray, List.length_cons, List.length_nil, Nat.reduceAdd, Nat.reduceSub, Array.replicate_succ, Array.replicate_zero, List.push_toArray, List.append_toArray, List.nil_append, List.cons_append]
  obtain ⟨L, hL⟩ : ∃ L, L = vb k := ⟨_, rfl⟩
  rw [← hL] at hY ⊢
  have HL := Lib.hid hL
  clear hL
  gi_wp2
  gi_loopw [3] (fun p wr => ∃ (pre : List UInt8) (m : Nat), p = .int .u64 (m : Int) ∧ Hid (L = pre ++ vb m) ∧ J pre wr)
    (fun p wr => (intOf p).toNat)
  case atStart =>
    exact ⟨[], k, rfl, HL.out, h0⟩
  case round =>
    obtain ⟨pre, m, rfl, hx, hJs⟩ := hrel
    by_cases h : m < 128
    · have hlen : pre.length < L.length := by rw [hx.out]; have := vb_pos m; simp; omega
      obtain ⟨fn, tmps, assign, body, hy, hR⟩ := hY pre (UInt8.ofNat m) wr hJs hlen
      rw [u8_ofNat m (by omega)] at hy
      have hx' : Hid (L = pre ++ [UInt8.ofNat m]) := by have := hx.out; rwa [vb_lt h] at this
      gi_wp2
      refine hR.mono ?_
      rintro e W3 (⟨rfl, hJ3, hk3⟩ | ⟨rfl, hJx3⟩)
      · gi_wp2
        go_end0
        exact ⟨⟨_, rfl⟩, .inl ⟨_, hx'.out.symm, hJ3⟩⟩
      · gi_wp2
        go_end0
        exact ⟨⟨_, rfl⟩, .inr ⟨_, by rw [hx'.out]; exact List.prefix_refl _, hJx3⟩⟩
    · have hlen : pre.length < L.length := by rw [hx.out]; have := vb_pos m; simp; omega
      obtain ⟨fn, tmps, assign, body, hy, hR⟩ := hY pre (UInt8.ofNat (m % 128 + 128)) wr hJs hlen
      rw [← or128' m] at hy
      have hx' : Hid (L = (pre ++ [UInt8.ofNat (m % 128 + 128)]) ++ vb (m / 128)) := by have := hx.out; rw [vb_ge (by omega)] at this; rw [this]; simp [Hid]
      clear hlen hx
      gi_wp2
      refine hR.mono ?_
      rintro e W3 (⟨rfl, hJ3, hk3⟩ | ⟨rfl, hJx3⟩)
      · gi_wp2
        go_roundw
        case rel => exact ⟨pre ++ [UInt8.ofNat (m % 128 + 128)], m / 128, by go_num, hx', hJ3⟩
        case measure => simp [intOf]; omega
      · gi_wp2
        refine bodyPost_ret (results_none rfl _ _ _) rfl ?_
        exact ⟨⟨_, rfl⟩, .inr ⟨_, by rw [hx'.out]; exact ⟨_, rfl⟩, hJx3⟩⟩

/-- What is handed on: all of a number's bytes, in their order; or some first ones, where a round has said that it wants no more. -/
theorem it_stops (F : Fence) (n : Nat) (h15 : F.fn 98) (hro : F.round = none) (hn : 1 ≤ n) (Bn k : Nat) (w : World) (hBn : Bn < w.heap.size) (hc : w.cell? ⟨Bn, 0, none⟩ = some (.int .u64 (k : Int))) :
    SeqStopsK F n Try.prog 98 #[.pointer (some ⟨Bn, 0, none⟩)] (fun x : UInt8 => #[Value.int .u8 (x.toNat : Int)]) (fun _ _ => True) (fun ys => ys = vb k) (fun pre => pre <+: vb k) (vb k).length w := fun l J Jx W hW _ _ hY h0 =>
  it_in F n h15 hro hn l Bn k (fun _ _ => True) J Jx hY W ((hW.cell (p := ⟨Bn, 0, none⟩) hBn).trans hc) h0

theorem laid_any (k : Int) (w : World) :
    Calls Try.prog 92 #[.int .u64 k] w fun e w' => e = .returned (.func (.func 98) #[] #[.pointer (some ⟨w.heap.size, 0, none⟩)]) ∧ w' = w.alloc (.cells #[.int .u64 k] 23) :=
  (callsIn_wide (n := 1)).1 (laid_in Fence.wide 1 trivial rfl k w)

end Go.Proofs.Ytidkahmjjknkmaa

/- The walk of varint.Put: behind any bytes, any number of 64 bits. -/
namespace Go.Proofs.Ytidkahmjjknkmaa
open Go.RowKit Go.Shelf
attribute [local go_sem] Oper.semAt_some

theorem info5 : (Try.prog.info? 5).map (fun i => (i.zero, i.size, i.bytes)) = some (some (.int .u8 0), 1, 1) := by kernel_rfl

set_option maxRecDepth 100000 in
set_option maxHeartbeats 400000 in
theorem put_any (A : Option Addr) (c k : Nat) (bs : List UInt8) (hk : k < top) (hbs : bs.length ≤ 1073741824) (w : World) (hr : Reads w w.heap.size 1 A bs.length (bs.map bv)) :
    Calls Try.prog 86 #[.slice A bs.length c, .int .u64 (k : Int)] w fun e w' => ∃ v, e = .returned v ∧ w'.ownsRow w.heap.size 5 1 v (bs ++ vb k).length ((bs ++ vb k).map bv) ∧ Below w.heap.size w w' := by
  have hlen := vb_len k hk
  clear hk
  obtain ⟨i0, hi, hz0, hz1, hz2⟩ := info_parts info5
  obtain ⟨n, hn⟩ : ∃ n, n = bs.length := ⟨_, rfl⟩
  rw [← hn] at hr hbs ⊢
  have HN := Lib.hid hn
  clear hn
  obtain ⟨xs, hx⟩ : ∃ xs, xs = bs.map bv := ⟨_, rfl⟩
  rw [← hx] at hr
  have HX := Lib.hid hx
  clear hx
  refine (callsIn_wide (n := 4)).1 ?_
  refine callsIn_of_wp_marks Try.func86 rfl trivial ?_ rfl
  refine wpIn_wide.2 ?_
  simp only [Try.ntmps86, List.size_toArray, List.length_cons, List.length_nil, Nat.reduceAdd, Nat.reduceSub, Array.replicate_succ, Array.replicate_zero, List.push_toArray, List.append_toArray, List.nil_append, List.cons_append]
  have hxl : xs.length = n := by have := hr.1; omega
  have hx1 : ∀ u ∈ xs, u.oneCell' = true := by rw [HX.out]; exact bv_one bs
  have HX1 := Lib.hid hx1
  have HXL := Lib.hid hxl
  clear hx1 hxl
  go_wp2_with (first
    | (at_make; refine wpList_make_at _ rfl (.tmp 8) (.tmp 11) 44 rfl 5 i0 (.int .u8 0) Try.underlying44 hi hz0 hz1 .i64 .i64 _ _ n (n + 10) rfl rfl rfl (by omega) (by omega) (by rw [hz2]; omega) (by unfold maxLen; omega) ?_; intro Z HZ HZ2; clear HZ2)
    | (with_reducible refine wpList_copy_at rfl (.tmp 13) (.tmp 14) 44 44 rfl 5 Try.underlying44 (by rw [hi]; simp [hz1]) A n (n + 10) n c w.heap.size 0 rfl rfl Z 5 ((Below.heap_alloc _ _ _ (by simp)).trans (World.alloc_heap_new w _)) xs w.heap.size ((hr.alloc (Nat.le_refl _) _).alloc (by simp) _) (Nat.le_refl _) (by rw [HZ.out]; omega) HX1.out ?_
       intro W1 HG1 hgrow1
       have bO := (Boxed.new (w.alloc (.cells Z.toArray 5)) 44 (.slice (some ⟨w.heap.size, 0, none⟩) n (n + 10))).kept hgrow1 (by simp)
       rw [World.size_alloc] at bO
       have hB1 : Below w.heap.size w W1 := (((Below.refl _ w).alloc (Nat.le_refl _) _).alloc (by simp) _).grown hgrow1 (by simp; omega) (fun k e => by cases e; exact Nat.le_refl _)
       have hs1 : w.heap.size + 2 ≤ W1.heap.size := by have := hgrow1.size; simpa using this
       clear hgrow1
       have hc1 := bO.cell
       have hf1 := bO.frozen)
    | (go_at_call 92; refine (laid_any _ _).mono ?_; rintro e w' ⟨rfl, rfl⟩))
  have bN := Boxed.new W1 23 (.int .u64 (k : Int))
  have hB2 : Below w.heap.size w (W1.alloc (.cells #[.int .u64 (k : Int)] 23)) := hB1.alloc (by omega) _
  have hrow1 : W1.ownsRow w.heap.size 5 1 (.slice (some ⟨w.heap.size, 0, none⟩) n (n + 10)) n xs :=
    ownsRow_of_block (Nat.le_refl _) HG1.out (by omega) (by unfold maxLen; omega) (by rw [length_splice _ _ _ (by rw [HXL.out, HZ.out]; omega)]; exact HZ.out) (by simp [splice, HXL.out])
  clear hc1 hf1
  refine (wpIn_wide (n := 4)).1 ?_
  refine wpIn_rangeFunc_ownG rfl (by omega) (gf := 98) (lb := #[.pointer (some ⟨W1.heap.size, 0, none⟩)]) rfl trivial (enters_of Try.func98 (by kernel_rfl) rfl)
    (it_stops Fence.wide 3 trivial rfl (by omega) W1.heap.size k _ (by simp) bN.cell) (fun _ _ => trivial) (fun _ _ _ _ _ _ _ _ => trivial) (Below.refl _ _) (fun _ => rfl)
    (fun pre W => (∃ v, Boxed W (w.heap.size + 1) 44 v ∧ W.ownsRow w.heap.size 5 1 v (n + pre.length) (xs ++ pre.map bv) ∧ True) ∧ Below w.heap.size w W)
    (fun _ _ _ => False)
    (OwnFrom.and (Own.from (holdsRow_own w.heap.size (w.heap.size + 1) 44 5 1 (fun pre : List UInt8 => n + pre.length) (fun pre => xs ++ pre.map bv) (fun _ _ => True)) _) (ownFrom_below (Nat.le_refl _) (by simp; omega)))
    (fun _ _ _ _ _ hs _ _ => hs)
    ⟨⟨_, bO.alloc _, by simpa using hrow1.alloc _, trivial⟩, hB2⟩
    (fun x => { tmps := #[.slice A n c, .int .u64 (k : Int), undef, undef, .slice none 0 0, .pointer (some ⟨w.heap.size + 1, 0, none⟩), .int .u8 (x.toNat : Int), .slice A n c, .int .i64 (n : Int), .slice A n c, .int .i64 (n : Int), .int .i64 ((n : Int) + 10), .slice (some ⟨w.heap.size, 0, none⟩) n (n + 10), .slice (some ⟨w.heap.size, 0, none⟩) n (n + 10), .slice A n c, .int .i64 (n : Int), .int .u64 (k : Int), .func (.func 98) #[] #[.pointer (some ⟨W1.heap.size, 0, none⟩)], .int .u8 (x.toNat : Int), undef, undef, undef, undef, undef], defers := [] }) ?assign ?body ?done ?stop
  case assign =>
    intro l x W K hK
    gi_wp2
    simpa using hK
  case body =>
    rintro l pre x W ⟨⟨v, hv, hrow, _⟩, hB⟩ hlt
    have hc := hv.cell
    gi_wp2_with (gi_at_builtin; refine wpListIn_append_own _ rfl _ _ 44 rfl w.heap.size 5 i0 (.int .u8 0) 1 1 Try.underlying44 hi hz0 hz1 hz2 rfl (by decide) _ _ _ rfl (hrow.alloc _) ⟨W.heap.size, 0, none⟩ 1 1 [.int .u8 (x.toNat : Int)] rfl rfl (cell_one_new _ _ _) (by simp [Value.oneCell']) (by unfold maxLen; omega) (by omega) (by have := hB.size; simp; omega) ?_; intro v' w1 hown' hgrow _; obtain ⟨g', cap', rfl⟩ := ownsRow_succ hown'; obtain ⟨hv1, hv2, hr2, hk2, hb2⟩ := hv.appended (by decide) hrow hB.size (by omega) hown' hgrow; have hc1 := hv1.cell; have hf1 := hv1.frozen)
    refine ⟨hk2.from _, trivial, ⟨_, hv2, ?_, trivial⟩, hB.trans hb2⟩
    have e1 : n + (pre ++ [x]).length = n + pre.length + 1 := by simp; omega
    have e2 : xs ++ (pre ++ [x]).map bv = xs ++ pre.map bv ++ [.int .u8 (x.toNat : Int)] := by simp [bv]
    rw [e1, e2]
    exact hr2
  case done =>
    rintro D ys W hD rfl ⟨⟨v, hv, hrow, _⟩, hB⟩ hK
    have hc := hv.cell
    go_wp2
    refine ⟨by simp, .inl ⟨_, _, rfl, run_takeDeferred hK, ?_⟩⟩
    refine ⟨_, results_tmp rfl _ _ _, v, rfl, ?_, hB.trans (belowK_b (w := w) (Nat.le_refl _) W D _ _ (by simp at hD; omega) hK rfl rfl)⟩
    have := ownsRow_putObj hrow (.deferred none) hK rfl
    rw [HX.out, HN.out] at this
    simpa using this
  case stop =>
    rintro D c pre W _ _ h _
    exact h.elim

theorem put_nil (k : Nat) (hk : k < top) (w : World) :
    Calls Try.prog 86 #[.slice none 0 0, .int .u64 (k : Int)] w fun e w' => ∃ v, e = .returned v ∧ w'.ownsRow w.heap.size 5 1 v (vb k).length ((vb k).map bv) ∧ Below w.heap.size w w' :=
  put_any none 0 k [] hk (by simp) w Reads.none_

end Go.Proofs.Ytidkahmjjknkmaa

/- The walks of blob.List and blob.Put: behind any bytes, any texts. -/
namespace Go.Proofs.Ytidkahmjjknkmaa
open Go.RowKit Go.Shelf
attribute [local go_sem] Oper.semAt_some

/-- At the head of a round of List's loop: so many texts have been laid. -/
def LRel (w : World) (bs : List UInt8) (ts : List (List UInt8)) (v idx : Value) (wr : World) : Prop :=
  ∃ i, i ≤ ts.length ∧ idx = .int .i64 (i : Int) ∧ wr.ownsRow w.heap.size 5 1 v (bs ++ blobs (ts.take i)).length ((bs ++ blobs (ts.take i)).map bv) ∧ Below w.heap.size w wr

set_option maxRecDepth 100000 in
set_option maxHeartbeats 400000 in
theorem list_any (A L : Option Addr) (n c m d B : Nat) (bs : List UInt8) (ts : List (List UInt8)) (hbig : n + (blobs ts).length ≤ 1073741824) (hm : m ≤ 1073741824) (w : World) (hB : B ≤ w.heap.size) (hr : Reads w B 1 A n (bs.map bv)) (hl : Reads w B 1 L m (ts.map sv)) :
    Calls Try.prog 91 #[.slice A n c, .slice L m d] w fun e w' => ∃ v, e = .returned v ∧ w'.ownsRow w.heap.size 5 1 v (bs ++ blobs ts).length ((bs ++ blobs ts).map bv) ∧ Below w.heap.size w w' := by
  obtain ⟨i0, hi0, hz0, hz1, hz2⟩ := info_parts info5
  have hnl : bs.length = n := by have := hr.1; simpa using this
  have hml : ts.length = m := by have := hl.1; simpa using this
  have HCL := Lib.hid (clone_any A n c B bs (by omega) w hB hr)
  have HNL := Lib.hid hnl
  have HML := Lib.hid hml
  have HBIG := Lib.hid hbig
  clear hnl hml hbig hr
  go_enter Try.func91, Try.ntmps91
  go_wp2_with (go_at_call 75; refine HCL.out.mono ?_; rintro e w1 ⟨v1, rfl, ho1, hb1⟩)
  go_loopw [5, 12] (fun v idx wr => LRel w bs ts v idx wr) (fun v idx wr => m - (intOf idx).toNat)
  case atStart => exact ⟨0, by omega, rfl, by simpa [blobs, HNL.out] using ho1, hb1⟩
  case round =>
    obtain ⟨i, hi, rfl, ho, hb⟩ := hrel
    rw [HML.out] at hi
    obtain ⟨q, hq⟩ : ∃ q, q = bs ++ blobs (ts.take i) := ⟨_, rfl⟩
    rw [← hq] at ho
    have HQ := Lib.hid hq
    clear hq
    by_cases hlt : i < m
    · obtain ⟨ad, u, rfl, hadb, hx, hcell0⟩ := hl.at_ hlt
      obtain ⟨x, rfl, hxi⟩ := text_at hx
      have hcell := (hb.cell (p := ad.add i) (by rw [block_of_add]; omega)).trans hcell0
      have hfit : q.length + (blob x).length ≤ 1073741824 := by
        have h1 := blobs_one_le hxi
        have h2 := HBIG.out
        have h3 := HNL.out
        rw [HQ.out, List.length_append]; omega
      have HXI := Lib.hid hxi
      rw [blob_len] at hfit
      obtain ⟨k, hk⟩ : ∃ k, k = x.length := ⟨_, rfl⟩
      have hsz : (tx x).size = k := by rw [tx_size, hk]
      have hst := strCells_tx x
      rw [← hk] at hfit
      have hput : Hid (∀ W : World, Calls Try.prog 86 #[.slice none 0 0, .int .u64 (k : Int)] W fun e w' => ∃ a2 c2, e = .returned (.slice (some a2) (vb k).length c2) ∧ ((vb k).map bv).length = (vb k).length * 1 ∧ (∀ j u, ((vb k).map bv)[j]? = some u → w'.cell? (a2.add j) = some u) ∧ Below W.heap.size W w') := by
        intro W
        refine (put_nil k (by unfold top; omega) W).mono ?_
        rintro e w' ⟨v, rfl, ho, hb⟩
        obtain ⟨A2, c2, rfl, _, hr2⟩ := own_reads ho
        obtain ⟨a2, rfl, _, hc2⟩ := hr2.2 (vb_pos k)
        exact ⟨a2, c2, rfl, hr2.1, hc2, hb⟩
      obtain ⟨s, hs⟩ : ∃ s, s = tx x := ⟨_, rfl⟩
      rw [← hs] at hcell hsz hst
      have hw1 : IntKind.u64.wrap (k : Int) = (k : Int) := by rw [IntKind.wrap_u64]; omega
      obtain ⟨lk, hlk⟩ : ∃ lk, lk = (vb k).length := ⟨_, rfl⟩
      rw [← hlk] at hput hfit
      have HK := Lib.hid hk
      have HLK := Lib.hid hlk
      have HST := Lib.hid hst
      clear hcell0 hx hxi hadb hs hk hlk hst
      go_wp2_with (first
        | (go_at_call 86; refine (hput.out _).mono ?_; rintro e w2 ⟨a2, c2, rfl, hl2, hc2, hb2⟩)
        | (at_builtin; refine wpList_append_own _ rfl _ _ 44 rfl w.heap.size 5 i0 (.int .u8 0) 1 1 Try.underlying44 hi0 hz0 hz1 hz2 rfl (by decide) _ _ _ rfl (own_below ho hb2) a2 lk c2 _ rfl hl2 hc2 (bv_one _) (by unfold maxLen; omega) (by omega) (by have := hb.size; have := hb2.size; omega) ?_; intro v3 w3 ho3 hgrow3 _)
        | (at_builtin; refine Lib.wpList_append_own_string _ rfl _ _ 44 9 rfl w.heap.size 5 i0 Try.underlying44 Try.underlying9 hi0 hz0 hz1 hz2 v3 _ _ rfl ho3 s rfl (by rw [hsz]; unfold maxLen; omega) (by rw [hsz]; omega) (by have := hb.size; have := hb2.size; have := hgrow3.size; omega) ?_; intro v4 w4 ho4 hgrow4 _))
      have e1 : bs ++ blobs (ts.take (i + 1)) = q ++ blob x := by rw [blobs_succ HXI.out, ← List.append_assoc, ← HQ.out]
      have hbl : blob x = vb k ++ x := by rw [blob, ← HK.out]
      have hb3 : Below w.heap.size w w2 := hb.trans (hb2.mono hb.size)
      have hb4 := (hb3.grown hgrow3 hb3.size (own_block ho)).grown hgrow4 (by have := hb3.size; have := hgrow3.size; omega) (own_block ho3)
      refine ⟨⟨i + 1, by rw [HML.out]; omega, by go_num, ?_, hb4⟩, by simp [intOf]; omega⟩
      rw [e1, hbl]
      have e2 : (q ++ (vb k ++ x)).length = q.length + lk + k := by simp [HLK.out, HK.out, Nat.add_assoc]
      have e3 : (q ++ (vb k ++ x)).map bv = q.map bv ++ (vb k).map bv ++ x.map bv := by simp
      rw [e2, e3, ← HST.out]
      rw [hsz] at ho4
      exact ho4
    · obtain rfl : i = m := by omega
      have hall : ts.take i = ts := List.take_of_length_le (by rw [HML.out]; omega)
      rw [HQ.out, hall] at ho
      go_wp2
      go_ret
      exact ⟨_, rfl, ho, hb⟩

set_option maxRecDepth 100000 in
set_option maxHeartbeats 400000 in
/-- blob.Put: the blob behind any bytes. -/
theorem bput_any (A : Option Addr) (n c B : Nat) (bs t : List UInt8) (hbig : n + (blob t).length ≤ 1073741824) (w : World) (hB : B ≤ w.heap.size) (hr : Reads w B 1 A n (bs.map bv)) :
    Calls Try.prog 85 #[.slice A n c, .string (tx t)] w fun e w' => ∃ v, e = .returned v ∧ w'.ownsRow w.heap.size 5 1 v (bs ++ blob t).length ((bs ++ blob t).map bv) ∧ Below w.heap.size w w' := by
  have hlist : ∀ W, W = w.alloc (.cells #[.string (tx t)] 9) → Calls Try.prog 91 #[.slice A n c, .slice (some ⟨w.heap.size, 0, none⟩) 1 1] W fun e w' => ∃ v, e = .returned v ∧ w'.ownsRow W.heap.size 5 1 v (bs ++ blob t).length ((bs ++ blob t).map bv) ∧ Below W.heap.size W w' := by
    rintro W rfl
    have := list_any A (some ⟨w.heap.size, 0, none⟩) n c 1 1 (w.heap.size + 1) bs [t] (by simpa [blobs] using hbig) (by omega) (w.alloc (.cells #[sv t] 9)) (by simp) ((hr.alloc hB _).more (by omega)) (reads_text w 9 t)
    simp only [blobs, List.append_nil] at this
    exact this
  have HLIST := Lib.hid hlist
  clear hlist
  obtain ⟨z, hz⟩ : ∃ z, z = bs ++ blob t := ⟨_, rfl⟩
  rw [← hz] at HLIST ⊢
  clear hz hbig hr
  obtain ⟨s, hs⟩ : ∃ s, s = tx t := ⟨_, rfl⟩
  rw [← hs] at HLIST ⊢
  clear hs
  go_enter Try.func85, Try.ntmps85
  go_wp2_with (go_at_call 91; refine (HLIST.out _ rfl).mono ?_; rintro e w1 ⟨v1, rfl, ho1, hb1⟩)
  go_ret
  refine ⟨_, rfl, ?_, ((Below.refl _ w).alloc (Nat.le_refl _) _).trans (hb1.mono (by simp))⟩
  obtain ⟨h1, h2 | ⟨g, cap, cur, hv, hbg, r⟩⟩ := ho1
  · exact ⟨h1, .inl h2⟩
  · exact ⟨h1, .inr ⟨g, cap, cur, hv, by simp at hbg; omega, r⟩⟩

theorem bput_nil (t : List UInt8) (hbig : (blob t).length ≤ 1073741824) (w : World) :
    Calls Try.prog 85 #[.slice none 0 0, .string (tx t)] w fun e w' => ∃ v, e = .returned v ∧ w'.ownsRow w.heap.size 5 1 v (blob t).length ((blob t).map bv) ∧ Below w.heap.size w w' :=
  bput_any none 0 0 w.heap.size [] t (by omega) w (Nat.le_refl _) Reads.none_

end Go.Proofs.Ytidkahmjjknkmaa

/- Words for memory that name no program: rows that stay, blocks that are known whole, appends, and what a call turns. -/
namespace Go.Proofs.Ytidkahmjjknkmaa
open Go.RowKit

def tsv (t : List UInt8) : Value := .string (tx t)

theorem own_less {w : World} {base base' n size : Nat} {e : TypeId} {v : Value} {xs : List Value} (h : w.ownsRow base e size v n xs) (hb : base' ≤ base) : w.ownsRow base' e size v n xs := by
  rcases h.2 with h2 | ⟨g, cap, cur, h3, h4, h5⟩
  · exact ⟨h.1, .inl h2⟩
  · exact ⟨h.1, .inr ⟨g, cap, cur, h3, by omega, h5⟩⟩
theorem own_slice {w : World} {base n size : Nat} {e : TypeId} {v : Value} {xs : List Value} (h : w.ownsRow base e size v n xs) : ∃ A c, v = .slice A n c ∧ (A = none → c = 0) := by
  obtain ⟨h1, ⟨rfl, rfl⟩ | ⟨g, cap, cur, rfl, hb, hg, hn, hm, hs, hx⟩⟩ := h
  · exact ⟨none, 0, rfl, fun _ => rfl⟩
  · exact ⟨_, _, rfl, fun h => by cases h⟩
theorem own_succ {W : World} {base : Nat} {e : TypeId} {size : Nat} {v : Value} {k : Nat} {xs : List Value} (h : W.ownsRow base e size v (k + 1) xs) : ∃ g cap, v = .slice (some ⟨g, 0, none⟩) (k + 1) cap := by
  rcases h.2 with ⟨_, h0⟩ | ⟨g, cap, _, rfl, _⟩
  · omega
  · exact ⟨g, cap, rfl⟩
/-- A row isn't a block of cells of another type; nor a map. -/
theorem own_cells {w : World} {base n size : Nat} {e t : TypeId} {v : Value} {xs : List Value} {b : Nat} {cs : Array Value} {f : Nat × Nat} (h : w.ownsRow base e size v n xs) (hb : w.heap[b]? = some (.cells cs t f)) (hne : e ≠ t) : v.ownBlock ≠ some b := by
  rcases h.2 with ⟨rfl, _⟩ | ⟨g, cap, cur, rfl, _, hg, _⟩
  · simp [Value.ownBlock]
  · intro e2
    simp only [Value.ownBlock, Option.some.injEq] at e2
    subst e2
    rw [hb] at hg
    injection hg with hg
    injection hg with _ hg
    exact hne hg.symm
theorem own_heap {w w' : World} {base n size : Nat} {e : TypeId} {v : Value} {xs : List Value} (h : w.ownsRow base e size v n xs) (hk : ∀ g, v.ownBlock = some g → w'.heap[g]? = w.heap[g]?) : w'.ownsRow base e size v n xs := by
  refine ⟨h.1, ?_⟩
  rcases h.2 with h2 | ⟨g, cap, cur, rfl, hb, hg, r⟩
  · exact .inl h2
  · exact .inr ⟨g, cap, cur, rfl, hb, (hk g rfl).trans hg, r⟩
theorem own_set {w : World} {base n size : Nat} {e : TypeId} {v : Value} {xs : List Value} {S : Nat → Prop} (h : w.ownsRow base e size v n xs) (hs : ∀ k, S k → k < base) : ∀ g, v.ownBlock = some g → ¬ S g := fun g hg h2 => by
  have h3 := own_block h g hg
  have h4 := hs g h2
  omega
theorem own_from {w : World} {base n size : Nat} {e : TypeId} {v : Value} {xs : List Value} (h : w.ownsRow 0 e size v n xs) (hb : ∀ k, v.ownBlock = some k → base ≤ k) : w.ownsRow base e size v n xs := by
  obtain ⟨h1, h2 | ⟨g, cap, cur, rfl, h3, h4⟩⟩ := h
  · exact ⟨h1, .inl h2⟩
  · exact ⟨h1, .inr ⟨g, cap, cur, rfl, hb g rfl, h4⟩⟩
/-- Rows of unlike types lie in unlike blocks. -/
theorem own_apart {w : World} {b b' s s' n n' : Nat} {e e' : TypeId} {v v' : Value} {xs xs' : List Value} (h : w.ownsRow b e s v n xs) (h' : w.ownsRow b' e' s' v' n' xs') (he : e ≠ e') : Apart v v' := by
  intro g h1 h2
  obtain ⟨_, ⟨rfl, _⟩ | ⟨g1, c1, cur1, rfl, _, hg1, _⟩⟩ := h
  · simp [Value.ownBlock] at h1
  · obtain ⟨_, ⟨rfl, _⟩ | ⟨g2, c2, cur2, rfl, _, hg2, _⟩⟩ := h'
    · simp [Value.ownBlock] at h2
    · simp [Value.ownBlock] at h1 h2
      subst h1 h2
      rw [hg1] at hg2
      simp at hg2
      exact he hg2.2
theorem one_new (w : World) (a : Obj) : (w.alloc a).heap[w.heap.size]? = some a := by show (w.heap.push _)[w.heap.size]? = _; exact Array.getElem?_push_size
theorem two_new (w : World) (a b : Obj) : ((w.alloc a).alloc b).heap[w.heap.size]? = some a ∧ ((w.alloc a).alloc b).heap[w.heap.size + 1]? = some b ∧ ((w.alloc a).alloc b).heap.size = w.heap.size + 2 := by
  have h0 : (w.alloc a).heap.size = w.heap.size + 1 := Array.size_push _
  refine ⟨(Below.heap_alloc _ _ _ (by rw [h0]; omega)).trans (by show (w.heap.push _)[w.heap.size]? = _; exact Array.getElem?_push_size), ?_, by rw [show ((w.alloc a).alloc b).heap.size = (w.alloc a).heap.size + 1 from Array.size_push _, h0]⟩
  have h := @Array.getElem?_push_size _ (w.alloc a).heap b
  rwa [h0] at h
theorem at_heap {w w' : World} (h : w'.heap = w.heap) (p : Addr) : w'.cell? p = w.cell? p := by unfold World.cell?; rw [h]
theorem at_cell {w : World} {b i : Nat} {cs : Array Value} {t : TypeId} {u : Value} (h : w.heap[b]? = some (.cells cs t (0, 0))) (hi : cs[i]? = some u) : w.cell? ⟨b, i, none⟩ = some u := by
  simp [World.cell?, h, hi]
theorem at_frozen {w : World} {b i : Nat} {cs : Array Value} {t : TypeId} (h : w.heap[b]? = some (.cells cs t (0, 0))) : w.frozen? ⟨b, i, none⟩ = false := by
  simp [World.frozen?, h]
theorem set_same {w : World} {b : Nat} {cs : Array Value} {t : TypeId} {f : Nat × Nat} (h : w.heap[b]? = some (.cells cs t f)) (i : Nat) (u : Value) : (w.setCell ⟨b, i, none⟩ u).heap[b]? = some (.cells (cs.setIfInBounds i u) t f) := by
  simp [World.setCell, Array.getElem?_modify, h]
theorem field_cell {w : World} {b i : Nat} {cs : Array Value} {t : TypeId} {u : Value} (h : w.heap[b]? = some (.cells cs t (0, 0))) (hi : cs[i]? = some u) : w.cell? ⟨b, i, none⟩ = some u := by
  simp [World.cell?, h, hi]
theorem field_free {w : World} {b i : Nat} {cs : Array Value} {t : TypeId} (h : w.heap[b]? = some (.cells cs t (0, 0))) : w.frozen? ⟨b, i, none⟩ = false := by
  simp [World.frozen?, h]
theorem field_set {w : World} {g j : Nat} {u : Value} {cs : Array Value} {e : TypeId} {f : Nat × Nat} (h : w.heap[g]? = some (.cells cs e f)) : (w.setCell ⟨g, j, none⟩ u).heap[g]? = some (.cells (cs.setIfInBounds j u) e f) := by
  obtain ⟨hlt, hk⟩ := Array.getElem?_eq_some_iff.1 h
  show (w.heap.modify g _)[g]? = _
  rw [Array.getElem?_eq_getElem (by rw [Array.size_modify]; exact hlt), Array.getElem_modify_self, hk]
  rfl
theorem reads_one_row (W : World) (e : TypeId) (v : Value) : Reads (W.alloc (.cells #[v] e)) (W.heap.size + 1) 1 (some ⟨W.heap.size, 0, none⟩) 1 [v] :=
  ⟨rfl, fun _ => ⟨_, rfl, by show W.heap.size < _; omega, fun j u hu => by
    have hj : j = 0 := by
      rcases Nat.lt_or_ge j 1 with h | h
      · omega
      · rw [List.getElem?_eq_none (by simpa using h)] at hu; cases hu
    subst hj
    exact at_cell (i := 0) (one_new W _) (by simpa using hu)⟩⟩
theorem wp_append_many {P : Program} {w : World} {o : Oper} {a : Act} {K : Act → World → Prop} {Q : Exit → Act → World → Prop} (s x : Operand) (t : TypeId)
    (ho : o.op = .call { callee := .builtin .append, args := #[s, x], argTypes := #[t, t] })
    (base : Nat) (e : TypeId) (i : TypeInfo) (z : Value) (size bytes : Nat) (ht : P.underlying t = some (.slice e)) (hi : P.info? e = some i) (hz : i.zero = some z)
    (hsize : i.size = size) (hby : i.bytes = bytes) (hzs : z.cells.size = size) (hsz : 0 < size)
    (v : Value) (n : Nat) (xs : List Value) (hs : a.eval s = v) (hown : w.ownsRow base e size v n xs)
    (A : Option Addr) (m c B : Nat) (news : List Value) (hx : a.eval x = .slice A m c) (hA : A = none → c = 0) (hr : Reads w B size A m news) (h1 : ∀ u ∈ news, u.oneCell' = true)
    (h63 : n + m ≤ maxLen) (hbytes : (n + m) * bytes ≤ 140737488355328) (hbase : base ≤ w.heap.size)
    (h : ∀ v' w', w'.ownsRow base e size v' (n + m) (xs ++ news) → w.grownBy w' v.ownBlock → (v'.ownBlock = v.ownBlock ∨ v'.ownBlock = some w.heap.size) → K (a.put o.dst v') w') : o.wp P a w K Q := by
  cases A with
  | none =>
    have hm : m = 0 := by
      rcases Nat.eq_zero_or_pos m with h0 | h0
      · exact h0
      · obtain ⟨ad, e, _⟩ := hr.2 h0
        cases e
    subst hm
    have hc := hA rfl
    subst hc
    have hnews : news = [] := List.eq_nil_of_length_eq_zero (by have := hr.1; simpa using this)
    subst hnews
    have hrun := run_append_owned_none (P := P) (w := w) base t o.type e i size ht hi v n xs hown
    unfold Oper.wp
    simp [execOp, ho, resolve, invoke, builtin, hs, hx, hrun, Result.andThen]
    exact h v w (by simpa using hown) (World.grownBy.refl w _) (.inl rfl)
  | some ad =>
    obtain ⟨v', w', hr', h2, h3, _, h5⟩ := run_append_own_at (P := P) w base t o.type e i z size bytes ht hi hz hsize hby hzs hsz v n xs hown ad m c news hr.1 (by
      intro j u hu
      by_cases h0 : 0 < m
      · obtain ⟨ad', e, _, hc⟩ := hr.2 h0
        cases e
        exact hc j u hu
      · have hl := hr.1
        have := (List.getElem?_eq_some_iff.1 hu).1
        have h00 : m = 0 := by omega
        subst h00
        omega) h1 h63 hbytes hbase
    unfold Oper.wp execOp
    simp only [ho, resolve, invoke, builtin, Sem.run_bind, Sem.run_pure, Result.andThen_ok, List.map_toArray, List.map_cons, List.map_nil, hs, hx, hr']
    exact h v' w' h2 h3 h5
/-- append, what is appended read as it lies; elements of any size. -/
theorem wpList_append_many {P : Program} (w : World) {ops : Array Oper} {rest : List Oper} {o : Oper} {a : Act} {Q : Exit → Act → World → Prop} (hgd : o.guard = none) (s x : Operand) (t : TypeId)
    (ho : o.op = .call { callee := .builtin .append, args := #[s, x], argTypes := #[t, t] })
    (base : Nat) (e : TypeId) (i : TypeInfo) (z : Value) (size bytes : Nat) (ht : P.underlying t = some (.slice e)) (hi : P.info? e = some i) (hz : i.zero = some z)
    (hsize : i.size = size) (hby : i.bytes = bytes) (hzs : z.cells.size = size) (hsz : 0 < size)
    (v : Value) (n : Nat) (xs : List Value) (hs : a.eval s = v) (hown : w.ownsRow base e size v n xs)
    (A : Option Addr) (m c B : Nat) (news : List Value) (hx : a.eval x = .slice A m c) (hA : A = none → c = 0) (hr : Reads w B size A m news) (h1 : ∀ u ∈ news, u.oneCell' = true)
    (h63 : n + m ≤ maxLen) (hbytes : (n + m) * bytes ≤ 140737488355328) (hbase : base ≤ w.heap.size)
    (h : ∀ v' w', w'.ownsRow base e size v' (n + m) (xs ++ news) → w.grownBy w' v.ownBlock → wpList P ops Q rest (a.put o.dst v') w') : wpList P ops Q (o :: rest) a w := by
  cases A with
  | none =>
    have hm : m = 0 := by
      rcases Nat.eq_zero_or_pos m with h0 | h0
      · exact h0
      · obtain ⟨ad, e, _⟩ := hr.2 h0
        cases e
    subst hm
    have hc := hA rfl
    subst hc
    have hnews : news = [] := List.eq_nil_of_length_eq_zero (by have := hr.1; simpa using this)
    subst hnews
    exact wpList_append_own_none hgd s x t ho base e i size ht hi v n xs hs hown hx (h v w (by simpa using hown) (World.grownBy.refl w _))
  | some ad =>
    refine wpList_append_own w hgd s x t ho base e i z size bytes ht hi hz hsize hby hzs hsz v n xs hs hown ad m c news hx hr.1 ?_ h1 h63 hbytes hbase (fun v' w' a b _ => h v' w' a b)
    intro j u hu
    by_cases h0 : 0 < m
    · obtain ⟨ad', e, _, hc⟩ := hr.2 h0
      cases e
      exact hc j u hu
    · have hl := hr.1
      have := (List.getElem?_eq_some_iff.1 hu).1
      have h00 : m = 0 := by omega
      subst h00
      omega
/-- append, and where it has put what it made. -/
theorem wpList_append_told {P : Program} (w : World) {ops : Array Oper} {rest : List Oper} {o : Oper} {a : Act} {Q : Exit → Act → World → Prop} (hgd : o.guard = none) (s x : Operand) (t : TypeId)
    (ho : o.op = .call { callee := .builtin .append, args := #[s, x], argTypes := #[t, t] })
    (base : Nat) (e : TypeId) (i : TypeInfo) (z : Value) (size bytes : Nat) (ht : P.underlying t = some (.slice e)) (hi : P.info? e = some i) (hz : i.zero = some z)
    (hsize : i.size = size) (hby : i.bytes = bytes) (hzs : z.cells.size = size) (hsz : 0 < size)
    (v : Value) (n : Nat) (xs : List Value) (hs : a.eval s = v) (hown : w.ownsRow base e size v n xs)
    (A : Option Addr) (m c B : Nat) (news : List Value) (hx : a.eval x = .slice A m c) (hA : A = none → c = 0) (hr : Reads w B size A m news) (h1 : ∀ u ∈ news, u.oneCell' = true)
    (h63 : n + m ≤ maxLen) (hbytes : (n + m) * bytes ≤ 140737488355328) (hbase : base ≤ w.heap.size)
    (h : ∀ v' w', w'.ownsRow base e size v' (n + m) (xs ++ news) → w.grownBy w' v.ownBlock → (v'.ownBlock = v.ownBlock ∨ v'.ownBlock = some w.heap.size) → wpList P ops Q rest (a.put o.dst v') w') : wpList P ops Q (o :: rest) a w := by
  refine wpList_plain hgd fun K hK => ?_
  exact wp_append_many s x t ho base e i z size bytes ht hi hz hsize hby hzs hsz v n xs hs hown A m c B news hx hA hr h1 h63 hbytes hbase (fun v' w' a b c => hK _ _ (h v' w' a b c))
/-- Nothing turns but what lies in blocks of S. -/
def Turn (S : Nat → Prop) (w w' : World) : Prop := w'.os = w.os ∧ w'.tape = w.tape ∧ w'.output = w.output ∧ w.heap.size ≤ w'.heap.size ∧ ∀ k, k < w.heap.size → ¬ S k → w'.heap[k]? = w.heap[k]?
theorem Turn.refl (S : Nat → Prop) (w : World) : Turn S w w := ⟨rfl, rfl, rfl, Nat.le_refl _, fun _ _ _ => rfl⟩
theorem Turn.trans {S S2 : Nat → Prop} {a b c : World} (h : Turn S a b) (k : Turn S2 b c) (hs : ∀ i, i < a.heap.size → S2 i → S i) : Turn S a c :=
  ⟨k.1.trans h.1, k.2.1.trans h.2.1, k.2.2.1.trans h.2.2.1, Nat.le_trans h.2.2.2.1 k.2.2.2.1, fun i hi hn => (k.2.2.2.2 i (Nat.lt_of_lt_of_le hi h.2.2.2.1) (fun h2 => hn (hs i hi h2))).trans (h.2.2.2.2 i hi hn)⟩
theorem Turn.grown {S : Nat → Prop} {a b c : World} {row : Option Nat} (h : Turn S a b) (hg : b.grownBy c row) (hs : ∀ i, row = some i → i < a.heap.size → S i) : Turn S a c :=
  ⟨hg.os.trans h.1, hg.tape.trans h.2.1, hg.output.trans h.2.2.1, Nat.le_trans h.2.2.2.1 hg.size, fun i hi hn => (hg.block i (Nat.lt_of_lt_of_le hi h.2.2.2.1) (fun e => hn (hs i e.symm hi))).trans (h.2.2.2.2 i hi hn)⟩
theorem Turn.setCell {S : Nat → Prop} {a b : World} (h : Turn S a b) (g i : Nat) (u : Value) (hs : S g) : Turn S a (b.setCell ⟨g, i, none⟩ u) :=
  ⟨h.1, h.2.1, h.2.2.1, by simpa using h.2.2.2.1, fun k hk hn => (Below.heap_setCell _ _ _ k (fun e => hn (by rw [show k = g from e]; exact hs))).trans (h.2.2.2.2 k hk hn)⟩
theorem Turn.of_below {S : Nat → Prop} {a b : World} (h : Below a.heap.size a b) : Turn S a b := ⟨h.os, h.tape, h.output, h.size, fun k hk _ => h.block k hk⟩
theorem Turn.below {S : Nat → Prop} {a b : World} {n0 : Nat} (h : Turn S a b) (hs : ∀ i, S i → n0 ≤ i) (hn : n0 ≤ a.heap.size) : Below n0 a b :=
  ⟨h.1, h.2.1, h.2.2.1, h.2.2.2.1, fun k hk => h.2.2.2.2 k (Nat.lt_of_lt_of_le hk hn) (fun h2 => by have := hs k h2; omega)⟩

theorem below_drewN (B : Nat) (w : World) (n : Nat) : Below B w (w.drewN n) := ⟨rfl, rfl, rfl, Nat.le_refl _, fun _ _ => rfl⟩

end Go.Proofs.Ytidkahmjjknkmaa

/- A text put behind others, if it isn't there. -/
namespace Go.Proofs.Ytidkahmjjknkmaa
open Go.RowKit

/-- A text comes behind the others, if it isn't there. -/
def tput (l : List (List UInt8)) (s : List UInt8) : List (List UInt8) := if s ∈ l then l else l ++ [s]
theorem tput_in {l : List (List UInt8)} {s : List UInt8} (h : s ∈ l) : tput l s = l := if_pos h
theorem tput_new {l : List (List UInt8)} {s : List UInt8} (h : s ∉ l) : tput l s = l ++ [s] := if_neg h
theorem tput_nodup {l : List (List UInt8)} {s : List UInt8} (h : l.Nodup) : (tput l s).Nodup := by
  by_cases hs : s ∈ l
  · rw [tput_in hs]; exact h
  · rw [tput_new hs, List.nodup_append]
    exact ⟨h, by simp, fun a ha b hb => by simp at hb; subst hb; exact fun e => hs (e ▸ ha)⟩
theorem tinfo : (Try.prog.info? 9).map (fun i => (i.zero, i.size, i.bytes)) = some (some (.string { data := #[] }), 1, 16) := by kernel_rfl

end Go.Proofs.Ytidkahmjjknkmaa

/- A table of texts: what it is, and how it lies in memory. -/
namespace Go.Proofs.Ytidkahmjjknkmaa
open Go.RowKit Go.Maps Go.ChangeMaps Go.WideMaps


/-- A text's number; 0 if it isn't there. -/
def tnum (l : List (List UInt8)) (s : List UInt8) : Nat := if s ∈ l then l.idxOf s else 0

theorem tnum_lt {l : List (List UInt8)} {s : List UInt8} (h : s ∈ l) : tnum l s < l.length := by
  rw [tnum, if_pos h]; exact List.idxOf_lt_length_of_mem h
theorem tnum_at {l : List (List UInt8)} {s : List UInt8} (h : s ∈ l) : l[tnum l s]? = some s := by
  rw [tnum, if_pos h]
  rw [List.getElem?_eq_getElem (List.idxOf_lt_length_of_mem h), List.getElem_idxOf]
theorem tnum_of {l : List (List UInt8)} (hd : l.Nodup) {i : Nat} {s : List UInt8} (h : l[i]? = some s) : s ∈ l ∧ tnum l s = i := by
  have hm := List.mem_of_getElem? h
  refine ⟨hm, ?_⟩
  obtain ⟨h1, h2⟩ := List.getElem?_eq_some_iff.1 h
  obtain ⟨h3, h4⟩ := List.getElem?_eq_some_iff.1 (tnum_at hm)
  exact (List.getElem_inj hd).1 (h4.trans h2.symm)

theorem tkey : Keyed Try.prog 9 := string_keyed Try.underlying9
theorem zeroU (w : World) : (zeroValue 23).run Try.prog w = .ok (.int .u64 0) w := by kernel_rfl
def u0 : DataW Nat := .lit (.int .u64 0)

/-- The numbers that the map tells are those of the texts. -/
def NumOf (D : DataW Nat) (l : List (List UInt8)) : Prop :=
  IsMap D ∧ ∀ s : List UInt8, Maps.has D (.string s) = decide (s ∈ l) ∧ D.atKey (.string s) u0 = .lit (.int .u64 (tnum l s : Int))

theorem numOf_nil : NumOf (.map []) [] := ⟨isMap_empty, fun s => ⟨by simp [Maps.has], rfl⟩⟩
theorem numOf_put {D : DataW Nat} {l : List (List UInt8)} {s : List UInt8} (h : NumOf D l) (hs : s ∉ l) : NumOf (D.put (.string s) (.lit (.int .u64 (l.length : Int)))) (l ++ [s]) := by
  refine ⟨h.1.put _ _, fun t => ?_⟩
  by_cases ht : t = s
  · subst ht
    refine ⟨by rw [has_put_same h.1 (k := .string t) (show WideAt.IsKeyLit (.string t) from trivial)]; simp, ?_⟩
    rw [atKey_put_same h.1 (k := .string t) (show WideAt.IsKeyLit (.string t) from trivial)]
    have : tnum (l ++ [t]) t = l.length := by
      rw [tnum, if_pos (by simp), List.idxOf_append, if_neg hs]; simp
    rw [this]
  · have hne : Lit.string t ≠ Lit.string s := fun e => ht (by injection e)
    refine ⟨by rw [has_put_other hne, (h.2 t).1]; simp [ht], ?_⟩
    rw [atKey_put_other hne, (h.2 t).2]
    have : tnum (l ++ [s]) t = tnum l t := by
      by_cases hm : t ∈ l
      · rw [tnum, tnum, if_pos (by simp [hm]), if_pos hm, List.idxOf_append, if_pos hm]
      · rw [tnum, tnum, if_neg (by simp [hm, ht]), if_neg hm]
    rw [this]

/-- Of the texts that come first those behind k are deleted one by one: j are left to delete. -/
def NumTill (D : DataW Nat) (l : List (List UInt8)) (k j : Nat) : Prop :=
  IsMap D ∧ ∀ s : List UInt8, Maps.has D (.string s) = decide (s ∈ l ∧ ¬ (k ≤ tnum l s ∧ tnum l s < j)) ∧ (s ∈ l → ¬ (k ≤ tnum l s ∧ tnum l s < j) → D.atKey (.string s) u0 = .lit (.int .u64 (tnum l s : Int))) ∧ (¬ (s ∈ l ∧ ¬ (k ≤ tnum l s ∧ tnum l s < j)) → D.atKey (.string s) u0 = u0)

theorem numTill_start {D : DataW Nat} {l : List (List UInt8)} (k : Nat) (h : NumOf D l) : NumTill D l k k := by
  refine ⟨h.1, fun s => ⟨by rw [(h.2 s).1]; congr 1; exact propext ⟨fun hh => ⟨hh, by omega⟩, fun hh => hh.1⟩, fun _ _ => (h.2 s).2, fun hn => ?_⟩⟩
  have hm : s ∉ l := fun hm => hn ⟨hm, by omega⟩
  rw [(h.2 s).2, tnum, if_neg hm]; rfl

theorem numTill_step {D : DataW Nat} {l : List (List UInt8)} {k j : Nat} {s : List UInt8} (hd : l.Nodup) (hkj : k ≤ j) (hs : l[j]? = some s) (h : NumTill D l k j) : NumTill (D.del (.string s)) l k (j + 1) := by
  obtain ⟨hsm, hsn⟩ := tnum_of hd hs
  refine ⟨h.1.del _, fun t => ?_⟩
  by_cases ht : t = s
  · subst ht
    refine ⟨by rw [has_del_same, hsn]; symm; rw [decide_eq_false_iff_not]; rintro ⟨_, h2⟩; exact h2 ⟨hkj, by omega⟩, fun _ h2 => absurd ⟨by omega, by omega⟩ h2, fun _ => atKey_del_same _⟩
  · have hne : Lit.string t ≠ Lit.string s := fun e => ht (by injection e)
    obtain ⟨h1, h2, h3⟩ := h.2 t
    have hiff : t ∈ l → ((k ≤ tnum l t ∧ tnum l t < j + 1) ↔ (k ≤ tnum l t ∧ tnum l t < j)) := by
      intro hm
      have : tnum l t ≠ j := by
        intro e
        have h4 := tnum_at hm
        rw [e, hs] at h4
        exact ht (Option.some.inj h4).symm
      omega
    refine ⟨?_, fun hm hn => by rw [atKey_del_other hne]; exact h2 hm (fun hh => hn ((hiff hm).2 hh)), fun hn => by rw [atKey_del_other hne]; exact h3 (fun ⟨hm, hh⟩ => hn ⟨hm, fun h4 => hh ((hiff hm).1 h4)⟩)⟩
    rw [has_del_other hne, h1]
    congr 1
    apply propext
    constructor
    · rintro ⟨hm, hh⟩; exact ⟨hm, fun h4 => hh ((hiff hm).1 h4)⟩
    · rintro ⟨hm, hh⟩; exact ⟨hm, fun h4 => hh ((hiff hm).2 h4)⟩

theorem mem_take_iff {l : List (List UInt8)} (hd : l.Nodup) {k : Nat} {s : List UInt8} : s ∈ l.take k ↔ s ∈ l ∧ tnum l s < k := by
  constructor
  · intro h
    obtain ⟨i, hi⟩ := List.mem_iff_getElem?.1 h
    rw [List.getElem?_take] at hi
    split at hi
    · obtain ⟨h1, h2⟩ := tnum_of hd hi
      exact ⟨h1, by omega⟩
    · cases hi
  · rintro ⟨h1, h2⟩
    have h3 := tnum_at h1
    exact List.mem_of_getElem? (i := tnum l s) (by rw [List.getElem?_take, if_pos h2]; exact h3)
theorem tnum_take {l : List (List UInt8)} (hd : l.Nodup) {k : Nat} {s : List UInt8} (h : s ∈ l.take k) : tnum (l.take k) s = tnum l s := by
  have h1 := tnum_at h
  rw [List.getElem?_take] at h1
  split at h1
  · exact (tnum_of hd h1).2.symm
  · cases h1

theorem numTill_end {D : DataW Nat} {l : List (List UInt8)} {k : Nat} (hd : l.Nodup) (h : NumTill D l k l.length) : NumOf D (l.take k) := by
  refine ⟨h.1, fun s => ?_⟩
  obtain ⟨h1, h2, h3⟩ := h.2 s
  have hiff : (s ∈ l ∧ ¬ (k ≤ tnum l s ∧ tnum l s < l.length)) ↔ s ∈ l.take k := by
    rw [mem_take_iff hd]
    constructor
    · rintro ⟨hm, hh⟩; have := tnum_lt hm; exact ⟨hm, by omega⟩
    · rintro ⟨hm, hh⟩; exact ⟨hm, by omega⟩
  refine ⟨by rw [h1]; congr 1; exact propext hiff, ?_⟩
  by_cases hs : s ∈ l.take k
  · have hm := hiff.2 hs
    rw [h2 hm.1 hm.2, tnum_take hd hs]
  · rw [h3 (fun hh => hs (hiff.1 hh)), tnum, if_neg hs]; rfl

/-- A table lies in block b, and in others of S: its texts, and how many entries its map has had at most. -/
def Tab (w : World) (S : Nat → Prop) (b N : Nat) (l : List (List UInt8)) : Prop :=
  ∃ (L : Option Addr) (c : Nat) (mv : Option Nat), w.heap[b]? = some (.cells #[.slice L l.length c, .map mv] 60 (0, 0)) ∧ S b ∧ w.ownsRow 0 9 1 (.slice L l.length c) l.length (l.map tsv) ∧
    (∀ g, (Value.slice L l.length c).ownBlock = some g → S g) ∧ ((mv = none ∧ l = []) ∨ ∃ (mb : Nat) (D : DataW Nat), mv = some mb ∧ S mb ∧ w.ownsMap Try.prog 9 (plainElem Try.prog 23) mb N D ∧ NumOf D l) ∧
    l.Nodup ∧ ∀ s ∈ l, s.length ≤ maxLen

theorem map_heap {w w' : World} {b n : Nat} {D : DataW Nat} {k : TypeId} {R : Value → Option (DataW Nat × List MemPlace)} (h : w.ownsMap Try.prog k R b n D) (hk : w'.heap[b]? = w.heap[b]?) : w'.ownsMap Try.prog k R b n D := by
  obtain ⟨es, clock, hb, r⟩ := h
  exact ⟨es, clock, hk.trans hb, r⟩

/-- It stays where none of its blocks turns. -/
theorem Tab.keep {w w' : World} {S : Nat → Prop} {b N : Nat} {l : List (List UInt8)} (h : Tab w S b N l) (hk : ∀ k, S k → k < w.heap.size → w'.heap[k]? = w.heap[k]?) : Tab w' S b N l := by
  obtain ⟨L, c, mv, h1, h2, h3, h4, h5, h6⟩ := h
  have hb := (Array.getElem?_eq_some_iff.1 h1).1
  refine ⟨L, c, mv, (hk b h2 hb).trans h1, h2, own_heap h3 (fun g hg => hk g (h4 g hg) (own_lt h3 g hg)), h4, ?_, h6⟩
  rcases h5 with h5 | ⟨mb, D, e, hs, hm, hn⟩
  · exact .inl h5
  · exact .inr ⟨mb, D, e, hs, map_heap hm (hk mb hs hm.lt), hn⟩
theorem Tab.turn {w w' : World} {S S2 : Nat → Prop} {b N : Nat} {l : List (List UInt8)} (h : Tab w S b N l) (ht : Turn S2 w w') (hs : ∀ k, S k → k < w.heap.size → ¬ S2 k) : Tab w' S b N l :=
  h.keep fun k h1 h2 => ht.2.2.2.2 k h2 (hs k h1 h2)
theorem Tab.wide {w : World} {S S2 : Nat → Prop} {b N : Nat} {l : List (List UInt8)} (h : Tab w S b N l) (hs : ∀ k, S k → k < w.heap.size → S2 k) : Tab w S2 b N l := by
  obtain ⟨L, c, mv, h1, h2, h3, h4, h5, h6⟩ := h
  refine ⟨L, c, mv, h1, hs b h2 (Array.getElem?_eq_some_iff.1 h1).1, h3, fun g hg => hs g (h4 g hg) (own_lt h3 g hg), ?_, h6⟩
  rcases h5 with h5 | ⟨mb, D, e, hs', hm, hn⟩
  · exact .inl h5
  · exact .inr ⟨mb, D, e, hs mb hs' hm.lt, hm, hn⟩
theorem Tab.more {w : World} {S : Nat → Prop} {b N N' : Nat} {l : List (List UInt8)} (h : Tab w S b N l) (hN : N ≤ N') : Tab w S b N' l := by
  obtain ⟨L, c, mv, h1, h2, h3, h4, h5, h6⟩ := h
  refine ⟨L, c, mv, h1, h2, h3, h4, ?_, h6⟩
  rcases h5 with h5 | ⟨mb, D, e, hs', hm, hn⟩
  · exact .inl h5
  · exact .inr ⟨mb, D, e, hs', hm.mono hN, hn⟩

end Go.Proofs.Ytidkahmjjknkmaa

/- The walks of a table's calls: all, find, Find, thing, Text, Len, number, ID. -/
namespace Go.Proofs.Ytidkahmjjknkmaa
open Go.RowKit Go.Maps Go.ChangeMaps Go.WideMaps

theorem tkeyOf {s : List UInt8} (h : s.length ≤ maxLen) : keyOf Try.prog 9 (tsv s) = some (.string s) := by
  rw [tsv, keyOf_string_mk Try.underlying9 (by rw [tx_size]; exact h)]
  simp [tx]

set_option maxRecDepth 100000 in
theorem all_any (b : Nat) (w : World) : Calls Try.prog 38 #[.pointer (some ⟨b, 0, none⟩)] w fun e w' => e = .returned (.pointer (some ⟨b, 0, none⟩)) ∧ w = w' := by
  go_enter Try.func38, Try.ntmps38
  go_wp2
  go_ret
  exact ⟨rfl, rfl⟩

set_option maxRecDepth 100000 in
set_option maxHeartbeats 400000 in
theorem Len_any (S : Nat → Prop) (b N : Nat) (l : List (List UInt8)) (w : World) (h : Tab w S b N l) :
    Calls Try.prog 30 #[.pointer (some ⟨b, 0, none⟩)] w fun e w' => e = .returned (.int .i64 (l.length : Int)) ∧ w = w' := by
  obtain ⟨L, c, mv, h1, _⟩ := h
  have hc0 := field_cell (i := 0) h1 rfl
  clear h1
  go_enter Try.func30, Try.ntmps30
  go_wp2_with (go_at_call 38; refine (all_any b _).mono ?_; rintro e w1 ⟨rfl, rfl⟩)
  go_ret
  exact ⟨rfl, rfl⟩

theorem own_map {w : World} {base n size : Nat} {e : TypeId} {v : Value} {xs : List Value} {b m : Nat} {D : DataW Nat} {k : TypeId} {R : Value → Option (DataW Nat × List MemPlace)} (h : w.ownsRow base e size v n xs) (hm : w.ownsMap Try.prog k R b m D) : ∀ g, v.ownBlock = some g → g ≠ b := by
  intro g hg e2
  subst e2
  obtain ⟨es, clock, hb, _⟩ := hm
  rcases h.2 with ⟨rfl, _⟩ | ⟨g2, cap, cur, rfl, _, hh, _⟩
  · simp [Value.ownBlock] at hg
  · simp only [Value.ownBlock, Option.some.injEq] at hg
    subst hg
    rw [hb] at hh
    cases hh

/-- Behind a text that came in: what stands. -/
theorem number_end (S : Nat → Prop) (b n N mb g3 c3 c : Nat) (L : Option Addr) (l : List (List UInt8)) (s : List UInt8) (w Wp w2 w3 : World) (D : DataW Nat) (hn : n = l.length) (hin : s ∉ l) (hnd : (l ++ [s]).Nodup) (hlen : ∀ t ∈ l ++ [s], t.length ≤ maxLen) (hSb : S b) (htp : Turn S w Wp) (hpm : S mb ∨ w.heap.size ≤ mb)
    (hp1 : Wp.heap[b]? = some (.cells #[.slice L n c, .map (some mb)] 60 (0, 0))) (hpo : Wp.ownsRow 0 9 1 (.slice L n c) n (l.map tsv)) (hmp : Wp.ownsMap Try.prog 9 (plainElem Try.prog 23) mb N D) (hno : NumOf D l) (hbl : ∀ g, (Value.slice L n c).ownBlock = some g → S g)
    (hm2 : w2.ownsMap Try.prog 9 (plainElem Try.prog 23) mb (N + 1) (D.put (.string s) (.lit (.int .u64 (n : Int))))) (ht2 : Wp.mapTurned w2 mb)
    (hgl : (Value.slice L n c).ownBlock = some g3 ∨ g3 = w2.heap.size + 1) (hg3 : (w2.alloc (.cells #[.string (tx s)] 9)).grownBy w3 (Value.slice L n c).ownBlock) (ho3 : w3.ownsRow 0 9 1 (.slice (some ⟨g3, 0, none⟩) (n + 1) c3) (n + 1) (l.map tsv ++ [.string (tx s)])) (hh3 : w3.heap[b]? = some (.cells #[.slice L n c, .map (some mb)] 60 (0, 0))) (hb : b < w.heap.size) :
    Tab (w3.setCell ⟨b, 0, none⟩ (.slice (some ⟨g3, 0, none⟩) (n + 1) c3)) (fun k => S k ∨ w.heap.size ≤ k) b (N + 1) (l ++ [s]) ∧ Turn S w (w3.setCell ⟨b, 0, none⟩ (.slice (some ⟨g3, 0, none⟩) (n + 1) c3)) := by
  have hgrow := ht2.grown
  have t2 : Turn S w w2 := htp.grown hgrow (fun i e hi => by
    obtain rfl := Option.some.inj e
    rcases hpm with h | h
    · exact h
    · omega)
  have t3 : Turn S w w3 := (t2.grown (World.grownBy_alloc w2 _ none) (by simp)).grown hg3 (fun i e _ => hbl i e)
  have t4 := t3.setCell b 0 (.slice (some ⟨g3, 0, none⟩) (n + 1) c3) hSb
  have hl1 : (l ++ [s]).length = n + 1 := by rw [List.length_append, hn]; rfl
  have hmb3 : w3.heap[mb]? = w2.heap[mb]? := by
    have hlt := hm2.lt
    refine (hg3.block mb (by simp; omega) (fun e => ?_)).trans (Below.heap_alloc _ _ _ hlt)
    exact own_map hpo hmp mb e.symm rfl
  have hne : mb ≠ b := by
    intro e
    subst e
    obtain ⟨es, clock, hb2, _⟩ := hm2
    rw [hh3] at hmb3
    rw [hb2] at hmb3
    cases hmb3
  refine ⟨⟨some ⟨g3, 0, none⟩, c3, some mb, ?_, .inl hSb, ?_, ?_, .inr ⟨mb, D.put (.string s) (.lit (.int .u64 (n : Int))), rfl, hpm, ?_, ?_⟩, hnd, hlen⟩, t4⟩
  · rw [hl1]; exact field_set hh3
  · rw [hl1, List.map_append]
    exact own_heap ho3 (fun g hg => Below.heap_setCell _ _ _ g (fun e => own_cells ho3 hh3 (by decide) (hg.trans (congrArg some e))))
  · intro g hg
    obtain rfl : g3 = g := by simpa [Value.ownBlock] using hg
    rcases hgl with h | h
    · exact .inl (hbl _ h)
    · exact .inr (by have := t2.2.2.2.1; omega)
  · exact map_heap hm2 ((Below.heap_setCell _ _ _ mb hne).trans hmb3)
  · rw [hn]; exact numOf_put hno hin

set_option maxRecDepth 100000 in
set_option maxHeartbeats 1000000 in
theorem number_any (S : Nat → Prop) (b N : Nat) (l : List (List UInt8)) (s : List UInt8) (hs : s.length ≤ maxLen) (hl : l.length + 1 ≤ 1073741824) (hN : N < 1073741824) (w : World) (h : Tab w S b N l) :
    Calls Try.prog 39 #[.pointer (some ⟨b, 0, none⟩), tsv s] w fun e w' => e = .returned (.tuple #[.int .u64 (tnum (tput l s) s : Int), .bool (!decide (s ∈ l))]) ∧
      Tab w' (fun k => S k ∨ w.heap.size ≤ k) b (N + 1) (tput l s) ∧ Turn S w w' := by
  obtain ⟨is, his, his0, his1, his2⟩ := info_parts tinfo
  have htab := h
  obtain ⟨L, c, mv, h1, hSb, h3, h4, h5, hnd, hlen⟩ := h
  have hc1 := field_cell (i := 1) h1 rfl
  have hf1 := field_free (i := 1) h1
  have hc0 := field_cell (i := 0) h1 rfl
  have hf0 := field_free (i := 0) h1
  have hkey := tkeyOf hs
  have HS := Lib.hid hs
  unfold tsv at hkey ⊢
  by_cases hin : s ∈ l
  · rw [tput_in hin, decide_eq_true hin]
    obtain ⟨mb, D, rfl, hSm, hm, hn⟩ : ∃ (mb : Nat) (D : DataW Nat), mv = some mb ∧ S mb ∧ w.ownsMap Try.prog 9 (plainElem Try.prog 23) mb N D ∧ NumOf D l := by
      rcases h5 with ⟨_, e⟩ | h5
      · rw [e] at hin; simp at hin
      · exact h5
    obtain ⟨e1, e2⟩ := hn.2 s
    rw [decide_eq_true hin] at e1
    have E2 := Lib.hid e2
    have HT := Lib.hid htab
    clear e2 h1 h3 h4 h5 hnd hlen htab
    go_enter Try.func39, Try.ntmps39
    go_wp2_with (at_lookup; refine wpList_lookup_own_ok_int _ rfl _ _ 56 rfl 9 23 .u64 tkey Try.underlying56 Try.underlying23 (zeroU _) mb N D rfl hm _ _ rfl hkey ?_; intro cv hat hwc)
    go_ret2
    have e3 := E2.out
    unfold u0 at e3
    rw [e3] at hat
    have : cv = (tnum l s : Int) := by injection hat with hat; injection hat with _ hat; exact hat.symm
    rw [this]
    exact ⟨rfl, (HT.out.wide fun k hk _ => .inl hk).more (by omega), Turn.refl _ _⟩
  · rw [tput_new hin, decide_eq_false hin]
    have hnum : tnum (l ++ [s]) s = l.length := by
      rw [tnum, if_pos (by simp), List.idxOf_append, if_neg hin]; simp
    have HNUM := Lib.hid hnum
    have hnd2 := tput_nodup (s := s) hnd
    rw [tput_new hin] at hnd2
    have HND := Lib.hid hnd2
    have hlen2 : ∀ t ∈ l ++ [s], t.length ≤ maxLen := fun t ht => by
      rcases List.mem_append.1 ht with ht | ht
      · exact hlen t ht
      · obtain rfl := List.mem_singleton.1 ht; exact hs
    have HLEN := Lib.hid hlen2
    have HIN := Lib.hid hin
    have HB := Lib.hid h4
    have HSB := Lib.hid hSb
    have hbl := (Array.getElem?_eq_some_iff.1 h1).1
    obtain ⟨n, hnl⟩ : ∃ n, n = l.length := ⟨_, rfl⟩
    have HNL := Lib.hid hnl
    have hown := h3
    rw [← hnl] at h1 hc0 hl hown
    have hw1 : IntKind.u64.wrap (n : Int) = (n : Int) := by rw [IntKind.wrap_u64]; omega
    have hwf : (Lit.int .u64 (n : Int)).wf = true := by simp [Lit.wf, IntKind.min, IntKind.max, IntKind.signed, IntKind.bits]; omega
    have HOWN := Lib.hid hown
    rcases h5 with ⟨rfl, e0⟩ | ⟨mb, D, rfl, hSm, hm, hn⟩
    · have hnil := fun W : World => look_nil (w := W) (P := Try.prog) true tkey Try.underlying56 (zeroU W) hkey
      have hq := fun W => run_eql_map_nil_sl (P := Try.prog) W 56 _ _ none Try.underlying56
      have hmm := @run_makeMap Try.prog

      have hbl2 : b ≠ w.heap.size := by omega
      have HP1 : Hid (((w.setCell ⟨b, 1, none⟩ (.map (some w.heap.size))).alloc (.map #[] 0)).heap[b]? = some (.cells #[.slice L n c, .map (some w.heap.size)] 60 (0, 0))) := (Below.heap_alloc _ _ _ (by simpa using hbl)).trans (field_set h1)
      have HPO : Hid (((w.setCell ⟨b, 1, none⟩ (.map (some w.heap.size))).alloc (.map #[] 0)).ownsRow 0 9 1 (.slice L n c) n (l.map tsv)) :=
        (own_heap (w' := w.setCell ⟨b, 1, none⟩ (.map (some w.heap.size))) hown (fun g hg => Below.heap_setCell _ _ _ g (fun e => own_cells hown h1 (by decide) (hg.trans (congrArg some e))))).alloc _
      have HMP : Hid (((w.setCell ⟨b, 1, none⟩ (.map (some w.heap.size))).alloc (.map #[] 0)).ownsMap Try.prog 9 (plainElem Try.prog 23) w.heap.size N (.map [] : DataW Nat)) := by
        have h := World.ownsMap_made (H := Nat) (w.setCell ⟨b, 1, none⟩ (.map (some w.heap.size))) Try.prog 9 (plainElem Try.prog 23)
        rw [World.size_setCell] at h
        exact h.mono (Nat.zero_le _)
      have HTP : Hid (Turn S w ((w.setCell ⟨b, 1, none⟩ (.map (some w.heap.size))).alloc (.map #[] 0))) := ((Turn.refl S w).setCell b 1 _ hSb).grown (World.grownBy_alloc _ _ none) (by simp)
      have HPM : Hid (S w.heap.size ∨ w.heap.size ≤ w.heap.size) := .inr (Nat.le_refl _)
      have HNO : Hid (NumOf (.map []) l) := by show NumOf _ _; rw [e0]; exact numOf_nil
      have HBM : Hid (b ≠ w.heap.size) := hbl2
      have HBL : Hid (∀ g, (Value.slice L n c).ownBlock = some g → S g) := by show ∀ g, _; rw [hnl]; exact h4
      have HKEY := Lib.hid hkey
      clear hnl hnum hnd2 hlen2 hin h1 h3 h4 hnd hlen htab hown e0 hbl2 hSb hs
      go_enter Try.func39, Try.ntmps39
      go_wp2_with (first
        | (at_mapUpdate; refine wpList_mapUpdate_in _ rfl _ _ _ 56 rfl 9 23 tkey Try.underlying56 _ w.heap.size N (.map []) rfl HMP.out (by unfold maxLen; omega) _ _ _ rfl rfl HKEY.out _ [] (plainElem_int Try.underlying23 hwf) ?_
           intro w2 hm2 ht2
           have hh2 : w2.heap[b]? = some (.cells #[.slice L n c, .map (some w.heap.size)] 60 (0, 0)) := (ht2.grown.block b (Array.getElem?_eq_some_iff.1 HP1.out).1 (fun e => HBM.out (Option.some.inj e))).trans HP1.out
           have hc0' : w2.cell? ⟨b, 0, none⟩ = some (.slice L n c) := field_cell hh2 rfl
           have hf0' : w2.frozen? ⟨b, 0, none⟩ = false := field_free hh2
           have ho2 := own_heap (w' := w2) HPO.out (fun g hg => ht2.grown.block g (own_lt HPO.out g hg) (fun e => own_map HPO.out HMP.out g hg (Option.some.inj e)))
           have HM2 := Lib.hid hm2
           have HT2 := Lib.hid ht2
           have HH2 := Lib.hid hh2
           clear hm2 ht2 hh2)
        | (at_builtin; refine wpList_append_lies _ rfl (.tmp 44) (.tmp 46) 22 rfl 0 9 is (.string { data := #[] }) 1 16 Try.underlying22 his his0 his1 his2 rfl (by decide) _ n _ rfl (ho2.alloc _) ⟨w2.heap.size, 0, none⟩ 1 1 [.string (tx s)] rfl rfl (cell_one_new _ _ _) (by simp [Value.oneCell']) (by omega) (by unfold maxLen; omega) (by omega) (Nat.zero_le _) (w2.heap.size + 1) (by simp) ?_
           intro g3 c3 w3 ho3 hg3 hgl3 _
           have hh3 : w3.heap[b]? = some (.cells #[.slice L n c, .map (some w.heap.size)] 60 (0, 0)) := (hg3.block b (by have := (Array.getElem?_eq_some_iff.1 HH2.out).1; simp; omega) (fun e => own_cells ho2 HH2.out (by decide) e.symm)).trans ((Below.heap_alloc _ _ _ (Array.getElem?_eq_some_iff.1 HH2.out).1).trans HH2.out)
           have hf3 : w3.frozen? ⟨b, 0, none⟩ = false := field_free hh3
           have hc3 : w3.cell? ⟨b, 0, none⟩ = some (.slice L n c) := field_cell hh3 rfl
           have HG3 := Lib.hid hg3
           have HGL := Lib.hid hgl3
           have HO3 := Lib.hid ho3
           have HO2 := Lib.hid ho2
           have HH3 := Lib.hid hh3
           clear hgl3 hg3 ho3 hh3 hc0' hf0'))
      go_ret2
      refine ⟨by first | (rw [HNUM.out, ← HNL.out]; done) | (rw [HNUM.out, ← HNL.out]; rfl), ?_⟩
      exact number_end S b n N w.heap.size g3 c3 c L l s w _ w2 w3 (.map []) HNL.out HIN.out HND.out HLEN.out HSB.out HTP.out HPM.out HP1.out HPO.out HMP.out HNO.out HBL.out HM2.out HT2.out HGL.out HG3.out HO3.out HH3.out (by omega)
    · have hnl0 := hnl
      clear hnl0
      obtain ⟨e1, e2⟩ := hn.2 s
      rw [decide_eq_false hin] at e1
      have hq := fun W => run_eql_map_nil_sl (P := Try.prog) W 56 _ _ (some mb) Try.underlying56
      have HP1 := Lib.hid h1
      have HPO := Lib.hid hown
      have HMP := Lib.hid hm
      have HTP := Lib.hid (Turn.refl S w)
      have HPM : Hid (S mb ∨ w.heap.size ≤ mb) := .inl hSm
      have HNO := Lib.hid hn
      have HBM : Hid (b ≠ mb) := fun e => by
        subst e
        obtain ⟨es, clock, hb, _⟩ := hm
        rw [h1] at hb; cases hb
      have HBL : Hid (∀ g, (Value.slice L n c).ownBlock = some g → S g) := by show ∀ g, _; rw [hnl]; exact h4
      have HKEY := Lib.hid hkey
      clear hnl hnum hnd2 hlen2 hin h1 h3 h4 hnd hlen htab hown e2 hSb hs hn
      go_enter Try.func39, Try.ntmps39
      go_wp2_with (first
        | (at_lookup; refine wpList_lookup_own_ok_int _ rfl _ _ 56 rfl 9 23 .u64 tkey Try.underlying56 Try.underlying23 (zeroU _) mb N D rfl hm _ _ rfl HKEY.out ?_; intro cv hat hwc; clear hat hwc)
        | (at_mapUpdate; refine wpList_mapUpdate_in _ rfl _ _ _ 56 rfl 9 23 tkey Try.underlying56 _ mb N D rfl HMP.out (by unfold maxLen; omega) _ _ _ rfl rfl HKEY.out _ [] (plainElem_int Try.underlying23 hwf) ?_
           intro w2 hm2 ht2
           have hh2 : w2.heap[b]? = some (.cells #[.slice L n c, .map (some mb)] 60 (0, 0)) := (ht2.grown.block b (Array.getElem?_eq_some_iff.1 HP1.out).1 (fun e => HBM.out (Option.some.inj e))).trans HP1.out
           have hc0' : w2.cell? ⟨b, 0, none⟩ = some (.slice L n c) := field_cell hh2 rfl
           have hf0' : w2.frozen? ⟨b, 0, none⟩ = false := field_free hh2
           have ho2 := own_heap (w' := w2) HPO.out (fun g hg => ht2.grown.block g (own_lt HPO.out g hg) (fun e => own_map HPO.out HMP.out g hg (Option.some.inj e)))
           have HM2 := Lib.hid hm2
           have HT2 := Lib.hid ht2
           have HH2 := Lib.hid hh2
           clear hm2 ht2 hh2)
        | (at_builtin; refine wpList_append_lies _ rfl (.tmp 44) (.tmp 46) 22 rfl 0 9 is (.string { data := #[] }) 1 16 Try.underlying22 his his0 his1 his2 rfl (by decide) _ n _ rfl (ho2.alloc _) ⟨w2.heap.size, 0, none⟩ 1 1 [.string (tx s)] rfl rfl (cell_one_new _ _ _) (by simp [Value.oneCell']) (by omega) (by unfold maxLen; omega) (by omega) (Nat.zero_le _) (w2.heap.size + 1) (by simp) ?_
           intro g3 c3 w3 ho3 hg3 hgl3 _
           have hh3 : w3.heap[b]? = some (.cells #[.slice L n c, .map (some mb)] 60 (0, 0)) := (hg3.block b (by have := (Array.getElem?_eq_some_iff.1 HH2.out).1; simp; omega) (fun e => own_cells ho2 HH2.out (by decide) e.symm)).trans ((Below.heap_alloc _ _ _ (Array.getElem?_eq_some_iff.1 HH2.out).1).trans HH2.out)
           have hf3 : w3.frozen? ⟨b, 0, none⟩ = false := field_free hh3
           have hc3 : w3.cell? ⟨b, 0, none⟩ = some (.slice L n c) := field_cell hh3 rfl
           have HG3 := Lib.hid hg3
           have HGL := Lib.hid hgl3
           have HO3 := Lib.hid ho3
           have HO2 := Lib.hid ho2
           have HH3 := Lib.hid hh3
           clear hgl3 hg3 ho3 hh3 hc0' hf0'))
      go_ret2
      refine ⟨by first | (rw [HNUM.out, ← HNL.out]; done) | (rw [HNUM.out, ← HNL.out]; rfl), ?_⟩
      exact number_end S b n N mb g3 c3 c L l s w w w2 w3 D HNL.out HIN.out HND.out HLEN.out HSB.out HTP.out HPM.out HP1.out HPO.out HMP.out HNO.out HBL.out HM2.out HT2.out HGL.out HG3.out HO3.out HH3.out (by omega)

set_option maxRecDepth 100000 in
set_option maxHeartbeats 400000 in
theorem ID_any (S : Nat → Prop) (b N : Nat) (l : List (List UInt8)) (s : List UInt8) (hs : s.length ≤ maxLen) (hl : l.length + 1 ≤ 1073741824) (hN : N < 1073741824) (w : World) (h : Tab w S b N l) :
    Calls Try.prog 20 #[.pointer (some ⟨b, 0, none⟩), tsv s] w fun e w' => e = .returned (.tuple #[.int .u64 (tnum (tput l s) s : Int), .bool (!decide (s ∈ l))]) ∧
      Tab w' (fun k => S k ∨ w.heap.size ≤ k) b (N + 1) (tput l s) ∧ Turn S w w' := by
  have HF := Lib.hid (number_any S b N l s hs hl hN w h)
  unfold tsv at HF ⊢
  generalize (!decide (s ∈ l)) = q at HF ⊢
  clear h hs hl hN
  go_enter Try.func20, Try.ntmps20
  go_wp2_with (first
    | (go_at_call 38; refine (all_any b _).mono ?_; rintro e w1 ⟨rfl, rfl⟩)
    | (go_at_call 39; refine HF.out.mono ?_; rintro e w1 ⟨rfl, ht1, htu1⟩))
  go_ret2
  exact ⟨rfl, ht1, htu1⟩

end Go.Proofs.Ytidkahmjjknkmaa

/- The walks of find, Find. -/
namespace Go.Proofs.Ytidkahmjjknkmaa
open Go.RowKit Go.Maps Go.ChangeMaps Go.WideMaps

set_option maxRecDepth 100000 in
set_option maxHeartbeats 400000 in
theorem find_any (S : Nat → Prop) (b N : Nat) (l : List (List UInt8)) (s : List UInt8) (hs : s.length ≤ maxLen) (w : World) (h : Tab w S b N l) :
    Calls Try.prog 93 #[.pointer (some ⟨b, 0, none⟩), tsv s] w fun e w' => e = .returned (.tuple #[.int .u64 (tnum l s : Int), .bool (decide (s ∈ l))]) ∧ w = w' := by
  obtain ⟨L, c, mv, h1, _, _, _, h5, _⟩ := h
  have hc1 := field_cell (i := 1) h1 rfl
  have hkey := tkeyOf hs
  have HK := Lib.hid hkey
  unfold tsv at hkey ⊢
  rcases h5 with ⟨rfl, rfl⟩ | ⟨mb, D, rfl, _, hm, hn⟩
  · have hnil := fun W : World => look_nil (w := W) (P := Try.prog) true tkey Try.underlying56 (zeroU W) hkey
    have hnum : tnum [] s = 0 := by simp [tnum]
    rw [hnum]
    clear hkey h1
    go_enter Try.func93, Try.ntmps93
    go_wp2
    go_ret2
    exact ⟨by simp, rfl⟩
  · obtain ⟨e1, e2⟩ := hn.2 s
    have E1 := Lib.hid e1
    have E2 := Lib.hid e2
    clear e1 e2 h1
    go_enter Try.func93, Try.ntmps93
    go_wp2_with (at_lookup; refine wpList_lookup_own_ok_int _ rfl _ _ 56 rfl 9 23 .u64 tkey Try.underlying56 Try.underlying23 (zeroU _) mb N D rfl hm _ _ rfl hkey ?_; intro cv hat hwc)
    go_ret2
    have e3 := E2.out
    unfold u0 at e3
    rw [e3] at hat
    have : cv = (tnum l s : Int) := by injection hat with hat; injection hat with _ hat; exact hat.symm
    rw [this, E1.out]
    exact ⟨rfl, rfl⟩

set_option maxRecDepth 100000 in
set_option maxHeartbeats 400000 in
theorem Find_any (S : Nat → Prop) (b N : Nat) (l : List (List UInt8)) (s : List UInt8) (hs : s.length ≤ maxLen) (w : World) (h : Tab w S b N l) :
    Calls Try.prog 87 #[.pointer (some ⟨b, 0, none⟩), tsv s] w fun e w' => e = .returned (.tuple #[.int .u64 (tnum l s : Int), .bool (decide (s ∈ l))]) ∧ w = w' := by
  have HF := Lib.hid (find_any S b N l s hs w h)
  unfold tsv at HF ⊢
  generalize decide (s ∈ l) = q at HF ⊢
  clear h hs
  go_enter Try.func87, Try.ntmps87
  go_wp2_with (first
    | (go_at_call 38; refine (all_any b _).mono ?_; rintro e w1 ⟨rfl, rfl⟩)
    | (go_at_call 93; refine HF.out.mono ?_; rintro e w1 ⟨rfl, rfl⟩))
  go_ret2
  exact ⟨rfl, rfl⟩

end Go.Proofs.Ytidkahmjjknkmaa

/- A record as a value; what it is made of. -/
namespace Go.Proofs.Ytidkahmjjknkmaa
open Go.RowKit

def rsv (t : List UInt8) : Value := .string (tx t)

/-- A record, all but its deps. -/
structure Rc where
  kind : Int
  target : List UInt8
  rule : Int
  out : Int
  time : Int
  tag : List UInt8

/-- A dep. -/
structure Dp where
  name : List UInt8
  hash : Int
  order : Bool

def Dp.cells (d : Dp) : List Value := [rsv d.name, .int .u64 d.hash, .bool d.order]
def dps (l : List Dp) : List Value := l.flatMap Dp.cells

def rcv (r : Rc) (A : Option Addr) (n c : Nat) : Value := .agg #[.int .i64 r.kind, rsv r.target, .int .u64 r.rule, .slice A n c, .int .u64 r.out, .int .u64 r.time, rsv r.tag]
def restv (r : Rc) : Value := .agg #[.int .i64 r.kind, rsv r.target, rsv r.tag, .int .u64 r.rule, .int .u64 r.out, .int .u64 r.time]

end Go.Proofs.Ytidkahmjjknkmaa

/- Texts: how long, and not empty. -/
namespace Go.Proofs.Ytidkahmjjknkmaa
open Go.RowKit

theorem tx_size0 (t : List UInt8) : (tx t).size = t.length := by simp [tx, ByteArray.size]
theorem tx_empty (t : List UInt8) (h : t ≠ []) : ((tx t).toList == []) = false := by
  rw [beq_eq_false_iff_ne]
  intro e
  exact h (by simpa [tx] using e)

end Go.Proofs.Ytidkahmjjknkmaa

/- Texts alike and unlike, as the walk spells them. -/
namespace Go.Proofs.Ytidkahmjjknkmaa
open Go.RowKit

theorem tx_unlike {s t : List UInt8} (h : s ≠ t) : ((tx s).toList == (tx t).toList) = false := by
  rw [beq_eq_false_iff_ne]
  intro e
  exact h (by simpa [tx] using e)
theorem tx_like (s : List UInt8) : ((tx s).toList == (tx s).toList) = true := by simp

end Go.Proofs.Ytidkahmjjknkmaa
