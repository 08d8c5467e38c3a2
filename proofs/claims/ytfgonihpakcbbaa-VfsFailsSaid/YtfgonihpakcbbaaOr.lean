/- Copy: another file system that is the same. -/
import Derived.Test.YtfgonihpakcbbaaOp
import Derived.Test.YtfgonihpakcbbaaOi
namespace Go.Proofs.Ytfgonihpakcbbaa
open Go.RowKit Go.Maps Go.ChangeMaps Go.WideMaps Go.Sort

/-- A range over a map that is a function, under way: what has come. -/
def FRange (w : World) (b r N : Nat) (F : List UInt8 → Option Value) (done : List (List UInt8)) (cnt : Nat) : Prop := ∃ (D : DataW Value) (left : Lit → Bool), w.ranges Try.prog 9 hElem b r N D left cnt ∧ MapF D F ∧ Collected D left done
theorem FRange.kept {w w' : World} {b r N cnt : Nat} {F : List UInt8 → Option Value} {done : List (List UInt8)} {row : Option Nat} (h : FRange w b r N F done cnt) (hg : w.grownBy w' row) (hb : some b ≠ row) (hr : some r ≠ row) : FRange w' b r N F done cnt := by
  obtain ⟨D, left, h1, h2⟩ := h
  exact ⟨D, left, h1.kept hg hb hr, h2⟩
theorem FRange.past {w w' : World} {b r N cnt : Nat} {F : List UInt8 → Option Value} {done : List (List UInt8)} (h : FRange w b r N F done cnt) (hb : Below w.heap.size w w') : FRange w' b r N F done cnt :=
  h.kept (row := none) ⟨hb.os, hb.tape, hb.output, hb.size, fun k hk _ => hb.block k hk⟩ (by simp) (by simp)
theorem FRange.left_eq {w : World} {b r N cnt : Nat} {F : List UInt8 → Option Value} {done : List (List UInt8)} (h : FRange w b r N F done cnt) : w.rangeLeft b r = cnt := by
  obtain ⟨D, left, h1, _⟩ := h
  exact h1.left_eq
theorem FRange.lt {w : World} {b r N cnt : Nat} {F : List UInt8 → Option Value} {done : List (List UInt8)} (h : FRange w b r N F done cnt) : b < w.heap.size := by
  obtain ⟨D, left, h1, _⟩ := h
  exact h1.owns.lt
theorem FRange.nodup {w : World} {b r N cnt : Nat} {F : List UInt8 → Option Value} {done : List (List UInt8)} (h : FRange w b r N F done cnt) : done.Nodup := by
  obtain ⟨D, left, _, _, h3⟩ := h
  exact h3.1
theorem FRange.len {w : World} {b r N cnt : Nat} {F : List UInt8 → Option Value} {done : List (List UInt8)} (h : FRange w b r N F done cnt) : done.length ≤ N := by
  obtain ⟨D, left, h1, _, h3⟩ := h
  have h4 := List.Nodup.length_le_of_subset h3.1 (fun x hx => ((keys_are h1.owns).2 x).2 ((h3.2 x).1 hx).1)
  refine Nat.le_trans h4 (Nat.le_trans ?_ h1.owns.size_le)
  obtain ⟨es, hD⟩ := h1.owns.isMap
  subst hD
  show (es.map _).length ≤ es.length
  simp
/-- How many entries, at the operation: some number. -/
theorem wpList_tlen (w : World) {ops : Array Oper} {rest : List Oper} {o : Oper} {a : Act} {Q : Exit → Act → World → Prop}
    (hg : o.guard = none) (m : Operand) (t : TypeId) (hop : o.op = Op.call { callee := Callee.builtin Builtin.len, args := #[m], argTypes := #[t] }) (e : TypeId) (ht : Try.prog.underlying t = some (.map 9 e)) (b N : Nat) (F : List UInt8 → Option Value) (hm : a.eval m = .map (some b)) (h : TMap w b N F)
    (hK : ∀ k : Nat, k ≤ N → wpList Try.prog ops Q rest (a.put o.dst (.int .i64 (k : Int))) w) :
    wpList Try.prog ops Q (o :: rest) a w := by
  obtain ⟨D, h1, _⟩ := h
  exact wpList_len_own w hg m t hop 9 e ht hElem b N D hm h1 (hK _ h1.size_le)
/-- 'range m', at the operation. -/
theorem wpList_frange (w : World) {ops : Array Oper} {rest : List Oper} {o : Oper} {a : Act} {Q : Exit → Act → World → Prop}
    (hg : o.guard = none) (m : Operand) (t : TypeId) (hop : o.op = Op.range t m) (e : TypeId) (ht : Try.prog.underlying t = some (.map 9 e)) (b N : Nat) (F : List UInt8 → Option Value) (hm : a.eval m = .map (some b)) (h : TMap w b N F)
    (hK : ∀ w' cnt, FRange w' b w.heap.size N F [] cnt → w.grownBy w' none → w'.heap.size = w.heap.size + 1 → wpList Try.prog ops Q rest (a.put o.dst (.pointer (some ⟨w.heap.size, 0, none⟩))) w') :
    wpList Try.prog ops Q (o :: rest) a w := by
  obtain ⟨D, h1, h2⟩ := h
  exact wpList_range_own w hg m t hop 9 e xkey ht hElem b N D hm h1 (fun w' q1 q2 q3 => hK w' _ ⟨D, _, q1, h2, Collected.start D⟩ q2 q3)
/-- The next one, at the operation. -/
theorem wpList_fnext (w : World) {ops : Array Oper} {rest : List Oper} {o : Oper} {a : Act} {Q : Exit → Act → World → Prop}
    (hg : o.guard = none) (it : Operand) (hop : o.op = Op.next it false) (b r N cnt : Nat) (F : List UInt8 → Option Value) (done : List (List UInt8)) (hit : a.eval it = .pointer (some ⟨r, 0, none⟩)) (h : FRange w b r N F done cnt)
    (hDone : (∀ u, (F u).isSome = true → u ∈ done) → wpList Try.prog ops Q rest (a.put o.dst (.tuple #[.bool false])) w)
    (hMore : ∀ (s : List UInt8) (c : Value) (w' : World) (cnt' : Nat), F s = some c → s ∉ done → s.length ≤ maxLen → FRange w' b r N F (done ++ [s]) cnt' → cnt' < cnt → w.grownBy w' (some r) → w'.heap.size = w.heap.size → (Instr.entry (.pointer (some ⟨r, 0, none⟩))).run Try.prog w' = .ok (.tuple #[.string (tx s), c]) w' → wpList Try.prog ops Q rest (a.put o.dst (.tuple #[.bool true, .string (tx s), c])) w') :
    wpList Try.prog ops Q (o :: rest) a w := by
  obtain ⟨D, left, h1, h2, h5⟩ := h
  refine wpList_next_ranges w hg it hop 9 xkey hElem (fun s : List UInt8 => .string (tx s)) (fun v : Value => v) (fun key kl hk => by obtain ⟨x, hx, _⟩ := Maps.keyOf_str Try.underlying9 hk; exact ⟨x, hx⟩) (fun v y _ => ⟨v, rfl⟩) b r N D left cnt hit h1 ?_ ?_
  · intro _ hl
    exact hDone fun u hu => (h5.2 u).2 ⟨by rw [h2.has]; exact hu, hl _⟩
  · intro s c kl y w' cnt' hkey hlk hv hat hrg hlt hgr hsz hen
    obtain ⟨x, hx, rfl, hxl⟩ := Maps.keyOf_str Try.underlying9 hkey
    obtain rfl : s = x := encStr_inj (x := s) (y := x) hx
    have hFs : F s = some c := by
      have h3 := hat (.held (.bool false))
      have h4 := h2 s (.held (.bool false))
      have h6 := hElem_inv (v := c) (d := y.1) (ps := y.2) hv
      cases e : F s with
      | none =>
        have := has_true_of_atKey hat
        rw [h2.has, e] at this
        cases this
      | some z =>
        rw [e] at h4
        simp only at h4
        rw [h3, h6] at h4
        injection h4 with h4
        rw [h4]
    have hnd : s ∉ done := fun hin => by
      have := ((h5.2 s).1 hin).2
      rw [hlk] at this
      cases this
    exact hMore s c w' cnt' hFs hnd hxl ⟨D, _, hrg, h2, h5.step hlk hat⟩ hlt hgr hsz hen

/-- The files that have come. -/
def flIn (fl : List UInt8 → Option Fl) (done : List (List UInt8)) : List UInt8 → Option Fl := fun u => if u ∈ done then fl u else none
theorem flIn_snoc {fl : List UInt8 → Option Fl} {done : List (List UInt8)} {s : List UInt8} {x : Fl} (h : fl s = some x) : flput (flIn fl done) s (some x) = flIn fl (done ++ [s]) := by
  funext u
  unfold flput flIn
  by_cases e : u = s
  · subst e; simp [h]
  · simp [e]
theorem flIn_all {fl : List UInt8 → Option Fl} {done : List (List UInt8)} (h : ∀ u, (fl u).isSome = true → u ∈ done) : flIn fl done = fl := by
  funext u
  unfold flIn
  by_cases e : u ∈ done
  · rw [if_pos e]
  · rw [if_neg e]
    cases h2 : fl u with
    | none => rfl
    | some x => exact absurd (h u (by rw [h2]; rfl)) e

set_option maxRecDepth 100000 in
set_option maxHeartbeats 4000000 in
theorem copy_any (p b N base : Nat) (down : Bool) (f g : Bool × Int) (fl : List UInt8 → Option Fl) (F : List UInt8 → Option Value) (hN : N ≤ 100000) (hsz : ∀ u x, fl u = some x → x.body.length ≤ 1000000000) (w : World)
    (hx : FsBox w p b down f g) (hf : FilesF w base b N fl F) :
    Calls Try.prog 9 #[.pointer (some ⟨p, 0, none⟩)] w fun e w' => ∃ p2 b2 F2, e = .returned (.pointer (some ⟨p2, 0, none⟩)) ∧ FsBox w' p2 b2 down f g ∧ FilesF w' w.heap.size b2 N fl F2 ∧ Below w.heap.size w w' ∧ ∀ k, FsBlk p2 b2 F2 k → w.heap.size ≤ k := by
  obtain ⟨f1, f2⟩ := f
  obtain ⟨g1, g2⟩ := g
  have HF := Lib.hid hf
  have HX := Lib.hid hx
  have HSZ := Lib.hid hsz
  have hx0 : w.heap[p]? = some (.cells #[.map (some b), .bool down, .bool f1, .int .i64 f2, .bool g1, .int .i64 g2] 50 (0, 0)) := hx
  have c0 := at_cell (i := 0) hx0 rfl
  have c1 := at_cell (i := 1) hx0 rfl
  have c2 := at_cell (i := 2) hx0 rfl
  have c3 := at_cell (i := 3) hx0 rfl
  have c4 := at_cell (i := 4) hx0 rfl
  have c5 := at_cell (i := 5) hx0 rfl
  have hlb : b < w.heap.size := hf.1.lt
  have hlp : p < w.heap.size := hx.lt
  have HX0 := Lib.hid hx0
  have HM1 := Lib.hid (hf.1.kept (World.grownBy_alloc w (.cells #[.map (some b), .bool down, .bool f1, .int .i64 f2, .bool g1, .int .i64 g2] 50) none) (by simp))
  have HA3 : Hid (Below w.heap.size w ((w.alloc (.cells #[.map (some (w.heap.size + 1)), .bool down, .bool f1, .int .i64 f2, .bool g1, .int .i64 g2] 50)).alloc (.map #[] 0))) := ((Below.refl _ _).alloc (Nat.le_refl _) _).alloc (by simp) _
  have HX3 : Hid (((w.alloc (.cells #[.map (some (w.heap.size + 1)), .bool down, .bool f1, .int .i64 f2, .bool g1, .int .i64 g2] 50)).alloc (.map #[] 0)).heap[w.heap.size]? = some (.cells #[.map (some (w.heap.size + 1)), .bool down, .bool f1, .int .i64 f2, .bool g1, .int .i64 g2] 50)) := (Below.heap_alloc _ _ _ (by simp)).trans (one_new w (.cells #[.map (some (w.heap.size + 1)), .bool down, .bool f1, .int .i64 f2, .bool g1, .int .i64 g2] 50))
  have HT3 : Hid (TMap ((w.alloc (.cells #[.map (some (w.heap.size + 1)), .bool down, .bool f1, .int .i64 f2, .bool g1, .int .i64 g2] 50)).alloc (.map #[] 0)) (w.heap.size + 1) 0 (fun _ => none)) := (by
    have h1 := tmap_start (w.alloc (.cells #[.map (some (w.heap.size + 1)), .bool down, .bool f1, .int .i64 f2, .bool g1, .int .i64 g2] 50))
    rw [show (w.alloc (.cells #[.map (some (w.heap.size + 1)), .bool down, .bool f1, .int .i64 f2, .bool g1, .int .i64 g2] 50)).heap.size = w.heap.size + 1 from by simp] at h1
    exact h1)
  have m0 := at_cell (i := 0) ((Below.heap_alloc _ (.map #[] 0) _ (by simp)).trans (one_new w (.cells #[.map (some b), .bool down, .bool f1, .int .i64 f2, .bool g1, .int .i64 g2] 50))) rfl
  have mz := at_frozen (i := 0) ((Below.heap_alloc _ (.map #[] 0) _ (by simp)).trans (one_new w (.cells #[.map (some b), .bool down, .bool f1, .int .i64 f2, .bool g1, .int .i64 g2] 50)))
  have HM3 := Lib.hid (HF.out.1.below HA3.out)
  have k0 := at_cell (i := 0) (HX.out.below HA3.out) rfl
  have HSZ3 : Hid (((w.alloc (.cells #[.map (some (w.heap.size + 1)), .bool down, .bool f1, .int .i64 f2, .bool g1, .int .i64 g2] 50)).alloc (.map #[] 0)).heap.size = w.heap.size + 2) := (by show _ = _; simp)
  have hmm : ∀ (k : Int) (W : World), (Instr.makeMap 46 (some (.int .i64 k))).run Try.prog W = .ok (.map (some W.heap.size)) (W.alloc (.map #[] 0)) := fun _ _ => by kernel_rfl
  clear hx hf hsz hx0
  go_enter Try.func9, Try.ntmps9
  go_wp2_with (first
    | (at_len; refine wpList_tlen _ rfl _ 46 rfl 54 Try.underlying46 b N F rfl HM1.out ?_; intro kk hkk; clear hkk)
    | (at_range; refine wpList_frange _ rfl _ 46 rfl 54 Try.underlying46 b N F rfl HM3.out ?_; intro w4 cnt4 hr4 hg4 hs4; have HR4 : Hid (FRange w4 b (w.heap.size + 2) N F [] cnt4) := (by have h := hr4; rw [HSZ3.out] at h; exact h); have HG4 := Lib.hid hg4; have HS4 := Lib.hid hs4; clear hr4 hg4 hs4))
  have HB4 := Lib.hid (HA3.out.grown HG4.out HA3.out.size (fun j hj => by cases hj))
  have HX4 := Lib.hid ((HG4.out.block w.heap.size (by rw [HSZ3.out]; omega) (by simp)).trans HX3.out)
  have HT4 := Lib.hid (HT3.out.kept HG4.out (by simp))
  have HS5 : Hid (w.heap.size + 2 < w4.heap.size) := (by have h1 := HS4.out; have h2 := HSZ3.out; show _ < _; omega)
  obtain ⟨p2, hp2⟩ : ∃ p2, p2 = w.heap.size := ⟨_, rfl⟩
  obtain ⟨b2, hb2⟩ : ∃ b2, b2 = w.heap.size + 1 := ⟨_, rfl⟩
  obtain ⟨it, hit⟩ : ∃ it, it = w.heap.size + 1 + 1 := ⟨_, rfl⟩
  have HP2 := Lib.hid hp2
  have HBE2 := Lib.hid hb2
  have HIT := Lib.hid hit
  rw [← hit] at HR4 HS5 ⊢
  rw [← hb2] at HX4 HT4 ⊢
  rw [← hp2] at HX4 ⊢
  clear hp2 hb2 hit c0 c1 c2 c3 c4 c5 k0 m0 mz hmm HX3 HT3 HM3 HA3 HM1 HG4 HS4
  go_loopw [4] (fun _ wr => ∃ (done : List (List UInt8)) (F2 : List UInt8 → Option Value) (cnt : Nat), FRange wr b it N F done cnt ∧ FilesF wr w.heap.size b2 done.length (flIn fl done) F2 ∧ FsBox wr p2 b2 down (f1, f2) (g1, g2) ∧ Below w.heap.size w wr ∧ (∀ k, FsBlk p2 b2 F2 k → w.heap.size ≤ k ∧ k ≠ it) ∧ it < wr.heap.size) (fun _ wr => wr.rangeLeft b it)
  case atStart =>
    refine ⟨[], fun _ => none, cnt4, HR4.out, ⟨HT4.out, fun _ _ => rfl, fun u x h => (by simp [flIn] at h), fun u u' A n c s A' n' c' s' _ h => by cases h⟩, HX4.out, HB4.out, fun k hk => ?_, HS5.out⟩
    have h1 := HP2.out
    have h2 := HBE2.out
    have h3 := HIT.out
    rcases hk with h | h | ⟨u, A, n, c, s, h, _⟩
    · omega
    · omega
    · cases h
  case round =>
    obtain ⟨done, F2, cnt, hr, hff, hxx, hb, hbk, hit4⟩ := hrel
    have HRG := Lib.hid hr
    have HFF := Lib.hid hff
    have HXX := Lib.hid hxx
    have HB := Lib.hid hb
    have HBK := Lib.hid hbk
    have HI4 := Lib.hid hit4
    obtain ⟨w7, hw7⟩ : ∃ x, x = wr := ⟨_, rfl⟩
    subst hw7
    clear hr hff hxx hb hbk hit4 HR4 HX4 HT4 HB4 HS5
    go_wp2_with (at_next; refine wpList_fnext _ rfl _ rfl b it N cnt F done rfl HRG.out ?_ ?_)
    · intro hdone
      have HALL : Hid (flIn fl done = fl) := flIn_all fun u hu => by
        obtain ⟨x, hx⟩ := Option.isSome_iff_exists.1 hu
        obtain ⟨A, c, e, _⟩ := HF.out.2.2.1 u x hx
        exact hdone u (by rw [e]; rfl)
      clear hdone
      go_wp2
      go_ret
      have h9 := HFF.out
      rw [HALL.out] at h9
      exact ⟨p2, b2, F2, rfl, HXX.out, ⟨h9.1.mono HRG.out.len, h9.2⟩, HB.out, fun k hk => (HBK.out k hk).1⟩
    · intro s cv w1 cnt1 hFs hnd hsl hr1 hlt1 hg1 hs1 hen
      cases hfx : fl s with
      | none => exact absurd (HF.out.2.1 s hfx) (by rw [hFs]; simp)
      | some x =>
        obtain ⟨A, c, hF, hA, ho⟩ := HF.out.2.2.1 s x hfx
        have hnl : x.body.length ≤ 1073741824 := Nat.le_trans (HSZ.out s x hfx) (by omega)
        obtain ⟨body, q⟩ := x
        simp only at hF hA ho hnl
        obtain ⟨n, hn⟩ : ∃ n, n = body.length := ⟨_, rfl⟩
        rw [← hn] at hF ho hnl
        obtain rfl : cv = fval A n c q := Option.some.inj (hFs.symm.trans hF)
        unfold fval at hen
        have hbit : b2 ≠ it := by have := HBE2.out; have := HIT.out; omega
        have hpit : p2 ≠ it := by have := HP2.out; have := HIT.out; omega
        have hff1 : FilesF w1 w.heap.size b2 done.length (flIn fl done) F2 := HFF.out.kept hg1 (fun e => hbit (Option.some.inj e)) (fun u A' n' c' s' h => by
          cases e : Value.ownBlock (.slice A' n' c') with
          | none => exact .inl rfl
          | some k => exact .inr (fun e2 => (HBK.out k (.inr (.inr ⟨u, A', n', c', s', h, e⟩))).2 (Option.some.inj e2)))
        have hxx1 := HXX.out.kept hg1 (fun e => hpit (Option.some.inj e))
        have hb1 : Below w.heap.size w w1 := HB.out.grown hg1 HB.out.size (fun j hj => by cases hj; have := HIT.out; omega)
        have hal : Below w1.heap.size w1 (w1.alloc (.cells #[.slice A n c, .int .i64 (q : Int)] 54)) := (Below.refl _ _).alloc (Nat.le_refl _) _
        have hnew := one_new w1 (.cells #[.slice A n c, .int .i64 (q : Int)] 54)
        have hsz5 : (w1.alloc (.cells #[.slice A n c, .int .i64 (q : Int)] 54)).heap.size = w1.heap.size + 1 := by simp
        obtain ⟨w5, hw5⟩ : ∃ x, x = w1.alloc (.cells #[.slice A n c, .int .i64 (q : Int)] 54) := ⟨_, rfl⟩
        have HW5 := Lib.hid hw5
        rw [← hw5] at hal hnew hsz5
        obtain ⟨ob, hob⟩ : ∃ ob, ob = w1.heap.size := ⟨_, rfl⟩
        have HOB := Lib.hid hob
        rw [← hob] at hnew
        have HFF5 := Lib.hid (hff1.below hal)
        have HXX5 := Lib.hid (hxx1.below hal)
        have hb5 := hb1.trans (hal.mono hb1.size)
        have HB5 := Lib.hid hb5
        have HRG5 := Lib.hid (hr1.past hal)
        have HIT5 : Hid (it < w5.heap.size) := Nat.lt_of_lt_of_le HI4.out (by rw [hsz5, hs1]; omega)
        have HBN : Hid (some b ≠ some b2) := fun e => by have := Option.some.inj e; have := HBE2.out; omega
        have HIN : Hid (some it ≠ some b2) := fun e => hbit (Option.some.inj e).symm
        have HBASE5 : Hid (w.heap.size ≤ w5.heap.size) := hb5.size
        have HBL : Hid (body.length = n) := hn.symm
        have HNL : Hid (n ≤ 1073741824) := hnl
        have HAN := Lib.hid hA
        have HRD : Hid (Reads w5 w5.heap.size 1 A n (body.map bv)) := ((Reads.of_own ho).below hb5).more hb5.size
        have HLN : Hid (done.length ≤ 100000) := Nat.le_trans HRG.out.len hN
        have HSL := Lib.hid hsl
        have HFX := Lib.hid hfx
        have HLT := Lib.hid hlt1
        obtain ⟨ln, hln⟩ : ∃ ln, ln = done.length := ⟨_, rfl⟩
        have HLE := Lib.hid hln
        rw [← hln] at HFF5 HLN
        obtain ⟨es4, ck4, hmb⟩ := HFF5.out.1.heap
        have hob2 : ob ≠ b2 := fun e => by rw [e, hmb] at hnew; cases hnew
        have hpb2 : p2 ≠ b2 := by have := HP2.out; have := HBE2.out; omega
        have HCM : Hid (∀ v : World, (∀ j : Nat, j < w5.heap.size → j ≠ b2 → v.heap[j]? = w5.heap[j]?) → v.cell? ⟨p2, 0, none⟩ = some (.map (some b2))) := fun v hv => at_cell (i := 0) ((hv p2 HXX5.out.lt hpb2).trans HXX5.out) rfl
        have HC0 : Hid (∀ v : World, (∀ j : Nat, j < w5.heap.size → j ≠ b2 → v.heap[j]? = w5.heap[j]?) → v.cell? ⟨ob, 0, none⟩ = some (.slice A n c)) := fun v hv => at_cell (i := 0) ((hv ob (lt_heapv hnew) hob2).trans hnew) rfl
        have HC1 : Hid (∀ v : World, (∀ j : Nat, j < w5.heap.size → j ≠ b2 → v.heap[j]? = w5.heap[j]?) → v.cell? ⟨ob, 1, none⟩ = some (.int .i64 (q : Int))) := fun v hv => at_cell (i := 1) ((hv ob (lt_heapv hnew) hob2).trans hnew) rfl
        clear hF hFs hnd hsl hr1 hlt1 hg1 hs1 hA ho hnl hn hfx hff1 hxx1 hal hb1 hsz5 hw5 hob hb5 hln hmb hob2 hpb2 hnew hbit hpit
        go_wp2_with fail
        rw [← HW5.out, ← HOB.out]
        refine wp_region_held (S := fun v => ∀ j : Nat, j < w5.heap.size → j ≠ b2 → v.heap[j]? = w5.heap[j]?) (by kernel_rfl) (show wpAnyH _ _ _ _ _ _ _ _ (w5.drew) from ?_)
        have ONLY : Hid (∀ j : Nat, j < w5.heap.size → j ≠ b2 → w5.drew.heap[j]? = w5.heap[j]?) := fun _ _ _ => rfl
        have HD : Hid (Below w5.heap.size w5 w5.drew) := (Below.refl _ w5).drew
        obtain ⟨W0, hW0⟩ : ∃ x, x = w5.drew := ⟨_, rfl⟩
        rw [← hW0] at ONLY HD ⊢
        clear hW0
        refine h_take 0 (.pointer (some ⟨p2, 0, none⟩)) rfl (by kernel_rfl) (by kernel_rfl) (by kernel_rfl) (fun _ _ _ h => h) (by kernel_rfl) ONLY.out (fun _ _ => by kernel_rfl) ?_
        refine h_take 1 (.map (some b2)) rfl (by kernel_rfl) (by kernel_rfl) (by kernel_rfl) (fun _ _ _ h => h) (by kernel_rfl) ONLY.out (by intro v hv; have z0 := HCM.out v hv; go_simp) ?_
        refine h_take 2 (.string (tx s)) rfl (by kernel_rfl) (by kernel_rfl) (by kernel_rfl) (fun _ _ _ h => h) (by kernel_rfl) ONLY.out (fun _ _ => by kernel_rfl) ?_
        refine h_take 3 (.pointer (some ⟨ob, 0, none⟩)) rfl (by kernel_rfl) (by kernel_rfl) (by kernel_rfl) (fun _ _ _ h => h) (by kernel_rfl) ONLY.out (fun _ _ => by kernel_rfl) ?_
        refine h_take 4 (.slice A n c) rfl (by kernel_rfl) (by kernel_rfl) (by kernel_rfl) (fun _ _ _ h => h) (by kernel_rfl) ONLY.out (by intro v hv; have z0 := HC0.out v hv; go_simp) ?_
        refine h_take 6 (.pointer (some ⟨ob, 1, none⟩)) rfl (by kernel_rfl) (by kernel_rfl) (by kernel_rfl) (fun _ _ _ h => h) (by kernel_rfl) ONLY.out (fun _ _ => by kernel_rfl) ?_
        refine h_take 7 (.int .i64 (q : Int)) rfl (by kernel_rfl) (by kernel_rfl) (by kernel_rfl) (fun _ _ _ h => h) (by kernel_rfl) ONLY.out (by intro v hv; have z0 := HC1.out v hv; go_simp) ?_
        go_simp
        refine h_one 5 rfl (by kernel_rfl) (by kernel_rfl) (fun K hK => ?_)
        go_simp
        refine (bclone_any A n c body HNL.out HAN.out W0 ((HRD.out.below HD.out).more HD.out.size)).mono ?_
        rintro e w6 ⟨v6, rfl, ho6, hb6⟩
        obtain ⟨A6, c6, rfl, hA6⟩ := own_slice ho6
        have ONLY6 : Hid (∀ j : Nat, j < w5.heap.size → j ≠ b2 → w6.heap[j]? = w5.heap[j]?) := fun j h1 h2 => (hb6.block j (Nat.lt_of_lt_of_le h1 HD.out.size)).trans (ONLY.out j h1 h2)
        have HB6 := Lib.hid (HD.out.trans (hb6.mono HD.out.size))
        have HO6 := Lib.hid (own_less ho6 HD.out.size)
        have HM6 := Lib.hid (HFF5.out.1.below HB6.out)
        clear ho6 hb6
        refine hK _ _ ONLY6.out ?_
        clear hK K
        refine h_take 8 (fval A6 n c6 q) rfl (by kernel_rfl) (by kernel_rfl) (by kernel_rfl) (fun _ _ _ h => h) (by kernel_rfl) ONLY6.out (by intro v hv; unfold fval; go_simp) ?_
        go_simp
        refine h_one 9 rfl (by kernel_rfl) (by kernel_rfl) (fun K hK => ?_)
        refine wp_tput _ _ _ 46 rfl 54 Try.underlying46 b2 ln F2 rfl HM6.out (by have := HLN.out; unfold maxLen; omega) s (fval A6 n c6 q) rfl rfl HSL.out ?_
        intro w8 hm8 hg8
        have HALL := Lib.hid (files_fresh (s := s) (p := p2) HFF5.out HXX5.out HB6.out HO6.out HBL.out hA6 HBASE5.out hm8 hg8)
        have HR8 := Lib.hid ((HRG5.out.past HB6.out).kept hg8 HBN.out HIN.out)
        refine hK _ _ (fun j h1 h2 => (hg8.block j (Nat.lt_of_lt_of_le h1 HB6.out.size) (fun e => h2 (Option.some.inj e))).trans (ONLY6.out j h1 h2)) ?_
        clear hK K hm8 hg8
        refine wpAnyH_done (by kernel_rfl) ?_ _
        go_simp
        go_wp2
        have hall := HALL.out
        refine ⟨⟨done ++ [s], fput F2 s (fval A6 n c6 q), cnt1, HR8.out, ?_, hall.2.1, ?_, fun k hk => ?_, ?_⟩, ?_⟩
        · have h9 := hall.1
          rw [flIn_snoc HFX.out] at h9
          rw [List.length_append, ← HLE.out]
          exact h9
        · exact HB5.out.trans (hall.2.2.1.below (fun i hi => (HBK.out i hi).1) HBASE5.out)
        · rcases hall.2.2.2 k hk with h9 | h9
          · exact HBK.out k h9
          · exact ⟨Nat.le_trans HBASE5.out h9, by have := HIT5.out; omega⟩
        · exact Nat.lt_of_lt_of_le HIT5.out hall.2.2.1.2.2.2.1
        · rw [HR8.out.left_eq, HRG.out.left_eq]
          exact HLT.out
end Go.Proofs.Ytfgonihpakcbbaa
