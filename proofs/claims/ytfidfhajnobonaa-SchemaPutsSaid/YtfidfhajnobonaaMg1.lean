/- Texts of one proof, one behind the other. -/
import Derived.OrdersHeld
import Derived.Below
import Derived.Laws.OwnMore
import Derived.Laws.CopyOwn
import Derived.Deep.AppendLies
import Derived.Deep.Draws
import Derived.OwnWalk
import Derived.Laws.IdiomStrings
import Derived.Laws.BytesArg
import Derived.Laws.Concat
import Derived.Laws.Strings
import Derived.ProofKit
import Derived.OpenShut
import Derived.Laws.AppendOwnNone
import Derived.Lib.Hide
import Derived.WalkKit
import Derived.Laws.StructEq
import Derived.Maps.AppendAt
import Derived.OneCell
import Derived.Lib.AppendStr
import Derived.Maps.OwnSet
import Derived.Shelf.SlMaps.Clone
import Derived.Test.YtfidfhajnobonaaProg

/- Steps through a region that may be carried out in more than one order: what yields one value in every world of a class is taken first; what is skipped is taken first; the one that is left is carried out. -/
namespace Go.Proofs.Ytfidfhajnobonaa
open Go.RowKit
variable {P : Program} {md : Region.Mode} {ops : Array Oper} {Q : Exit → Act → World → Prop} {S : World → Prop}

/-- It yields v in every world of the class: it is taken first. -/
theorem h_take (i : Nat) (v : Value) {oi : Oper} {fuel : Nat} {listed : Array Bool} {a : Act} {w : World} (hi : ops[i]? = some oi)
    (hs : Region.noSelect ops = true) (hf : Region.free md ops listed i = true) (hr : (Region.ready md ops listed).contains i = true)
    (hQ : ∀ c a w, Q (.panic c) (a.put oi.dst v) w → Q (.panic c) a w) (hw : Region.wanted oi (yielded ops a.tmps) = true) (hS : S w)
    (hy : ∀ w, S w → (execOp a.eval oi).run P w = .ok (.value v) w)
    (h : wpAnyH P md ops Q S fuel (listed.setIfInBounds i true) (a.put oi.dst v) w) : wpAnyH P md ops Q S (fuel + 1) listed a w :=
  wpAnyH_take hi hs hf hr hQ (.inl ⟨hw, hy⟩) hS h

/-- It isn't wanted: it is taken first. -/
theorem h_skip (i : Nat) {oi : Oper} {fuel : Nat} {listed : Array Bool} {a : Act} {w : World} (hi : ops[i]? = some oi)
    (hs : Region.noSelect ops = true) (hf : Region.free md ops listed i = true) (hr : (Region.ready md ops listed).contains i = true)
    (hQ : ∀ c a w, Q (.panic c) (a.put oi.dst undef) w → Q (.panic c) a w) (hw : Region.wanted oi (yielded ops a.tmps) = false) (hS : S w)
    (h : wpAnyH P md ops Q S fuel (listed.setIfInBounds i true) (a.put oi.dst undef) w) : wpAnyH P md ops Q S (fuel + 1) listed a w :=
  wpAnyH_take hi hs hf hr hQ (.inr ⟨hw, rfl⟩) hS h

/-- It is the only one that may come up. -/
theorem h_one (i : Nat) {oi : Oper} {fuel : Nat} {listed : Array Bool} {a : Act} {w : World} (hi : ops[i]? = some oi)
    (hr : Region.ready md ops listed = [i]) (hw : Region.wanted oi (yielded ops a.tmps) = true)
    (h : ∀ K : Act → World → Prop, (∀ a' w', S w' → wpAnyH P md ops Q S fuel (listed.setIfInBounds i true) a' w' → K a' w') → oi.wp P a w K Q) : wpAnyH P md ops Q S (fuel + 1) listed a w := by
  refine wpAnyH_all hr (by simp) (fun j hj => ?_)
  obtain rfl : j = i := by simpa using hj
  unfold wpOp
  simp only [hi, hw, if_true]
  exact .inl (h _ fun _ _ h1 h2 => ⟨h1, h2⟩)

end Go.Proofs.Ytfidfhajnobonaa

/- A region that draws its order: either of two may come up. -/
namespace Go.Proofs.Ytfidfhajnobonaa
open Go.RowKit

section
variable {P : Program} {md : Region.Mode} {ops : Array Oper} {Q : Exit → Act → World → Prop} {S : World → Prop}
/-- Either of two may come up. -/
theorem h_either (i j : Nat) {oi oj : Oper} {fuel : Nat} {listed : Array Bool} {a : Act} {w : World} (hi : ops[i]? = some oi) (hj : ops[j]? = some oj)
    (hr : Region.ready md ops listed = [i, j]) (hwi : Region.wanted oi (yielded ops a.tmps) = true) (hwj : Region.wanted oj (yielded ops a.tmps) = true)
    (h1 : ∀ K : Act → World → Prop, (∀ a' w', S w' → wpAnyH P md ops Q S fuel (listed.setIfInBounds i true) a' w' → K a' w') → oi.wp P a w K Q)
    (h2 : ∀ K : Act → World → Prop, (∀ a' w', S w' → wpAnyH P md ops Q S fuel (listed.setIfInBounds j true) a' w' → K a' w') → oj.wp P a w K Q) : wpAnyH P md ops Q S (fuel + 1) listed a w := by
  refine wpAnyH_all hr (by simp) (fun k hk => ?_)
  rcases (by simpa using hk : k = i ∨ k = j) with rfl | rfl
  · unfold wpOp
    simp only [hi, hwi, if_true]
    exact .inl (h1 _ fun _ _ h1 h2 => ⟨h1, h2⟩)
  · unfold wpOp
    simp only [hj, hwj, if_true]
    exact .inl (h2 _ fun _ _ h1 h2 => ⟨h1, h2⟩)
end

end Go.Proofs.Ytfidfhajnobonaa

/- Words for memory: a slice that reads as a list (nil let in), bytes as values, and make with a length below its capacity. -/
namespace Go.Proofs.Ytfidfhajnobonaa
open Go.RowKit

theorem block_of_add (a : Addr) (n : Nat) : (a.add n).block = a.block := by unfold Addr.add; split <;> rfl
theorem add_of_add (a : Addr) (i j : Nat) : (a.add i).add j = a.add (i + j) := by
  unfold Addr.add
  by_cases hi : i = 0 <;> by_cases hj : j = 0 <;> simp [hi, hj, Nat.add_assoc]

/-- The slice value '.slice A n c' holds the cells xs, and lies below block B. -/
def Reads (w : World) (B size : Nat) (A : Option Addr) (n : Nat) (xs : List Value) : Prop :=
  xs.length = n * size ∧ (0 < n → ∃ ad, A = some ad ∧ ad.block < B ∧ ∀ j u, xs[j]? = some u → w.cell? (ad.add j) = some u)

section
variable {w w' : World} {B B' size n : Nat} {A : Option Addr} {xs : List Value}
theorem Reads.none_ : Reads w B size A 0 [] := ⟨by simp, fun h => absurd h (by omega)⟩
theorem Reads.at_ {k : Nat} (h : Reads w B 1 A n xs) (hk : k < n) : ∃ ad u, A = some ad ∧ ad.block < B ∧ xs[k]? = some u ∧ w.cell? (ad.add k) = some u := by
  obtain ⟨ad, e, hb, hc⟩ := h.2 (by omega)
  have hl : k < xs.length := by have := h.1; omega
  exact ⟨ad, xs[k], e, hb, List.getElem?_eq_getElem hl, hc k _ (List.getElem?_eq_getElem hl)⟩
theorem Reads.keep (h : Reads w B size A n xs) (hk : ∀ p : Addr, p.block < B → w'.cell? p = w.cell? p) : Reads w' B size A n xs :=
  ⟨h.1, fun hn => by
    obtain ⟨ad, e, hb, hc⟩ := h.2 hn
    exact ⟨ad, e, hb, fun j u hu => (hk _ (by rw [block_of_add]; exact hb)).trans (hc j u hu)⟩⟩
theorem Reads.more (h : Reads w B size A n xs) (hB : B ≤ B') : Reads w B' size A n xs :=
  ⟨h.1, fun hn => by
    obtain ⟨ad, e, hb, hc⟩ := h.2 hn
    exact ⟨ad, e, by omega, hc⟩⟩
theorem Reads.below (h : Reads w B size A n xs) (hb : Below B w w') : Reads w' B size A n xs := h.keep fun _ hp => hb.cell hp
theorem Reads.drew (h : Reads w B size A n xs) : Reads w.drew B size A n xs := h
theorem Reads.drewN (h : Reads w B size A n xs) (k : Nat) : Reads (w.drewN k) B size A n xs := h
theorem Reads.alloc (h : Reads w B size A n xs) (hB : B ≤ w.heap.size) (o : Obj) : Reads (w.alloc o) B size A n xs := h.keep fun p hp => World.cell?_alloc_lt w o p (by omega)
theorem Reads.setCell (h : Reads w B size A n xs) {p : Addr} (hB : B ≤ p.block) (u : Value) : Reads (w.setCell p u) B size A n xs :=
  h.keep fun q hq => World.cell?_setCell_other w p q u (fun e => by subst e; omega)
theorem Reads.grown (h : Reads w B size A n xs) {row : Option Nat} (hg : w.grownBy w' row) (hB : B ≤ w.heap.size) (hr : ∀ g, row = some g → B ≤ g) : Reads w' B size A n xs :=
  h.keep fun p hp => World.cell?_of_block (hg.block p.block (by omega) (fun e => by have := hr _ e.symm; omega))
theorem Reads.cut (h : Reads w B size A n xs) {k cap : Nat} (hk : k ≤ n) (hc : n ≤ cap) :
    Reads w B size (if cap = k then A else A.map (·.add (k * size))) (n - k) (xs.drop (k * size)) := by
  refine ⟨by rw [List.length_drop, h.1, Nat.sub_mul], fun hn => ?_⟩
  obtain ⟨ad, rfl, hb, hcell⟩ := h.2 (by omega)
  rw [if_neg (by omega)]
  refine ⟨ad.add (k * size), rfl, by rw [block_of_add]; exact hb, fun j u hu => ?_⟩
  rw [add_of_add]
  exact hcell _ u (by rw [← hu, List.getElem?_drop])
theorem Reads.take (h : Reads w B 1 A n xs) {k : Nat} (hk : k ≤ n) : Reads w B 1 A k (xs.take k) := by
  refine ⟨by rw [List.length_take, h.1]; omega, fun hn => ?_⟩
  obtain ⟨ad, rfl, hb, hcell⟩ := h.2 (by omega)
  refine ⟨ad, rfl, hb, fun j u hu => hcell j u ?_⟩
  rw [List.getElem?_take] at hu
  split at hu
  · exact hu
  · cases hu
theorem Reads.of_own {base : Nat} {e : TypeId} {c : Nat} (h : w.ownsRow base e size (.slice A n c) n xs) : Reads w w.heap.size size A n xs := by
  refine ⟨h.1, fun hn => ?_⟩
  obtain ⟨g, cap, hv, _, hlt⟩ := h.form hn
  have hA : A = some ⟨g, 0, none⟩ := by injection hv
  subst hA
  exact ⟨_, rfl, hlt, h.cells (g := g) rfl⟩
end

theorem own_reads {w : World} {base n : Nat} {e : TypeId} {v : Value} {xs : List Value} (h : w.ownsRow base e 1 v n xs) : ∃ A c, v = .slice A n c ∧ n ≤ c ∧ Reads w w.heap.size 1 A n xs := by
  obtain ⟨h1, ⟨rfl, rfl⟩ | ⟨g, cap, cur, rfl, hb, hg, hn, hm, hs, hx⟩⟩ := h
  · exact ⟨none, 0, rfl, Nat.le_refl _, by simpa using h1, fun h => absurd h (by omega)⟩
  · exact ⟨_, _, rfl, hn, Reads.of_own ⟨h1, .inr ⟨g, cap, cur, rfl, hb, hg, hn, hm, hs, hx⟩⟩⟩

/-- A byte as a value of Go. -/
def bv (c : UInt8) : Value := .int .u8 (c.toNat : Int)

theorem bv_one (bs : List UInt8) : ∀ u ∈ bs.map bv, u.oneCell' = true := by
  intro u hu
  obtain ⟨c, _, rfl⟩ := List.mem_map.1 hu
  rfl

/-- 'make([]T, l, c)', l at most c: a new row of c zero elements. -/
theorem wpList_make_at {P : Program} (w : World) {ops : Array Oper} {rest : List Oper} {o : Oper} {a : Act} {Q : Exit → Act → World → Prop}
    (hg : o.guard = none) (l c : Operand) (t : TypeId) (hop : o.op = Op.makeSlice t l c)
    (e : TypeId) (i : TypeInfo) (z : Value) (h1 : P.underlying t = some (.slice e)) (h2 : P.info? e = some i) (h3 : i.zero = some z) (h4 : i.size = 1)
    (kl kc : IntKind) (L C : Int) (m n : Nat) (hl : a.eval l = .int kl L) (hc : a.eval c = .int kc C) (hL : L = (m : Int)) (hC : C = (n : Int)) (hmn : m ≤ n) (b2 : i.bytes * n ≤ 281474976710656) (b3 : n ≤ maxLen)
    (hK : ∀ Z : List Value, Hid (Z.length = n) → Hid (Z.toArray = madeCells z.cells n) → wpList P ops Q rest (a.put o.dst (.slice (some ⟨w.heap.size, 0, none⟩) m n)) (w.alloc (.cells Z.toArray e))) :
    wpList P ops Q (o :: rest) a w := by
  refine wpList_plain hg fun K hK' => ?_
  have hK1 := hK (madeCells z.cells n).toList (by have := size_madeCells z.cells n; simpa [Hid] using this) (by simp [Hid])
  have h63' : (n : Int) ≤ 9223372036854775807 := by
    have h := b3
    simp [maxLen] at h
    omega
  have hb' : (i.bytes : Int) * (n : Int) ≤ 281474976710656 := by
    have h : ((i.bytes * n : Nat) : Int) ≤ 281474976710656 := by omega
    rwa [Int.natCast_mul] at h
  have hr := run_make (P := P) w t e i z h1 h2 h3 kl kc m n (by omega) (by omega) hb' h63'
  simp only [Int.toNat_natCast, h4, Nat.mul_one] at hr
  subst hL
  subst hC
  unfold Oper.wp
  simp [execOp, hop, hl, hc, hr, Result.andThen]
  exact hK' _ _ (by simpa using hK1)

theorem grownBy_setRow (w : World) (g : Nat) (cs : Array Value) : w.grownBy (w.setRow g cs) (some g) :=
  ⟨rfl, rfl, rfl, by simp [World.setRow], fun k _ hne => setRow_other w g k cs (fun e => hne (by rw [e]))⟩

/-- 'copy(dst, src)', dst the head of a row that is known whole: only that row turns. -/
theorem wpList_copy_at {P : Program} {w : World} {ops : Array Oper} {rest : List Oper} {o : Oper} {a : Act} {Q : Exit → Act → World → Prop} (hgd : o.guard = none) (d s : Operand) (dT sT : TypeId)
    (ho : o.op = .call { callee := .builtin .copy, args := #[d, s], argTypes := #[dT, sT] }) (elem : TypeId) (hu : P.underlying dT = some (.slice elem)) (hsz : (P.info? elem).map (·.size) = some 1)
    (A : Option Addr) (dLen dCap sLen sCap : Nat) (g off : Nat) (hd : a.eval d = .slice (some ⟨g, off, none⟩) dLen dCap) (hs : a.eval s = .slice A sLen sCap)
    (cur : List Value) (t : TypeId) (hg : w.heap[g]? = some (.cells cur.toArray t (0, 0))) (cs : List Value) (B : Nat) (hr : Reads w B 1 A sLen cs) (hle : sLen ≤ dLen)
    (hfit : off + sLen ≤ cur.length) (h1 : ∀ v ∈ cs, v.oneCell' = true)
    (h : ∀ w', Hid (w'.heap[g]? = some (.cells (splice cur off cs).toArray t (0, 0))) → w.grownBy w' (some g) → wpList P ops Q rest (a.put o.dst (goInt sLen)) w') :
    wpList P ops Q (o :: rest) a w := by
  have hcl : cs.length = sLen := by have := hr.1; omega
  by_cases h0 : sLen = 0
  · subst h0
    obtain rfl : cs = [] := List.eq_nil_of_length_eq_zero hcl
    refine wpList_copy_nothing hgd d s dT sT ho elem hu hsz (some ⟨g, off, none⟩) A dLen dCap 0 sCap hd hs (Nat.min_eq_left (Nat.zero_le _)) ?_
    exact h w (show _ = _ by simpa [splice] using hg) (World.grownBy.refl w _)
  · obtain ⟨ad, rfl, _, hc⟩ := hr.2 (by omega)
    refine wpList_copy_own hgd d s dT sT ho elem hu hsz g off dLen dCap ad sLen sCap hd hs cur.toArray t hg cs (by rw [hcl]; exact (Nat.min_eq_left hle).symm) hc (by simpa [hcl] using hfit) h1 ?_
    have := h _ (show _ = _ by simpa [splice] using setRow_heap w g _ _ t _ hg) (grownBy_setRow w g ((cur.take off ++ (cs ++ cur.drop (off + cs.length))).toArray))
    rw [hcl] at *
    simpa [hcl] using this

/-- A row of the call's own out of a block that is known whole. -/
theorem ownsRow_of_block {w : World} {base g cap n : Nat} {e : TypeId} {cs : List Value} {xs : List Value} (hb : base ≤ g) (hg : w.heap[g]? = some (.cells cs.toArray e (0, 0))) (hn : n ≤ cap) (hm : cap ≤ maxLen) (hs : cs.length = cap) (hx : cs.take n = xs) :
    w.ownsRow base e 1 (.slice (some ⟨g, 0, none⟩) n cap) n xs :=
  ⟨by rw [← hx, List.length_take]; omega, .inr ⟨g, cap, cs.toArray, rfl, hb, hg, hn, hm, by simpa using hs, by simpa using hx⟩⟩

end Go.Proofs.Ytfidfhajnobonaa

/- Bytes and texts: what 'string(b)' makes of a slice that reads as a list of bytes. -/
namespace Go.Proofs.Ytfidfhajnobonaa
open Go.RowKit

/-- A list of bytes as a text of Go. -/
def tx (bs : List UInt8) : ByteArray := ⟨bs.toArray⟩

theorem tx_app (a b : List UInt8) : tx a ++ tx b = tx (a ++ b) := by
  apply ByteArray.ext
  show (tx a ++ tx b).data = _
  simp [tx, ByteArray.data_append]
theorem tx_inj {a b : List UInt8} (h : tx a = tx b) : a = b := by
  have := congrArg ByteArray.data h
  simpa [tx] using this
theorem tx_toList (a : List UInt8) : (tx a).toList = a := by rw [ByteArray.toList_eq]; simp [tx]
theorem tx_size (a : List UInt8) : (tx a).size = a.length := by simp [tx, ByteArray.size]

theorem conv_reads {P : Program} {w : World} {src dst e : TypeId} {A : Option Addr} {n c B : Nat} {bs : List UInt8} (hs : P.underlying src = some (.slice e)) (he : P.underlying e = some (.int .u8)) (hd : P.underlying dst = some .string)
    (hr : Reads w B 1 A n (bs.map bv)) : (convert src dst (.slice A n c)).run P w = .ok (.string (tx bs)) w := by
  have hl : bs.length = n := by have := hr.1; simpa using this
  subst hl
  rcases A with _ | a
  · have h0 : bs.length = 0 := by
      rcases Nat.eq_zero_or_pos bs.length with h0 | h0
      · exact h0
      · obtain ⟨ad, h, _⟩ := hr.2 h0
        cases h
    have hb : bs = [] := List.eq_nil_of_length_eq_zero h0
    subst hb
    rw [run_convert_bytes_string w src dst e none _ c hs he hd]
    rfl
  · refine run_convert_bytes_back w src dst e a c bs hs he hd (fun j hj => ?_)
    obtain ⟨ad, h, _, hc⟩ := hr.2 (by omega)
    cases h
    exact hc j _ (by simp [hj, bv])

theorem bv_ofNat {n : Nat} (h : n < 256) : bv (UInt8.ofNat n) = .int .u8 (n : Int) := by
  have : (UInt8.ofNat n).toNat = n := by simp; omega
  unfold bv
  rw [this]

/-- A slice of one byte that was just made. -/
theorem reads_one (W : World) (e : TypeId) (x : UInt8) : Reads (W.alloc (.cells #[bv x] e)) (W.heap.size + 1) 1 (some ⟨W.heap.size, 0, none⟩) 1 ([x].map bv) :=
  ⟨rfl, fun _ => ⟨_, rfl, by simp, fun j u hu => by
    cases j with
    | zero =>
      have hu' : bv x = u := by simpa using hu
      subst hu'
      simp [Addr.add]
    | succ j => simp at hu⟩⟩

theorem add_tx {P : Program} (w : World) (a b : List UInt8) (h : a.length + b.length ≤ 9223372036854775807) : (Op.stringOp .add (tx a) (tx b)).run P w = .ok (.string (tx (a ++ b))) w := by
  rw [run_string_add_sum w _ _ (by rw [tx_size, tx_size]; exact h), tx_app]

theorem reads_two (W : World) (e : TypeId) (x y : UInt8) : Reads (W.alloc (.cells #[bv x, bv y] e)) (W.heap.size + 1) 1 (some ⟨W.heap.size, 0, none⟩) 2 ([x, y].map bv) :=
  ⟨rfl, fun _ => ⟨_, rfl, by simp, fun j u hu => by
    match j with
    | 0 =>
      have hu' : bv x = u := by simpa using hu
      subst hu'
      simp [Addr.add]
    | 1 =>
      have hu' : bv y = u := by simpa using hu
      subst hu'
      simp [Addr.add]
    | j + 2 => simp at hu⟩⟩

end Go.Proofs.Ytfidfhajnobonaa

/- The plain mathematics of a number's bytes, seven bits a byte: no program is named here. -/
namespace Go.Proofs.Ytfidfhajnobonaa

/-- Above all numbers of 64 bits. -/
def top : Nat := 18446744073709551616

/-- A number's bytes, seven bits each, the lowest first. -/
def vb (n : Nat) : List UInt8 := if n < 128 then [UInt8.ofNat n] else UInt8.ofNat (n % 128 + 128) :: vb (n / 128)
termination_by n
decreasing_by omega

theorem vb_lt {n : Nat} (h : n < 128) : vb n = [UInt8.ofNat n] := by rw [vb, if_pos h]
theorem vb_ge {n : Nat} (h : 128 ≤ n) : vb n = UInt8.ofNat (n % 128 + 128) :: vb (n / 128) := by rw [vb, if_neg (by omega)]

theorem vb_pos (n : Nat) : 0 < (vb n).length := by
  by_cases h : n < 128
  · rw [vb_lt h]; simp
  · rw [vb_ge (by omega)]; simp

theorem vb_ne (n : Nat) : vb n ≠ [] := fun e => by have := vb_pos n; rw [e] at this; simp at this

theorem vb_len_pow : ∀ (k n : Nat), n < 128 ^ (k + 1) → (vb n).length ≤ k + 1
  | 0, n, h => by rw [vb_lt (by simpa using h)]; simp
  | k + 1, n, h => by
    by_cases h1 : n < 128
    · rw [vb_lt h1]; simp
    · rw [vb_ge (by omega)]
      have : n / 128 < 128 ^ (k + 1) := by
        rw [Nat.pow_succ] at h
        exact Nat.div_lt_of_lt_mul (by rw [Nat.mul_comm]; exact h)
      have := vb_len_pow k (n / 128) this
      simp; omega

theorem vb_len (n : Nat) (h : n < top) : (vb n).length ≤ 10 :=
  vb_len_pow 9 n (by unfold top at h; have : (128 : Nat) ^ (9 + 1) = 1180591620717411303424 := by decide
                     omega)

theorem vb_mono : ∀ (n m : Nat), n ≤ m → (vb n).length ≤ (vb m).length := by
  intro n
  induction n using Nat.strongRecOn with
  | ind n ih =>
    intro m h
    by_cases h1 : n < 128
    · rw [vb_lt h1]; exact vb_pos m
    · rw [vb_ge (by omega : 128 ≤ n), vb_ge (by omega : 128 ≤ m)]
      have := ih (n / 128) (by omega) (m / 128) (by omega)
      simpa using this

/-- The number that bytes stand for. -/
def bval : List UInt8 → Nat
  | [] => 0
  | c :: l => c.toNat % 128 + 128 * bval l

theorem u8_ofNat' (n : Nat) (h : n < 256) : (UInt8.ofNat n).toNat = n := by
  simp; omega

theorem bval_vb (n : Nat) : bval (vb n) = n := by
  induction n using Nat.strongRecOn with
  | ind n ih =>
    by_cases h1 : n < 128
    · rw [vb_lt h1, bval, bval, u8_ofNat' n (by omega)]; omega
    · rw [vb_ge (by omega), bval, ih (n / 128) (by omega), u8_ofNat' _ (by omega)]; omega

theorem vb_inj {n m : Nat} (h : vb n = vb m) : n = m := by rw [← bval_vb n, h, bval_vb]

/-- Each byte but the last goes on. -/
theorem vb_goes (n : Nat) : ∀ (i : Nat) (c : UInt8), (vb n)[i]? = some c → (128 ≤ c.toNat ↔ i + 1 < (vb n).length) := by
  induction n using Nat.strongRecOn with
  | ind n ih =>
    intro i c h
    by_cases h1 : n < 128
    · rw [vb_lt h1] at h ⊢
      cases i with
      | zero =>
        have hc : UInt8.ofNat n = c := by simpa using h
        subst hc
        rw [u8_ofNat' n (by omega)]; simp; omega
      | succ i => simp at h
    · rw [vb_ge (by omega)] at h ⊢
      cases i with
      | zero =>
        have hc : UInt8.ofNat (n % 128 + 128) = c := by simpa using h
        subst hc
        have := vb_pos (n / 128)
        rw [u8_ofNat' _ (by omega)]; simp; omega
      | succ i =>
        have := ih (n / 128) (by omega) i c (by simpa using h)
        rw [this]; simp

theorem u8_ofNat (n : Nat) (h : n < 256) : (UInt8.ofNat n).toNat = n := by
  simp; omega

theorem u8_cont (n : Nat) : (UInt8.ofNat (n % 128 + 128)).toNat = n % 128 + 128 := u8_ofNat _ (by omega)

/-- What is read, byte by byte, behind i bytes that have made acc: the number, how many bytes, the error. -/
def gr (i acc : Nat) : List UInt8 → Nat × Nat × Nat
  | [] => (0, 0, 2)
  | c :: l =>
    if ¬ (i = 9 ∧ 1 < c.toNat) ∧ (i = 0 ∨ c.toNat ≠ 0) then
      if c.toNat < 128 then (acc + c.toNat * 128 ^ i, i + 1, 0) else gr (i + 1) (acc + c.toNat % 128 * 128 ^ i) l
    else (0, 0, 3)

theorem gr_bad {i acc : Nat} {c : UInt8} {l : List UInt8} (h : ¬ (¬ (i = 9 ∧ 1 < c.toNat) ∧ (i = 0 ∨ c.toNat ≠ 0))) : gr i acc (c :: l) = (0, 0, 3) := by rw [gr, if_neg h]
theorem gr_last {i acc : Nat} {c : UInt8} {l : List UInt8} (h : ¬ (i = 9 ∧ 1 < c.toNat) ∧ (i = 0 ∨ c.toNat ≠ 0)) (h1 : c.toNat < 128) : gr i acc (c :: l) = (acc + c.toNat * 128 ^ i, i + 1, 0) := by rw [gr, if_pos h, if_pos h1]
theorem gr_on {i acc : Nat} {c : UInt8} {l : List UInt8} (h : ¬ (i = 9 ∧ 1 < c.toNat) ∧ (i = 0 ∨ c.toNat ≠ 0)) (h1 : ¬ c.toNat < 128) : gr i acc (c :: l) = gr (i + 1) (acc + c.toNat % 128 * 128 ^ i) l := by rw [gr, if_pos h, if_neg h1]

end Go.Proofs.Ytfidfhajnobonaa

/- The way down: a slice of bytes, and one of numbers of 64 bits, that came in. -/
namespace Go.Proofs.Ytfidfhajnobonaa
open Go.ChangeShapes Go.WideShapes Go.ChangeAt Go.RowKit

theorem cell_lt {w : World} {p : Addr} {v : Value} (h : w.cell? p = some v) : p.block < w.heap.size := by
  rcases Nat.lt_or_ge p.block w.heap.size with hlt | hge
  · exact hlt
  · rw [World.cell?, Array.getElem?_eq_none hge] at h
    cases h

/-- A slice of whole numbers that came in: its cells, in their order. -/
theorem open_nums {H : Type} {enc : TypeId × Value → H} {P : Program} {W : World} {t e : TypeId} {k : IntKind} {v : Value} {d : DataW H} {ps : List MemPlace} {r : Reach} {b0 : Nat} (ht : P.underlying t = some (.slice e)) (he : P.underlying e = some (.int k)) (hc : P.cellsOf e = 1)
    (hval : Value.okWide P W r b0 t v) (hd : DataW.Trod enc P W 0 (fun _ => true) true t v d ps) :
    ∃ (A : Option Addr) (n c : Nat) (zs : List Int), v = .slice A n c ∧ n ≤ c ∧ Reads W W.heap.size 1 A n (zs.map (Value.int k)) ∧ ∀ z ∈ zs, (Lit.int k z).wf = true := by
  obtain ⟨a, n, c, rfl⟩ := okWide_slice ht hval
  obtain ⟨fuel, hf⟩ := hd
  rcases open_ints ht he hc hf with ⟨hcs, hx⟩ | ⟨ad, len, cap, zs, hcs, _, hl, hm, hz, hx, hcell, hwz⟩
  · have h0 : Value.slice a n c = .slice none 0 0 := by simpa [Value.cells] using hcs
    cases h0
    exact ⟨none, 0, 0, [], rfl, Nat.le_refl _, Reads.none_, by simp⟩
  · have h0 : Value.slice a n c = .slice (some ad) len cap := by simpa [Value.cells] using hcs
    cases h0
    simp only [if_true] at hz
    refine ⟨some ad, n, c, zs.take n, rfl, hl, ⟨by simp [hz, Nat.min_eq_left hl], fun hn => ⟨ad, rfl, ?_, fun j u hu => ?_⟩⟩, fun z hz' => hwz z (List.mem_of_mem_take hz')⟩
    · have := cell_lt (hcell 0 (by omega))
      rwa [block_of_add] at this
    · rw [List.getElem?_map, List.getElem?_take] at hu
      split at hu
      · rename_i hj
        have hjl : j < zs.length := by omega
        rw [List.getElem?_eq_getElem hjl] at hu
        have hu' : Value.int k zs[j] = u := by simpa using hu
        rw [hcell j hjl, ← hu']
        simp [List.getD, List.getElem?_eq_getElem hjl]
      · cases hu

theorem bytes_of_nums : ∀ zs : List Int, (∀ z ∈ zs, (Lit.int .u8 z).wf = true) → ∃ bs : List UInt8, zs.map (Value.int .u8) = bs.map bv
  | [], _ => ⟨[], rfl⟩
  | z :: zs, h => by
    obtain ⟨bs, hb⟩ := bytes_of_nums zs (fun y hy => h y (by simp [hy]))
    have hx : 0 ≤ z ∧ z ≤ 255 := by simpa [Lit.wf, IntKind.min, IntKind.max, IntKind.signed, IntKind.bits] using h z (by simp)
    refine ⟨UInt8.ofNat z.toNat :: bs, ?_⟩
    have e : ((UInt8.ofNat z.toNat).toNat : Int) = z := by rw [u8_ofNat _ (by omega)]; omega
    simp only [List.map_cons, hb, bv, e]

theorem u64s_of_nums : ∀ zs : List Int, (∀ z ∈ zs, (Lit.int .u64 z).wf = true) → ∃ ns : List Nat, zs.map (Value.int .u64) = ns.map (fun n : Nat => Value.int .u64 (n : Int)) ∧ ∀ n ∈ ns, n < top
  | [], _ => ⟨[], rfl, by simp⟩
  | z :: zs, h => by
    obtain ⟨bs, hb, hl⟩ := u64s_of_nums zs (fun y hy => h y (by simp [hy]))
    have hx : 0 ≤ z ∧ z ≤ 18446744073709551615 := by simpa [Lit.wf, IntKind.min, IntKind.max, IntKind.signed, IntKind.bits] using h z (by simp)
    refine ⟨z.toNat :: bs, ?_, ?_⟩
    · have e : ((z.toNat : Nat) : Int) = z := by omega
      simp only [List.map_cons, hb, e]
    · intro n hn
      rcases List.mem_cons.1 hn with rfl | hn
      · unfold top; omega
      · exact hl n hn

theorem open_bytes {H : Type} {enc : TypeId × Value → H} {P : Program} {W : World} {t e : TypeId} {v : Value} {d : DataW H} {ps : List MemPlace} {r : Reach} {b0 : Nat} (ht : P.underlying t = some (.slice e)) (he : P.underlying e = some (.int .u8)) (hc : P.cellsOf e = 1)
    (hval : Value.okWide P W r b0 t v) (hd : DataW.Trod enc P W 0 (fun _ => true) true t v d ps) :
    ∃ (A : Option Addr) (n c : Nat) (bs : List UInt8), v = .slice A n c ∧ n ≤ c ∧ Reads W W.heap.size 1 A n (bs.map bv) := by
  obtain ⟨A, n, c, zs, hv, hl, hr, hw⟩ := open_nums ht he hc hval hd
  obtain ⟨bs, hb⟩ := bytes_of_nums zs hw
  rw [hb] at hr
  exact ⟨A, n, c, bs, hv, hl, hr⟩

theorem open_u64s {H : Type} {enc : TypeId × Value → H} {P : Program} {W : World} {t e : TypeId} {v : Value} {d : DataW H} {ps : List MemPlace} {r : Reach} {b0 : Nat} (ht : P.underlying t = some (.slice e)) (he : P.underlying e = some (.int .u64)) (hc : P.cellsOf e = 1)
    (hval : Value.okWide P W r b0 t v) (hd : DataW.Trod enc P W 0 (fun _ => true) true t v d ps) :
    ∃ (A : Option Addr) (n c : Nat) (ns : List Nat), v = .slice A n c ∧ n ≤ c ∧ Reads W W.heap.size 1 A n (ns.map (fun n : Nat => Value.int .u64 (n : Int))) ∧ ∀ n ∈ ns, n < top := by
  obtain ⟨A, n, c, zs, hv, hl, hr, hw⟩ := open_nums ht he hc hval hd
  obtain ⟨ns, hb, hn⟩ := u64s_of_nums zs hw
  rw [hb] at hr
  exact ⟨A, n, c, ns, hv, hl, hr, hn⟩

theorem nat_u64 {a : Int} (h : (Lit.int .u64 a).wf = true) : ∃ n : Nat, a = (n : Int) ∧ n < top := by
  have hx : 0 ≤ a ∧ a ≤ 18446744073709551615 := by simpa [Lit.wf, IntKind.min, IntKind.max, IntKind.signed, IntKind.bits] using h
  exact ⟨a.toNat, by omega, by unfold top; omega⟩

end Go.Proofs.Ytfidfhajnobonaa

/- More words for memory: what the call owns stays owned; 'append' onto it of whatever reads as a list, nil let in; a slice of bytes that came in. -/
namespace Go.Proofs.Ytfidfhajnobonaa
open Go.ChangeShapes Go.WideShapes Go.ChangeAt Go.RowKit

theorem own_block {w : World} {base n size : Nat} {e : TypeId} {v : Value} {xs : List Value} (h : w.ownsRow base e size v n xs) : ∀ k, v.ownBlock = some k → base ≤ k := by
  intro k hk
  obtain ⟨_, ⟨rfl, _⟩ | ⟨g, cap, cur, rfl, hb, _⟩⟩ := h
  · simp [Value.ownBlock] at hk
  · simp [Value.ownBlock] at hk; omega

theorem own_below {w w' : World} {base n size : Nat} {e : TypeId} {v : Value} {xs : List Value} (h : w.ownsRow base e size v n xs) (hb : Below w.heap.size w w') : w'.ownsRow base e size v n xs := by
  obtain ⟨h1, h2 | ⟨g, cap, cur, hv, hbg, hg, r⟩⟩ := h
  · exact ⟨h1, .inl h2⟩
  · have hlt : g < w.heap.size := by
      rcases Nat.lt_or_ge g w.heap.size with hlt | hge
      · exact hlt
      · rw [Array.getElem?_eq_none hge] at hg; cases hg
    exact ⟨h1, .inr ⟨g, cap, cur, hv, hbg, by rw [hb.block g hlt]; exact hg, r⟩⟩

/-- A slice of no bytes that was just laid. -/
theorem own_empty (w : World) (e : TypeId) : (w.alloc (.cells #[] e)).ownsRow w.heap.size e 1 (.slice (some ⟨w.heap.size, 0, none⟩) 0 0) 0 [] :=
  ⟨rfl, .inr ⟨w.heap.size, 0, #[], rfl, Nat.le_refl _, by show (w.heap.push _)[w.heap.size]? = _; simp, Nat.le_refl _, by unfold maxLen; omega, rfl, rfl⟩⟩

/-- 'append(v, x...)', v the call's own, x whatever reads as a list, nil let in. -/
theorem wpList_append_reads {P : Program} (w : World) {ops : Array Oper} {rest : List Oper} {o : Oper} {a : Act} {Q : Exit → Act → World → Prop} (hgd : o.guard = none) (s x : Operand) (t : TypeId)
    (ho : o.op = .call { callee := .builtin .append, args := #[s, x], argTypes := #[t, t] })
    (base : Nat) (e : TypeId) (i : TypeInfo) (z : Value) (bytes : Nat) (ht : P.underlying t = some (.slice e)) (hi : P.info? e = some i) (hz : i.zero = some z)
    (hsize : i.size = 1) (hby : i.bytes = bytes) (hzs : z.cells.size = 1)
    (v : Value) (n : Nat) (xs : List Value) (hs : a.eval s = v) (hown : w.ownsRow base e 1 v n xs)
    (A : Option Addr) (m c B : Nat) (news : List Value) (hx : a.eval x = .slice A m c) (hA : A = none → c = 0) (hr : Reads w B 1 A m news) (h1 : ∀ u ∈ news, u.oneCell' = true)
    (h63 : n + m ≤ maxLen) (hbytes : (n + m) * bytes ≤ 140737488355328) (hbase : base ≤ w.heap.size)
    (h : ∀ v' w', w'.ownsRow base e 1 v' (n + m) (xs ++ news) → w.grownBy w' v.ownBlock → wpList P ops Q rest (a.put o.dst v') w') : wpList P ops Q (o :: rest) a w := by
  cases A with
  | none =>
    have hm : m = 0 := by
      rcases Nat.eq_zero_or_pos m with h0 | h0
      · exact h0
      · obtain ⟨ad, e, _⟩ := hr.2 h0
        cases e
    subst hm
    have hc := hA rfl
    subst hc
    have hnews : news = [] := List.eq_nil_of_length_eq_zero (by have := hr.1; simpa using this)
    subst hnews
    exact wpList_append_own_none hgd s x t ho base e i 1 ht hi v n xs hs hown hx (h v w (by simpa using hown) (World.grownBy.refl w _))
  | some ad =>
    refine wpList_append_own w hgd s x t ho base e i z 1 bytes ht hi hz hsize hby hzs (by decide) v n xs hs hown ad m c news hx hr.1 ?_ h1 h63 hbytes hbase (fun v' w' a b _ => h v' w' a b)
    intro j u hu
    by_cases h0 : 0 < m
    · obtain ⟨ad', e, _, hc⟩ := hr.2 h0
      cases e
      exact hc j u hu
    · have hl := hr.1
      have := (List.getElem?_eq_some_iff.1 hu).1
      omega

/-- Two values that lie in unlike blocks. -/
def Apart (u v : Value) : Prop := ∀ g, u.ownBlock = some g → v.ownBlock ≠ some g
theorem Apart.symm {u v : Value} (h : Apart u v) : Apart v u := fun g h1 h2 => h g h2 h1

section
variable {w w' : World} {base n m k cap g size : Nat} {e : TypeId} {vb vc : Value} {xs : List Value}
theorem own_lt (h : w.ownsRow base e size vc n xs) : ∀ g, vc.ownBlock = some g → g < w.heap.size := by
  intro g hg
  obtain ⟨_, ⟨rfl, _⟩ | ⟨g', cap, cur, rfl, _, hh, _⟩⟩ := h
  · simp [Value.ownBlock] at hg
  · have e : g' = g := by simpa [Value.ownBlock] using hg
    subst e
    rcases Nat.lt_or_ge g' w.heap.size with hlt | hge
    · exact hlt
    · rw [Array.getElem?_eq_none hge] at hh; cases hh
theorem apart_new (hc : w.ownsRow base e size vc n xs) (h : Apart vb vc) (hg : vb.ownBlock = some g ∨ g = w.heap.size) : Apart (.slice (some ⟨g, 0, none⟩) k cap) vc := by
  intro g' h1 h2
  have e : g = g' := by simpa [Value.ownBlock] using h1
  subst e
  rcases hg with hg | hg
  · exact h g hg h2
  · have := own_lt hc g h2
    omega
theorem own_kept (hc : w.ownsRow base e size vc n xs) (h : Apart vb vc) (hg : w.grownBy w' vb.ownBlock) : w'.ownsRow base e size vc n xs := by
  refine hc.kept hg ?_
  cases hv : vc.ownBlock with
  | none => exact .inl rfl
  | some g => exact .inr (fun h2 => h g h2.symm hv)
theorem apart_nil (v : Value) : Apart (.slice none 0 0) v := fun g h => by simp [Value.ownBlock] at h
end

/-- A slice of bytes that came in; nil has no room. -/
theorem open_bytes2 {H : Type} {enc : TypeId × Value → H} {P : Program} {W : World} {t e : TypeId} {v : Value} {d : DataW H} {ps : List MemPlace} {r : Reach} {b0 : Nat} (ht : P.underlying t = some (.slice e)) (he : P.underlying e = some (.int .u8)) (hc : P.cellsOf e = 1)
    (hval : Value.okWide P W r b0 t v) (hd : DataW.Trod enc P W 0 (fun _ => true) true t v d ps) :
    ∃ (A : Option Addr) (n c : Nat) (bs : List UInt8), v = .slice A n c ∧ n ≤ c ∧ (A = none → c = 0) ∧ Reads W W.heap.size 1 A n (bs.map bv) := by
  obtain ⟨A, n, c, bs, rfl, hl, hr⟩ := open_bytes ht he hc hval hd
  refine ⟨A, n, c, bs, rfl, hl, ?_, hr⟩
  intro hA
  subst hA
  obtain ⟨fuel, hf⟩ := hd
  rcases open_ints ht he hc hf with ⟨hcs, hx⟩ | ⟨ad, len, cap, zs, hcs, _⟩
  · have h0 : Value.slice none n c = .slice none 0 0 := by simpa [Value.cells] using hcs
    cases h0
    rfl
  · simp [Value.cells] at hcs

end Go.Proofs.Ytfidfhajnobonaa

/- A record as a value; record.restOf and record.Same. -/
namespace Go.Proofs.Ytfidfhajnobonaa
open Go.RowKit

def rsv (t : List UInt8) : Value := .string (tx t)

/-- A record, all but its deps. -/
structure Rc where
  kind : Int
  target : List UInt8
  rule : Int
  out : Int
  time : Int
  tag : List UInt8

/-- A dep. -/
structure Dp where
  name : List UInt8
  hash : Int
  order : Bool

def Dp.cells (d : Dp) : List Value := [rsv d.name, .int .u64 d.hash, .bool d.order]
def dps (l : List Dp) : List Value := l.flatMap Dp.cells

def rcv (r : Rc) (A : Option Addr) (n c : Nat) : Value := .agg #[.int .i64 r.kind, rsv r.target, .int .u64 r.rule, .slice A n c, .int .u64 r.out, .int .u64 r.time, rsv r.tag]
def restv (r : Rc) : Value := .agg #[.int .i64 r.kind, rsv r.target, rsv r.tag, .int .u64 r.rule, .int .u64 r.out, .int .u64 r.time]

set_option maxRecDepth 100000 in
set_option maxHeartbeats 400000 in
theorem rest_any (r : Rc) (A : Option Addr) (n c : Nat) (w : World) :
    Calls Try.prog 71 #[rcv r A n c] w fun e w' => e = .returned (restv r) ∧ Below w.heap.size w w' := by
  unfold rcv restv rsv
  have HB := Lib.hid (((Below.refl w.heap.size w).alloc (Nat.le_refl _) (.cells #[.int .i64 r.kind, .string (tx r.target), .int .u64 r.rule, .slice A n c, .int .u64 r.out, .int .u64 r.time, .string (tx r.tag)] 26)).alloc (by simp) (.cells #[.int .i64 r.kind, .string (tx r.target), .string (tx r.tag), .int .u64 r.rule, .int .u64 r.out, .int .u64 r.time] 112))
  go_enter Try.func71, Try.ntmps71
  go_wp2
  have hx : ∀ (a b : Obj), ((w.alloc a).alloc b).heap[w.heap.size + 1]? = some b := fun a b => by
    have h := @Array.getElem?_push_size _ (w.alloc a).heap b
    rwa [show (w.alloc a).heap.size = w.heap.size + 1 from Array.size_push _] at h
  refine bodyPost_ret (results_cell_row rfl _ _ _ _ _ _ _ rfl (hx _ _) Try.underlying112 rfl (by kernel_rfl)) rfl ?_
  exact ⟨rfl, HB.out⟩

end Go.Proofs.Ytfidfhajnobonaa

/- Name, in record and in the document. -/
namespace Go.Proofs.Ytfidfhajnobonaa
open Go.RowKit

def isName (t : List UInt8) : Bool := decide (1 ≤ t.length ∧ t.length ≤ 64)

theorem tx_size0 (t : List UInt8) : (tx t).size = t.length := by simp [tx, ByteArray.size]
theorem tx_empty (t : List UInt8) (h : t ≠ []) : ((tx t).toList == []) = false := by
  rw [beq_eq_false_iff_ne]
  intro e
  exact h (by simpa [tx] using e)

set_option maxRecDepth 100000 in
set_option maxHeartbeats 400000 in
theorem name_any (t : List UInt8) (w : World) : Calls Try.prog 41 #[rsv t] w fun e w' => e = .returned (.bool (isName t)) ∧ w = w' := by
  unfold rsv
  have hsz := tx_size0 t
  by_cases h0 : t = []
  · subst h0
    have he : (tx ([] : List UInt8)).toList = [] := by simp [tx]
    go_enter Try.func41, Try.ntmps41
    go_wp2
    go_ret
    exact ⟨rfl, rfl⟩
  · have h1 := tx_empty t h0
    have hl : 1 ≤ t.length := by
      rcases t with _ | ⟨a, t⟩
      · exact absurd rfl h0
      · simp
    obtain ⟨n, hn⟩ : ∃ n, n = t.length := ⟨_, rfl⟩
    rw [← hn] at hsz hl
    by_cases h2 : n ≤ 64
    · have hi : Hid (isName t = true) := by show isName t = true; unfold isName; rw [← hn]; exact decide_eq_true ⟨hl, h2⟩
      clear hn h0
      go_enter Try.func41, Try.ntmps41
      go_wp2
      go_ret
      exact ⟨by rw [hi.out]; first | rfl | (congr 2; simp; omega), rfl⟩
    · have hi : Hid (isName t = false) := by show isName t = false; unfold isName; rw [← hn]; exact decide_eq_false (by omega)
      have h3 : decide ((n : Int) ≤ 64) = false := by rw [decide_eq_false_iff_not]; omega
      clear hn h0
      go_enter Try.func41, Try.ntmps41
      go_wp2
      go_ret
      exact ⟨by rw [hi.out]; first | rfl | (congr 2; simp; omega), rfl⟩

set_option maxRecDepth 100000 in
set_option maxHeartbeats 400000 in
theorem rname_any (t : List UInt8) (w : World) : Calls Try.prog 54 #[rsv t] w fun e w' => e = .returned (.bool (isName t)) ∧ w = w' := by
  unfold rsv
  have hsz := tx_size0 t
  by_cases h0 : t = []
  · subst h0
    have he : (tx ([] : List UInt8)).toList = [] := by simp [tx]
    go_enter Try.func54, Try.ntmps54
    go_wp2
    go_ret
    exact ⟨rfl, rfl⟩
  · have h1 := tx_empty t h0
    have hl : 1 ≤ t.length := by
      rcases t with _ | ⟨a, t⟩
      · exact absurd rfl h0
      · simp
    obtain ⟨n, hn⟩ : ∃ n, n = t.length := ⟨_, rfl⟩
    rw [← hn] at hsz hl
    by_cases h2 : n ≤ 64
    · have hi : Hid (isName t = true) := by show isName t = true; unfold isName; rw [← hn]; exact decide_eq_true ⟨hl, h2⟩
      have h3 : decide ((n : Int) < 65) = true := by rw [decide_eq_true_iff]; omega
      clear hn h0
      go_enter Try.func54, Try.ntmps54
      go_wp2
      go_ret
      exact ⟨by rw [hi.out]; first | rfl | (congr 2; simp; omega), rfl⟩
    · have hi : Hid (isName t = false) := by show isName t = false; unfold isName; rw [← hn]; exact decide_eq_false (by omega)
      have h3 : decide ((n : Int) < 65) = false := by rw [decide_eq_false_iff_not]; omega
      clear hn h0
      go_enter Try.func54, Try.ntmps54
      go_wp2
      go_ret
      exact ⟨by rw [hi.out]; first | rfl | (congr 2; simp; omega), rfl⟩

end Go.Proofs.Ytfidfhajnobonaa

/- The document's Same, and record's: two records that are unlike outside their deps. -/
namespace Go.Proofs.Ytfidfhajnobonaa
open Go.RowKit

theorem tx_unlike {s t : List UInt8} (h : s ≠ t) : ((tx s).toList == (tx t).toList) = false := by
  rw [beq_eq_false_iff_ne]
  intro e
  exact h (by simpa [tx] using e)
theorem tx_like (s : List UInt8) : ((tx s).toList == (tx s).toList) = true := by simp

set_option maxRecDepth 100000 in
set_option maxHeartbeats 400000 in
theorem rsn_kind (kind1 kind2 : Int) (target1 target2 : List UInt8) (rule1 rule2 : Int) (out1 out2 : Int) (time1 time2 : Int) (tag1 tag2 : List UInt8) (n1 n2 : Nat) (A B : Option Addr) (c d : Nat) (h : kind1 ≠ kind2) (w : World) :
    Calls Try.prog 18 #[.agg #[.int .i64 kind1, .string (tx target1), .int .u64 rule1, .slice A n1 c, .int .u64 out1, .int .u64 time1, .string (tx tag1)], .agg #[.int .i64 kind2, .string (tx target2), .int .u64 rule2, .slice B n2 d, .int .u64 out2, .int .u64 time2, .string (tx tag2)]] w fun e w' => e = .returned (.bool false) ∧ Below w.heap.size w w' := by
  have HB := Lib.hid (((Below.refl w.heap.size w).alloc (Nat.le_refl _) (.cells #[.int .i64 kind1, .string (tx target1), .int .u64 rule1, .slice A n1 c, .int .u64 out1, .int .u64 time1, .string (tx tag1)] 26)).alloc (by simp) (.cells #[.int .i64 kind2, .string (tx target2), .int .u64 rule2, .slice B n2 d, .int .u64 out2, .int .u64 time2, .string (tx tag2)] 26))
  have hu1 : (kind1 != kind2) = true := by rw [bne_iff_ne]; exact h
  have hu2 : decide (kind1 = kind2) = false := decide_eq_false h
  have hu3 : (kind1 == kind2) = false := by rw [beq_eq_false_iff_ne]; exact h
  clear h
  go_enter Try.func18, Try.ntmps18
  go_wp2
  go_ret
  exact ⟨rfl, HB.out⟩

set_option maxRecDepth 100000 in
set_option maxHeartbeats 400000 in
theorem rsn_target (kind : Int) (target1 target2 : List UInt8) (rule1 rule2 : Int) (out1 out2 : Int) (time1 time2 : Int) (tag1 tag2 : List UInt8) (n1 n2 : Nat) (A B : Option Addr) (c d : Nat) (h : target1 ≠ target2) (w : World) :
    Calls Try.prog 18 #[.agg #[.int .i64 kind, .string (tx target1), .int .u64 rule1, .slice A n1 c, .int .u64 out1, .int .u64 time1, .string (tx tag1)], .agg #[.int .i64 kind, .string (tx target2), .int .u64 rule2, .slice B n2 d, .int .u64 out2, .int .u64 time2, .string (tx tag2)]] w fun e w' => e = .returned (.bool false) ∧ Below w.heap.size w w' := by
  have HB := Lib.hid (((Below.refl w.heap.size w).alloc (Nat.le_refl _) (.cells #[.int .i64 kind, .string (tx target1), .int .u64 rule1, .slice A n1 c, .int .u64 out1, .int .u64 time1, .string (tx tag1)] 26)).alloc (by simp) (.cells #[.int .i64 kind, .string (tx target2), .int .u64 rule2, .slice B n2 d, .int .u64 out2, .int .u64 time2, .string (tx tag2)] 26))
  have hu := tx_unlike h
  clear h
  go_enter Try.func18, Try.ntmps18
  go_wp2
  go_ret
  exact ⟨rfl, HB.out⟩

set_option maxRecDepth 100000 in
set_option maxHeartbeats 400000 in
theorem rsn_rule (kind : Int) (target : List UInt8) (rule1 rule2 : Int) (out1 out2 : Int) (time1 time2 : Int) (tag1 tag2 : List UInt8) (n1 n2 : Nat) (A B : Option Addr) (c d : Nat) (h : rule1 ≠ rule2) (w : World) :
    Calls Try.prog 18 #[.agg #[.int .i64 kind, .string (tx target), .int .u64 rule1, .slice A n1 c, .int .u64 out1, .int .u64 time1, .string (tx tag1)], .agg #[.int .i64 kind, .string (tx target), .int .u64 rule2, .slice B n2 d, .int .u64 out2, .int .u64 time2, .string (tx tag2)]] w fun e w' => e = .returned (.bool false) ∧ Below w.heap.size w w' := by
  have HB := Lib.hid (((Below.refl w.heap.size w).alloc (Nat.le_refl _) (.cells #[.int .i64 kind, .string (tx target), .int .u64 rule1, .slice A n1 c, .int .u64 out1, .int .u64 time1, .string (tx tag1)] 26)).alloc (by simp) (.cells #[.int .i64 kind, .string (tx target), .int .u64 rule2, .slice B n2 d, .int .u64 out2, .int .u64 time2, .string (tx tag2)] 26))
  have hu1 : (rule1 != rule2) = true := by rw [bne_iff_ne]; exact h
  have hu2 : decide (rule1 = rule2) = false := decide_eq_false h
  have hu3 : (rule1 == rule2) = false := by rw [beq_eq_false_iff_ne]; exact h
  have hl1 := tx_like target
  clear h
  go_enter Try.func18, Try.ntmps18
  go_wp2
  go_ret
  exact ⟨rfl, HB.out⟩

set_option maxRecDepth 100000 in
set_option maxHeartbeats 400000 in
theorem rsn_out (kind : Int) (target : List UInt8) (rule : Int) (out1 out2 : Int) (time1 time2 : Int) (tag1 tag2 : List UInt8) (n1 n2 : Nat) (A B : Option Addr) (c d : Nat) (h : out1 ≠ out2) (w : World) :
    Calls Try.prog 18 #[.agg #[.int .i64 kind, .string (tx target), .int .u64 rule, .slice A n1 c, .int .u64 out1, .int .u64 time1, .string (tx tag1)], .agg #[.int .i64 kind, .string (tx target), .int .u64 rule, .slice B n2 d, .int .u64 out2, .int .u64 time2, .string (tx tag2)]] w fun e w' => e = .returned (.bool false) ∧ Below w.heap.size w w' := by
  have HB := Lib.hid (((Below.refl w.heap.size w).alloc (Nat.le_refl _) (.cells #[.int .i64 kind, .string (tx target), .int .u64 rule, .slice A n1 c, .int .u64 out1, .int .u64 time1, .string (tx tag1)] 26)).alloc (by simp) (.cells #[.int .i64 kind, .string (tx target), .int .u64 rule, .slice B n2 d, .int .u64 out2, .int .u64 time2, .string (tx tag2)] 26))
  have hu1 : (out1 != out2) = true := by rw [bne_iff_ne]; exact h
  have hu2 : decide (out1 = out2) = false := decide_eq_false h
  have hu3 : (out1 == out2) = false := by rw [beq_eq_false_iff_ne]; exact h
  have hl1 := tx_like target
  clear h
  go_enter Try.func18, Try.ntmps18
  go_wp2
  go_ret
  exact ⟨rfl, HB.out⟩

set_option maxRecDepth 100000 in
set_option maxHeartbeats 400000 in
theorem rsn_time (kind : Int) (target : List UInt8) (rule : Int) (out : Int) (time1 time2 : Int) (tag1 tag2 : List UInt8) (n1 n2 : Nat) (A B : Option Addr) (c d : Nat) (h : time1 ≠ time2) (w : World) :
    Calls Try.prog 18 #[.agg #[.int .i64 kind, .string (tx target), .int .u64 rule, .slice A n1 c, .int .u64 out, .int .u64 time1, .string (tx tag1)], .agg #[.int .i64 kind, .string (tx target), .int .u64 rule, .slice B n2 d, .int .u64 out, .int .u64 time2, .string (tx tag2)]] w fun e w' => e = .returned (.bool false) ∧ Below w.heap.size w w' := by
  have HB := Lib.hid (((Below.refl w.heap.size w).alloc (Nat.le_refl _) (.cells #[.int .i64 kind, .string (tx target), .int .u64 rule, .slice A n1 c, .int .u64 out, .int .u64 time1, .string (tx tag1)] 26)).alloc (by simp) (.cells #[.int .i64 kind, .string (tx target), .int .u64 rule, .slice B n2 d, .int .u64 out, .int .u64 time2, .string (tx tag2)] 26))
  have hu1 : (time1 != time2) = true := by rw [bne_iff_ne]; exact h
  have hu2 : decide (time1 = time2) = false := decide_eq_false h
  have hu3 : (time1 == time2) = false := by rw [beq_eq_false_iff_ne]; exact h
  have hl1 := tx_like target
  clear h
  go_enter Try.func18, Try.ntmps18
  go_wp2
  go_ret
  exact ⟨rfl, HB.out⟩

set_option maxRecDepth 100000 in
set_option maxHeartbeats 400000 in
theorem rsn_tag (kind : Int) (target : List UInt8) (rule : Int) (out : Int) (time : Int) (tag1 tag2 : List UInt8) (n1 n2 : Nat) (A B : Option Addr) (c d : Nat) (h : tag1 ≠ tag2) (w : World) :
    Calls Try.prog 18 #[.agg #[.int .i64 kind, .string (tx target), .int .u64 rule, .slice A n1 c, .int .u64 out, .int .u64 time, .string (tx tag1)], .agg #[.int .i64 kind, .string (tx target), .int .u64 rule, .slice B n2 d, .int .u64 out, .int .u64 time, .string (tx tag2)]] w fun e w' => e = .returned (.bool false) ∧ Below w.heap.size w w' := by
  have HB := Lib.hid (((Below.refl w.heap.size w).alloc (Nat.le_refl _) (.cells #[.int .i64 kind, .string (tx target), .int .u64 rule, .slice A n1 c, .int .u64 out, .int .u64 time, .string (tx tag1)] 26)).alloc (by simp) (.cells #[.int .i64 kind, .string (tx target), .int .u64 rule, .slice B n2 d, .int .u64 out, .int .u64 time, .string (tx tag2)] 26))
  have hu := tx_unlike h
  have hl1 := tx_like target
  clear h
  go_enter Try.func18, Try.ntmps18
  go_wp2
  go_ret
  exact ⟨rfl, HB.out⟩

set_option maxRecDepth 100000 in
set_option maxHeartbeats 400000 in
theorem rsn_n (kind : Int) (target : List UInt8) (rule : Int) (out : Int) (time : Int) (tag : List UInt8) (n1 n2 : Nat) (A B : Option Addr) (c d : Nat) (h : n1 ≠ n2) (w : World) :
    Calls Try.prog 18 #[.agg #[.int .i64 kind, .string (tx target), .int .u64 rule, .slice A n1 c, .int .u64 out, .int .u64 time, .string (tx tag)], .agg #[.int .i64 kind, .string (tx target), .int .u64 rule, .slice B n2 d, .int .u64 out, .int .u64 time, .string (tx tag)]] w fun e w' => e = .returned (.bool false) ∧ Below w.heap.size w w' := by
  have HB := Lib.hid (((Below.refl w.heap.size w).alloc (Nat.le_refl _) (.cells #[.int .i64 kind, .string (tx target), .int .u64 rule, .slice A n1 c, .int .u64 out, .int .u64 time, .string (tx tag)] 26)).alloc (by simp) (.cells #[.int .i64 kind, .string (tx target), .int .u64 rule, .slice B n2 d, .int .u64 out, .int .u64 time, .string (tx tag)] 26))
  have hu0 : (n1 : Int) ≠ (n2 : Int) := by omega
  have hu1 : ((n1 : Int) != (n2 : Int)) = true := by rw [bne_iff_ne]; exact hu0
  have hu3 : ((n1 : Int) == (n2 : Int)) = false := by rw [beq_eq_false_iff_ne]; exact hu0
  have hl1 := tx_like target
  have hl5 := tx_like tag
  clear h
  go_enter Try.func18, Try.ntmps18
  go_wp2
  go_ret
  exact ⟨rfl, HB.out⟩

end Go.Proofs.Ytfidfhajnobonaa

/- Deps as they lie in memory. -/
namespace Go.Proofs.Ytfidfhajnobonaa
open Go.RowKit

theorem dps_len (l : List Dp) : (dps l).length = l.length * 3 := by
  induction l with
  | nil => rfl
  | cons t l ih => simp [dps, Dp.cells] at *; omega
theorem dps_at : ∀ (l : List Dp) (i : Nat) (t : Dp), l[i]? = some t → (dps l)[i * 3]? = some (rsv t.name) ∧ (dps l)[i * 3 + 1]? = some (.int .u64 t.hash) ∧ (dps l)[i * 3 + 2]? = some (.bool t.order)
  | [], i, t, h => by simp at h
  | a :: l, 0, t, h => by
    have : a = t := by simpa using h
    subst this
    exact ⟨rfl, rfl, rfl⟩
  | a :: l, i + 1, t, h => by
    have := dps_at l i t (by simpa using h)
    have e : ∀ j, (dps (a :: l))[(i + 1) * 3 + j]? = (dps l)[i * 3 + j]? := fun j => by
      show (Dp.cells a ++ dps l)[(i + 1) * 3 + j]? = _
      rw [List.getElem?_append_right (by simp [Dp.cells]; omega)]
      congr 1
      simp [Dp.cells]; omega
    exact ⟨(e 0).trans this.1, (e 1).trans this.2.1, (e 2).trans this.2.2⟩

theorem add_one (a : Addr) (k : Nat) : a.add (k + 1) = ⟨(a.add k).block, (a.add k).off + 1, none⟩ := by
  unfold Addr.add
  by_cases h : k = 0
  · subst h; rfl
  · simp [h, Nat.add_assoc]
theorem add_two (a : Addr) (k : Nat) : a.add (k + 2) = ⟨(a.add k).block, (a.add k).off + 2, none⟩ := by
  unfold Addr.add
  by_cases h : k = 0
  · subst h; rfl
  · simp [h, Nat.add_assoc]


end Go.Proofs.Ytfidfhajnobonaa

/- Structs compared as structs: two records' rests, two deps. -/
namespace Go.Proofs.Ytfidfhajnobonaa
open Go.RowKit

theorem fields_rest : Try.prog.underlying 112 = some (.struct (Try.prog.fieldsOf 112)) := by kernel_rfl
theorem held_rest : Try.prog.stoodInHeld 112 = false := by kernel_rfl
theorem fields_dep : Try.prog.underlying 56 = some (.struct (Try.prog.fieldsOf 56)) := by kernel_rfl
theorem held_dep : Try.prog.stoodInHeld 56 = false := by kernel_rfl

set_option maxRecDepth 100000 in
theorem rest_neq (r1 r2 : Rc) (w : World) : ∃ q : Bool, (q = true ↔ r1 ≠ r2) ∧ (binOp .neq 112 (restv r1) (restv r2)).run Try.prog w = .ok (.bool q) w := by
  obtain ⟨k1, t1, u1, o1, m1, g1⟩ := r1
  obtain ⟨k2, t2, u2, o2, m2, g2⟩ := r2
  unfold restv rsv
  rw [run_neq_struct, show (10000 : Nat) = 9999 + 1 from rfl, run_equalIn_agg _ _ _ _ _ fields_rest held_rest]
  simp only [Program.fieldsOf, Try.underlying112]
  by_cases e1 : k1 = k2
  · by_cases e2 : t1 = t2
    · by_cases e3 : g1 = g2
      · by_cases e4 : u1 = u2
        · by_cases e5 : o1 = o2
          · by_cases e6 : m1 = m2
            · subst e1 e2 e3 e4 e5 e6
              exact ⟨false, by simp, by go_simp⟩
            · subst e1 e2 e3 e4 e5
              have h : (m1 == m2) = false := by rw [beq_eq_false_iff_ne]; exact e6
              exact ⟨true, by simp [e6], by go_simp⟩
          · subst e1 e2 e3 e4
            have h : (o1 == o2) = false := by rw [beq_eq_false_iff_ne]; exact e5
            exact ⟨true, by simp [e5], by go_simp⟩
        · subst e1 e2 e3
          have h : (u1 == u2) = false := by rw [beq_eq_false_iff_ne]; exact e4
          exact ⟨true, by simp [e4], by go_simp⟩
      · subst e1 e2
        have h := tx_unlike e3
        exact ⟨true, by simp [e3], by go_simp⟩
    · subst e1
      have h := tx_unlike e2
      exact ⟨true, by simp [e2], by go_simp⟩
  · have h : (k1 == k2) = false := by rw [beq_eq_false_iff_ne]; exact e1
    exact ⟨true, by simp [e1], by go_simp⟩

def Dp.val (d : Dp) : Value := .agg #[rsv d.name, .int .u64 d.hash, .bool d.order]

set_option maxRecDepth 100000 in
theorem dep_neq (r1 r2 : Dp) (w : World) : ∃ q : Bool, (q = true ↔ r1 ≠ r2) ∧ (binOp .neq 56 r1.val r2.val).run Try.prog w = .ok (.bool q) w := by
  obtain ⟨t1, u1, o1⟩ := r1
  obtain ⟨t2, u2, o2⟩ := r2
  unfold Dp.val rsv
  rw [run_neq_struct, show (10000 : Nat) = 9999 + 1 from rfl, run_equalIn_agg _ _ _ _ _ fields_dep held_dep]
  simp only [Program.fieldsOf, Try.underlying56]
  by_cases e2 : t1 = t2
  · by_cases e4 : u1 = u2
    · by_cases e5 : o1 = o2
      · subst e2 e4 e5
        exact ⟨false, by simp, by go_simp⟩
      · subst e2 e4
        have h : (o1 == o2) = false := by rw [beq_eq_false_iff_ne]; exact e5
        exact ⟨true, by simp [e5], by go_simp⟩
    · subst e2
      have h : (u1 == u2) = false := by rw [beq_eq_false_iff_ne]; exact e4
      exact ⟨true, by simp [e4], by go_simp⟩
  · have h := tx_unlike e2
    exact ⟨true, by simp [e2], by go_simp⟩

end Go.Proofs.Ytfidfhajnobonaa

/- Words for memory that name no program: rows that stay, blocks that are known whole, appends, and what a call turns. -/
namespace Go.Proofs.Ytfidfhajnobonaa
open Go.RowKit

theorem own_less {w : World} {base base' n size : Nat} {e : TypeId} {v : Value} {xs : List Value} (h : w.ownsRow base e size v n xs) (hb : base' ≤ base) : w.ownsRow base' e size v n xs := by
  rcases h.2 with h2 | ⟨g, cap, cur, h3, h4, h5⟩
  · exact ⟨h.1, .inl h2⟩
  · exact ⟨h.1, .inr ⟨g, cap, cur, h3, by omega, h5⟩⟩
theorem own_slice {w : World} {base n size : Nat} {e : TypeId} {v : Value} {xs : List Value} (h : w.ownsRow base e size v n xs) : ∃ A c, v = .slice A n c ∧ (A = none → c = 0) := by
  obtain ⟨h1, ⟨rfl, rfl⟩ | ⟨g, cap, cur, rfl, hb, hg, hn, hm, hs, hx⟩⟩ := h
  · exact ⟨none, 0, rfl, fun _ => rfl⟩
  · exact ⟨_, _, rfl, fun h => by cases h⟩
theorem own_succ {W : World} {base : Nat} {e : TypeId} {size : Nat} {v : Value} {k : Nat} {xs : List Value} (h : W.ownsRow base e size v (k + 1) xs) : ∃ g cap, v = .slice (some ⟨g, 0, none⟩) (k + 1) cap := by
  rcases h.2 with ⟨_, h0⟩ | ⟨g, cap, _, rfl, _⟩
  · omega
  · exact ⟨g, cap, rfl⟩
/-- A row isn't a block of cells of another type; nor a map. -/
theorem own_cells {w : World} {base n size : Nat} {e t : TypeId} {v : Value} {xs : List Value} {b : Nat} {cs : Array Value} {f : Nat × Nat} (h : w.ownsRow base e size v n xs) (hb : w.heap[b]? = some (.cells cs t f)) (hne : e ≠ t) : v.ownBlock ≠ some b := by
  rcases h.2 with ⟨rfl, _⟩ | ⟨g, cap, cur, rfl, _, hg, _⟩
  · simp [Value.ownBlock]
  · intro e2
    simp only [Value.ownBlock, Option.some.injEq] at e2
    subst e2
    rw [hb] at hg
    injection hg with hg
    injection hg with _ hg
    exact hne hg.symm
theorem own_heap {w w' : World} {base n size : Nat} {e : TypeId} {v : Value} {xs : List Value} (h : w.ownsRow base e size v n xs) (hk : ∀ g, v.ownBlock = some g → w'.heap[g]? = w.heap[g]?) : w'.ownsRow base e size v n xs := by
  refine ⟨h.1, ?_⟩
  rcases h.2 with h2 | ⟨g, cap, cur, rfl, hb, hg, r⟩
  · exact .inl h2
  · exact .inr ⟨g, cap, cur, rfl, hb, (hk g rfl).trans hg, r⟩
theorem own_set {w : World} {base n size : Nat} {e : TypeId} {v : Value} {xs : List Value} {S : Nat → Prop} (h : w.ownsRow base e size v n xs) (hs : ∀ k, S k → k < base) : ∀ g, v.ownBlock = some g → ¬ S g := fun g hg h2 => by
  have h3 := own_block h g hg
  have h4 := hs g h2
  omega
theorem own_from {w : World} {base n size : Nat} {e : TypeId} {v : Value} {xs : List Value} (h : w.ownsRow 0 e size v n xs) (hb : ∀ k, v.ownBlock = some k → base ≤ k) : w.ownsRow base e size v n xs := by
  obtain ⟨h1, h2 | ⟨g, cap, cur, rfl, h3, h4⟩⟩ := h
  · exact ⟨h1, .inl h2⟩
  · exact ⟨h1, .inr ⟨g, cap, cur, rfl, hb g rfl, h4⟩⟩
/-- Rows of unlike types lie in unlike blocks. -/
theorem own_apart {w : World} {b b' s s' n n' : Nat} {e e' : TypeId} {v v' : Value} {xs xs' : List Value} (h : w.ownsRow b e s v n xs) (h' : w.ownsRow b' e' s' v' n' xs') (he : e ≠ e') : Apart v v' := by
  intro g h1 h2
  obtain ⟨_, ⟨rfl, _⟩ | ⟨g1, c1, cur1, rfl, _, hg1, _⟩⟩ := h
  · simp [Value.ownBlock] at h1
  · obtain ⟨_, ⟨rfl, _⟩ | ⟨g2, c2, cur2, rfl, _, hg2, _⟩⟩ := h'
    · simp [Value.ownBlock] at h2
    · simp [Value.ownBlock] at h1 h2
      subst h1 h2
      rw [hg1] at hg2
      simp at hg2
      exact he hg2.2
theorem one_new (w : World) (a : Obj) : (w.alloc a).heap[w.heap.size]? = some a := by show (w.heap.push _)[w.heap.size]? = _; exact Array.getElem?_push_size
theorem two_new (w : World) (a b : Obj) : ((w.alloc a).alloc b).heap[w.heap.size]? = some a ∧ ((w.alloc a).alloc b).heap[w.heap.size + 1]? = some b ∧ ((w.alloc a).alloc b).heap.size = w.heap.size + 2 := by
  have h0 : (w.alloc a).heap.size = w.heap.size + 1 := Array.size_push _
  refine ⟨(Below.heap_alloc _ _ _ (by rw [h0]; omega)).trans (by show (w.heap.push _)[w.heap.size]? = _; exact Array.getElem?_push_size), ?_, by rw [show ((w.alloc a).alloc b).heap.size = (w.alloc a).heap.size + 1 from Array.size_push _, h0]⟩
  have h := @Array.getElem?_push_size _ (w.alloc a).heap b
  rwa [h0] at h
theorem at_heap {w w' : World} (h : w'.heap = w.heap) (p : Addr) : w'.cell? p = w.cell? p := by unfold World.cell?; rw [h]
theorem at_cell {w : World} {b i : Nat} {cs : Array Value} {t : TypeId} {u : Value} (h : w.heap[b]? = some (.cells cs t (0, 0))) (hi : cs[i]? = some u) : w.cell? ⟨b, i, none⟩ = some u := by
  simp [World.cell?, h, hi]
theorem at_frozen {w : World} {b i : Nat} {cs : Array Value} {t : TypeId} (h : w.heap[b]? = some (.cells cs t (0, 0))) : w.frozen? ⟨b, i, none⟩ = false := by
  simp [World.frozen?, h]
theorem set_same {w : World} {b : Nat} {cs : Array Value} {t : TypeId} {f : Nat × Nat} (h : w.heap[b]? = some (.cells cs t f)) (i : Nat) (u : Value) : (w.setCell ⟨b, i, none⟩ u).heap[b]? = some (.cells (cs.setIfInBounds i u) t f) := by
  simp [World.setCell, Array.getElem?_modify, h]
theorem field_cell {w : World} {b i : Nat} {cs : Array Value} {t : TypeId} {u : Value} (h : w.heap[b]? = some (.cells cs t (0, 0))) (hi : cs[i]? = some u) : w.cell? ⟨b, i, none⟩ = some u := by
  simp [World.cell?, h, hi]
theorem field_free {w : World} {b i : Nat} {cs : Array Value} {t : TypeId} (h : w.heap[b]? = some (.cells cs t (0, 0))) : w.frozen? ⟨b, i, none⟩ = false := by
  simp [World.frozen?, h]
theorem field_set {w : World} {g j : Nat} {u : Value} {cs : Array Value} {e : TypeId} {f : Nat × Nat} (h : w.heap[g]? = some (.cells cs e f)) : (w.setCell ⟨g, j, none⟩ u).heap[g]? = some (.cells (cs.setIfInBounds j u) e f) := by
  obtain ⟨hlt, hk⟩ := Array.getElem?_eq_some_iff.1 h
  show (w.heap.modify g _)[g]? = _
  rw [Array.getElem?_eq_getElem (by rw [Array.size_modify]; exact hlt), Array.getElem_modify_self, hk]
  rfl
theorem reads_one_row (W : World) (e : TypeId) (v : Value) : Reads (W.alloc (.cells #[v] e)) (W.heap.size + 1) 1 (some ⟨W.heap.size, 0, none⟩) 1 [v] :=
  ⟨rfl, fun _ => ⟨_, rfl, by show W.heap.size < _; omega, fun j u hu => by
    have hj : j = 0 := by
      rcases Nat.lt_or_ge j 1 with h | h
      · omega
      · rw [List.getElem?_eq_none (by simpa using h)] at hu; cases hu
    subst hj
    exact at_cell (i := 0) (one_new W _) (by simpa using hu)⟩⟩
theorem wp_append_many {P : Program} {w : World} {o : Oper} {a : Act} {K : Act → World → Prop} {Q : Exit → Act → World → Prop} (s x : Operand) (t : TypeId)
    (ho : o.op = .call { callee := .builtin .append, args := #[s, x], argTypes := #[t, t] })
    (base : Nat) (e : TypeId) (i : TypeInfo) (z : Value) (size bytes : Nat) (ht : P.underlying t = some (.slice e)) (hi : P.info? e = some i) (hz : i.zero = some z)
    (hsize : i.size = size) (hby : i.bytes = bytes) (hzs : z.cells.size = size) (hsz : 0 < size)
    (v : Value) (n : Nat) (xs : List Value) (hs : a.eval s = v) (hown : w.ownsRow base e size v n xs)
    (A : Option Addr) (m c B : Nat) (news : List Value) (hx : a.eval x = .slice A m c) (hA : A = none → c = 0) (hr : Reads w B size A m news) (h1 : ∀ u ∈ news, u.oneCell' = true)
    (h63 : n + m ≤ maxLen) (hbytes : (n + m) * bytes ≤ 140737488355328) (hbase : base ≤ w.heap.size)
    (h : ∀ v' w', w'.ownsRow base e size v' (n + m) (xs ++ news) → w.grownBy w' v.ownBlock → (v'.ownBlock = v.ownBlock ∨ v'.ownBlock = some w.heap.size) → K (a.put o.dst v') w') : o.wp P a w K Q := by
  cases A with
  | none =>
    have hm : m = 0 := by
      rcases Nat.eq_zero_or_pos m with h0 | h0
      · exact h0
      · obtain ⟨ad, e, _⟩ := hr.2 h0
        cases e
    subst hm
    have hc := hA rfl
    subst hc
    have hnews : news = [] := List.eq_nil_of_length_eq_zero (by have := hr.1; simpa using this)
    subst hnews
    have hrun := run_append_owned_none (P := P) (w := w) base t o.type e i size ht hi v n xs hown
    unfold Oper.wp
    simp [execOp, ho, resolve, invoke, builtin, hs, hx, hrun, Result.andThen]
    exact h v w (by simpa using hown) (World.grownBy.refl w _) (.inl rfl)
  | some ad =>
    obtain ⟨v', w', hr', h2, h3, _, h5⟩ := run_append_own_at (P := P) w base t o.type e i z size bytes ht hi hz hsize hby hzs hsz v n xs hown ad m c news hr.1 (by
      intro j u hu
      by_cases h0 : 0 < m
      · obtain ⟨ad', e, _, hc⟩ := hr.2 h0
        cases e
        exact hc j u hu
      · have hl := hr.1
        have := (List.getElem?_eq_some_iff.1 hu).1
        have h00 : m = 0 := by omega
        subst h00
        omega) h1 h63 hbytes hbase
    unfold Oper.wp execOp
    simp only [ho, resolve, invoke, builtin, Sem.run_bind, Sem.run_pure, Result.andThen_ok, List.map_toArray, List.map_cons, List.map_nil, hs, hx, hr']
    exact h v' w' h2 h3 h5
/-- append, what is appended read as it lies; elements of any size. -/
theorem wpList_append_many {P : Program} (w : World) {ops : Array Oper} {rest : List Oper} {o : Oper} {a : Act} {Q : Exit → Act → World → Prop} (hgd : o.guard = none) (s x : Operand) (t : TypeId)
    (ho : o.op = .call { callee := .builtin .append, args := #[s, x], argTypes := #[t, t] })
    (base : Nat) (e : TypeId) (i : TypeInfo) (z : Value) (size bytes : Nat) (ht : P.underlying t = some (.slice e)) (hi : P.info? e = some i) (hz : i.zero = some z)
    (hsize : i.size = size) (hby : i.bytes = bytes) (hzs : z.cells.size = size) (hsz : 0 < size)
    (v : Value) (n : Nat) (xs : List Value) (hs : a.eval s = v) (hown : w.ownsRow base e size v n xs)
    (A : Option Addr) (m c B : Nat) (news : List Value) (hx : a.eval x = .slice A m c) (hA : A = none → c = 0) (hr : Reads w B size A m news) (h1 : ∀ u ∈ news, u.oneCell' = true)
    (h63 : n + m ≤ maxLen) (hbytes : (n + m) * bytes ≤ 140737488355328) (hbase : base ≤ w.heap.size)
    (h : ∀ v' w', w'.ownsRow base e size v' (n + m) (xs ++ news) → w.grownBy w' v.ownBlock → wpList P ops Q rest (a.put o.dst v') w') : wpList P ops Q (o :: rest) a w := by
  cases A with
  | none =>
    have hm : m = 0 := by
      rcases Nat.eq_zero_or_pos m with h0 | h0
      · exact h0
      · obtain ⟨ad, e, _⟩ := hr.2 h0
        cases e
    subst hm
    have hc := hA rfl
    subst hc
    have hnews : news = [] := List.eq_nil_of_length_eq_zero (by have := hr.1; simpa using this)
    subst hnews
    exact wpList_append_own_none hgd s x t ho base e i size ht hi v n xs hs hown hx (h v w (by simpa using hown) (World.grownBy.refl w _))
  | some ad =>
    refine wpList_append_own w hgd s x t ho base e i z size bytes ht hi hz hsize hby hzs hsz v n xs hs hown ad m c news hx hr.1 ?_ h1 h63 hbytes hbase (fun v' w' a b _ => h v' w' a b)
    intro j u hu
    by_cases h0 : 0 < m
    · obtain ⟨ad', e, _, hc⟩ := hr.2 h0
      cases e
      exact hc j u hu
    · have hl := hr.1
      have := (List.getElem?_eq_some_iff.1 hu).1
      have h00 : m = 0 := by omega
      subst h00
      omega
/-- append, and where it has put what it made. -/
theorem wpList_append_told {P : Program} (w : World) {ops : Array Oper} {rest : List Oper} {o : Oper} {a : Act} {Q : Exit → Act → World → Prop} (hgd : o.guard = none) (s x : Operand) (t : TypeId)
    (ho : o.op = .call { callee := .builtin .append, args := #[s, x], argTypes := #[t, t] })
    (base : Nat) (e : TypeId) (i : TypeInfo) (z : Value) (size bytes : Nat) (ht : P.underlying t = some (.slice e)) (hi : P.info? e = some i) (hz : i.zero = some z)
    (hsize : i.size = size) (hby : i.bytes = bytes) (hzs : z.cells.size = size) (hsz : 0 < size)
    (v : Value) (n : Nat) (xs : List Value) (hs : a.eval s = v) (hown : w.ownsRow base e size v n xs)
    (A : Option Addr) (m c B : Nat) (news : List Value) (hx : a.eval x = .slice A m c) (hA : A = none → c = 0) (hr : Reads w B size A m news) (h1 : ∀ u ∈ news, u.oneCell' = true)
    (h63 : n + m ≤ maxLen) (hbytes : (n + m) * bytes ≤ 140737488355328) (hbase : base ≤ w.heap.size)
    (h : ∀ v' w', w'.ownsRow base e size v' (n + m) (xs ++ news) → w.grownBy w' v.ownBlock → (v'.ownBlock = v.ownBlock ∨ v'.ownBlock = some w.heap.size) → wpList P ops Q rest (a.put o.dst v') w') : wpList P ops Q (o :: rest) a w := by
  refine wpList_plain hgd fun K hK => ?_
  exact wp_append_many s x t ho base e i z size bytes ht hi hz hsize hby hzs hsz v n xs hs hown A m c B news hx hA hr h1 h63 hbytes hbase (fun v' w' a b c => hK _ _ (h v' w' a b c))
/-- Nothing turns but what lies in blocks of S. -/
def Turn (S : Nat → Prop) (w w' : World) : Prop := w'.os = w.os ∧ w'.tape = w.tape ∧ w'.output = w.output ∧ w.heap.size ≤ w'.heap.size ∧ ∀ k, k < w.heap.size → ¬ S k → w'.heap[k]? = w.heap[k]?
theorem Turn.refl (S : Nat → Prop) (w : World) : Turn S w w := ⟨rfl, rfl, rfl, Nat.le_refl _, fun _ _ _ => rfl⟩
theorem Turn.trans {S S2 : Nat → Prop} {a b c : World} (h : Turn S a b) (k : Turn S2 b c) (hs : ∀ i, i < a.heap.size → S2 i → S i) : Turn S a c :=
  ⟨k.1.trans h.1, k.2.1.trans h.2.1, k.2.2.1.trans h.2.2.1, Nat.le_trans h.2.2.2.1 k.2.2.2.1, fun i hi hn => (k.2.2.2.2 i (Nat.lt_of_lt_of_le hi h.2.2.2.1) (fun h2 => hn (hs i hi h2))).trans (h.2.2.2.2 i hi hn)⟩
theorem Turn.grown {S : Nat → Prop} {a b c : World} {row : Option Nat} (h : Turn S a b) (hg : b.grownBy c row) (hs : ∀ i, row = some i → i < a.heap.size → S i) : Turn S a c :=
  ⟨hg.os.trans h.1, hg.tape.trans h.2.1, hg.output.trans h.2.2.1, Nat.le_trans h.2.2.2.1 hg.size, fun i hi hn => (hg.block i (Nat.lt_of_lt_of_le hi h.2.2.2.1) (fun e => hn (hs i e.symm hi))).trans (h.2.2.2.2 i hi hn)⟩
theorem Turn.setCell {S : Nat → Prop} {a b : World} (h : Turn S a b) (g i : Nat) (u : Value) (hs : S g) : Turn S a (b.setCell ⟨g, i, none⟩ u) :=
  ⟨h.1, h.2.1, h.2.2.1, by simpa using h.2.2.2.1, fun k hk hn => (Below.heap_setCell _ _ _ k (fun e => hn (by rw [show k = g from e]; exact hs))).trans (h.2.2.2.2 k hk hn)⟩
theorem Turn.of_below {S : Nat → Prop} {a b : World} (h : Below a.heap.size a b) : Turn S a b := ⟨h.os, h.tape, h.output, h.size, fun k hk _ => h.block k hk⟩
theorem Turn.below {S : Nat → Prop} {a b : World} {n0 : Nat} (h : Turn S a b) (hs : ∀ i, S i → n0 ≤ i) (hn : n0 ≤ a.heap.size) : Below n0 a b :=
  ⟨h.1, h.2.1, h.2.2.1, h.2.2.2.1, fun k hk => h.2.2.2.2 k (Nat.lt_of_lt_of_le hk hn) (fun h2 => by have := hs k h2; omega)⟩

end Go.Proofs.Ytfidfhajnobonaa

/- record.Same: two records. -/
namespace Go.Proofs.Ytfidfhajnobonaa
open Go.RowKit

theorem guard_rest (r1 r2 : Rc) (x y : Operand) (w : World) : (eqGuard .neq 112 x y (restv r1) (restv r2)).run Try.prog w = .ok () w := by
  unfold restv
  exact run_eqGuard_agg w .neq _ x y _ _ (by kernel_rfl)
theorem guard_dep (r1 r2 : Dp) (x y : Operand) (w : World) : (eqGuard .neq 56 x y r1.val r2.val).run Try.prog w = .ok () w := by
  unfold Dp.val
  exact run_eqGuard_agg w .neq _ x y _ _ (by kernel_rfl)

set_option maxRecDepth 100000 in
set_option maxHeartbeats 1000000 in
theorem same_rests (r1 r2 : Rc) (A B : Option Addr) (n1 n2 c d : Nat) (h : r1 ≠ r2) (w : World) :
    Calls Try.prog 45 #[rcv r1 A n1 c, rcv r2 B n2 d] w fun e w' => e = .returned (.bool false) ∧ Below w.heap.size w w' := by
  unfold rcv rsv
  obtain ⟨ha0, ha1, hsz⟩ := two_new w (.cells #[.int .i64 r1.kind, .string (tx r1.target), .int .u64 r1.rule, .slice A n1 c, .int .u64 r1.out, .int .u64 r1.time, .string (tx r1.tag)] 26) (.cells #[.int .i64 r2.kind, .string (tx r2.target), .int .u64 r2.rule, .slice B n2 d, .int .u64 r2.out, .int .u64 r2.time, .string (tx r2.tag)] 26)
  have HB := Lib.hid (((Below.refl w.heap.size w).alloc (Nat.le_refl _) (.cells #[.int .i64 r1.kind, .string (tx r1.target), .int .u64 r1.rule, .slice A n1 c, .int .u64 r1.out, .int .u64 r1.time, .string (tx r1.tag)] 26)).alloc (by simp) (.cells #[.int .i64 r2.kind, .string (tx r2.target), .int .u64 r2.rule, .slice B n2 d, .int .u64 r2.out, .int .u64 r2.time, .string (tx r2.tag)] 26))
  have HA0 := Lib.hid ha0
  have HA1 := Lib.hid ha1
  have HSZ := Lib.hid hsz
  clear ha0 ha1 hsz
  have hneq : ∀ v : World, (binOp .neq 112 (restv r1) (restv r2)).run Try.prog v = .ok (.bool true) v := fun v => by
    obtain ⟨q, h1, h2⟩ := rest_neq r1 r2 v
    rw [h2, show q = true from by rw [h1]; exact h]
  go_enter Try.func45, Try.ntmps45
  go_wp2_with fail
  generalize hW : (World.alloc (World.alloc w _) _) = W0 at *
  have ha0 := HA0.out
  have ha1 := HA1.out
  have hsz := HSZ.out
  refine wp_region_held (S := fun v => Below (w.heap.size + 2) W0 v) (by kernel_rfl) ?_
  have hS : Below (w.heap.size + 2) W0 W0.drew := (Below.refl _ W0).drew
  refine h_take 0 (rcv r1 A n1 c) rfl (by kernel_rfl) (by kernel_rfl) (by kernel_rfl) (fun _ _ _ h => h) (by kernel_rfl) hS (by intro v hv; have q0 := (hv.cell (p := ⟨w.heap.size, 0, none⟩) (show w.heap.size < w.heap.size + 2 by omega)).trans (at_cell (i := 0) ha0 rfl); have q1 := (hv.cell (p := ⟨w.heap.size, 1, none⟩) (show w.heap.size < w.heap.size + 2 by omega)).trans (at_cell (i := 1) ha0 rfl); have q2 := (hv.cell (p := ⟨w.heap.size, 2, none⟩) (show w.heap.size < w.heap.size + 2 by omega)).trans (at_cell (i := 2) ha0 rfl); have q3 := (hv.cell (p := ⟨w.heap.size, 3, none⟩) (show w.heap.size < w.heap.size + 2 by omega)).trans (at_cell (i := 3) ha0 rfl); have q4 := (hv.cell (p := ⟨w.heap.size, 4, none⟩) (show w.heap.size < w.heap.size + 2 by omega)).trans (at_cell (i := 4) ha0 rfl); have q5 := (hv.cell (p := ⟨w.heap.size, 5, none⟩) (show w.heap.size < w.heap.size + 2 by omega)).trans (at_cell (i := 5) ha0 rfl); have q6 := (hv.cell (p := ⟨w.heap.size, 6, none⟩) (show w.heap.size < w.heap.size + 2 by omega)).trans (at_cell (i := 6) ha0 rfl); go_simp; rfl) ?_
  refine h_take 2 (rcv r2 B n2 d) rfl (by kernel_rfl) (by kernel_rfl) (by kernel_rfl) (fun _ _ _ h => h) (by kernel_rfl) hS (by intro v hv; have q0 := (hv.cell (p := ⟨w.heap.size + 1, 0, none⟩) (show w.heap.size + 1 < w.heap.size + 2 by omega)).trans (at_cell (i := 0) ha1 rfl); have q1 := (hv.cell (p := ⟨w.heap.size + 1, 1, none⟩) (show w.heap.size + 1 < w.heap.size + 2 by omega)).trans (at_cell (i := 1) ha1 rfl); have q2 := (hv.cell (p := ⟨w.heap.size + 1, 2, none⟩) (show w.heap.size + 1 < w.heap.size + 2 by omega)).trans (at_cell (i := 2) ha1 rfl); have q3 := (hv.cell (p := ⟨w.heap.size + 1, 3, none⟩) (show w.heap.size + 1 < w.heap.size + 2 by omega)).trans (at_cell (i := 3) ha1 rfl); have q4 := (hv.cell (p := ⟨w.heap.size + 1, 4, none⟩) (show w.heap.size + 1 < w.heap.size + 2 by omega)).trans (at_cell (i := 4) ha1 rfl); have q5 := (hv.cell (p := ⟨w.heap.size + 1, 5, none⟩) (show w.heap.size + 1 < w.heap.size + 2 by omega)).trans (at_cell (i := 5) ha1 rfl); have q6 := (hv.cell (p := ⟨w.heap.size + 1, 6, none⟩) (show w.heap.size + 1 < w.heap.size + 2 by omega)).trans (at_cell (i := 6) ha1 rfl); go_simp; rfl) ?_
  refine h_one 1 rfl (by kernel_rfl) (by kernel_rfl) (fun K hK => ?_)
  go_simp
  refine (rest_any r1 A n1 c _).mono ?_
  rintro e w2 ⟨rfl, hb2⟩
  have hS2 : Below (w.heap.size + 2) W0 w2 := hS.trans (hb2.mono (by have := hS.size; omega))
  refine hK _ _ hS2 ?_
  clear hK K
  refine h_one 3 rfl (by kernel_rfl) (by kernel_rfl) (fun K hK => ?_)
  go_simp
  refine (rest_any r2 B n2 d _).mono ?_
  rintro e w3 ⟨rfl, hb3⟩
  have hS3 : Below (w.heap.size + 2) W0 w3 := hS2.trans (hb3.mono (by have := hS2.size; omega))
  refine hK _ _ hS3 ?_
  clear hK K
  refine h_take 4 (.bool true) rfl (by kernel_rfl) (by kernel_rfl) (by kernel_rfl) (fun _ _ _ h => h) (by kernel_rfl) hS3 (by intro v hv; have q := hneq v; have g := guard_rest r1 r2 (.tmp 8) (.tmp 10) v; go_simp) ?_
  refine h_take 5 (.bool true) rfl (by kernel_rfl) (by kernel_rfl) (by kernel_rfl) (fun _ _ _ h => h) (by kernel_rfl) hS3 (fun _ _ => by kernel_rfl) ?_
  refine h_skip 6 rfl (by kernel_rfl) (by kernel_rfl) (by kernel_rfl) (fun _ _ _ h => h) (by kernel_rfl) hS3 ?_
  refine h_skip 7 rfl (by kernel_rfl) (by kernel_rfl) (by kernel_rfl) (fun _ _ _ h => h) (by kernel_rfl) hS3 ?_
  refine h_skip 8 rfl (by kernel_rfl) (by kernel_rfl) (by kernel_rfl) (fun _ _ _ h => h) (by kernel_rfl) hS3 ?_
  refine h_skip 9 rfl (by kernel_rfl) (by kernel_rfl) (by kernel_rfl) (fun _ _ _ h => h) (by kernel_rfl) hS3 ?_
  refine h_skip 10 rfl (by kernel_rfl) (by kernel_rfl) (by kernel_rfl) (fun _ _ _ h => h) (by kernel_rfl) hS3 ?_
  refine h_skip 11 rfl (by kernel_rfl) (by kernel_rfl) (by kernel_rfl) (fun _ _ _ h => h) (by kernel_rfl) hS3 ?_
  refine h_skip 12 rfl (by kernel_rfl) (by kernel_rfl) (by kernel_rfl) (fun _ _ _ h => h) (by kernel_rfl) hS3 ?_
  refine h_take 13 (.bool true) rfl (by kernel_rfl) (by kernel_rfl) (by kernel_rfl) (fun _ _ _ h => h) (by kernel_rfl) hS3 (fun _ _ => by kernel_rfl) ?_
  refine wpAnyH_done (by kernel_rfl) ?_ _
  go_simp
  go_wp2
  go_ret
  exact ⟨rfl, HB.out.trans (hS3.mono (by omega))⟩

set_option maxRecDepth 100000 in
set_option maxHeartbeats 1000000 in
theorem same_lens (r : Rc) (A B : Option Addr) (n1 n2 c d : Nat) (hn : n1 ≠ n2) (w : World) :
    Calls Try.prog 45 #[rcv r A n1 c, rcv r B n2 d] w fun e w' => e = .returned (.bool false) ∧ Below w.heap.size w w' := by
  unfold rcv rsv
  obtain ⟨ha0, ha1, hsz⟩ := two_new w (.cells #[.int .i64 r.kind, .string (tx r.target), .int .u64 r.rule, .slice A n1 c, .int .u64 r.out, .int .u64 r.time, .string (tx r.tag)] 26) (.cells #[.int .i64 r.kind, .string (tx r.target), .int .u64 r.rule, .slice B n2 d, .int .u64 r.out, .int .u64 r.time, .string (tx r.tag)] 26)
  have HB := Lib.hid (((Below.refl w.heap.size w).alloc (Nat.le_refl _) (.cells #[.int .i64 r.kind, .string (tx r.target), .int .u64 r.rule, .slice A n1 c, .int .u64 r.out, .int .u64 r.time, .string (tx r.tag)] 26)).alloc (by simp) (.cells #[.int .i64 r.kind, .string (tx r.target), .int .u64 r.rule, .slice B n2 d, .int .u64 r.out, .int .u64 r.time, .string (tx r.tag)] 26))
  have HA0 := Lib.hid ha0
  have HA1 := Lib.hid ha1
  have HSZ := Lib.hid hsz
  clear ha0 ha1 hsz
  have hneq : ∀ v : World, (binOp .neq 112 (restv r) (restv r)).run Try.prog v = .ok (.bool false) v := fun v => by
    obtain ⟨q, h1, h2⟩ := rest_neq r r v
    rw [h2, show q = false from by rw [← Bool.not_eq_true, h1]; simp]
  have hn2 : decide ((n1 : Int) = (n2 : Int)) = false := by rw [decide_eq_false_iff_not]; omega
  have hn3 : ((n1 : Int) == (n2 : Int)) = false := by rw [beq_eq_false_iff_ne]; omega
  have hn4 : ((n1 : Int) != (n2 : Int)) = true := by rw [bne_iff_ne]; omega
  go_enter Try.func45, Try.ntmps45
  go_wp2_with fail
  generalize hW : (World.alloc (World.alloc w _) _) = W0 at *
  have ha0 := HA0.out
  have ha1 := HA1.out
  have hsz := HSZ.out
  refine wp_region_held (S := fun v => Below (w.heap.size + 2) W0 v) (by kernel_rfl) ?_
  have hS : Below (w.heap.size + 2) W0 W0.drew := (Below.refl _ W0).drew
  refine h_take 0 (rcv r A n1 c) rfl (by kernel_rfl) (by kernel_rfl) (by kernel_rfl) (fun _ _ _ h => h) (by kernel_rfl) hS (by intro v hv; have q0 := (hv.cell (p := ⟨w.heap.size, 0, none⟩) (show w.heap.size < w.heap.size + 2 by omega)).trans (at_cell (i := 0) ha0 rfl); have q1 := (hv.cell (p := ⟨w.heap.size, 1, none⟩) (show w.heap.size < w.heap.size + 2 by omega)).trans (at_cell (i := 1) ha0 rfl); have q2 := (hv.cell (p := ⟨w.heap.size, 2, none⟩) (show w.heap.size < w.heap.size + 2 by omega)).trans (at_cell (i := 2) ha0 rfl); have q3 := (hv.cell (p := ⟨w.heap.size, 3, none⟩) (show w.heap.size < w.heap.size + 2 by omega)).trans (at_cell (i := 3) ha0 rfl); have q4 := (hv.cell (p := ⟨w.heap.size, 4, none⟩) (show w.heap.size < w.heap.size + 2 by omega)).trans (at_cell (i := 4) ha0 rfl); have q5 := (hv.cell (p := ⟨w.heap.size, 5, none⟩) (show w.heap.size < w.heap.size + 2 by omega)).trans (at_cell (i := 5) ha0 rfl); have q6 := (hv.cell (p := ⟨w.heap.size, 6, none⟩) (show w.heap.size < w.heap.size + 2 by omega)).trans (at_cell (i := 6) ha0 rfl); go_simp; rfl) ?_
  refine h_take 2 (rcv r B n2 d) rfl (by kernel_rfl) (by kernel_rfl) (by kernel_rfl) (fun _ _ _ h => h) (by kernel_rfl) hS (by intro v hv; have q0 := (hv.cell (p := ⟨w.heap.size + 1, 0, none⟩) (show w.heap.size + 1 < w.heap.size + 2 by omega)).trans (at_cell (i := 0) ha1 rfl); have q1 := (hv.cell (p := ⟨w.heap.size + 1, 1, none⟩) (show w.heap.size + 1 < w.heap.size + 2 by omega)).trans (at_cell (i := 1) ha1 rfl); have q2 := (hv.cell (p := ⟨w.heap.size + 1, 2, none⟩) (show w.heap.size + 1 < w.heap.size + 2 by omega)).trans (at_cell (i := 2) ha1 rfl); have q3 := (hv.cell (p := ⟨w.heap.size + 1, 3, none⟩) (show w.heap.size + 1 < w.heap.size + 2 by omega)).trans (at_cell (i := 3) ha1 rfl); have q4 := (hv.cell (p := ⟨w.heap.size + 1, 4, none⟩) (show w.heap.size + 1 < w.heap.size + 2 by omega)).trans (at_cell (i := 4) ha1 rfl); have q5 := (hv.cell (p := ⟨w.heap.size + 1, 5, none⟩) (show w.heap.size + 1 < w.heap.size + 2 by omega)).trans (at_cell (i := 5) ha1 rfl); have q6 := (hv.cell (p := ⟨w.heap.size + 1, 6, none⟩) (show w.heap.size + 1 < w.heap.size + 2 by omega)).trans (at_cell (i := 6) ha1 rfl); go_simp; rfl) ?_
  refine h_one 1 rfl (by kernel_rfl) (by kernel_rfl) (fun K hK => ?_)
  go_simp
  refine (rest_any r A n1 c _).mono ?_
  rintro e w2 ⟨rfl, hb2⟩
  have hS2 : Below (w.heap.size + 2) W0 w2 := hS.trans (hb2.mono (by have := hS.size; omega))
  refine hK _ _ hS2 ?_
  clear hK K
  refine h_one 3 rfl (by kernel_rfl) (by kernel_rfl) (fun K hK => ?_)
  go_simp
  refine (rest_any r B n2 d _).mono ?_
  rintro e w3 ⟨rfl, hb3⟩
  have hS3 : Below (w.heap.size + 2) W0 w3 := hS2.trans (hb3.mono (by have := hS2.size; omega))
  refine hK _ _ hS3 ?_
  clear hK K
  refine h_take 4 (.bool false) rfl (by kernel_rfl) (by kernel_rfl) (by kernel_rfl) (fun _ _ _ h => h) (by kernel_rfl) hS3 (by intro v hv; have q := hneq v; have g := guard_rest r r (.tmp 8) (.tmp 10) v; go_simp) ?_
  refine h_take 5 (.bool false) rfl (by kernel_rfl) (by kernel_rfl) (by kernel_rfl) (fun _ _ _ h => h) (by kernel_rfl) hS3 (fun _ _ => by kernel_rfl) ?_
  refine h_take 6 (.pointer (some ⟨w.heap.size, 3, none⟩)) rfl (by kernel_rfl) (by kernel_rfl) (by kernel_rfl) (fun _ _ _ h => h) (by kernel_rfl) hS3 (fun _ _ => by kernel_rfl) ?_
  refine h_take 7 (.slice A n1 c) rfl (by kernel_rfl) (by kernel_rfl) (by kernel_rfl) (fun _ _ _ h => h) (by kernel_rfl) hS3 (by intro v hv; have q3 := (hv.cell (p := ⟨w.heap.size, 3, none⟩) (show w.heap.size < w.heap.size + 2 by omega)).trans (at_cell (i := 3) ha0 rfl); go_simp) ?_
  refine h_take 8 (.int .i64 (n1 : Int)) rfl (by kernel_rfl) (by kernel_rfl) (by kernel_rfl) (fun _ _ _ h => h) (by kernel_rfl) hS3 (by intro v hv; go_simp) ?_
  refine h_take 9 (.pointer (some ⟨w.heap.size + 1, 3, none⟩)) rfl (by kernel_rfl) (by kernel_rfl) (by kernel_rfl) (fun _ _ _ h => h) (by kernel_rfl) hS3 (fun _ _ => by kernel_rfl) ?_
  refine h_take 10 (.slice B n2 d) rfl (by kernel_rfl) (by kernel_rfl) (by kernel_rfl) (fun _ _ _ h => h) (by kernel_rfl) hS3 (by intro v hv; have q3 := (hv.cell (p := ⟨w.heap.size + 1, 3, none⟩) (show w.heap.size + 1 < w.heap.size + 2 by omega)).trans (at_cell (i := 3) ha1 rfl); go_simp) ?_
  refine h_take 11 (.int .i64 (n2 : Int)) rfl (by kernel_rfl) (by kernel_rfl) (by kernel_rfl) (fun _ _ _ h => h) (by kernel_rfl) hS3 (by intro v hv; go_simp) ?_
  refine h_take 12 (.bool true) rfl (by kernel_rfl) (by kernel_rfl) (by kernel_rfl) (fun _ _ _ h => h) (by kernel_rfl) hS3 (by intro v hv; go_simp) ?_
  refine h_take 13 (.bool true) rfl (by kernel_rfl) (by kernel_rfl) (by kernel_rfl) (fun _ _ _ h => h) (by kernel_rfl) hS3 (fun _ _ => by kernel_rfl) ?_
  refine wpAnyH_done (by kernel_rfl) ?_ _
  go_simp
  go_wp2
  go_ret
  exact ⟨rfl, HB.out.trans (hS3.mono (by omega))⟩

end Go.Proofs.Ytfidfhajnobonaa

/- record.Same: two records that are alike outside their deps, and have as many. -/
namespace Go.Proofs.Ytfidfhajnobonaa
open Go.RowKit

set_option maxRecDepth 100000 in
set_option maxHeartbeats 1000000 in
theorem same_deps (r : Rc) (A B : Option Addr) (n c d : Nat) (l1 l2 : List Dp) (hn : n ≤ 1000000) (w : World) (h1 : Reads w w.heap.size 3 A n (dps l1)) (h2 : Reads w w.heap.size 3 B n (dps l2)) :
    Calls Try.prog 45 #[rcv r A n c, rcv r B n d] w fun e w' => ∃ q : Bool, (q = true ↔ l1 = l2) ∧ e = .returned (.bool q) ∧ Below w.heap.size w w' := by
  have HL1 : Hid (l1.length = n) := by have := h1.1; rw [dps_len] at this; show _ = _; omega
  have HL2 : Hid (l2.length = n) := by have := h2.1; rw [dps_len] at this; show _ = _; omega
  have H1 := Lib.hid h1
  have H2 := Lib.hid h2
  clear h1 h2
  unfold rcv rsv
  obtain ⟨ha0, ha1, hsz⟩ := two_new w (.cells #[.int .i64 r.kind, .string (tx r.target), .int .u64 r.rule, .slice A n c, .int .u64 r.out, .int .u64 r.time, .string (tx r.tag)] 26) (.cells #[.int .i64 r.kind, .string (tx r.target), .int .u64 r.rule, .slice B n d, .int .u64 r.out, .int .u64 r.time, .string (tx r.tag)] 26)
  have HB := Lib.hid (((Below.refl w.heap.size w).alloc (Nat.le_refl _) (.cells #[.int .i64 r.kind, .string (tx r.target), .int .u64 r.rule, .slice A n c, .int .u64 r.out, .int .u64 r.time, .string (tx r.tag)] 26)).alloc (by simp) (.cells #[.int .i64 r.kind, .string (tx r.target), .int .u64 r.rule, .slice B n d, .int .u64 r.out, .int .u64 r.time, .string (tx r.tag)] 26))
  have HA0 := Lib.hid ha0
  have HA1 := Lib.hid ha1
  have HSZ := Lib.hid hsz
  clear ha0 ha1 hsz
  have hneq : ∀ v : World, (binOp .neq 112 (restv r) (restv r)).run Try.prog v = .ok (.bool false) v := fun v => by
    obtain ⟨q, h1, h2⟩ := rest_neq r r v
    rw [h2, show q = false from by rw [← Bool.not_eq_true, h1]; simp]
  have hn2 : decide ((n : Int) = (n : Int)) = true := by simp
  have hn4 : ((n : Int) != (n : Int)) = false := by simp
  go_enter Try.func45, Try.ntmps45
  go_wp2_with fail
  generalize hW : (World.alloc (World.alloc w _) _) = W0 at *
  have ha0 := HA0.out
  have ha1 := HA1.out
  have hsz := HSZ.out
  refine wp_region_held (S := fun v => Below (w.heap.size + 2) W0 v) (by kernel_rfl) ?_
  have hS : Below (w.heap.size + 2) W0 W0.drew := (Below.refl _ W0).drew
  refine h_take 0 (rcv r A n c) rfl (by kernel_rfl) (by kernel_rfl) (by kernel_rfl) (fun _ _ _ h => h) (by kernel_rfl) hS (by intro v hv; have q0 := (hv.cell (p := ⟨w.heap.size, 0, none⟩) (show w.heap.size < w.heap.size + 2 by omega)).trans (at_cell (i := 0) ha0 rfl); have q1 := (hv.cell (p := ⟨w.heap.size, 1, none⟩) (show w.heap.size < w.heap.size + 2 by omega)).trans (at_cell (i := 1) ha0 rfl); have q2 := (hv.cell (p := ⟨w.heap.size, 2, none⟩) (show w.heap.size < w.heap.size + 2 by omega)).trans (at_cell (i := 2) ha0 rfl); have q3 := (hv.cell (p := ⟨w.heap.size, 3, none⟩) (show w.heap.size < w.heap.size + 2 by omega)).trans (at_cell (i := 3) ha0 rfl); have q4 := (hv.cell (p := ⟨w.heap.size, 4, none⟩) (show w.heap.size < w.heap.size + 2 by omega)).trans (at_cell (i := 4) ha0 rfl); have q5 := (hv.cell (p := ⟨w.heap.size, 5, none⟩) (show w.heap.size < w.heap.size + 2 by omega)).trans (at_cell (i := 5) ha0 rfl); have q6 := (hv.cell (p := ⟨w.heap.size, 6, none⟩) (show w.heap.size < w.heap.size + 2 by omega)).trans (at_cell (i := 6) ha0 rfl); go_simp; rfl) ?_
  refine h_take 2 (rcv r B n d) rfl (by kernel_rfl) (by kernel_rfl) (by kernel_rfl) (fun _ _ _ h => h) (by kernel_rfl) hS (by intro v hv; have q0 := (hv.cell (p := ⟨w.heap.size + 1, 0, none⟩) (show w.heap.size + 1 < w.heap.size + 2 by omega)).trans (at_cell (i := 0) ha1 rfl); have q1 := (hv.cell (p := ⟨w.heap.size + 1, 1, none⟩) (show w.heap.size + 1 < w.heap.size + 2 by omega)).trans (at_cell (i := 1) ha1 rfl); have q2 := (hv.cell (p := ⟨w.heap.size + 1, 2, none⟩) (show w.heap.size + 1 < w.heap.size + 2 by omega)).trans (at_cell (i := 2) ha1 rfl); have q3 := (hv.cell (p := ⟨w.heap.size + 1, 3, none⟩) (show w.heap.size + 1 < w.heap.size + 2 by omega)).trans (at_cell (i := 3) ha1 rfl); have q4 := (hv.cell (p := ⟨w.heap.size + 1, 4, none⟩) (show w.heap.size + 1 < w.heap.size + 2 by omega)).trans (at_cell (i := 4) ha1 rfl); have q5 := (hv.cell (p := ⟨w.heap.size + 1, 5, none⟩) (show w.heap.size + 1 < w.heap.size + 2 by omega)).trans (at_cell (i := 5) ha1 rfl); have q6 := (hv.cell (p := ⟨w.heap.size + 1, 6, none⟩) (show w.heap.size + 1 < w.heap.size + 2 by omega)).trans (at_cell (i := 6) ha1 rfl); go_simp; rfl) ?_
  refine h_one 1 rfl (by kernel_rfl) (by kernel_rfl) (fun K hK => ?_)
  go_simp
  refine (rest_any r A n c _).mono ?_
  rintro e w2 ⟨rfl, hb2⟩
  have hS2 : Below (w.heap.size + 2) W0 w2 := hS.trans (hb2.mono (by have := hS.size; omega))
  refine hK _ _ hS2 ?_
  clear hK K
  refine h_one 3 rfl (by kernel_rfl) (by kernel_rfl) (fun K hK => ?_)
  go_simp
  refine (rest_any r B n d _).mono ?_
  rintro e w3 ⟨rfl, hb3⟩
  have hS3 : Below (w.heap.size + 2) W0 w3 := hS2.trans (hb3.mono (by have := hS2.size; omega))
  refine hK _ _ hS3 ?_
  clear hK K
  refine h_take 4 (.bool false) rfl (by kernel_rfl) (by kernel_rfl) (by kernel_rfl) (fun _ _ _ h => h) (by kernel_rfl) hS3 (by intro v hv; have q := hneq v; have g := guard_rest r r (.tmp 8) (.tmp 10) v; go_simp) ?_
  refine h_take 5 (.bool false) rfl (by kernel_rfl) (by kernel_rfl) (by kernel_rfl) (fun _ _ _ h => h) (by kernel_rfl) hS3 (fun _ _ => by kernel_rfl) ?_
  refine h_take 6 (.pointer (some ⟨w.heap.size, 3, none⟩)) rfl (by kernel_rfl) (by kernel_rfl) (by kernel_rfl) (fun _ _ _ h => h) (by kernel_rfl) hS3 (fun _ _ => by kernel_rfl) ?_
  refine h_take 7 (.slice A n c) rfl (by kernel_rfl) (by kernel_rfl) (by kernel_rfl) (fun _ _ _ h => h) (by kernel_rfl) hS3 (by intro v hv; have q3 := (hv.cell (p := ⟨w.heap.size, 3, none⟩) (show w.heap.size < w.heap.size + 2 by omega)).trans (at_cell (i := 3) ha0 rfl); go_simp) ?_
  refine h_take 8 (.int .i64 (n : Int)) rfl (by kernel_rfl) (by kernel_rfl) (by kernel_rfl) (fun _ _ _ h => h) (by kernel_rfl) hS3 (by intro v hv; go_simp) ?_
  refine h_take 9 (.pointer (some ⟨w.heap.size + 1, 3, none⟩)) rfl (by kernel_rfl) (by kernel_rfl) (by kernel_rfl) (fun _ _ _ h => h) (by kernel_rfl) hS3 (fun _ _ => by kernel_rfl) ?_
  refine h_take 10 (.slice B n d) rfl (by kernel_rfl) (by kernel_rfl) (by kernel_rfl) (fun _ _ _ h => h) (by kernel_rfl) hS3 (by intro v hv; have q3 := (hv.cell (p := ⟨w.heap.size + 1, 3, none⟩) (show w.heap.size + 1 < w.heap.size + 2 by omega)).trans (at_cell (i := 3) ha1 rfl); go_simp) ?_
  refine h_take 11 (.int .i64 (n : Int)) rfl (by kernel_rfl) (by kernel_rfl) (by kernel_rfl) (fun _ _ _ h => h) (by kernel_rfl) hS3 (by intro v hv; go_simp) ?_
  refine h_take 12 (.bool false) rfl (by kernel_rfl) (by kernel_rfl) (by kernel_rfl) (fun _ _ _ h => h) (by kernel_rfl) hS3 (by intro v hv; go_simp) ?_
  refine h_take 13 (.bool false) rfl (by kernel_rfl) (by kernel_rfl) (by kernel_rfl) (fun _ _ _ h => h) (by kernel_rfl) hS3 (fun _ _ => by kernel_rfl) ?_
  refine wpAnyH_done (by kernel_rfl) ?_ _
  go_simp
  have q3 := (hS3.cell (p := ⟨w.heap.size, 3, none⟩) (show w.heap.size < w.heap.size + 2 by omega)).trans (at_cell (i := 3) ha0 rfl)
  have HW0 : Hid (Below w.heap.size w W0) := HB.out
  have HS3 := Lib.hid hS3
  have HSZ2 : Hid (W0.heap.size = w.heap.size + 2) := hsz
  have hw3 : Hid (w.heap.size + 2 ≤ w3.heap.size) := by have h := hS3.size; show _ ≤ _; omega
  clear hb2 hb3 hS hS2 hS3 ha0 hneq hW HB HA0 hsz HSZ
  go_wp2_with fail
  go_loopw [24] (fun idx wr => ∃ i : Nat, i ≤ n ∧ idx = .int .i64 (i : Int) ∧ l1.take i = l2.take i ∧ Below (w.heap.size + 2) W0 wr) (fun idx wr => n - (intOf idx).toNat)
  case atStart => exact ⟨0, by omega, rfl, by simp, HS3.out⟩
  case round =>
    obtain ⟨i, hi, rfl, htk, hb⟩ := hrel
    have HTK := Lib.hid htk
    clear htk
    by_cases hlt : i < n
    · obtain ⟨x, hx⟩ : ∃ x, l1[i]? = some x := ⟨_, List.getElem?_eq_getElem (by rw [HL1.out]; exact hlt)⟩
      obtain ⟨y, hy⟩ : ∃ y, l2[i]? = some y := ⟨_, List.getElem?_eq_getElem (by rw [HL2.out]; exact hlt)⟩
      have hbw : Below w.heap.size w wr := HW0.out.trans (hb.mono (by omega))
      obtain ⟨ad, rfl, _, hcx⟩ := (H1.out.below hbw).2 (by omega)
      obtain ⟨x0, x1, x2⟩ := dps_at l1 i x hx
      have k0 := hcx _ _ x0
      have k1 := hcx _ _ x1
      have k2 := hcx _ _ x2
      rw [add_one] at k1
      rw [add_two] at k2
      have HX := Lib.hid hx
      have HY := Lib.hid hy
      have HBW := Lib.hid hbw
      have HBR := Lib.hid hb
      have hi0 : (0 : Int) ≤ (i : Int) := by omega
      have hi1 : (i : Int) < (n : Int) := by omega
      clear hcx x0 x1 x2 hx hy hb hbw
      unfold rsv at k0
      obtain ⟨xn, xh, xo⟩ := x
      simp only at k0 k1 k2
      go_wp2_with fail
      have hnb : (wr.alloc (.cells #[.string (tx xn), .int .u64 xh, .bool xo] 56)).heap[wr.heap.size]? = some (.cells #[.string (tx xn), .int .u64 xh, .bool xo] 56 (0, 0)) := by show (wr.heap.push _)[wr.heap.size]? = _; exact Array.getElem?_push_size
      have hbn : Below (w.heap.size + 2) W0 (wr.alloc (.cells #[.string (tx xn), .int .u64 xh, .bool xo] 56)) := HBR.out.alloc (by have h1 := HBR.out.size; have h2 := hw3.out; have h3 := HSZ2.out; omega) _
      generalize (wr.alloc _) = W1 at *
      have f1 := (hbn.cell (p := ⟨w.heap.size + 1, 3, none⟩) (show w.heap.size + 1 < w.heap.size + 2 by omega)).trans (at_cell (i := 3) HA1.out rfl)
      obtain ⟨ad', hBe, _, hcy⟩ := (H2.out.below (HW0.out.trans (hbn.mono (by omega)))).2 (by omega)
      subst hBe
      obtain ⟨y0, y1, y2⟩ := dps_at l2 i y HY.out
      have m0 := hcy _ _ y0
      have m1 := hcy _ _ y1
      have m2 := hcy _ _ y2
      rw [add_one] at m1
      rw [add_two] at m2
      unfold rsv at m0
      have p0 := at_cell (i := 0) hnb rfl
      have p1 := at_cell (i := 1) hnb rfl
      have p2 := at_cell (i := 2) hnb rfl
      clear hcy y0 y1 y2 hnb k0 k1 k2
      have HBN := Lib.hid hbn
      clear hbn
      by_cases hxy : (⟨xn, xh, xo⟩ : Dp) = y
      · have hq : ∀ v : World, (binOp .neq 56 (Dp.val ⟨xn, xh, xo⟩) y.val).run Try.prog v = .ok (.bool false) v := fun v => by
          obtain ⟨q, h1, h2⟩ := dep_neq ⟨xn, xh, xo⟩ y v
          rw [h2, show q = false from by rw [← Bool.not_eq_true, h1]; simp [hxy]]
        have HTK2 : Hid (l1.take (i + 1) = l2.take (i + 1)) := by show _ = _; rw [List.take_add_one, List.take_add_one, HTK.out, HX.out, HY.out, hxy]
        clear hxy
        refine wp_region_held (S := fun v => v.heap = W1.heap) (by kernel_rfl) ?_
        have hS : W1.drew.heap = W1.heap := rfl
        refine h_take 0 (Dp.val ⟨xn, xh, xo⟩) rfl (by kernel_rfl) (by kernel_rfl) (by kernel_rfl) (fun _ _ _ h => h) (by kernel_rfl) hS (by intro v hv; have q0 := (at_heap hv _).trans p0; have q1 := (at_heap hv _).trans p1; have q2 := (at_heap hv _).trans p2; go_simp; rfl) ?_
        refine h_take 1 (.pointer (some ⟨w.heap.size + 1, 3, none⟩)) rfl (by kernel_rfl) (by kernel_rfl) (by kernel_rfl) (fun _ _ _ h => h) (by kernel_rfl) hS (fun _ _ => by kernel_rfl) ?_
        refine h_take 2 (.slice (some ad') n d) rfl (by kernel_rfl) (by kernel_rfl) (by kernel_rfl) (fun _ _ _ h => h) (by kernel_rfl) hS (by intro v hv; have q0 := (at_heap hv _).trans f1; go_simp) ?_
        refine h_take 3 (.int .i64 (i : Int)) rfl (by kernel_rfl) (by kernel_rfl) (by kernel_rfl) (fun _ _ _ h => h) (by kernel_rfl) hS (fun _ _ => by kernel_rfl) ?_
        refine h_take 4 (.pointer (some (ad'.add (i * 3)))) rfl (by kernel_rfl) (by kernel_rfl) (by kernel_rfl) (fun _ _ _ h => h) (by kernel_rfl) hS (by intro v hv; go_simp) ?_
        refine h_take 5 (y.val) rfl (by kernel_rfl) (by kernel_rfl) (by kernel_rfl) (fun _ _ _ h => h) (by kernel_rfl) hS (by intro v hv; have q0 := (at_heap hv _).trans m0; have q1 := (at_heap hv _).trans m1; have q2 := (at_heap hv _).trans m2; go_simp; rfl) ?_
        refine h_take 6 (.bool false) rfl (by kernel_rfl) (by kernel_rfl) (by kernel_rfl) (fun _ _ _ h => h) (by kernel_rfl) hS (by intro v hv; have q := hq v; have g := guard_dep ⟨xn, xh, xo⟩ y (.tmp 29) (.tmp 34) v; go_simp) ?_
        refine wpAnyH_done (by kernel_rfl) ?_ _
        go_simp
        go_wp2
        exact ⟨⟨i + 1, by omega, by go_num, HTK2.out, HBN.out.drew⟩, by simp [intOf]; omega⟩
      · have hq : ∀ v : World, (binOp .neq 56 (Dp.val ⟨xn, xh, xo⟩) y.val).run Try.prog v = .ok (.bool true) v := fun v => by
          obtain ⟨q, h1, h2⟩ := dep_neq ⟨xn, xh, xo⟩ y v
          rw [h2, show q = true from by rw [h1]; exact hxy]
        have HNE : Hid (l1 ≠ l2) := fun h => hxy (by have e := HX.out; rw [h, HY.out] at e; exact (Option.some.inj e).symm)
        clear hxy
        refine wp_region_held (S := fun v => v.heap = W1.heap) (by kernel_rfl) ?_
        have hS : W1.drew.heap = W1.heap := rfl
        refine h_take 0 (Dp.val ⟨xn, xh, xo⟩) rfl (by kernel_rfl) (by kernel_rfl) (by kernel_rfl) (fun _ _ _ h => h) (by kernel_rfl) hS (by intro v hv; have q0 := (at_heap hv _).trans p0; have q1 := (at_heap hv _).trans p1; have q2 := (at_heap hv _).trans p2; go_simp; rfl) ?_
        refine h_take 1 (.pointer (some ⟨w.heap.size + 1, 3, none⟩)) rfl (by kernel_rfl) (by kernel_rfl) (by kernel_rfl) (fun _ _ _ h => h) (by kernel_rfl) hS (fun _ _ => by kernel_rfl) ?_
        refine h_take 2 (.slice (some ad') n d) rfl (by kernel_rfl) (by kernel_rfl) (by kernel_rfl) (fun _ _ _ h => h) (by kernel_rfl) hS (by intro v hv; have q0 := (at_heap hv _).trans f1; go_simp) ?_
        refine h_take 3 (.int .i64 (i : Int)) rfl (by kernel_rfl) (by kernel_rfl) (by kernel_rfl) (fun _ _ _ h => h) (by kernel_rfl) hS (fun _ _ => by kernel_rfl) ?_
        refine h_take 4 (.pointer (some (ad'.add (i * 3)))) rfl (by kernel_rfl) (by kernel_rfl) (by kernel_rfl) (fun _ _ _ h => h) (by kernel_rfl) hS (by intro v hv; go_simp) ?_
        refine h_take 5 (y.val) rfl (by kernel_rfl) (by kernel_rfl) (by kernel_rfl) (fun _ _ _ h => h) (by kernel_rfl) hS (by intro v hv; have q0 := (at_heap hv _).trans m0; have q1 := (at_heap hv _).trans m1; have q2 := (at_heap hv _).trans m2; go_simp; rfl) ?_
        refine h_take 6 (.bool true) rfl (by kernel_rfl) (by kernel_rfl) (by kernel_rfl) (fun _ _ _ h => h) (by kernel_rfl) hS (by intro v hv; have q := hq v; have g := guard_dep ⟨xn, xh, xo⟩ y (.tmp 29) (.tmp 34) v; go_simp) ?_
        refine wpAnyH_done (by kernel_rfl) ?_ _
        go_simp
        go_wp2
        go_ret
        exact ⟨false, by simpa using HNE.out, rfl, HW0.out.trans (HBN.out.drew.mono (by omega))⟩
    · obtain rfl : i = n := by omega
      have htk := HTK.out
      rw [List.take_of_length_le (by rw [HL1.out]; omega), List.take_of_length_le (by rw [HL2.out]; omega)] at htk
      have HTK2 := Lib.hid htk
      clear htk
      have HBR := Lib.hid hb
      clear hb
      go_wp2
      go_ret
      exact ⟨true, by simpa using HTK2.out, rfl, HW0.out.trans (HBR.out.mono (by omega))⟩

end Go.Proofs.Ytfidfhajnobonaa

/- The document's Same of two records that are like outside their deps. -/
namespace Go.Proofs.Ytfidfhajnobonaa
open Go.RowKit

theorem re_heap {w w' : World} (h : w'.heap = w.heap) (p : Addr) : w'.cell? p = w.cell? p := by unfold World.cell?; rw [h]

theorem re_cell {w : World} {b i : Nat} {cs : Array Value} {t : TypeId} {u : Value} (h : w.heap[b]? = some (.cells cs t (0, 0))) (hi : cs[i]? = some u) : w.cell? ⟨b, i, none⟩ = some u := by
  simp [World.cell?, h, hi]

set_option maxRecDepth 100000 in
set_option maxHeartbeats 1000000 in
theorem rsl_any (kind rule out time : Int) (target tag : List UInt8) (A B : Option Addr) (n c d : Nat) (l1 l2 : List Dp) (hn : n ≤ 1000000) (w : World) (h1 : Reads w w.heap.size 3 A n (dps l1)) (h2 : Reads w w.heap.size 3 B n (dps l2)) :
    Calls Try.prog 18 #[.agg #[.int .i64 kind, .string (tx target), .int .u64 rule, .slice A n c, .int .u64 out, .int .u64 time, .string (tx tag)], .agg #[.int .i64 kind, .string (tx target), .int .u64 rule, .slice B n d, .int .u64 out, .int .u64 time, .string (tx tag)]] w fun e w' =>
      ((l1 = l2 ∧ e = .returned (.bool true)) ∨ (l1 ≠ l2 ∧ e = .returned (.bool false))) ∧ Below w.heap.size w w' := by
  have hb := (((Below.refl w.heap.size w).alloc (Nat.le_refl _) (.cells #[.int .i64 kind, .string (tx target), .int .u64 rule, .slice A n c, .int .u64 out, .int .u64 time, .string (tx tag)] 26)).alloc (by simp) (.cells #[.int .i64 kind, .string (tx target), .int .u64 rule, .slice B n d, .int .u64 out, .int .u64 time, .string (tx tag)] 26))
  have HL1 : Hid (l1.length = n) := by have := h1.1; rw [dps_len] at this; show _ = _; omega
  have HL2 : Hid (l2.length = n) := by have := h2.1; rw [dps_len] at this; show _ = _; omega
  have H1 := Lib.hid h1
  have H2 := Lib.hid h2
  have HB := Lib.hid hb
  have hx : ∀ (a b : Obj), ((w.alloc a).alloc b).heap[w.heap.size + 1]? = some b := fun a b => by
    have h := @Array.getElem?_push_size _ (w.alloc a).heap b
    rwa [show (w.alloc a).heap.size = w.heap.size + 1 from Array.size_push _] at h
  have hy : ∀ (a b : Obj), ((w.alloc a).alloc b).heap[w.heap.size]? = some a := fun a b =>
    (Below.heap_alloc _ _ _ (by show w.heap.size < (w.alloc a).heap.size; rw [show (w.alloc a).heap.size = w.heap.size + 1 from Array.size_push _]; omega)).trans (by show (w.heap.push _)[w.heap.size]? = _; exact Array.getElem?_push_size)
  have HA1 := Lib.hid (hx (.cells #[.int .i64 kind, .string (tx target), .int .u64 rule, .slice A n c, .int .u64 out, .int .u64 time, .string (tx tag)] 26) (.cells #[.int .i64 kind, .string (tx target), .int .u64 rule, .slice B n d, .int .u64 out, .int .u64 time, .string (tx tag)] 26))
  have HA0 := Lib.hid (hy (.cells #[.int .i64 kind, .string (tx target), .int .u64 rule, .slice A n c, .int .u64 out, .int .u64 time, .string (tx tag)] 26) (.cells #[.int .i64 kind, .string (tx target), .int .u64 rule, .slice B n d, .int .u64 out, .int .u64 time, .string (tx tag)] 26))
  clear hx hy
  have ht1 := tx_like target
  have ht2 := tx_like tag
  clear h1 h2 hb
  go_enter Try.func18, Try.ntmps18
  go_wp2
  go_loopw [5] (fun idx wr => ∃ i : Nat, i ≤ n ∧ idx = .int .i64 (i : Int) ∧ l1.take i = l2.take i ∧ Below w.heap.size w wr ∧ wr.heap[w.heap.size]? = some (.cells #[.int .i64 kind, .string (tx target), .int .u64 rule, .slice A n c, .int .u64 out, .int .u64 time, .string (tx tag)] 26 (0, 0)) ∧ wr.heap[w.heap.size + 1]? = some (.cells #[.int .i64 kind, .string (tx target), .int .u64 rule, .slice B n d, .int .u64 out, .int .u64 time, .string (tx tag)] 26 (0, 0))) (fun idx wr => n - (intOf idx).toNat)
  case atStart => exact ⟨0, by omega, rfl, by simp, HB.out, HA0.out, HA1.out⟩
  case round =>
    obtain ⟨i, hi, rfl, htk, hb, ha0, ha1⟩ := hrel
    have f0 := re_cell (i := 3) ha0 rfl
    have f1 := re_cell (i := 3) ha1 rfl
    have HB5 := Lib.hid hb
    have HA5 := Lib.hid ha0
    have HA6 := Lib.hid ha1
    clear ha0 ha1
    by_cases hlt : i < n
    · obtain ⟨x, hx⟩ : ∃ x, l1[i]? = some x := ⟨_, List.getElem?_eq_getElem (by rw [HL1.out]; exact hlt)⟩
      obtain ⟨y, hy⟩ : ∃ y, l2[i]? = some y := ⟨_, List.getElem?_eq_getElem (by rw [HL2.out]; exact hlt)⟩
      obtain ⟨ad, rfl, _, hcx⟩ := (H1.out.below hb).2 (by omega)
      obtain ⟨ad', rfl, _, hcy⟩ := (H2.out.below hb).2 (by omega)
      obtain ⟨x0, x1, x2⟩ := dps_at l1 i x hx
      obtain ⟨y0, y1, y2⟩ := dps_at l2 i y hy
      have k0 := hcx _ _ x0
      have k1 := hcx _ _ x1
      have k2 := hcx _ _ x2
      have m0 := hcy _ _ y0
      have m1 := hcy _ _ y1
      have m2 := hcy _ _ y2
      rw [add_one] at k1 m1
      rw [add_two] at k2 m2
      have HXY : Hid (x = y → l1.take (i + 1) = l2.take (i + 1)) := fun e => by rw [List.take_add_one, List.take_add_one, htk, hx, hy, e]
      have HNE : Hid (x ≠ y → l1 ≠ l2) := fun e h => e (by rw [h, hy] at hx; exact (Option.some.inj hx).symm)
      obtain ⟨xn, xh, xo⟩ := x
      obtain ⟨yn, yh, yo⟩ := y
      unfold rsv at k0 m0
      simp only at k0 k1 k2 m0 m1 m2
      clear hcx hcy x0 x1 x2 y0 y1 y2 hx hy htk hb
      have hi0 : (0 : Int) ≤ (i : Int) := by omega
      have hi1 : (i : Int) < (n : Int) := by omega
      by_cases e0 : xn = yn
      · have hl := tx_like xn
        by_cases e1 : xh = yh
        · by_cases e2 : xo = yo
          · subst e0; subst e1; subst e2
            have hob : (xo != xo) = false := by simp
            have hob2 : (xo == xo) = true := by simp
            go_wp2_with fail
            refine wp_region_held (S := fun v => v.heap = wr.heap) (by kernel_rfl) ?_
            have hS : wr.drew.heap = wr.heap := rfl
            refine h_take 0 (.pointer (some ⟨w.heap.size, 3, none⟩)) rfl (by kernel_rfl) (by kernel_rfl) (by kernel_rfl) (fun _ _ _ h => h) (by kernel_rfl) hS (fun _ _ => by kernel_rfl) ?_
            refine h_take 1 (.slice (some ad) n c) rfl (by kernel_rfl) (by kernel_rfl) (by kernel_rfl) (fun _ _ _ h => h) (by kernel_rfl) hS (by intro v hv; have q := (re_heap hv _).trans f0; go_simp) ?_
            refine h_take 2 (.int .i64 (i : Int)) rfl (by kernel_rfl) (by kernel_rfl) (by kernel_rfl) (fun _ _ _ h => h) (by kernel_rfl) hS (fun _ _ => by kernel_rfl) ?_
            refine h_take 3 (.pointer (some (ad.add (i * 3)))) rfl (by kernel_rfl) (by kernel_rfl) (by kernel_rfl) (fun _ _ _ h => h) (by kernel_rfl) hS (by intro v hv; go_simp) ?_
            refine h_take 4 (.pointer (some (ad.add (i * 3)))) rfl (by kernel_rfl) (by kernel_rfl) (by kernel_rfl) (fun _ _ _ h => h) (by kernel_rfl) hS (by intro v hv; go_simp) ?_
            refine h_take 5 (.string (tx xn)) rfl (by kernel_rfl) (by kernel_rfl) (by kernel_rfl) (fun _ _ _ h => h) (by kernel_rfl) hS (by intro v hv; have q := (re_heap hv _).trans k0; go_simp) ?_
            refine h_take 6 (.pointer (some ⟨w.heap.size + 1, 3, none⟩)) rfl (by kernel_rfl) (by kernel_rfl) (by kernel_rfl) (fun _ _ _ h => h) (by kernel_rfl) hS (fun _ _ => by kernel_rfl) ?_
            refine h_take 7 (.slice (some ad') n d) rfl (by kernel_rfl) (by kernel_rfl) (by kernel_rfl) (fun _ _ _ h => h) (by kernel_rfl) hS (by intro v hv; have q := (re_heap hv _).trans f1; go_simp) ?_
            refine h_take 8 (.int .i64 (i : Int)) rfl (by kernel_rfl) (by kernel_rfl) (by kernel_rfl) (fun _ _ _ h => h) (by kernel_rfl) hS (fun _ _ => by kernel_rfl) ?_
            refine h_take 9 (.pointer (some (ad'.add (i * 3)))) rfl (by kernel_rfl) (by kernel_rfl) (by kernel_rfl) (fun _ _ _ h => h) (by kernel_rfl) hS (by intro v hv; go_simp) ?_
            refine h_take 10 (.pointer (some (ad'.add (i * 3)))) rfl (by kernel_rfl) (by kernel_rfl) (by kernel_rfl) (fun _ _ _ h => h) (by kernel_rfl) hS (by intro v hv; go_simp) ?_
            refine h_take 11 (.string (tx xn)) rfl (by kernel_rfl) (by kernel_rfl) (by kernel_rfl) (fun _ _ _ h => h) (by kernel_rfl) hS (by intro v hv; have q := (re_heap hv _).trans m0; go_simp) ?_
            refine h_take 12 (.bool false) rfl (by kernel_rfl) (by kernel_rfl) (by kernel_rfl) (fun _ _ _ h => h) (by kernel_rfl) hS (by intro v hv; go_simp) ?_
            refine h_take 13 (.bool false) rfl (by kernel_rfl) (by kernel_rfl) (by kernel_rfl) (fun _ _ _ h => h) (by kernel_rfl) hS (fun _ _ => by kernel_rfl) ?_
            refine h_take 14 (.pointer (some ⟨w.heap.size, 3, none⟩)) rfl (by kernel_rfl) (by kernel_rfl) (by kernel_rfl) (fun _ _ _ h => h) (by kernel_rfl) hS (fun _ _ => by kernel_rfl) ?_
            refine h_take 15 (.slice (some ad) n c) rfl (by kernel_rfl) (by kernel_rfl) (by kernel_rfl) (fun _ _ _ h => h) (by kernel_rfl) hS (by intro v hv; have q := (re_heap hv _).trans f0; go_simp) ?_
            refine h_take 16 (.int .i64 (i : Int)) rfl (by kernel_rfl) (by kernel_rfl) (by kernel_rfl) (fun _ _ _ h => h) (by kernel_rfl) hS (fun _ _ => by kernel_rfl) ?_
            refine h_take 17 (.pointer (some (ad.add (i * 3)))) rfl (by kernel_rfl) (by kernel_rfl) (by kernel_rfl) (fun _ _ _ h => h) (by kernel_rfl) hS (by intro v hv; go_simp) ?_
            refine h_take 18 (.pointer (some ⟨(ad.add (i * 3)).block, (ad.add (i * 3)).off + 1, none⟩)) rfl (by kernel_rfl) (by kernel_rfl) (by kernel_rfl) (fun _ _ _ h => h) (by kernel_rfl) hS (by intro v hv; go_simp) ?_
            refine h_take 19 (.int .u64 xh) rfl (by kernel_rfl) (by kernel_rfl) (by kernel_rfl) (fun _ _ _ h => h) (by kernel_rfl) hS (by intro v hv; have q := (re_heap hv _).trans k1; go_simp) ?_
            refine h_take 20 (.pointer (some ⟨w.heap.size + 1, 3, none⟩)) rfl (by kernel_rfl) (by kernel_rfl) (by kernel_rfl) (fun _ _ _ h => h) (by kernel_rfl) hS (fun _ _ => by kernel_rfl) ?_
            refine h_take 21 (.slice (some ad') n d) rfl (by kernel_rfl) (by kernel_rfl) (by kernel_rfl) (fun _ _ _ h => h) (by kernel_rfl) hS (by intro v hv; have q := (re_heap hv _).trans f1; go_simp) ?_
            refine h_take 22 (.int .i64 (i : Int)) rfl (by kernel_rfl) (by kernel_rfl) (by kernel_rfl) (fun _ _ _ h => h) (by kernel_rfl) hS (fun _ _ => by kernel_rfl) ?_
            refine h_take 23 (.pointer (some (ad'.add (i * 3)))) rfl (by kernel_rfl) (by kernel_rfl) (by kernel_rfl) (fun _ _ _ h => h) (by kernel_rfl) hS (by intro v hv; go_simp) ?_
            refine h_take 24 (.pointer (some ⟨(ad'.add (i * 3)).block, (ad'.add (i * 3)).off + 1, none⟩)) rfl (by kernel_rfl) (by kernel_rfl) (by kernel_rfl) (fun _ _ _ h => h) (by kernel_rfl) hS (by intro v hv; go_simp) ?_
            refine h_take 25 (.int .u64 xh) rfl (by kernel_rfl) (by kernel_rfl) (by kernel_rfl) (fun _ _ _ h => h) (by kernel_rfl) hS (by intro v hv; have q := (re_heap hv _).trans m1; go_simp) ?_
            refine h_take 26 (.bool false) rfl (by kernel_rfl) (by kernel_rfl) (by kernel_rfl) (fun _ _ _ h => h) (by kernel_rfl) hS (by intro v hv; go_simp) ?_
            refine h_take 27 (.bool false) rfl (by kernel_rfl) (by kernel_rfl) (by kernel_rfl) (fun _ _ _ h => h) (by kernel_rfl) hS (fun _ _ => by kernel_rfl) ?_
            refine h_take 28 (.bool false) rfl (by kernel_rfl) (by kernel_rfl) (by kernel_rfl) (fun _ _ _ h => h) (by kernel_rfl) hS (fun _ _ => by kernel_rfl) ?_
            refine h_take 29 (.pointer (some ⟨w.heap.size, 3, none⟩)) rfl (by kernel_rfl) (by kernel_rfl) (by kernel_rfl) (fun _ _ _ h => h) (by kernel_rfl) hS (fun _ _ => by kernel_rfl) ?_
            refine h_take 30 (.slice (some ad) n c) rfl (by kernel_rfl) (by kernel_rfl) (by kernel_rfl) (fun _ _ _ h => h) (by kernel_rfl) hS (by intro v hv; have q := (re_heap hv _).trans f0; go_simp) ?_
            refine h_take 31 (.int .i64 (i : Int)) rfl (by kernel_rfl) (by kernel_rfl) (by kernel_rfl) (fun _ _ _ h => h) (by kernel_rfl) hS (fun _ _ => by kernel_rfl) ?_
            refine h_take 32 (.pointer (some (ad.add (i * 3)))) rfl (by kernel_rfl) (by kernel_rfl) (by kernel_rfl) (fun _ _ _ h => h) (by kernel_rfl) hS (by intro v hv; go_simp) ?_
            refine h_take 33 (.pointer (some ⟨(ad.add (i * 3)).block, (ad.add (i * 3)).off + 2, none⟩)) rfl (by kernel_rfl) (by kernel_rfl) (by kernel_rfl) (fun _ _ _ h => h) (by kernel_rfl) hS (by intro v hv; go_simp) ?_
            refine h_take 34 (.bool xo) rfl (by kernel_rfl) (by kernel_rfl) (by kernel_rfl) (fun _ _ _ h => h) (by kernel_rfl) hS (by intro v hv; have q := (re_heap hv _).trans k2; go_simp) ?_
            refine h_take 35 (.pointer (some ⟨w.heap.size + 1, 3, none⟩)) rfl (by kernel_rfl) (by kernel_rfl) (by kernel_rfl) (fun _ _ _ h => h) (by kernel_rfl) hS (fun _ _ => by kernel_rfl) ?_
            refine h_take 36 (.slice (some ad') n d) rfl (by kernel_rfl) (by kernel_rfl) (by kernel_rfl) (fun _ _ _ h => h) (by kernel_rfl) hS (by intro v hv; have q := (re_heap hv _).trans f1; go_simp) ?_
            refine h_take 37 (.int .i64 (i : Int)) rfl (by kernel_rfl) (by kernel_rfl) (by kernel_rfl) (fun _ _ _ h => h) (by kernel_rfl) hS (fun _ _ => by kernel_rfl) ?_
            refine h_take 38 (.pointer (some (ad'.add (i * 3)))) rfl (by kernel_rfl) (by kernel_rfl) (by kernel_rfl) (fun _ _ _ h => h) (by kernel_rfl) hS (by intro v hv; go_simp) ?_
            refine h_take 39 (.pointer (some ⟨(ad'.add (i * 3)).block, (ad'.add (i * 3)).off + 2, none⟩)) rfl (by kernel_rfl) (by kernel_rfl) (by kernel_rfl) (fun _ _ _ h => h) (by kernel_rfl) hS (by intro v hv; go_simp) ?_
            refine h_take 40 (.bool xo) rfl (by kernel_rfl) (by kernel_rfl) (by kernel_rfl) (fun _ _ _ h => h) (by kernel_rfl) hS (by intro v hv; have q := (re_heap hv _).trans m2; go_simp) ?_
            refine h_take 41 (.bool false) rfl (by kernel_rfl) (by kernel_rfl) (by kernel_rfl) (fun _ _ _ h => h) (by kernel_rfl) hS (by intro v hv; go_simp) ?_
            refine h_take 42 (.bool false) rfl (by kernel_rfl) (by kernel_rfl) (by kernel_rfl) (fun _ _ _ h => h) (by kernel_rfl) hS (fun _ _ => by kernel_rfl) ?_
            refine wpAnyH_done (by kernel_rfl) ?_ _
            go_simp
            all_goals (try go_wp2)
            all_goals exact ⟨⟨i + 1, by omega, by go_num, by first | trivial | exact HXY.out rfl | exact HXY.out trivial, HB5.out.drew, HA5.out, HA6.out⟩, by simp [intOf]; omega⟩
          · subst e0; subst e1
            have hne := HNE.out (fun e => e2 (by injection e))
            have hob : (xo != yo) = true := by rw [bne_iff_ne]; exact e2
            have hob2 : (xo == yo) = false := by rw [beq_eq_false_iff_ne]; exact e2
            have HNE2 := Lib.hid hne
            clear e2 hne
            go_wp2_with fail
            refine wp_region_held (S := fun v => v.heap = wr.heap) (by kernel_rfl) ?_
            have hS : wr.drew.heap = wr.heap := rfl
            refine h_take 0 (.pointer (some ⟨w.heap.size, 3, none⟩)) rfl (by kernel_rfl) (by kernel_rfl) (by kernel_rfl) (fun _ _ _ h => h) (by kernel_rfl) hS (fun _ _ => by kernel_rfl) ?_
            refine h_take 1 (.slice (some ad) n c) rfl (by kernel_rfl) (by kernel_rfl) (by kernel_rfl) (fun _ _ _ h => h) (by kernel_rfl) hS (by intro v hv; have q := (re_heap hv _).trans f0; go_simp) ?_
            refine h_take 2 (.int .i64 (i : Int)) rfl (by kernel_rfl) (by kernel_rfl) (by kernel_rfl) (fun _ _ _ h => h) (by kernel_rfl) hS (fun _ _ => by kernel_rfl) ?_
            refine h_take 3 (.pointer (some (ad.add (i * 3)))) rfl (by kernel_rfl) (by kernel_rfl) (by kernel_rfl) (fun _ _ _ h => h) (by kernel_rfl) hS (by intro v hv; go_simp) ?_
            refine h_take 4 (.pointer (some (ad.add (i * 3)))) rfl (by kernel_rfl) (by kernel_rfl) (by kernel_rfl) (fun _ _ _ h => h) (by kernel_rfl) hS (by intro v hv; go_simp) ?_
            refine h_take 5 (.string (tx xn)) rfl (by kernel_rfl) (by kernel_rfl) (by kernel_rfl) (fun _ _ _ h => h) (by kernel_rfl) hS (by intro v hv; have q := (re_heap hv _).trans k0; go_simp) ?_
            refine h_take 6 (.pointer (some ⟨w.heap.size + 1, 3, none⟩)) rfl (by kernel_rfl) (by kernel_rfl) (by kernel_rfl) (fun _ _ _ h => h) (by kernel_rfl) hS (fun _ _ => by kernel_rfl) ?_
            refine h_take 7 (.slice (some ad') n d) rfl (by kernel_rfl) (by kernel_rfl) (by kernel_rfl) (fun _ _ _ h => h) (by kernel_rfl) hS (by intro v hv; have q := (re_heap hv _).trans f1; go_simp) ?_
            refine h_take 8 (.int .i64 (i : Int)) rfl (by kernel_rfl) (by kernel_rfl) (by kernel_rfl) (fun _ _ _ h => h) (by kernel_rfl) hS (fun _ _ => by kernel_rfl) ?_
            refine h_take 9 (.pointer (some (ad'.add (i * 3)))) rfl (by kernel_rfl) (by kernel_rfl) (by kernel_rfl) (fun _ _ _ h => h) (by kernel_rfl) hS (by intro v hv; go_simp) ?_
            refine h_take 10 (.pointer (some (ad'.add (i * 3)))) rfl (by kernel_rfl) (by kernel_rfl) (by kernel_rfl) (fun _ _ _ h => h) (by kernel_rfl) hS (by intro v hv; go_simp) ?_
            refine h_take 11 (.string (tx xn)) rfl (by kernel_rfl) (by kernel_rfl) (by kernel_rfl) (fun _ _ _ h => h) (by kernel_rfl) hS (by intro v hv; have q := (re_heap hv _).trans m0; go_simp) ?_
            refine h_take 12 (.bool false) rfl (by kernel_rfl) (by kernel_rfl) (by kernel_rfl) (fun _ _ _ h => h) (by kernel_rfl) hS (by intro v hv; go_simp) ?_
            refine h_take 13 (.bool false) rfl (by kernel_rfl) (by kernel_rfl) (by kernel_rfl) (fun _ _ _ h => h) (by kernel_rfl) hS (fun _ _ => by kernel_rfl) ?_
            refine h_take 14 (.pointer (some ⟨w.heap.size, 3, none⟩)) rfl (by kernel_rfl) (by kernel_rfl) (by kernel_rfl) (fun _ _ _ h => h) (by kernel_rfl) hS (fun _ _ => by kernel_rfl) ?_
            refine h_take 15 (.slice (some ad) n c) rfl (by kernel_rfl) (by kernel_rfl) (by kernel_rfl) (fun _ _ _ h => h) (by kernel_rfl) hS (by intro v hv; have q := (re_heap hv _).trans f0; go_simp) ?_
            refine h_take 16 (.int .i64 (i : Int)) rfl (by kernel_rfl) (by kernel_rfl) (by kernel_rfl) (fun _ _ _ h => h) (by kernel_rfl) hS (fun _ _ => by kernel_rfl) ?_
            refine h_take 17 (.pointer (some (ad.add (i * 3)))) rfl (by kernel_rfl) (by kernel_rfl) (by kernel_rfl) (fun _ _ _ h => h) (by kernel_rfl) hS (by intro v hv; go_simp) ?_
            refine h_take 18 (.pointer (some ⟨(ad.add (i * 3)).block, (ad.add (i * 3)).off + 1, none⟩)) rfl (by kernel_rfl) (by kernel_rfl) (by kernel_rfl) (fun _ _ _ h => h) (by kernel_rfl) hS (by intro v hv; go_simp) ?_
            refine h_take 19 (.int .u64 xh) rfl (by kernel_rfl) (by kernel_rfl) (by kernel_rfl) (fun _ _ _ h => h) (by kernel_rfl) hS (by intro v hv; have q := (re_heap hv _).trans k1; go_simp) ?_
            refine h_take 20 (.pointer (some ⟨w.heap.size + 1, 3, none⟩)) rfl (by kernel_rfl) (by kernel_rfl) (by kernel_rfl) (fun _ _ _ h => h) (by kernel_rfl) hS (fun _ _ => by kernel_rfl) ?_
            refine h_take 21 (.slice (some ad') n d) rfl (by kernel_rfl) (by kernel_rfl) (by kernel_rfl) (fun _ _ _ h => h) (by kernel_rfl) hS (by intro v hv; have q := (re_heap hv _).trans f1; go_simp) ?_
            refine h_take 22 (.int .i64 (i : Int)) rfl (by kernel_rfl) (by kernel_rfl) (by kernel_rfl) (fun _ _ _ h => h) (by kernel_rfl) hS (fun _ _ => by kernel_rfl) ?_
            refine h_take 23 (.pointer (some (ad'.add (i * 3)))) rfl (by kernel_rfl) (by kernel_rfl) (by kernel_rfl) (fun _ _ _ h => h) (by kernel_rfl) hS (by intro v hv; go_simp) ?_
            refine h_take 24 (.pointer (some ⟨(ad'.add (i * 3)).block, (ad'.add (i * 3)).off + 1, none⟩)) rfl (by kernel_rfl) (by kernel_rfl) (by kernel_rfl) (fun _ _ _ h => h) (by kernel_rfl) hS (by intro v hv; go_simp) ?_
            refine h_take 25 (.int .u64 xh) rfl (by kernel_rfl) (by kernel_rfl) (by kernel_rfl) (fun _ _ _ h => h) (by kernel_rfl) hS (by intro v hv; have q := (re_heap hv _).trans m1; go_simp) ?_
            refine h_take 26 (.bool false) rfl (by kernel_rfl) (by kernel_rfl) (by kernel_rfl) (fun _ _ _ h => h) (by kernel_rfl) hS (by intro v hv; go_simp) ?_
            refine h_take 27 (.bool false) rfl (by kernel_rfl) (by kernel_rfl) (by kernel_rfl) (fun _ _ _ h => h) (by kernel_rfl) hS (fun _ _ => by kernel_rfl) ?_
            refine h_take 28 (.bool false) rfl (by kernel_rfl) (by kernel_rfl) (by kernel_rfl) (fun _ _ _ h => h) (by kernel_rfl) hS (fun _ _ => by kernel_rfl) ?_
            refine h_take 29 (.pointer (some ⟨w.heap.size, 3, none⟩)) rfl (by kernel_rfl) (by kernel_rfl) (by kernel_rfl) (fun _ _ _ h => h) (by kernel_rfl) hS (fun _ _ => by kernel_rfl) ?_
            refine h_take 30 (.slice (some ad) n c) rfl (by kernel_rfl) (by kernel_rfl) (by kernel_rfl) (fun _ _ _ h => h) (by kernel_rfl) hS (by intro v hv; have q := (re_heap hv _).trans f0; go_simp) ?_
            refine h_take 31 (.int .i64 (i : Int)) rfl (by kernel_rfl) (by kernel_rfl) (by kernel_rfl) (fun _ _ _ h => h) (by kernel_rfl) hS (fun _ _ => by kernel_rfl) ?_
            refine h_take 32 (.pointer (some (ad.add (i * 3)))) rfl (by kernel_rfl) (by kernel_rfl) (by kernel_rfl) (fun _ _ _ h => h) (by kernel_rfl) hS (by intro v hv; go_simp) ?_
            refine h_take 33 (.pointer (some ⟨(ad.add (i * 3)).block, (ad.add (i * 3)).off + 2, none⟩)) rfl (by kernel_rfl) (by kernel_rfl) (by kernel_rfl) (fun _ _ _ h => h) (by kernel_rfl) hS (by intro v hv; go_simp) ?_
            refine h_take 34 (.bool xo) rfl (by kernel_rfl) (by kernel_rfl) (by kernel_rfl) (fun _ _ _ h => h) (by kernel_rfl) hS (by intro v hv; have q := (re_heap hv _).trans k2; go_simp) ?_
            refine h_take 35 (.pointer (some ⟨w.heap.size + 1, 3, none⟩)) rfl (by kernel_rfl) (by kernel_rfl) (by kernel_rfl) (fun _ _ _ h => h) (by kernel_rfl) hS (fun _ _ => by kernel_rfl) ?_
            refine h_take 36 (.slice (some ad') n d) rfl (by kernel_rfl) (by kernel_rfl) (by kernel_rfl) (fun _ _ _ h => h) (by kernel_rfl) hS (by intro v hv; have q := (re_heap hv _).trans f1; go_simp) ?_
            refine h_take 37 (.int .i64 (i : Int)) rfl (by kernel_rfl) (by kernel_rfl) (by kernel_rfl) (fun _ _ _ h => h) (by kernel_rfl) hS (fun _ _ => by kernel_rfl) ?_
            refine h_take 38 (.pointer (some (ad'.add (i * 3)))) rfl (by kernel_rfl) (by kernel_rfl) (by kernel_rfl) (fun _ _ _ h => h) (by kernel_rfl) hS (by intro v hv; go_simp) ?_
            refine h_take 39 (.pointer (some ⟨(ad'.add (i * 3)).block, (ad'.add (i * 3)).off + 2, none⟩)) rfl (by kernel_rfl) (by kernel_rfl) (by kernel_rfl) (fun _ _ _ h => h) (by kernel_rfl) hS (by intro v hv; go_simp) ?_
            refine h_take 40 (.bool yo) rfl (by kernel_rfl) (by kernel_rfl) (by kernel_rfl) (fun _ _ _ h => h) (by kernel_rfl) hS (by intro v hv; have q := (re_heap hv _).trans m2; go_simp) ?_
            refine h_take 41 (.bool true) rfl (by kernel_rfl) (by kernel_rfl) (by kernel_rfl) (fun _ _ _ h => h) (by kernel_rfl) hS (by intro v hv; go_simp) ?_
            refine h_take 42 (.bool true) rfl (by kernel_rfl) (by kernel_rfl) (by kernel_rfl) (fun _ _ _ h => h) (by kernel_rfl) hS (fun _ _ => by kernel_rfl) ?_
            refine wpAnyH_done (by kernel_rfl) ?_ _
            go_simp
            all_goals (try go_wp2)
            all_goals (try go_ret)
            all_goals exact ⟨.inr ⟨HNE2.out, rfl⟩, HB5.out.drew⟩
        · subst e0
          have hne := HNE.out (fun e => e1 (by injection e))
          have hu1 : (xh != yh) = true := by rw [bne_iff_ne]; exact e1
          have hu3 : (xh == yh) = false := by rw [beq_eq_false_iff_ne]; exact e1
          have hu2 : decide (xh = yh) = false := decide_eq_false e1
          have HNE2 := Lib.hid hne
          clear e1 hne
          go_wp2_with fail
          refine wp_region_held (S := fun v => v.heap = wr.heap) (by kernel_rfl) ?_
          have hS : wr.drew.heap = wr.heap := rfl
          refine h_take 0 (.pointer (some ⟨w.heap.size, 3, none⟩)) rfl (by kernel_rfl) (by kernel_rfl) (by kernel_rfl) (fun _ _ _ h => h) (by kernel_rfl) hS (fun _ _ => by kernel_rfl) ?_
          refine h_take 1 (.slice (some ad) n c) rfl (by kernel_rfl) (by kernel_rfl) (by kernel_rfl) (fun _ _ _ h => h) (by kernel_rfl) hS (by intro v hv; have q := (re_heap hv _).trans f0; go_simp) ?_
          refine h_take 2 (.int .i64 (i : Int)) rfl (by kernel_rfl) (by kernel_rfl) (by kernel_rfl) (fun _ _ _ h => h) (by kernel_rfl) hS (fun _ _ => by kernel_rfl) ?_
          refine h_take 3 (.pointer (some (ad.add (i * 3)))) rfl (by kernel_rfl) (by kernel_rfl) (by kernel_rfl) (fun _ _ _ h => h) (by kernel_rfl) hS (by intro v hv; go_simp) ?_
          refine h_take 4 (.pointer (some (ad.add (i * 3)))) rfl (by kernel_rfl) (by kernel_rfl) (by kernel_rfl) (fun _ _ _ h => h) (by kernel_rfl) hS (by intro v hv; go_simp) ?_
          refine h_take 5 (.string (tx xn)) rfl (by kernel_rfl) (by kernel_rfl) (by kernel_rfl) (fun _ _ _ h => h) (by kernel_rfl) hS (by intro v hv; have q := (re_heap hv _).trans k0; go_simp) ?_
          refine h_take 6 (.pointer (some ⟨w.heap.size + 1, 3, none⟩)) rfl (by kernel_rfl) (by kernel_rfl) (by kernel_rfl) (fun _ _ _ h => h) (by kernel_rfl) hS (fun _ _ => by kernel_rfl) ?_
          refine h_take 7 (.slice (some ad') n d) rfl (by kernel_rfl) (by kernel_rfl) (by kernel_rfl) (fun _ _ _ h => h) (by kernel_rfl) hS (by intro v hv; have q := (re_heap hv _).trans f1; go_simp) ?_
          refine h_take 8 (.int .i64 (i : Int)) rfl (by kernel_rfl) (by kernel_rfl) (by kernel_rfl) (fun _ _ _ h => h) (by kernel_rfl) hS (fun _ _ => by kernel_rfl) ?_
          refine h_take 9 (.pointer (some (ad'.add (i * 3)))) rfl (by kernel_rfl) (by kernel_rfl) (by kernel_rfl) (fun _ _ _ h => h) (by kernel_rfl) hS (by intro v hv; go_simp) ?_
          refine h_take 10 (.pointer (some (ad'.add (i * 3)))) rfl (by kernel_rfl) (by kernel_rfl) (by kernel_rfl) (fun _ _ _ h => h) (by kernel_rfl) hS (by intro v hv; go_simp) ?_
          refine h_take 11 (.string (tx xn)) rfl (by kernel_rfl) (by kernel_rfl) (by kernel_rfl) (fun _ _ _ h => h) (by kernel_rfl) hS (by intro v hv; have q := (re_heap hv _).trans m0; go_simp) ?_
          refine h_take 12 (.bool false) rfl (by kernel_rfl) (by kernel_rfl) (by kernel_rfl) (fun _ _ _ h => h) (by kernel_rfl) hS (by intro v hv; go_simp) ?_
          refine h_take 13 (.bool false) rfl (by kernel_rfl) (by kernel_rfl) (by kernel_rfl) (fun _ _ _ h => h) (by kernel_rfl) hS (fun _ _ => by kernel_rfl) ?_
          refine h_take 14 (.pointer (some ⟨w.heap.size, 3, none⟩)) rfl (by kernel_rfl) (by kernel_rfl) (by kernel_rfl) (fun _ _ _ h => h) (by kernel_rfl) hS (fun _ _ => by kernel_rfl) ?_
          refine h_take 15 (.slice (some ad) n c) rfl (by kernel_rfl) (by kernel_rfl) (by kernel_rfl) (fun _ _ _ h => h) (by kernel_rfl) hS (by intro v hv; have q := (re_heap hv _).trans f0; go_simp) ?_
          refine h_take 16 (.int .i64 (i : Int)) rfl (by kernel_rfl) (by kernel_rfl) (by kernel_rfl) (fun _ _ _ h => h) (by kernel_rfl) hS (fun _ _ => by kernel_rfl) ?_
          refine h_take 17 (.pointer (some (ad.add (i * 3)))) rfl (by kernel_rfl) (by kernel_rfl) (by kernel_rfl) (fun _ _ _ h => h) (by kernel_rfl) hS (by intro v hv; go_simp) ?_
          refine h_take 18 (.pointer (some ⟨(ad.add (i * 3)).block, (ad.add (i * 3)).off + 1, none⟩)) rfl (by kernel_rfl) (by kernel_rfl) (by kernel_rfl) (fun _ _ _ h => h) (by kernel_rfl) hS (by intro v hv; go_simp) ?_
          refine h_take 19 (.int .u64 xh) rfl (by kernel_rfl) (by kernel_rfl) (by kernel_rfl) (fun _ _ _ h => h) (by kernel_rfl) hS (by intro v hv; have q := (re_heap hv _).trans k1; go_simp) ?_
          refine h_take 20 (.pointer (some ⟨w.heap.size + 1, 3, none⟩)) rfl (by kernel_rfl) (by kernel_rfl) (by kernel_rfl) (fun _ _ _ h => h) (by kernel_rfl) hS (fun _ _ => by kernel_rfl) ?_
          refine h_take 21 (.slice (some ad') n d) rfl (by kernel_rfl) (by kernel_rfl) (by kernel_rfl) (fun _ _ _ h => h) (by kernel_rfl) hS (by intro v hv; have q := (re_heap hv _).trans f1; go_simp) ?_
          refine h_take 22 (.int .i64 (i : Int)) rfl (by kernel_rfl) (by kernel_rfl) (by kernel_rfl) (fun _ _ _ h => h) (by kernel_rfl) hS (fun _ _ => by kernel_rfl) ?_
          refine h_take 23 (.pointer (some (ad'.add (i * 3)))) rfl (by kernel_rfl) (by kernel_rfl) (by kernel_rfl) (fun _ _ _ h => h) (by kernel_rfl) hS (by intro v hv; go_simp) ?_
          refine h_take 24 (.pointer (some ⟨(ad'.add (i * 3)).block, (ad'.add (i * 3)).off + 1, none⟩)) rfl (by kernel_rfl) (by kernel_rfl) (by kernel_rfl) (fun _ _ _ h => h) (by kernel_rfl) hS (by intro v hv; go_simp) ?_
          refine h_take 25 (.int .u64 yh) rfl (by kernel_rfl) (by kernel_rfl) (by kernel_rfl) (fun _ _ _ h => h) (by kernel_rfl) hS (by intro v hv; have q := (re_heap hv _).trans m1; go_simp) ?_
          refine h_take 26 (.bool true) rfl (by kernel_rfl) (by kernel_rfl) (by kernel_rfl) (fun _ _ _ h => h) (by kernel_rfl) hS (by intro v hv; go_simp) ?_
          refine h_take 27 (.bool true) rfl (by kernel_rfl) (by kernel_rfl) (by kernel_rfl) (fun _ _ _ h => h) (by kernel_rfl) hS (fun _ _ => by kernel_rfl) ?_
          refine h_take 28 (.bool true) rfl (by kernel_rfl) (by kernel_rfl) (by kernel_rfl) (fun _ _ _ h => h) (by kernel_rfl) hS (fun _ _ => by kernel_rfl) ?_
          refine h_skip 29 rfl (by kernel_rfl) (by kernel_rfl) (by kernel_rfl) (fun _ _ _ h => h) (by kernel_rfl) hS ?_
          refine h_skip 30 rfl (by kernel_rfl) (by kernel_rfl) (by kernel_rfl) (fun _ _ _ h => h) (by kernel_rfl) hS ?_
          refine h_skip 31 rfl (by kernel_rfl) (by kernel_rfl) (by kernel_rfl) (fun _ _ _ h => h) (by kernel_rfl) hS ?_
          refine h_skip 32 rfl (by kernel_rfl) (by kernel_rfl) (by kernel_rfl) (fun _ _ _ h => h) (by kernel_rfl) hS ?_
          refine h_skip 33 rfl (by kernel_rfl) (by kernel_rfl) (by kernel_rfl) (fun _ _ _ h => h) (by kernel_rfl) hS ?_
          refine h_skip 34 rfl (by kernel_rfl) (by kernel_rfl) (by kernel_rfl) (fun _ _ _ h => h) (by kernel_rfl) hS ?_
          refine h_skip 35 rfl (by kernel_rfl) (by kernel_rfl) (by kernel_rfl) (fun _ _ _ h => h) (by kernel_rfl) hS ?_
          refine h_skip 36 rfl (by kernel_rfl) (by kernel_rfl) (by kernel_rfl) (fun _ _ _ h => h) (by kernel_rfl) hS ?_
          refine h_skip 37 rfl (by kernel_rfl) (by kernel_rfl) (by kernel_rfl) (fun _ _ _ h => h) (by kernel_rfl) hS ?_
          refine h_skip 38 rfl (by kernel_rfl) (by kernel_rfl) (by kernel_rfl) (fun _ _ _ h => h) (by kernel_rfl) hS ?_
          refine h_skip 39 rfl (by kernel_rfl) (by kernel_rfl) (by kernel_rfl) (fun _ _ _ h => h) (by kernel_rfl) hS ?_
          refine h_skip 40 rfl (by kernel_rfl) (by kernel_rfl) (by kernel_rfl) (fun _ _ _ h => h) (by kernel_rfl) hS ?_
          refine h_skip 41 rfl (by kernel_rfl) (by kernel_rfl) (by kernel_rfl) (fun _ _ _ h => h) (by kernel_rfl) hS ?_
          refine h_take 42 (.bool true) rfl (by kernel_rfl) (by kernel_rfl) (by kernel_rfl) (fun _ _ _ h => h) (by kernel_rfl) hS (fun _ _ => by kernel_rfl) ?_
          refine wpAnyH_done (by kernel_rfl) ?_ _
          go_simp
          all_goals (try go_wp2)
          all_goals (try go_ret)
          all_goals exact ⟨.inr ⟨HNE2.out, rfl⟩, HB5.out.drew⟩
      · have hne := HNE.out (fun e => e0 (by injection e))
        have hu := tx_unlike e0
        have HNE2 := Lib.hid hne
        clear e0 hne
        go_wp2_with fail
        refine wp_region_held (S := fun v => v.heap = wr.heap) (by kernel_rfl) ?_
        have hS : wr.drew.heap = wr.heap := rfl
        refine h_take 0 (.pointer (some ⟨w.heap.size, 3, none⟩)) rfl (by kernel_rfl) (by kernel_rfl) (by kernel_rfl) (fun _ _ _ h => h) (by kernel_rfl) hS (fun _ _ => by kernel_rfl) ?_
        refine h_take 1 (.slice (some ad) n c) rfl (by kernel_rfl) (by kernel_rfl) (by kernel_rfl) (fun _ _ _ h => h) (by kernel_rfl) hS (by intro v hv; have q := (re_heap hv _).trans f0; go_simp) ?_
        refine h_take 2 (.int .i64 (i : Int)) rfl (by kernel_rfl) (by kernel_rfl) (by kernel_rfl) (fun _ _ _ h => h) (by kernel_rfl) hS (fun _ _ => by kernel_rfl) ?_
        refine h_take 3 (.pointer (some (ad.add (i * 3)))) rfl (by kernel_rfl) (by kernel_rfl) (by kernel_rfl) (fun _ _ _ h => h) (by kernel_rfl) hS (by intro v hv; go_simp) ?_
        refine h_take 4 (.pointer (some (ad.add (i * 3)))) rfl (by kernel_rfl) (by kernel_rfl) (by kernel_rfl) (fun _ _ _ h => h) (by kernel_rfl) hS (by intro v hv; go_simp) ?_
        refine h_take 5 (.string (tx xn)) rfl (by kernel_rfl) (by kernel_rfl) (by kernel_rfl) (fun _ _ _ h => h) (by kernel_rfl) hS (by intro v hv; have q := (re_heap hv _).trans k0; go_simp) ?_
        refine h_take 6 (.pointer (some ⟨w.heap.size + 1, 3, none⟩)) rfl (by kernel_rfl) (by kernel_rfl) (by kernel_rfl) (fun _ _ _ h => h) (by kernel_rfl) hS (fun _ _ => by kernel_rfl) ?_
        refine h_take 7 (.slice (some ad') n d) rfl (by kernel_rfl) (by kernel_rfl) (by kernel_rfl) (fun _ _ _ h => h) (by kernel_rfl) hS (by intro v hv; have q := (re_heap hv _).trans f1; go_simp) ?_
        refine h_take 8 (.int .i64 (i : Int)) rfl (by kernel_rfl) (by kernel_rfl) (by kernel_rfl) (fun _ _ _ h => h) (by kernel_rfl) hS (fun _ _ => by kernel_rfl) ?_
        refine h_take 9 (.pointer (some (ad'.add (i * 3)))) rfl (by kernel_rfl) (by kernel_rfl) (by kernel_rfl) (fun _ _ _ h => h) (by kernel_rfl) hS (by intro v hv; go_simp) ?_
        refine h_take 10 (.pointer (some (ad'.add (i * 3)))) rfl (by kernel_rfl) (by kernel_rfl) (by kernel_rfl) (fun _ _ _ h => h) (by kernel_rfl) hS (by intro v hv; go_simp) ?_
        refine h_take 11 (.string (tx yn)) rfl (by kernel_rfl) (by kernel_rfl) (by kernel_rfl) (fun _ _ _ h => h) (by kernel_rfl) hS (by intro v hv; have q := (re_heap hv _).trans m0; go_simp) ?_
        refine h_take 12 (.bool true) rfl (by kernel_rfl) (by kernel_rfl) (by kernel_rfl) (fun _ _ _ h => h) (by kernel_rfl) hS (by intro v hv; go_simp) ?_
        refine h_take 13 (.bool true) rfl (by kernel_rfl) (by kernel_rfl) (by kernel_rfl) (fun _ _ _ h => h) (by kernel_rfl) hS (fun _ _ => by kernel_rfl) ?_
        refine h_skip 14 rfl (by kernel_rfl) (by kernel_rfl) (by kernel_rfl) (fun _ _ _ h => h) (by kernel_rfl) hS ?_
        refine h_skip 15 rfl (by kernel_rfl) (by kernel_rfl) (by kernel_rfl) (fun _ _ _ h => h) (by kernel_rfl) hS ?_
        refine h_skip 16 rfl (by kernel_rfl) (by kernel_rfl) (by kernel_rfl) (fun _ _ _ h => h) (by kernel_rfl) hS ?_
        refine h_skip 17 rfl (by kernel_rfl) (by kernel_rfl) (by kernel_rfl) (fun _ _ _ h => h) (by kernel_rfl) hS ?_
        refine h_skip 18 rfl (by kernel_rfl) (by kernel_rfl) (by kernel_rfl) (fun _ _ _ h => h) (by kernel_rfl) hS ?_
        refine h_skip 19 rfl (by kernel_rfl) (by kernel_rfl) (by kernel_rfl) (fun _ _ _ h => h) (by kernel_rfl) hS ?_
        refine h_skip 20 rfl (by kernel_rfl) (by kernel_rfl) (by kernel_rfl) (fun _ _ _ h => h) (by kernel_rfl) hS ?_
        refine h_skip 21 rfl (by kernel_rfl) (by kernel_rfl) (by kernel_rfl) (fun _ _ _ h => h) (by kernel_rfl) hS ?_
        refine h_skip 22 rfl (by kernel_rfl) (by kernel_rfl) (by kernel_rfl) (fun _ _ _ h => h) (by kernel_rfl) hS ?_
        refine h_skip 23 rfl (by kernel_rfl) (by kernel_rfl) (by kernel_rfl) (fun _ _ _ h => h) (by kernel_rfl) hS ?_
        refine h_skip 24 rfl (by kernel_rfl) (by kernel_rfl) (by kernel_rfl) (fun _ _ _ h => h) (by kernel_rfl) hS ?_
        refine h_skip 25 rfl (by kernel_rfl) (by kernel_rfl) (by kernel_rfl) (fun _ _ _ h => h) (by kernel_rfl) hS ?_
        refine h_skip 26 rfl (by kernel_rfl) (by kernel_rfl) (by kernel_rfl) (fun _ _ _ h => h) (by kernel_rfl) hS ?_
        refine h_take 27 (.bool true) rfl (by kernel_rfl) (by kernel_rfl) (by kernel_rfl) (fun _ _ _ h => h) (by kernel_rfl) hS (fun _ _ => by kernel_rfl) ?_
        refine h_take 28 (.bool true) rfl (by kernel_rfl) (by kernel_rfl) (by kernel_rfl) (fun _ _ _ h => h) (by kernel_rfl) hS (fun _ _ => by kernel_rfl) ?_
        refine h_skip 29 rfl (by kernel_rfl) (by kernel_rfl) (by kernel_rfl) (fun _ _ _ h => h) (by kernel_rfl) hS ?_
        refine h_skip 30 rfl (by kernel_rfl) (by kernel_rfl) (by kernel_rfl) (fun _ _ _ h => h) (by kernel_rfl) hS ?_
        refine h_skip 31 rfl (by kernel_rfl) (by kernel_rfl) (by kernel_rfl) (fun _ _ _ h => h) (by kernel_rfl) hS ?_
        refine h_skip 32 rfl (by kernel_rfl) (by kernel_rfl) (by kernel_rfl) (fun _ _ _ h => h) (by kernel_rfl) hS ?_
        refine h_skip 33 rfl (by kernel_rfl) (by kernel_rfl) (by kernel_rfl) (fun _ _ _ h => h) (by kernel_rfl) hS ?_
        refine h_skip 34 rfl (by kernel_rfl) (by kernel_rfl) (by kernel_rfl) (fun _ _ _ h => h) (by kernel_rfl) hS ?_
        refine h_skip 35 rfl (by kernel_rfl) (by kernel_rfl) (by kernel_rfl) (fun _ _ _ h => h) (by kernel_rfl) hS ?_
        refine h_skip 36 rfl (by kernel_rfl) (by kernel_rfl) (by kernel_rfl) (fun _ _ _ h => h) (by kernel_rfl) hS ?_
        refine h_skip 37 rfl (by kernel_rfl) (by kernel_rfl) (by kernel_rfl) (fun _ _ _ h => h) (by kernel_rfl) hS ?_
        refine h_skip 38 rfl (by kernel_rfl) (by kernel_rfl) (by kernel_rfl) (fun _ _ _ h => h) (by kernel_rfl) hS ?_
        refine h_skip 39 rfl (by kernel_rfl) (by kernel_rfl) (by kernel_rfl) (fun _ _ _ h => h) (by kernel_rfl) hS ?_
        refine h_skip 40 rfl (by kernel_rfl) (by kernel_rfl) (by kernel_rfl) (fun _ _ _ h => h) (by kernel_rfl) hS ?_
        refine h_skip 41 rfl (by kernel_rfl) (by kernel_rfl) (by kernel_rfl) (fun _ _ _ h => h) (by kernel_rfl) hS ?_
        refine h_take 42 (.bool true) rfl (by kernel_rfl) (by kernel_rfl) (by kernel_rfl) (fun _ _ _ h => h) (by kernel_rfl) hS (fun _ _ => by kernel_rfl) ?_
        refine wpAnyH_done (by kernel_rfl) ?_ _
        go_simp
        all_goals (try go_wp2)
        all_goals (try go_ret)
        all_goals exact ⟨.inr ⟨HNE2.out, rfl⟩, HB5.out.drew⟩
    · obtain rfl : i = n := by omega
      rw [List.take_of_length_le (by rw [HL1.out]; omega), List.take_of_length_le (by rw [HL2.out]; omega)] at htk
      have HTK := Lib.hid htk
      clear htk hb
      go_wp2
      go_ret
      exact ⟨.inl ⟨HTK.out, rfl⟩, HB5.out⟩

end Go.Proofs.Ytfidfhajnobonaa

/- Whether two records are the same: record.Same, and the document's. -/
namespace Go.Proofs.Ytfidfhajnobonaa
open Go.RowKit

theorem same_any (r1 r2 : Rc) (A B : Option Addr) (n1 n2 c d : Nat) (l1 l2 : List Dp) (hn : n1 ≤ 1000000) (w : World) (h1 : Reads w w.heap.size 3 A n1 (dps l1)) (h2 : Reads w w.heap.size 3 B n2 (dps l2)) :
    Calls Try.prog 45 #[rcv r1 A n1 c, rcv r2 B n2 d] w fun e w' => ∃ q : Bool, (q = true ↔ r1 = r2 ∧ l1 = l2) ∧ e = .returned (.bool q) ∧ Below w.heap.size w w' := by
  have hl1 : l1.length = n1 := by have := h1.1; rw [dps_len] at this; omega
  have hl2 : l2.length = n2 := by have := h2.1; rw [dps_len] at this; omega
  by_cases e : r1 = r2
  · by_cases en : n1 = n2
    · subst e en
      refine (same_deps r1 A B n1 c d l1 l2 hn w h1 h2).mono ?_
      rintro e w' ⟨q, hq, he, hb⟩
      exact ⟨q, by simpa using hq, he, hb⟩
    · subst e
      refine (same_lens r1 A B n1 n2 c d en w).mono ?_
      rintro e w' ⟨he, hb⟩
      exact ⟨false, by simp; intro h; exact en (by rw [← hl1, ← hl2, h]), he, hb⟩
  · refine (same_rests r1 r2 A B n1 n2 c d e w).mono ?_
    rintro e' w' ⟨he, hb⟩
    exact ⟨false, by simp [e], he, hb⟩

theorem rsame_any (r1 r2 : Rc) (A B : Option Addr) (n1 n2 c d : Nat) (l1 l2 : List Dp) (hn : n1 ≤ 1000000) (w : World) (h1 : Reads w w.heap.size 3 A n1 (dps l1)) (h2 : Reads w w.heap.size 3 B n2 (dps l2)) :
    Calls Try.prog 18 #[rcv r1 A n1 c, rcv r2 B n2 d] w fun e w' => ∃ q : Bool, (q = true ↔ r1 = r2 ∧ l1 = l2) ∧ e = .returned (.bool q) ∧ Below w.heap.size w w' := by
  have hl1 : l1.length = n1 := by have := h1.1; rw [dps_len] at this; omega
  have hl2 : l2.length = n2 := by have := h2.1; rw [dps_len] at this; omega
  obtain ⟨k1, t1, u1, o1, m1, g1⟩ := r1
  obtain ⟨k2, t2, u2, o2, m2, g2⟩ := r2
  unfold rcv rsv
  have bad : ∀ {e : Ending} {w' : World}, ¬ ((⟨k1, t1, u1, o1, m1, g1⟩ : Rc) = ⟨k2, t2, u2, o2, m2, g2⟩ ∧ l1 = l2) → e = .returned (.bool false) ∧ Below w.heap.size w w' → ∃ q : Bool, (q = true ↔ (⟨k1, t1, u1, o1, m1, g1⟩ : Rc) = ⟨k2, t2, u2, o2, m2, g2⟩ ∧ l1 = l2) ∧ e = .returned (.bool q) ∧ Below w.heap.size w w' :=
    fun h ⟨he, hb⟩ => ⟨false, by simpa using h, he, hb⟩
  by_cases e1 : k1 = k2
  · by_cases e2 : t1 = t2
    · by_cases e3 : u1 = u2
      · by_cases e4 : o1 = o2
        · by_cases e5 : m1 = m2
          · by_cases e6 : g1 = g2
            · subst e1 e2 e3 e4 e5 e6
              by_cases en : n1 = n2
              · subst en
                refine (rsl_any k1 u1 o1 m1 t1 g1 A B n1 c d l1 l2 hn w h1 h2).mono ?_
                rintro e w' ⟨he, hb⟩
                rcases he with ⟨hl, he⟩ | ⟨hl, he⟩
                · exact ⟨true, by simp [hl], he, hb⟩
                · exact ⟨false, by simp [hl], he, hb⟩
              · refine (rsn_n k1 t1 u1 o1 m1 g1 n1 n2 A B c d en w).mono fun _ _ h => bad (fun ⟨_, h⟩ => en (by rw [← hl1, ← hl2, h])) h
            · subst e1 e2 e3 e4 e5
              exact (rsn_tag k1 t1 u1 o1 m1 g1 g2 n1 n2 A B c d e6 w).mono fun _ _ h => bad (fun ⟨h, _⟩ => e6 (by injection h)) h
          · subst e1 e2 e3 e4
            exact (rsn_time k1 t1 u1 o1 m1 m2 g1 g2 n1 n2 A B c d e5 w).mono fun _ _ h => bad (fun ⟨h, _⟩ => e5 (by injection h)) h
        · subst e1 e2 e3
          exact (rsn_out k1 t1 u1 o1 o2 m1 m2 g1 g2 n1 n2 A B c d e4 w).mono fun _ _ h => bad (fun ⟨h, _⟩ => e4 (by injection h)) h
      · subst e1 e2
        exact (rsn_rule k1 t1 u1 u2 o1 o2 m1 m2 g1 g2 n1 n2 A B c d e3 w).mono fun _ _ h => bad (fun ⟨h, _⟩ => e3 (by injection h)) h
    · subst e1
      exact (rsn_target k1 t1 t2 u1 u2 o1 o2 m1 m2 g1 g2 n1 n2 A B c d e2 w).mono fun _ _ h => bad (fun ⟨h, _⟩ => e2 (by injection h)) h
  · exact (rsn_kind k1 k2 t1 t2 u1 u2 o1 o2 m1 m2 g1 g2 n1 n2 A B c d e1 w).mono fun _ _ h => bad (fun ⟨h, _⟩ => e1 (by injection h)) h

end Go.Proofs.Ytfidfhajnobonaa

/- Rows of structs appended to. -/
namespace Go.Proofs.Ytfidfhajnobonaa
open Go.RowKit

theorem dps_one (l : List Dp) : ∀ u ∈ dps l, u.oneCell' = true := by
  intro u hu
  obtain ⟨d, _, hd⟩ := List.mem_flatMap.1 hu
  simp only [Dp.cells, rsv, List.mem_cons, List.not_mem_nil, or_false] at hd
  rcases hd with rfl | rfl | rfl <;> rfl

/-- A row of deps in memory of its own. -/
def Deps (w : World) (base : Nat) (A : Option Addr) (n c : Nat) (l : List Dp) : Prop := w.ownsRow base 56 3 (.slice A n c) n (dps l) ∧ (A = none → c = 0)

end Go.Proofs.Ytfidfhajnobonaa

/- Great: is a record more than is gone through? And the example. -/
namespace Go.Proofs.Ytfidfhajnobonaa
open Go.RowKit

def small (r : Rc) (l : List Dp) : Prop := (∀ d ∈ l, d.name.length ≤ 300) ∧ l.length ≤ 60 ∧ r.target.length ≤ 300 ∧ r.tag.length ≤ 300

set_option maxRecDepth 100000 in
set_option maxHeartbeats 1000000 in
theorem great_any (r : Rc) (A : Option Addr) (n c : Nat) (l : List Dp) (w : World) (hn : n ≤ maxLen) (hfit : ∀ d ∈ l, d.name.length ≤ maxLen) (ht : r.target.length ≤ maxLen) (hg : r.tag.length ≤ maxLen) (h : Reads w w.heap.size 3 A n (dps l)) :
    Calls Try.prog 8 #[rcv r A n c] w fun e w' => ∃ q : Bool, (q = false → small r l) ∧ e = .returned (.bool q) ∧ Below w.heap.size w w' := by
  have HL : Hid (l.length = n) := by have := h.1; rw [dps_len] at this; show _ = _; omega
  have H1 := Lib.hid h
  have HF := Lib.hid hfit
  have hm : Hid (maxLen = 9223372036854775807 ∨ True) := .inr trivial
  have hbx := Lib.hid ((Below.refl w.heap.size w).alloc (Nat.le_refl _) (.cells #[.int .i64 r.kind, .string (tx r.target), .int .u64 r.rule, .slice A n c, .int .u64 r.out, .int .u64 r.time, .string (tx r.tag)] 26))
  have hnb : Hid ((w.alloc (.cells #[.int .i64 r.kind, .string (tx r.target), .int .u64 r.rule, .slice A n c, .int .u64 r.out, .int .u64 r.time, .string (tx r.tag)] 26)).heap[w.heap.size]? = some (.cells #[.int .i64 r.kind, .string (tx r.target), .int .u64 r.rule, .slice A n c, .int .u64 r.out, .int .u64 r.time, .string (tx r.tag)] 26 (0, 0))) := by show (w.heap.push _)[w.heap.size]? = _; exact Array.getElem?_push_size
  unfold rcv rsv
  have hs1 := tx_size0 r.target
  have hs2 := tx_size0 r.tag
  unfold maxLen at hn ht hg
  clear h hfit
  go_enter Try.func8, Try.ntmps8
  go_wp2
  go_loopw [8] (fun idx wr => ∃ i : Nat, i ≤ n ∧ idx = .int .i64 (i : Int) ∧ (∀ d ∈ l.take i, d.name.length ≤ 300) ∧ Below w.heap.size w wr ∧ wr.heap[w.heap.size]? = some (.cells #[.int .i64 r.kind, .string (tx r.target), .int .u64 r.rule, .slice A n c, .int .u64 r.out, .int .u64 r.time, .string (tx r.tag)] 26 (0, 0))) (fun idx wr => n - (intOf idx).toNat)
  case atStart => exact ⟨0, by omega, rfl, by simp, hbx.out, hnb.out⟩
  case round =>
    obtain ⟨i, hi, rfl, hsm, hb, hbl⟩ := hrel
    have HSM := Lib.hid hsm
    have q1 := at_cell (i := 1) hbl rfl
    have q3 := at_cell (i := 3) hbl rfl
    have q6 := at_cell (i := 6) hbl rfl
    clear hsm
    by_cases hlt : i < n
    · obtain ⟨x, hx⟩ : ∃ x, l[i]? = some x := ⟨_, List.getElem?_eq_getElem (by rw [HL.out]; exact hlt)⟩
      obtain ⟨ad, rfl, _, hcx⟩ := (H1.out.below hb).2 (by omega)
      obtain ⟨x0, x1, x2⟩ := dps_at l i x hx
      have k0 := hcx _ _ x0
      have k1 := hcx _ _ x1
      have k2 := hcx _ _ x2
      rw [add_one] at k1
      rw [add_two] at k2
      have hxl := HF.out x (List.mem_of_getElem? hx)
      obtain ⟨xn, xh, xo⟩ := x
      simp only at k0 k1 k2 hxl
      have hs3 := tx_size0 xn
      obtain ⟨m, hm⟩ : ∃ m, m = xn.length := ⟨_, rfl⟩
      rw [← hm] at hs3 hxl
      unfold rsv at k0
      unfold maxLen at hxl
      have HX : Hid (m ≤ 300 → ∀ d ∈ l.take (i + 1), d.name.length ≤ 300) := fun hle d hd => by
        rw [List.take_add_one, hx, List.mem_append] at hd
        rcases hd with hd | hd
        · exact HSM.out d hd
        · simp at hd; subst hd; exact hm ▸ hle
      have HBR := Lib.hid hb
      have HBL := Lib.hid hbl
      have hi0 : (0 : Int) ≤ (i : Int) := by omega
      have hi1 : (i : Int) < (n : Int) := by omega
      have HBN := Lib.hid (hb.alloc hb.size (.cells #[.string (tx xn), .int .u64 xh, .bool xo] 56))
      have HBLN := Lib.hid ((Below.heap_alloc wr (.cells #[.string (tx xn), .int .u64 xh, .bool xo] 56) w.heap.size (by
        rcases Nat.lt_or_ge w.heap.size wr.heap.size with h | h
        · exact h
        · rw [Array.getElem?_eq_none h] at hbl; cases hbl)).trans hbl)
      clear hcx x0 x1 x2 hx hb hbl hm
      by_cases h300 : m ≤ 300
      · have hd1 : decide ((m : Int) > 300) = false := by rw [decide_eq_false_iff_not]; omega
        go_wp2
        exact ⟨⟨i + 1, by omega, by go_num, HX.out h300, HBN.out, HBLN.out⟩, by simp [intOf]; omega⟩
      · have hd1 : decide ((m : Int) > 300) = true := by rw [decide_eq_true_iff]; omega
        go_wp2
        go_ret
        exact ⟨true, by simp, rfl, HBN.out⟩
    · obtain rfl : i = n := by omega
      have HBR := Lib.hid hb
      rw [List.take_of_length_le (by rw [HL.out]; omega)] at HSM
      clear hb hbl
      by_cases hA : i ≤ 60 ∧ r.target.length ≤ 300 ∧ r.tag.length ≤ 300
      · have HQ : Hid (small r l) := ⟨HSM.out, by rw [HL.out]; exact hA.1, hA.2⟩
        obtain ⟨g1, g2, g3⟩ := hA
        go_wp2
        go_ret
        exact ⟨false, fun _ => HQ.out, by first | rfl | (congr 2; simp; omega), HBR.out⟩
      · by_cases g1 : i ≤ 60
        · by_cases g2 : r.target.length ≤ 300
          · have g3 : 300 < r.tag.length := by omega
            clear hA
            go_wp2
            go_ret
            first | exact .inr ⟨by first | rfl | (congr 2; simp; omega), HBR.out⟩ | exact ⟨true, by simp, by first | rfl | (congr 2; simp; omega), HBR.out⟩
          · clear hA
            go_wp2
            go_ret
            first | exact .inr ⟨by first | rfl | (congr 2; simp; omega), HBR.out⟩ | exact ⟨true, by simp, by first | rfl | (congr 2; simp; omega), HBR.out⟩
        · clear hA
          go_wp2
          go_ret
          first | exact .inr ⟨by first | rfl | (congr 2; simp; omega), HBR.out⟩ | exact ⟨true, by simp, by first | rfl | (congr 2; simp; omega), HBR.out⟩

end Go.Proofs.Ytfidfhajnobonaa

/- A table of texts: what it is, and how it lies in memory. -/
namespace Go.Proofs.Ytfidfhajnobonaa
open Go.RowKit Go.Maps Go.ChangeMaps Go.WideMaps

def tsv (t : List UInt8) : Value := .string (tx t)

/-- A text comes behind the others, if it isn't there. -/
def tput (l : List (List UInt8)) (s : List UInt8) : List (List UInt8) := if s ∈ l then l else l ++ [s]
/-- A text's number; 0 if it isn't there. -/
def tnum (l : List (List UInt8)) (s : List UInt8) : Nat := if s ∈ l then l.idxOf s else 0

theorem tput_in {l : List (List UInt8)} {s : List UInt8} (h : s ∈ l) : tput l s = l := if_pos h
theorem tput_new {l : List (List UInt8)} {s : List UInt8} (h : s ∉ l) : tput l s = l ++ [s] := if_neg h
theorem tput_nodup {l : List (List UInt8)} {s : List UInt8} (h : l.Nodup) : (tput l s).Nodup := by
  by_cases hs : s ∈ l
  · rw [tput_in hs]; exact h
  · rw [tput_new hs, List.nodup_append]
    exact ⟨h, by simp, fun a ha b hb => by simp at hb; subst hb; exact fun e => hs (e ▸ ha)⟩
theorem tnum_lt {l : List (List UInt8)} {s : List UInt8} (h : s ∈ l) : tnum l s < l.length := by
  rw [tnum, if_pos h]; exact List.idxOf_lt_length_of_mem h
theorem tnum_at {l : List (List UInt8)} {s : List UInt8} (h : s ∈ l) : l[tnum l s]? = some s := by
  rw [tnum, if_pos h]
  rw [List.getElem?_eq_getElem (List.idxOf_lt_length_of_mem h), List.getElem_idxOf]
theorem tnum_of {l : List (List UInt8)} (hd : l.Nodup) {i : Nat} {s : List UInt8} (h : l[i]? = some s) : s ∈ l ∧ tnum l s = i := by
  have hm := List.mem_of_getElem? h
  refine ⟨hm, ?_⟩
  obtain ⟨h1, h2⟩ := List.getElem?_eq_some_iff.1 h
  obtain ⟨h3, h4⟩ := List.getElem?_eq_some_iff.1 (tnum_at hm)
  exact (List.getElem_inj hd).1 (h4.trans h2.symm)

theorem tkey : Keyed Try.prog 9 := string_keyed Try.underlying9
theorem zeroU (w : World) : (zeroValue 23).run Try.prog w = .ok (.int .u64 0) w := by kernel_rfl
def u0 : DataW Nat := .lit (.int .u64 0)

/-- The numbers that the map tells are those of the texts. -/
def NumOf (D : DataW Nat) (l : List (List UInt8)) : Prop :=
  IsMap D ∧ ∀ s : List UInt8, Maps.has D (.string s) = decide (s ∈ l) ∧ D.atKey (.string s) u0 = .lit (.int .u64 (tnum l s : Int))

theorem numOf_nil : NumOf (.map []) [] := ⟨isMap_empty, fun s => ⟨by simp [Maps.has], rfl⟩⟩
theorem numOf_put {D : DataW Nat} {l : List (List UInt8)} {s : List UInt8} (h : NumOf D l) (hs : s ∉ l) : NumOf (D.put (.string s) (.lit (.int .u64 (l.length : Int)))) (l ++ [s]) := by
  refine ⟨h.1.put _ _, fun t => ?_⟩
  by_cases ht : t = s
  · subst ht
    refine ⟨by rw [has_put_same h.1 (k := .string t) (show WideAt.IsKeyLit (.string t) from trivial)]; simp, ?_⟩
    rw [atKey_put_same h.1 (k := .string t) (show WideAt.IsKeyLit (.string t) from trivial)]
    have : tnum (l ++ [t]) t = l.length := by
      rw [tnum, if_pos (by simp), List.idxOf_append, if_neg hs]; simp
    rw [this]
  · have hne : Lit.string t ≠ Lit.string s := fun e => ht (by injection e)
    refine ⟨by rw [has_put_other hne, (h.2 t).1]; simp [ht], ?_⟩
    rw [atKey_put_other hne, (h.2 t).2]
    have : tnum (l ++ [s]) t = tnum l t := by
      by_cases hm : t ∈ l
      · rw [tnum, tnum, if_pos (by simp [hm]), if_pos hm, List.idxOf_append, if_pos hm]
      · rw [tnum, tnum, if_neg (by simp [hm, ht]), if_neg hm]
    rw [this]

/-- Of the texts that come first those behind k are deleted one by one: j are left to delete. -/
def NumTill (D : DataW Nat) (l : List (List UInt8)) (k j : Nat) : Prop :=
  IsMap D ∧ ∀ s : List UInt8, Maps.has D (.string s) = decide (s ∈ l ∧ ¬ (k ≤ tnum l s ∧ tnum l s < j)) ∧ (s ∈ l → ¬ (k ≤ tnum l s ∧ tnum l s < j) → D.atKey (.string s) u0 = .lit (.int .u64 (tnum l s : Int))) ∧ (¬ (s ∈ l ∧ ¬ (k ≤ tnum l s ∧ tnum l s < j)) → D.atKey (.string s) u0 = u0)

theorem numTill_start {D : DataW Nat} {l : List (List UInt8)} (k : Nat) (h : NumOf D l) : NumTill D l k k := by
  refine ⟨h.1, fun s => ⟨by rw [(h.2 s).1]; congr 1; exact propext ⟨fun hh => ⟨hh, by omega⟩, fun hh => hh.1⟩, fun _ _ => (h.2 s).2, fun hn => ?_⟩⟩
  have hm : s ∉ l := fun hm => hn ⟨hm, by omega⟩
  rw [(h.2 s).2, tnum, if_neg hm]; rfl

theorem numTill_step {D : DataW Nat} {l : List (List UInt8)} {k j : Nat} {s : List UInt8} (hd : l.Nodup) (hkj : k ≤ j) (hs : l[j]? = some s) (h : NumTill D l k j) : NumTill (D.del (.string s)) l k (j + 1) := by
  obtain ⟨hsm, hsn⟩ := tnum_of hd hs
  refine ⟨h.1.del _, fun t => ?_⟩
  by_cases ht : t = s
  · subst ht
    refine ⟨by rw [has_del_same, hsn]; symm; rw [decide_eq_false_iff_not]; rintro ⟨_, h2⟩; exact h2 ⟨hkj, by omega⟩, fun _ h2 => absurd ⟨by omega, by omega⟩ h2, fun _ => atKey_del_same _⟩
  · have hne : Lit.string t ≠ Lit.string s := fun e => ht (by injection e)
    obtain ⟨h1, h2, h3⟩ := h.2 t
    have hiff : t ∈ l → ((k ≤ tnum l t ∧ tnum l t < j + 1) ↔ (k ≤ tnum l t ∧ tnum l t < j)) := by
      intro hm
      have : tnum l t ≠ j := by
        intro e
        have h4 := tnum_at hm
        rw [e, hs] at h4
        exact ht (Option.some.inj h4).symm
      omega
    refine ⟨?_, fun hm hn => by rw [atKey_del_other hne]; exact h2 hm (fun hh => hn ((hiff hm).2 hh)), fun hn => by rw [atKey_del_other hne]; exact h3 (fun ⟨hm, hh⟩ => hn ⟨hm, fun h4 => hh ((hiff hm).1 h4)⟩)⟩
    rw [has_del_other hne, h1]
    congr 1
    apply propext
    constructor
    · rintro ⟨hm, hh⟩; exact ⟨hm, fun h4 => hh ((hiff hm).1 h4)⟩
    · rintro ⟨hm, hh⟩; exact ⟨hm, fun h4 => hh ((hiff hm).2 h4)⟩

theorem mem_take_iff {l : List (List UInt8)} (hd : l.Nodup) {k : Nat} {s : List UInt8} : s ∈ l.take k ↔ s ∈ l ∧ tnum l s < k := by
  constructor
  · intro h
    obtain ⟨i, hi⟩ := List.mem_iff_getElem?.1 h
    rw [List.getElem?_take] at hi
    split at hi
    · obtain ⟨h1, h2⟩ := tnum_of hd hi
      exact ⟨h1, by omega⟩
    · cases hi
  · rintro ⟨h1, h2⟩
    have h3 := tnum_at h1
    exact List.mem_of_getElem? (i := tnum l s) (by rw [List.getElem?_take, if_pos h2]; exact h3)
theorem tnum_take {l : List (List UInt8)} (hd : l.Nodup) {k : Nat} {s : List UInt8} (h : s ∈ l.take k) : tnum (l.take k) s = tnum l s := by
  have h1 := tnum_at h
  rw [List.getElem?_take] at h1
  split at h1
  · exact (tnum_of hd h1).2.symm
  · cases h1

theorem numTill_end {D : DataW Nat} {l : List (List UInt8)} {k : Nat} (hd : l.Nodup) (h : NumTill D l k l.length) : NumOf D (l.take k) := by
  refine ⟨h.1, fun s => ?_⟩
  obtain ⟨h1, h2, h3⟩ := h.2 s
  have hiff : (s ∈ l ∧ ¬ (k ≤ tnum l s ∧ tnum l s < l.length)) ↔ s ∈ l.take k := by
    rw [mem_take_iff hd]
    constructor
    · rintro ⟨hm, hh⟩; have := tnum_lt hm; exact ⟨hm, by omega⟩
    · rintro ⟨hm, hh⟩; exact ⟨hm, by omega⟩
  refine ⟨by rw [h1]; congr 1; exact propext hiff, ?_⟩
  by_cases hs : s ∈ l.take k
  · have hm := hiff.2 hs
    rw [h2 hm.1 hm.2, tnum_take hd hs]
  · rw [h3 (fun hh => hs (hiff.1 hh)), tnum, if_neg hs]; rfl

/-- A table lies in block b, and in others of S: its texts, and how many entries its map has had at most. -/
def Tab (w : World) (S : Nat → Prop) (b N : Nat) (l : List (List UInt8)) : Prop :=
  ∃ (L : Option Addr) (c : Nat) (mv : Option Nat), w.heap[b]? = some (.cells #[.slice L l.length c, .map mv] 61 (0, 0)) ∧ S b ∧ w.ownsRow 0 9 1 (.slice L l.length c) l.length (l.map tsv) ∧
    (∀ g, (Value.slice L l.length c).ownBlock = some g → S g) ∧ ((mv = none ∧ l = []) ∨ ∃ (mb : Nat) (D : DataW Nat), mv = some mb ∧ S mb ∧ w.ownsMap Try.prog 9 (plainElem Try.prog 23) mb N D ∧ NumOf D l) ∧
    l.Nodup ∧ ∀ s ∈ l, s.length ≤ maxLen

theorem map_heap {w w' : World} {b n : Nat} {D : DataW Nat} {k : TypeId} {R : Value → Option (DataW Nat × List MemPlace)} (h : w.ownsMap Try.prog k R b n D) (hk : w'.heap[b]? = w.heap[b]?) : w'.ownsMap Try.prog k R b n D := by
  obtain ⟨es, clock, hb, r⟩ := h
  exact ⟨es, clock, hk.trans hb, r⟩

/-- It stays where none of its blocks turns. -/
theorem Tab.keep {w w' : World} {S : Nat → Prop} {b N : Nat} {l : List (List UInt8)} (h : Tab w S b N l) (hk : ∀ k, S k → k < w.heap.size → w'.heap[k]? = w.heap[k]?) : Tab w' S b N l := by
  obtain ⟨L, c, mv, h1, h2, h3, h4, h5, h6⟩ := h
  have hb := (Array.getElem?_eq_some_iff.1 h1).1
  refine ⟨L, c, mv, (hk b h2 hb).trans h1, h2, own_heap h3 (fun g hg => hk g (h4 g hg) (own_lt h3 g hg)), h4, ?_, h6⟩
  rcases h5 with h5 | ⟨mb, D, e, hs, hm, hn⟩
  · exact .inl h5
  · exact .inr ⟨mb, D, e, hs, map_heap hm (hk mb hs hm.lt), hn⟩
theorem Tab.turn {w w' : World} {S S2 : Nat → Prop} {b N : Nat} {l : List (List UInt8)} (h : Tab w S b N l) (ht : Turn S2 w w') (hs : ∀ k, S k → k < w.heap.size → ¬ S2 k) : Tab w' S b N l :=
  h.keep fun k h1 h2 => ht.2.2.2.2 k h2 (hs k h1 h2)
theorem Tab.wide {w : World} {S S2 : Nat → Prop} {b N : Nat} {l : List (List UInt8)} (h : Tab w S b N l) (hs : ∀ k, S k → k < w.heap.size → S2 k) : Tab w S2 b N l := by
  obtain ⟨L, c, mv, h1, h2, h3, h4, h5, h6⟩ := h
  refine ⟨L, c, mv, h1, hs b h2 (Array.getElem?_eq_some_iff.1 h1).1, h3, fun g hg => hs g (h4 g hg) (own_lt h3 g hg), ?_, h6⟩
  rcases h5 with h5 | ⟨mb, D, e, hs', hm, hn⟩
  · exact .inl h5
  · exact .inr ⟨mb, D, e, hs mb hs' hm.lt, hm, hn⟩
theorem Tab.more {w : World} {S : Nat → Prop} {b N N' : Nat} {l : List (List UInt8)} (h : Tab w S b N l) (hN : N ≤ N') : Tab w S b N' l := by
  obtain ⟨L, c, mv, h1, h2, h3, h4, h5, h6⟩ := h
  refine ⟨L, c, mv, h1, h2, h3, h4, ?_, h6⟩
  rcases h5 with h5 | ⟨mb, D, e, hs', hm, hn⟩
  · exact .inl h5
  · exact .inr ⟨mb, D, e, hs', hm.mono hN, hn⟩

end Go.Proofs.Ytfidfhajnobonaa

/- The walks of a table's calls: all, find, Find, thing, Text, Len, number, ID. -/
namespace Go.Proofs.Ytfidfhajnobonaa
open Go.RowKit Go.Maps Go.ChangeMaps Go.WideMaps

theorem tinfo : (Try.prog.info? 9).map (fun i => (i.zero, i.size, i.bytes)) = some (some (.string { data := #[] }), 1, 16) := by kernel_rfl
theorem tkeyOf {s : List UInt8} (h : s.length ≤ maxLen) : keyOf Try.prog 9 (tsv s) = some (.string s) := by
  rw [tsv, keyOf_string_mk Try.underlying9 (by rw [tx_size]; exact h)]
  simp [tx]

set_option maxRecDepth 100000 in
theorem all_any (b : Nat) (w : World) : Calls Try.prog 39 #[.pointer (some ⟨b, 0, none⟩)] w fun e w' => e = .returned (.pointer (some ⟨b, 0, none⟩)) ∧ w = w' := by
  go_enter Try.func39, Try.ntmps39
  go_wp2
  go_ret
  exact ⟨rfl, rfl⟩

set_option maxRecDepth 100000 in
set_option maxHeartbeats 400000 in
theorem Len_any (S : Nat → Prop) (b N : Nat) (l : List (List UInt8)) (w : World) (h : Tab w S b N l) :
    Calls Try.prog 31 #[.pointer (some ⟨b, 0, none⟩)] w fun e w' => e = .returned (.int .i64 (l.length : Int)) ∧ w = w' := by
  obtain ⟨L, c, mv, h1, _⟩ := h
  have hc0 := field_cell (i := 0) h1 rfl
  clear h1
  go_enter Try.func31, Try.ntmps31
  go_wp2_with (go_at_call 39; refine (all_any b _).mono ?_; rintro e w1 ⟨rfl, rfl⟩)
  go_ret
  exact ⟨rfl, rfl⟩

theorem own_map {w : World} {base n size : Nat} {e : TypeId} {v : Value} {xs : List Value} {b m : Nat} {D : DataW Nat} {k : TypeId} {R : Value → Option (DataW Nat × List MemPlace)} (h : w.ownsRow base e size v n xs) (hm : w.ownsMap Try.prog k R b m D) : ∀ g, v.ownBlock = some g → g ≠ b := by
  intro g hg e2
  subst e2
  obtain ⟨es, clock, hb, _⟩ := hm
  rcases h.2 with ⟨rfl, _⟩ | ⟨g2, cap, cur, rfl, _, hh, _⟩
  · simp [Value.ownBlock] at hg
  · simp only [Value.ownBlock, Option.some.injEq] at hg
    subst hg
    rw [hb] at hh
    cases hh

/-- Behind a text that came in: what stands. -/
theorem number_end (S : Nat → Prop) (b n N mb g3 c3 c : Nat) (L : Option Addr) (l : List (List UInt8)) (s : List UInt8) (w Wp w2 w3 : World) (D : DataW Nat) (hn : n = l.length) (hin : s ∉ l) (hnd : (l ++ [s]).Nodup) (hlen : ∀ t ∈ l ++ [s], t.length ≤ maxLen) (hSb : S b) (htp : Turn S w Wp) (hpm : S mb ∨ w.heap.size ≤ mb)
    (hp1 : Wp.heap[b]? = some (.cells #[.slice L n c, .map (some mb)] 61 (0, 0))) (hpo : Wp.ownsRow 0 9 1 (.slice L n c) n (l.map tsv)) (hmp : Wp.ownsMap Try.prog 9 (plainElem Try.prog 23) mb N D) (hno : NumOf D l) (hbl : ∀ g, (Value.slice L n c).ownBlock = some g → S g)
    (hm2 : w2.ownsMap Try.prog 9 (plainElem Try.prog 23) mb (N + 1) (D.put (.string s) (.lit (.int .u64 (n : Int))))) (ht2 : Wp.mapTurned w2 mb)
    (hgl : (Value.slice L n c).ownBlock = some g3 ∨ g3 = w2.heap.size + 1) (hg3 : (w2.alloc (.cells #[.string (tx s)] 9)).grownBy w3 (Value.slice L n c).ownBlock) (ho3 : w3.ownsRow 0 9 1 (.slice (some ⟨g3, 0, none⟩) (n + 1) c3) (n + 1) (l.map tsv ++ [.string (tx s)])) (hh3 : w3.heap[b]? = some (.cells #[.slice L n c, .map (some mb)] 61 (0, 0))) (hb : b < w.heap.size) :
    Tab (w3.setCell ⟨b, 0, none⟩ (.slice (some ⟨g3, 0, none⟩) (n + 1) c3)) (fun k => S k ∨ w.heap.size ≤ k) b (N + 1) (l ++ [s]) ∧ Turn S w (w3.setCell ⟨b, 0, none⟩ (.slice (some ⟨g3, 0, none⟩) (n + 1) c3)) := by
  have hgrow := ht2.grown
  have t2 : Turn S w w2 := htp.grown hgrow (fun i e hi => by
    obtain rfl := Option.some.inj e
    rcases hpm with h | h
    · exact h
    · omega)
  have t3 : Turn S w w3 := (t2.grown (World.grownBy_alloc w2 _ none) (by simp)).grown hg3 (fun i e _ => hbl i e)
  have t4 := t3.setCell b 0 (.slice (some ⟨g3, 0, none⟩) (n + 1) c3) hSb
  have hl1 : (l ++ [s]).length = n + 1 := by rw [List.length_append, hn]; rfl
  have hmb3 : w3.heap[mb]? = w2.heap[mb]? := by
    have hlt := hm2.lt
    refine (hg3.block mb (by simp; omega) (fun e => ?_)).trans (Below.heap_alloc _ _ _ hlt)
    exact own_map hpo hmp mb e.symm rfl
  have hne : mb ≠ b := by
    intro e
    subst e
    obtain ⟨es, clock, hb2, _⟩ := hm2
    rw [hh3] at hmb3
    rw [hb2] at hmb3
    cases hmb3
  refine ⟨⟨some ⟨g3, 0, none⟩, c3, some mb, ?_, .inl hSb, ?_, ?_, .inr ⟨mb, D.put (.string s) (.lit (.int .u64 (n : Int))), rfl, hpm, ?_, ?_⟩, hnd, hlen⟩, t4⟩
  · rw [hl1]; exact field_set hh3
  · rw [hl1, List.map_append]
    exact own_heap ho3 (fun g hg => Below.heap_setCell _ _ _ g (fun e => own_cells ho3 hh3 (by decide) (hg.trans (congrArg some e))))
  · intro g hg
    obtain rfl : g3 = g := by simpa [Value.ownBlock] using hg
    rcases hgl with h | h
    · exact .inl (hbl _ h)
    · exact .inr (by have := t2.2.2.2.1; omega)
  · exact map_heap hm2 ((Below.heap_setCell _ _ _ mb hne).trans hmb3)
  · rw [hn]; exact numOf_put hno hin

set_option maxRecDepth 100000 in
set_option maxHeartbeats 1000000 in
theorem number_any (S : Nat → Prop) (b N : Nat) (l : List (List UInt8)) (s : List UInt8) (hs : s.length ≤ maxLen) (hl : l.length + 1 ≤ 1073741824) (hN : N < 1073741824) (w : World) (h : Tab w S b N l) :
    Calls Try.prog 40 #[.pointer (some ⟨b, 0, none⟩), tsv s] w fun e w' => e = .returned (.tuple #[.int .u64 (tnum (tput l s) s : Int), .bool (!decide (s ∈ l))]) ∧
      Tab w' (fun k => S k ∨ w.heap.size ≤ k) b (N + 1) (tput l s) ∧ Turn S w w' := by
  obtain ⟨is, his, his0, his1, his2⟩ := info_parts tinfo
  have htab := h
  obtain ⟨L, c, mv, h1, hSb, h3, h4, h5, hnd, hlen⟩ := h
  have hc1 := field_cell (i := 1) h1 rfl
  have hf1 := field_free (i := 1) h1
  have hc0 := field_cell (i := 0) h1 rfl
  have hf0 := field_free (i := 0) h1
  have hkey := tkeyOf hs
  have HS := Lib.hid hs
  unfold tsv at hkey ⊢
  by_cases hin : s ∈ l
  · rw [tput_in hin, decide_eq_true hin]
    obtain ⟨mb, D, rfl, hSm, hm, hn⟩ : ∃ (mb : Nat) (D : DataW Nat), mv = some mb ∧ S mb ∧ w.ownsMap Try.prog 9 (plainElem Try.prog 23) mb N D ∧ NumOf D l := by
      rcases h5 with ⟨_, e⟩ | h5
      · rw [e] at hin; simp at hin
      · exact h5
    obtain ⟨e1, e2⟩ := hn.2 s
    rw [decide_eq_true hin] at e1
    have E2 := Lib.hid e2
    have HT := Lib.hid htab
    clear e2 h1 h3 h4 h5 hnd hlen htab
    go_enter Try.func40, Try.ntmps40
    go_wp2_with (at_lookup; refine wpList_lookup_own_ok_int _ rfl _ _ 57 rfl 9 23 .u64 tkey Try.underlying57 Try.underlying23 (zeroU _) mb N D rfl hm _ _ rfl hkey ?_; intro cv hat hwc)
    go_ret2
    have e3 := E2.out
    unfold u0 at e3
    rw [e3] at hat
    have : cv = (tnum l s : Int) := by injection hat with hat; injection hat with _ hat; exact hat.symm
    rw [this]
    exact ⟨rfl, (HT.out.wide fun k hk _ => .inl hk).more (by omega), Turn.refl _ _⟩
  · rw [tput_new hin, decide_eq_false hin]
    have hnum : tnum (l ++ [s]) s = l.length := by
      rw [tnum, if_pos (by simp), List.idxOf_append, if_neg hin]; simp
    have HNUM := Lib.hid hnum
    have hnd2 := tput_nodup (s := s) hnd
    rw [tput_new hin] at hnd2
    have HND := Lib.hid hnd2
    have hlen2 : ∀ t ∈ l ++ [s], t.length ≤ maxLen := fun t ht => by
      rcases List.mem_append.1 ht with ht | ht
      · exact hlen t ht
      · obtain rfl := List.mem_singleton.1 ht; exact hs
    have HLEN := Lib.hid hlen2
    have HIN := Lib.hid hin
    have HB := Lib.hid h4
    have HSB := Lib.hid hSb
    have hbl := (Array.getElem?_eq_some_iff.1 h1).1
    obtain ⟨n, hnl⟩ : ∃ n, n = l.length := ⟨_, rfl⟩
    have HNL := Lib.hid hnl
    have hown := h3
    rw [← hnl] at h1 hc0 hl hown
    have hw1 : IntKind.u64.wrap (n : Int) = (n : Int) := by rw [IntKind.wrap_u64]; omega
    have hwf : (Lit.int .u64 (n : Int)).wf = true := by simp [Lit.wf, IntKind.min, IntKind.max, IntKind.signed, IntKind.bits]; omega
    have HOWN := Lib.hid hown
    rcases h5 with ⟨rfl, e0⟩ | ⟨mb, D, rfl, hSm, hm, hn⟩
    · have hnil := fun W : World => look_nil (w := W) (P := Try.prog) true tkey Try.underlying57 (zeroU W) hkey
      have hq := fun W => run_eql_map_nil_sl (P := Try.prog) W 57 _ _ none Try.underlying57
      have hmm := @run_makeMap Try.prog

      have hbl2 : b ≠ w.heap.size := by omega
      have HP1 : Hid (((w.setCell ⟨b, 1, none⟩ (.map (some w.heap.size))).alloc (.map #[] 0)).heap[b]? = some (.cells #[.slice L n c, .map (some w.heap.size)] 61 (0, 0))) := (Below.heap_alloc _ _ _ (by simpa using hbl)).trans (field_set h1)
      have HPO : Hid (((w.setCell ⟨b, 1, none⟩ (.map (some w.heap.size))).alloc (.map #[] 0)).ownsRow 0 9 1 (.slice L n c) n (l.map tsv)) :=
        (own_heap (w' := w.setCell ⟨b, 1, none⟩ (.map (some w.heap.size))) hown (fun g hg => Below.heap_setCell _ _ _ g (fun e => own_cells hown h1 (by decide) (hg.trans (congrArg some e))))).alloc _
      have HMP : Hid (((w.setCell ⟨b, 1, none⟩ (.map (some w.heap.size))).alloc (.map #[] 0)).ownsMap Try.prog 9 (plainElem Try.prog 23) w.heap.size N (.map [] : DataW Nat)) := by
        have h := World.ownsMap_made (H := Nat) (w.setCell ⟨b, 1, none⟩ (.map (some w.heap.size))) Try.prog 9 (plainElem Try.prog 23)
        rw [World.size_setCell] at h
        exact h.mono (Nat.zero_le _)
      have HTP : Hid (Turn S w ((w.setCell ⟨b, 1, none⟩ (.map (some w.heap.size))).alloc (.map #[] 0))) := ((Turn.refl S w).setCell b 1 _ hSb).grown (World.grownBy_alloc _ _ none) (by simp)
      have HPM : Hid (S w.heap.size ∨ w.heap.size ≤ w.heap.size) := .inr (Nat.le_refl _)
      have HNO : Hid (NumOf (.map []) l) := by show NumOf _ _; rw [e0]; exact numOf_nil
      have HBM : Hid (b ≠ w.heap.size) := hbl2
      have HBL : Hid (∀ g, (Value.slice L n c).ownBlock = some g → S g) := by show ∀ g, _; rw [hnl]; exact h4
      have HKEY := Lib.hid hkey
      clear hnl hnum hnd2 hlen2 hin h1 h3 h4 hnd hlen htab hown e0 hbl2 hSb hs
      go_enter Try.func40, Try.ntmps40
      go_wp2_with (first
        | (at_mapUpdate; refine wpList_mapUpdate_in _ rfl _ _ _ 57 rfl 9 23 tkey Try.underlying57 _ w.heap.size N (.map []) rfl HMP.out (by unfold maxLen; omega) _ _ _ rfl rfl HKEY.out _ [] (plainElem_int Try.underlying23 hwf) ?_
           intro w2 hm2 ht2
           have hh2 : w2.heap[b]? = some (.cells #[.slice L n c, .map (some w.heap.size)] 61 (0, 0)) := (ht2.grown.block b (Array.getElem?_eq_some_iff.1 HP1.out).1 (fun e => HBM.out (Option.some.inj e))).trans HP1.out
           have hc0' : w2.cell? ⟨b, 0, none⟩ = some (.slice L n c) := field_cell hh2 rfl
           have hf0' : w2.frozen? ⟨b, 0, none⟩ = false := field_free hh2
           have ho2 := own_heap (w' := w2) HPO.out (fun g hg => ht2.grown.block g (own_lt HPO.out g hg) (fun e => own_map HPO.out HMP.out g hg (Option.some.inj e)))
           have HM2 := Lib.hid hm2
           have HT2 := Lib.hid ht2
           have HH2 := Lib.hid hh2
           clear hm2 ht2 hh2)
        | (at_builtin; refine wpList_append_lies _ rfl (.tmp 44) (.tmp 46) 22 rfl 0 9 is (.string { data := #[] }) 1 16 Try.underlying22 his his0 his1 his2 rfl (by decide) _ n _ rfl (ho2.alloc _) ⟨w2.heap.size, 0, none⟩ 1 1 [.string (tx s)] rfl rfl (cell_one_new _ _ _) (by simp [Value.oneCell']) (by omega) (by unfold maxLen; omega) (by omega) (Nat.zero_le _) (w2.heap.size + 1) (by simp) ?_
           intro g3 c3 w3 ho3 hg3 hgl3 _
           have hh3 : w3.heap[b]? = some (.cells #[.slice L n c, .map (some w.heap.size)] 61 (0, 0)) := (hg3.block b (by have := (Array.getElem?_eq_some_iff.1 HH2.out).1; simp; omega) (fun e => own_cells ho2 HH2.out (by decide) e.symm)).trans ((Below.heap_alloc _ _ _ (Array.getElem?_eq_some_iff.1 HH2.out).1).trans HH2.out)
           have hf3 : w3.frozen? ⟨b, 0, none⟩ = false := field_free hh3
           have hc3 : w3.cell? ⟨b, 0, none⟩ = some (.slice L n c) := field_cell hh3 rfl
           have HG3 := Lib.hid hg3
           have HGL := Lib.hid hgl3
           have HO3 := Lib.hid ho3
           have HO2 := Lib.hid ho2
           have HH3 := Lib.hid hh3
           clear hgl3 hg3 ho3 hh3 hc0' hf0'))
      go_ret2
      refine ⟨by first | (rw [HNUM.out, ← HNL.out]; done) | (rw [HNUM.out, ← HNL.out]; rfl), ?_⟩
      exact number_end S b n N w.heap.size g3 c3 c L l s w _ w2 w3 (.map []) HNL.out HIN.out HND.out HLEN.out HSB.out HTP.out HPM.out HP1.out HPO.out HMP.out HNO.out HBL.out HM2.out HT2.out HGL.out HG3.out HO3.out HH3.out (by omega)
    · have hnl0 := hnl
      clear hnl0
      obtain ⟨e1, e2⟩ := hn.2 s
      rw [decide_eq_false hin] at e1
      have hq := fun W => run_eql_map_nil_sl (P := Try.prog) W 57 _ _ (some mb) Try.underlying57
      have HP1 := Lib.hid h1
      have HPO := Lib.hid hown
      have HMP := Lib.hid hm
      have HTP := Lib.hid (Turn.refl S w)
      have HPM : Hid (S mb ∨ w.heap.size ≤ mb) := .inl hSm
      have HNO := Lib.hid hn
      have HBM : Hid (b ≠ mb) := fun e => by
        subst e
        obtain ⟨es, clock, hb, _⟩ := hm
        rw [h1] at hb; cases hb
      have HBL : Hid (∀ g, (Value.slice L n c).ownBlock = some g → S g) := by show ∀ g, _; rw [hnl]; exact h4
      have HKEY := Lib.hid hkey
      clear hnl hnum hnd2 hlen2 hin h1 h3 h4 hnd hlen htab hown e2 hSb hs hn
      go_enter Try.func40, Try.ntmps40
      go_wp2_with (first
        | (at_lookup; refine wpList_lookup_own_ok_int _ rfl _ _ 57 rfl 9 23 .u64 tkey Try.underlying57 Try.underlying23 (zeroU _) mb N D rfl hm _ _ rfl HKEY.out ?_; intro cv hat hwc; clear hat hwc)
        | (at_mapUpdate; refine wpList_mapUpdate_in _ rfl _ _ _ 57 rfl 9 23 tkey Try.underlying57 _ mb N D rfl HMP.out (by unfold maxLen; omega) _ _ _ rfl rfl HKEY.out _ [] (plainElem_int Try.underlying23 hwf) ?_
           intro w2 hm2 ht2
           have hh2 : w2.heap[b]? = some (.cells #[.slice L n c, .map (some mb)] 61 (0, 0)) := (ht2.grown.block b (Array.getElem?_eq_some_iff.1 HP1.out).1 (fun e => HBM.out (Option.some.inj e))).trans HP1.out
           have hc0' : w2.cell? ⟨b, 0, none⟩ = some (.slice L n c) := field_cell hh2 rfl
           have hf0' : w2.frozen? ⟨b, 0, none⟩ = false := field_free hh2
           have ho2 := own_heap (w' := w2) HPO.out (fun g hg => ht2.grown.block g (own_lt HPO.out g hg) (fun e => own_map HPO.out HMP.out g hg (Option.some.inj e)))
           have HM2 := Lib.hid hm2
           have HT2 := Lib.hid ht2
           have HH2 := Lib.hid hh2
           clear hm2 ht2 hh2)
        | (at_builtin; refine wpList_append_lies _ rfl (.tmp 44) (.tmp 46) 22 rfl 0 9 is (.string { data := #[] }) 1 16 Try.underlying22 his his0 his1 his2 rfl (by decide) _ n _ rfl (ho2.alloc _) ⟨w2.heap.size, 0, none⟩ 1 1 [.string (tx s)] rfl rfl (cell_one_new _ _ _) (by simp [Value.oneCell']) (by omega) (by unfold maxLen; omega) (by omega) (Nat.zero_le _) (w2.heap.size + 1) (by simp) ?_
           intro g3 c3 w3 ho3 hg3 hgl3 _
           have hh3 : w3.heap[b]? = some (.cells #[.slice L n c, .map (some mb)] 61 (0, 0)) := (hg3.block b (by have := (Array.getElem?_eq_some_iff.1 HH2.out).1; simp; omega) (fun e => own_cells ho2 HH2.out (by decide) e.symm)).trans ((Below.heap_alloc _ _ _ (Array.getElem?_eq_some_iff.1 HH2.out).1).trans HH2.out)
           have hf3 : w3.frozen? ⟨b, 0, none⟩ = false := field_free hh3
           have hc3 : w3.cell? ⟨b, 0, none⟩ = some (.slice L n c) := field_cell hh3 rfl
           have HG3 := Lib.hid hg3
           have HGL := Lib.hid hgl3
           have HO3 := Lib.hid ho3
           have HO2 := Lib.hid ho2
           have HH3 := Lib.hid hh3
           clear hgl3 hg3 ho3 hh3 hc0' hf0'))
      go_ret2
      refine ⟨by first | (rw [HNUM.out, ← HNL.out]; done) | (rw [HNUM.out, ← HNL.out]; rfl), ?_⟩
      exact number_end S b n N mb g3 c3 c L l s w w w2 w3 D HNL.out HIN.out HND.out HLEN.out HSB.out HTP.out HPM.out HP1.out HPO.out HMP.out HNO.out HBL.out HM2.out HT2.out HGL.out HG3.out HO3.out HH3.out (by omega)

set_option maxRecDepth 100000 in
set_option maxHeartbeats 400000 in
theorem ID_any (S : Nat → Prop) (b N : Nat) (l : List (List UInt8)) (s : List UInt8) (hs : s.length ≤ maxLen) (hl : l.length + 1 ≤ 1073741824) (hN : N < 1073741824) (w : World) (h : Tab w S b N l) :
    Calls Try.prog 21 #[.pointer (some ⟨b, 0, none⟩), tsv s] w fun e w' => e = .returned (.tuple #[.int .u64 (tnum (tput l s) s : Int), .bool (!decide (s ∈ l))]) ∧
      Tab w' (fun k => S k ∨ w.heap.size ≤ k) b (N + 1) (tput l s) ∧ Turn S w w' := by
  have HF := Lib.hid (number_any S b N l s hs hl hN w h)
  unfold tsv at HF ⊢
  generalize (!decide (s ∈ l)) = q at HF ⊢
  clear h hs hl hN
  go_enter Try.func21, Try.ntmps21
  go_wp2_with (first
    | (go_at_call 39; refine (all_any b _).mono ?_; rintro e w1 ⟨rfl, rfl⟩)
    | (go_at_call 40; refine HF.out.mono ?_; rintro e w1 ⟨rfl, ht1, htu1⟩))
  go_ret2
  exact ⟨rfl, ht1, htu1⟩

end Go.Proofs.Ytfidfhajnobonaa

/- The walk of New. -/
namespace Go.Proofs.Ytfidfhajnobonaa
open Go.RowKit Go.Maps Go.ChangeMaps Go.WideMaps

/-- Texts, each once. -/
def tnew (ts : List (List UInt8)) : List (List UInt8) := ts.foldl tput []
theorem tnew_snoc (ts : List (List UInt8)) (s : List UInt8) : tnew (ts ++ [s]) = tput (tnew ts) s := by simp [tnew]
theorem tput_len (l : List (List UInt8)) (s : List UInt8) : (tput l s).length ≤ l.length + 1 := by
  unfold tput; split <;> simp
theorem tfold_len : ∀ (ts l : List (List UInt8)), (ts.foldl tput l).length ≤ l.length + ts.length
  | [], l => by simp
  | s :: ts, l => by
    have h1 := tfold_len ts (tput l s)
    have h2 := tput_len l s
    simp only [List.foldl_cons, List.length_cons]
    omega
theorem tnew_len (ts : List (List UInt8)) : (tnew ts).length ≤ ts.length := by
  have := tfold_len ts []
  simpa [tnew] using this

/-- An empty table. -/
theorem tab_empty (w : World) : Tab (w.alloc (.cells #[.slice none 0 0, .map none] 61)) (fun k => w.heap.size ≤ k) w.heap.size 0 [] := by
  refine ⟨none, 0, none, ?_, Nat.le_refl _, World.ownsRow_nil _ _ _ _, fun g hg => by simp [Value.ownBlock] at hg, .inl ⟨rfl, rfl⟩, List.nodup_nil, by simp⟩
  show (w.heap.push _)[w.heap.size]? = _
  simp

def NwRel (ts : List (List UInt8)) (w : World) (idx : Value) (wr : World) : Prop :=
  ∃ i : Nat, i ≤ ts.length ∧ idx = .int .i64 (i : Int) ∧ Tab wr (fun k => w.heap.size ≤ k) w.heap.size i (tnew (ts.take i)) ∧ Below w.heap.size w wr

set_option maxRecDepth 100000 in
set_option maxHeartbeats 1000000 in
theorem New_any (L : Option Addr) (m d n0 : Nat) (ts : List (List UInt8)) (hm : m ≤ 1000000) (hts : ∀ s ∈ ts, s.length ≤ maxLen) (w : World) (hn0 : n0 ≤ w.heap.size) (hr : Reads w n0 1 L m (ts.map tsv)) :
    Calls Try.prog 10 #[.slice L m d] w fun e w' => e = .returned (.pointer (some ⟨w.heap.size, 0, none⟩)) ∧ Tab w' (fun k => w.heap.size ≤ k) w.heap.size m (tnew ts) ∧ Below w.heap.size w w' := by
  have hml : ts.length = m := by have := hr.1; simpa using this
  have HML := Lib.hid hml
  have HTS := Lib.hid hts
  have HR := Lib.hid (hr.more hn0)
  have HT0 := Lib.hid (tab_empty w)
  have HB0 : Hid (Below w.heap.size w (w.alloc (.cells #[.slice none 0 0, .map none] 61))) := (Below.refl _ w).alloc (Nat.le_refl _) _
  clear hml hts hr
  go_enter Try.func10, Try.ntmps10
  go_wp2
  go_loopw [10] (fun idx wr => NwRel ts w idx wr) (fun idx wr => m - (intOf idx).toNat)
  case atStart => exact ⟨0, by omega, rfl, HT0.out, HB0.out⟩
  case round =>
    obtain ⟨i, hi, rfl, ht, hb⟩ := hrel
    rw [HML.out] at hi
    by_cases hlt : i < m
    · obtain ⟨ad, u, rfl, _, hu, hcell⟩ := (HR.out.below hb).at_ hlt
      obtain ⟨s, hs⟩ : ∃ s, ts[i]? = some s := ⟨_, List.getElem?_eq_getElem (by rw [HML.out]; exact hlt)⟩
      obtain rfl : u = tsv s := by rw [List.getElem?_map, hs] at hu; simpa using hu.symm
      have htk : ts.take (i + 1) = ts.take i ++ [s] := by rw [List.take_add_one, hs]; rfl
      have hln : (tnew (ts.take i)).length ≤ i := by have := tnew_len (ts.take i); rw [List.length_take] at this; omega
      have hid := ID_any _ w.heap.size i (tnew (ts.take i)) s (HTS.out s (List.mem_of_getElem? hs)) (by omega) (by omega) wr ht
      rw [← tnew_snoc, ← htk] at hid
      have HID := Lib.hid hid
      have HB := Lib.hid hb
      unfold tsv at hcell HID
      clear hu hs htk hln hid ht hb
      go_wp2_with (go_at_call 21; refine HID.out.mono ?_; rintro e w1 ⟨rfl, ht1, htu1⟩)
      have hsz := HB.out.size
      exact ⟨⟨i + 1, by rw [HML.out]; omega, by go_num, ht1.wide (fun k hk _ => by rcases hk with hk | hk <;> omega), HB.out.trans (htu1.below (fun k hk => hk) hsz)⟩, by simp [intOf]; omega⟩
    · obtain rfl : i = m := by omega
      have hall : ts.take i = ts := List.take_of_length_le (by rw [HML.out]; omega)
      rw [hall] at ht
      go_wp2
      go_ret
      exact ⟨rfl, ht, hb⟩

end Go.Proofs.Ytfidfhajnobonaa

/- What a table answers where a text is there; texts in memory; what a table has. -/
namespace Go.Proofs.Ytfidfhajnobonaa
open Go.RowKit Go.Maps Go.ChangeMaps Go.WideMaps

set_option maxRecDepth 100000 in
set_option maxHeartbeats 400000 in
theorem ID_in (S : Nat → Prop) (b N : Nat) (l : List (List UInt8)) (s : List UInt8) (hin : s ∈ l) (w : World) (h : Tab w S b N l) :
    Calls Try.prog 21 #[.pointer (some ⟨b, 0, none⟩), tsv s] w fun e w' => e = .returned (.tuple #[.int .u64 (tnum l s : Int), .bool false]) ∧ w = w' := by
  have hnum : Hid (Calls Try.prog 40 #[.pointer (some ⟨b, 0, none⟩), tsv s] w fun e w' => e = .returned (.tuple #[.int .u64 (tnum l s : Int), .bool false]) ∧ w = w') := by
    show Calls _ _ _ _ _
    obtain ⟨L, c, mv, h1, hSb, h3, h4, h5, hnd, hlen⟩ := h
    have hc1 : w.cell? ⟨b, 1, none⟩ = some (.map mv) := field_cell h1 rfl
    have hkey := tkeyOf (hlen s hin)
    unfold tsv at hkey ⊢
    obtain ⟨mb, D, rfl, hSm, hm, hn⟩ : ∃ (mb : Nat) (D : DataW Nat), mv = some mb ∧ S mb ∧ w.ownsMap Try.prog 9 (plainElem Try.prog 23) mb N D ∧ NumOf D l := by
      rcases h5 with ⟨_, e⟩ | h5
      · rw [e] at hin; simp at hin
      · exact h5
    obtain ⟨e1, e2⟩ := hn.2 s
    rw [decide_eq_true hin] at e1
    have E2 := Lib.hid e2
    clear e2 h1 h3 h4 h5 hnd hlen hin
    go_enter Try.func40, Try.ntmps40
    go_wp2_with (at_lookup; refine wpList_lookup_own_ok_int _ rfl _ _ 57 rfl 9 23 .u64 tkey Try.underlying57 Try.underlying23 (zeroU _) mb N D rfl hm _ _ rfl hkey ?_; intro cv hat hwc)
    go_ret2
    have e3 := E2.out
    unfold u0 at e3
    rw [e3] at hat
    have : cv = (tnum l s : Int) := by injection hat with hat; injection hat with _ hat; exact hat.symm
    rw [this]
    exact ⟨rfl, rfl⟩
  unfold tsv at hnum ⊢
  clear h hin
  go_enter Try.func21, Try.ntmps21
  go_wp2_with (first
    | (go_at_call 39; refine (all_any b _).mono ?_; rintro e w1 ⟨rfl, rfl⟩)
    | (go_at_call 40; refine hnum.out.mono ?_; rintro e w1 ⟨rfl, rfl⟩))
  go_ret2
  exact ⟨rfl, rfl⟩

theorem reads_tsv (W : World) (e : TypeId) (ts : List (List UInt8)) : Reads (W.alloc (.cells (ts.map tsv).toArray e)) (W.heap.size + 1) 1 (some ⟨W.heap.size, 0, none⟩) ts.length (ts.map tsv) :=
  ⟨by simp, fun _ => ⟨_, rfl, by simp, fun j u hu => by
    have h0 : Addr.add ⟨W.heap.size, 0, none⟩ j = ⟨W.heap.size, j, none⟩ := by
      unfold Addr.add
      split
      · rename_i h; rw [h]
      · simp
    rw [h0]
    simp only [World.cell?, World.alloc, Array.getElem?_push_size]
    simpa using hu⟩⟩

theorem tput_mem {l : List (List UInt8)} {s t : List UInt8} (h : t ∈ l ∨ t = s) : t ∈ tput l s := by
  unfold tput
  split
  · rename_i hs
    rcases h with h | rfl
    · exact h
    · exact hs
  · rcases h with h | rfl <;> simp [*]
theorem tfold_mem : ∀ (ts l : List (List UInt8)) (s : List UInt8), s ∈ l ∨ s ∈ ts → s ∈ ts.foldl tput l
  | [], l, s, h => by simpa using h
  | t :: ts, l, s, h => tfold_mem ts (tput l t) s (by
    rcases h with h | h
    · exact .inl (tput_mem (.inl h))
    · rcases List.mem_cons.1 h with h | h
      · exact .inl (tput_mem (.inr h))
      · exact .inr h)
theorem tnew_mem {ts : List (List UInt8)} {s : List UInt8} (h : s ∈ ts) : s ∈ tnew ts := tfold_mem ts [] s (.inr h)
theorem tnum_inj {l : List (List UInt8)} {s u : List UInt8} (hs : s ∈ l) (hu : u ∈ l) (h : tnum l s = tnum l u) : s = u := by
  have h1 := tnum_at hs
  have h2 := tnum_at hu
  rw [h, h2] at h1
  exact (Option.some.inj h1).symm

theorem tnum_snoc {l : List (List UInt8)} {s : List UInt8} (h : s ∉ l) : tnum (l ++ [s]) s = l.length := by
  unfold tnum
  rw [if_pos (by simp), List.idxOf_append, if_neg h]
  simp

end Go.Proofs.Ytfidfhajnobonaa

/- record.mayTime, mayTag, named. -/
namespace Go.Proofs.Ytfidfhajnobonaa
open Go.RowKit

def rcells (r : Rc) (A : Option Addr) (n c : Nat) : Array Value := #[.int .i64 r.kind, .string (tx r.target), .int .u64 r.rule, .slice A n c, .int .u64 r.out, .int .u64 r.time, .string (tx r.tag)]
/-- The names of a record's deps. -/
def names (l : List Dp) : List (List UInt8) := l.map Dp.name

def TimeP (v : Int) (r : Rc) : Prop := r.time = 0 ∨ 2 ≤ v
def TagP (v : Int) (r : Rc) : Prop := r.tag = [] ∨ (3 ≤ v ∧ r.tag.length ≤ 64)

set_option maxRecDepth 100000 in
set_option maxHeartbeats 1000000 in
theorem time_any (v : Int) (r : Rc) (A : Option Addr) (n c : Nat) (w : World) :
    Calls Try.prog 42 #[.int .i64 v, rcv r A n c] w fun e w' => ∃ q : Bool, (q = true ↔ TimeP v r) ∧ e = .returned (.bool q) ∧ Below w.heap.size w w' := by
  obtain ⟨k, t, u, o, m, g⟩ := r
  by_cases h1 : m = 0
  · subst h1
    have HB := Lib.hid ((Below.refl w.heap.size w).alloc (Nat.le_refl _) (.cells (rcells ⟨k, t, u, o, 0, g⟩ A n c) 26))
    have q5 := at_cell (i := 5) (one_new w (.cells (rcells ⟨k, t, u, o, 0, g⟩ A n c) 26)) rfl
    unfold rcells at HB q5
    unfold rcv rsv
    have HP : Hid (TimeP v ⟨k, t, u, o, 0, g⟩) := .inl rfl
    go_enter Try.func42, Try.ntmps42
    go_wp2
    go_ret
    first | exact ⟨true, by simp [HP.out], rfl, HB.out⟩ | exact .inr ⟨HP.out, rfl, HB.out⟩ | exact .inl ⟨HP.out, rfl, HB.out⟩
  · have h2 : (m == 0) = false := by rw [beq_eq_false_iff_ne]; exact h1
    have HB := Lib.hid ((Below.refl w.heap.size w).alloc (Nat.le_refl _) (.cells (rcells ⟨k, t, u, o, m, g⟩ A n c) 26))
    have q5 := at_cell (i := 5) (one_new w (.cells (rcells ⟨k, t, u, o, m, g⟩ A n c) 26)) rfl
    unfold rcells at HB q5
    unfold rcv rsv
    have h4 : decide (m = 0) = false := decide_eq_false h1
    by_cases h3 : 2 ≤ v
    · have HP : Hid (TimeP v ⟨k, t, u, o, m, g⟩) := .inr h3
      have h5 : decide (2 ≤ v) = true := decide_eq_true h3
      clear h1
      go_enter Try.func42, Try.ntmps42
      go_wp2
      go_ret
      first | exact ⟨true, by simp [HP.out], rfl, HB.out⟩ | exact .inr ⟨HP.out, by first | rfl | simp [h3], HB.out⟩ | exact .inl ⟨HP.out, by first | rfl | simp [h3], HB.out⟩
    · have HP : Hid (¬ TimeP v ⟨k, t, u, o, m, g⟩) := fun h => by rcases h with h | h; exact h1 h; exact h3 h
      have h5 : decide (2 ≤ v) = false := decide_eq_false h3
      clear h1
      go_enter Try.func42, Try.ntmps42
      go_wp2
      go_ret
      first | exact ⟨false, by simp [HP.out], rfl, HB.out⟩ | exact .inl ⟨HP.out, by first | rfl | simp [h3], HB.out⟩ | exact .inr ⟨HP.out, by first | rfl | simp [h3], HB.out⟩

set_option maxRecDepth 100000 in
set_option maxHeartbeats 1000000 in
theorem tag_any (v : Int) (r : Rc) (A : Option Addr) (n c : Nat) (w : World) :
    Calls Try.prog 43 #[.int .i64 v, rcv r A n c] w fun e w' => ∃ q : Bool, (q = true ↔ TagP v r) ∧ e = .returned (.bool q) ∧ Below w.heap.size w w' := by
  have HB := Lib.hid ((Below.refl w.heap.size w).alloc (Nat.le_refl _) (.cells (rcells r A n c) 26))
  have q6 := at_cell (i := 6) (one_new w (.cells (rcells r A n c) 26)) rfl
  obtain ⟨k, t, u, o, m, g⟩ := r
  unfold rcells at HB q6
  unfold rcv rsv
  have hs := tx_size0 g
  by_cases h1 : g = []
  · have HP : Hid (TagP v ⟨k, t, u, o, m, g⟩) := .inl h1
    subst h1
    have he : (tx ([] : List UInt8)).toList = [] := by simp [tx]
    go_enter Try.func43, Try.ntmps43
    go_wp2
    go_ret
    first | exact ⟨true, by simp [HP.out], by first | rfl | simp, HB.out⟩ | exact .inr ⟨HP.out, by first | rfl | simp, HB.out⟩ | exact .inl ⟨HP.out, by first | rfl | simp, HB.out⟩
  · have he := tx_empty g h1
    obtain ⟨x, hx⟩ : ∃ x, x = g.length := ⟨_, rfl⟩
    rw [← hx] at hs
    by_cases h3 : 3 ≤ v
    · by_cases h4 : x ≤ 64
      · have HP : Hid (TagP v ⟨k, t, u, o, m, g⟩) := .inr ⟨h3, hx ▸ h4⟩
        have h5 : decide (3 ≤ v) = true := decide_eq_true h3
        have h6 : decide ((x : Int) ≤ 64) = true := decide_eq_true (by omega)
        clear h1 hx
        go_enter Try.func43, Try.ntmps43
        go_wp2
        go_ret
        first | exact ⟨true, by simp [HP.out], by first | rfl | simp, HB.out⟩ | exact .inr ⟨HP.out, by first | rfl | simp, HB.out⟩ | exact .inl ⟨HP.out, by first | rfl | simp, HB.out⟩
      · have HP : Hid (¬ TagP v ⟨k, t, u, o, m, g⟩) := fun h => by rcases h with h | h; exact h1 h; exact h4 (hx ▸ h.2)
        have h5 : decide (3 ≤ v) = true := decide_eq_true h3
        have h6 : decide ((x : Int) ≤ 64) = false := decide_eq_false (by omega)
        clear h1 hx
        go_enter Try.func43, Try.ntmps43
        go_wp2
        go_ret
        first | exact ⟨false, by simp [HP.out], by first | rfl | simp, HB.out⟩ | exact .inl ⟨HP.out, by first | rfl | simp, HB.out⟩ | exact .inr ⟨HP.out, by first | rfl | simp, HB.out⟩
    · have HP : Hid (¬ TagP v ⟨k, t, u, o, m, g⟩) := fun h => by rcases h with h | h; exact h1 h; exact h3 h.1
      have h5 : decide (3 ≤ v) = false := decide_eq_false h3
      clear h1 hx
      go_enter Try.func43, Try.ntmps43
      go_wp2
      go_ret
      first | exact ⟨false, by simp [HP.out], by first | rfl | simp, HB.out⟩ | exact .inl ⟨HP.out, by first | rfl | simp, HB.out⟩ | exact .inr ⟨HP.out, by first | rfl | simp, HB.out⟩

theorem tab_lt {w : World} {S : Nat → Prop} {b N : Nat} {l : List (List UInt8)} (h : Tab w S b N l) : b < w.heap.size := by
  obtain ⟨L, c, mv, h1, _⟩ := h
  rcases Nat.lt_or_ge b w.heap.size with h2 | h2
  · exact h2
  · rw [Array.getElem?_eq_none h2] at h1; cases h1

def NdRel (w : World) (b : Nat) (t : List UInt8) (ns : List (List UInt8)) (idx : Value) (wr : World) : Prop :=
  ∃ i : Nat, i ≤ ns.length ∧ idx = .int .i64 (i : Int) ∧ Tab wr (fun k => w.heap.size + 2 ≤ k) b (1 + i) (tnew (t :: ns.take i)) ∧ Below w.heap.size w wr ∧ w.heap.size + 2 < wr.heap.size

set_option maxRecDepth 100000 in
set_option maxHeartbeats 1000000 in
theorem named_any (r : Rc) (A : Option Addr) (n c : Nat) (l : List Dp) (hn : n ≤ 1000) (ht : r.target.length ≤ maxLen) (hl : ∀ d ∈ l, d.name.length ≤ maxLen) (w : World) (h : Reads w w.heap.size 3 A n (dps l)) :
    Calls Try.prog 70 #[rcv r A n c] w fun e w' => ∃ b, e = .returned (.pointer (some ⟨b, 0, none⟩)) ∧ w.heap.size ≤ b ∧ b < w'.heap.size ∧ Tab w' (fun k => w.heap.size ≤ k) b (1 + n) (tnew (r.target :: names l)) ∧ Below w.heap.size w w' := by
  have HL : Hid (l.length = n) := by have := h.1; rw [dps_len] at this; show _ = _; omega
  have HF := Lib.hid hl
  have H1 := Lib.hid h
  have h0 := one_new w (.cells (rcells r A n c) 26)
  have hb0 := (Below.refl w.heap.size w).alloc (Nat.le_refl _) (.cells (rcells r A n c) 26)
  have q1 := at_cell (i := 1) h0 rfl
  have HNEW := Lib.hid (New_any (some ⟨w.heap.size + 1, 0, none⟩) 1 1 (w.heap.size + 2) [r.target] (by omega) (by simpa using ht) ((w.alloc (.cells (rcells r A n c) 26)).alloc (.cells #[.string (tx r.target)] 9)) (by simp) (by
    have := reads_tsv (w.alloc (.cells (rcells r A n c) 26)) 9 [r.target]
    simpa [tsv] using this))
  have HB0 := Lib.hid hb0
  have H0 := Lib.hid h0
  clear hl h ht h0 hb0
  unfold rcells at *
  unfold rcv rsv
  have hsz : ∀ a b : Obj, ((w.alloc a).alloc b).heap.size = w.heap.size + 2 := fun a b => by simp
  rw [hsz] at HNEW
  clear hsz
  go_enter Try.func70, Try.ntmps70
  go_wp2_with (go_at_call 10; refine HNEW.out.mono ?_; rintro e w1 ⟨rfl, ht1, hb1⟩; have q3 := (hb1.cell (p := ⟨w.heap.size, 3, none⟩) (show w.heap.size < w.heap.size + 2 by omega)).trans ((World.cell?_alloc_lt _ _ _ (by show w.heap.size < _; simp)).trans (at_cell (i := 3) H0.out rfl)); have HB1 := Lib.hid ((HB0.out.alloc (by simp) _).trans (hb1.mono (by omega))); have HT1 := Lib.hid ht1; have HSZ : Hid (w.heap.size + 2 < w1.heap.size) := tab_lt ht1; clear ht1 hb1)
  go_loopw [13] (fun idx wr => NdRel w (w.heap.size + 2) r.target (names l) idx wr) (fun idx wr => n - (intOf idx).toNat)
  case atStart => exact ⟨0, by omega, rfl, by rw [List.take_zero]; exact HT1.out.wide (fun k hk _ => by omega), HB1.out, HSZ.out⟩
  case round =>
    obtain ⟨i, hi, rfl, htb, hb, hz⟩ := hrel
    have hnl : (names l).length = n := by unfold names; rw [List.length_map]; exact HL.out
    rw [hnl] at hi
    have HTB := Lib.hid htb
    have HBR := Lib.hid hb
    by_cases hlt : i < n
    · obtain ⟨x, hx⟩ : ∃ x, l[i]? = some x := ⟨_, List.getElem?_eq_getElem (by rw [HL.out]; exact hlt)⟩
      obtain ⟨ad, rfl, _, hcx⟩ := (H1.out.below hb).2 (by omega)
      obtain ⟨x0, x1, x2⟩ := dps_at l i x hx
      have k0 := hcx _ _ x0
      have k1 := hcx _ _ x1
      have k2 := hcx _ _ x2
      rw [add_one] at k1
      rw [add_two] at k2
      have htk : (names l).take (i + 1) = (names l).take i ++ [x.name] := by rw [List.take_add_one]; unfold names; rw [List.getElem?_map, hx]; rfl
      have hln : (tnew (r.target :: (names l).take i)).length ≤ 1 + i := by have := tnew_len (r.target :: (names l).take i); rw [List.length_cons, List.length_take] at this; omega
      have hid := ID_any _ (w.heap.size + 2) (1 + i) (tnew (r.target :: (names l).take i)) x.name (HF.out x (List.mem_of_getElem? hx)) (by omega) (by omega) (wr.alloc (.cells #[.string (tx x.name), .int .u64 x.hash, .bool x.order] 56)) (htb.keep (fun k _ hk => Below.heap_alloc _ _ _ hk))
      rw [← tnew_snoc, List.cons_append, ← htk] at hid
      have HID := Lib.hid hid
      have hnb := one_new wr (.cells #[.string (tx x.name), .int .u64 x.hash, .bool x.order] 56)
      have p0 := at_cell (i := 0) hnb rfl
      have hbn := Lib.hid (hb.alloc (by omega) (.cells #[.string (tx x.name), .int .u64 x.hash, .bool x.order] 56))
      have hi0 : (0 : Int) ≤ (i : Int) := by omega
      have hi1 : (i : Int) < (n : Int) := by omega
      obtain ⟨xn, xh, xo⟩ := x
      unfold rsv at k0
      unfold tsv at HID
      simp only at k0 k1 k2 p0 HID hbn
      clear hcx x0 x1 x2 hx htk hln hid htb hb hnb hnl
      go_wp2_with (go_at_call 21; refine HID.out.mono ?_; rintro e w2 ⟨rfl, ht2, htu2⟩)
      have hsz := hbn.out.size
      exact ⟨⟨i + 1, by unfold names; rw [List.length_map, HL.out]; omega, by go_num, (ht2.wide (fun k hk _ => by rcases hk with hk | hk; omega; (have : (wr.alloc (.cells #[.string (tx xn), .int .u64 xh, .bool xo] 56)).heap.size = wr.heap.size + 1 := by simp); omega)).more (by omega), hbn.out.trans (htu2.below (fun k hk => by omega) hsz), by have := htu2.2.2.2.1; simp at this; omega⟩, by simp [intOf]; omega⟩
    · obtain rfl : i = n := by omega
      have hall : (names l).take i = names l := List.take_of_length_le (by omega)
      rw [hall] at HTB
      clear hb htb
      go_wp2
      go_ret
      exact ⟨_, rfl, by omega, by omega, HTB.out.wide (fun k hk _ => by omega), HBR.out⟩

end Go.Proofs.Ytfidfhajnobonaa

/- record.mayDeps. -/
namespace Go.Proofs.Ytfidfhajnobonaa
open Go.RowKit

theorem wrap_small {z : Int} (h0 : -9223372036854775808 ≤ z) (h1 : z ≤ 9223372036854775807) : IntKind.i64.wrap z = z := by simp [IntKind.wrap, IntKind.signed, IntKind.bits]; omega

/-- A call answers whether P is so. -/
def Tells (P : Prop) (e : Ending) : Prop := ∃ q : Bool, (q = true ↔ P) ∧ e = .returned (.bool q)
theorem tells_true {P : Prop} (h : P) : Tells P (.returned (.bool true)) := ⟨true, by simp [h], rfl⟩
theorem tells_false {P : Prop} (h : ¬ P) : Tells P (.returned (.bool false)) := ⟨false, by simp [h], rfl⟩

theorem tfold_nodup : ∀ (ts l : List (List UInt8)), l.Nodup → ((ts.foldl tput l).length = l.length + ts.length ↔ ts.Nodup ∧ ∀ s ∈ ts, s ∉ l)
  | [], l, _ => by simp
  | s :: ts, l, hl => by
    rw [List.foldl_cons, List.nodup_cons]
    by_cases hs : s ∈ l
    · rw [tput_in hs]
      have := tfold_len ts l
      refine ⟨fun h => ?_, fun h => absurd hs (h.2 s (by simp))⟩
      simp at h; omega
    · have ih := tfold_nodup ts (tput l s) (tput_nodup hl)
      rw [tput_new hs] at ih ⊢
      simp only [List.length_append, List.length_cons, List.length_nil, List.mem_append, List.mem_cons, List.not_mem_nil, or_false] at ih ⊢
      rw [show l.length + (ts.length + 1) = l.length + (0 + 1) + ts.length by omega, ih]
      constructor
      · rintro ⟨h1, h2⟩
        refine ⟨⟨fun h => h2 s h (.inr rfl), h1⟩, ?_⟩
        rintro t (rfl | ht)
        · exact hs
        · exact fun h => h2 t ht (.inl h)
      · rintro ⟨⟨h1, h2⟩, h3⟩
        refine ⟨h2, fun t ht h => ?_⟩
        rcases h with h | h
        · exact h3 t (.inr ht) h
        · subst h; exact h1 ht
theorem tnew_nodup (ts : List (List UInt8)) : (tnew ts).length = ts.length ↔ ts.Nodup := by
  have := tfold_nodup ts [] List.nodup_nil
  simpa [tnew] using this

def DepP (v : Int) (d : Dp) : Prop := isName d.name = true ∧ (d.order = true → 3 ≤ v)
def DepsP (v : Int) (r : Rc) (l : List Dp) : Prop := l.length ≤ 16 ∧ (∀ d ∈ l, DepP v d) ∧ (r.target :: names l).Nodup

def MdRel (v : Int) (w : World) (o : Obj) (l : List Dp) (idx : Value) (wr : World) : Prop :=
  ∃ i : Nat, i ≤ l.length ∧ idx = .int .i64 (i : Int) ∧ (∀ d ∈ l.take i, DepP v d) ∧ Below w.heap.size w wr ∧ wr.heap[w.heap.size]? = some o ∧ w.heap.size < wr.heap.size

set_option maxRecDepth 100000 in
set_option maxHeartbeats 1000000 in
theorem deps_any (v : Int) (r : Rc) (A : Option Addr) (n c : Nat) (l : List Dp) (hn : n ≤ 1000) (ht : r.target.length ≤ maxLen) (hl : ∀ d ∈ l, d.name.length ≤ maxLen) (w : World) (h : Reads w w.heap.size 3 A n (dps l)) :
    Calls Try.prog 44 #[.int .i64 v, rcv r A n c] w fun e w' => Tells (DepsP v r l) e ∧ Below w.heap.size w w' := by
  have HL : Hid (l.length = n) := by have := h.1; rw [dps_len] at this; show _ = _; omega
  have HF := Lib.hid hl
  have HT := Lib.hid ht
  have H1 := Lib.hid h
  have h0 := one_new w (.cells (rcells r A n c) 26)
  have hb0 := (Below.refl w.heap.size w).alloc (Nat.le_refl _) (.cells (rcells r A n c) 26)
  have q3 := at_cell (i := 3) h0 rfl
  have HB0 := Lib.hid hb0
  have H0 := Lib.hid h0
  have HS0 : Hid (w.heap.size < (w.alloc (.cells (rcells r A n c) 26)).heap.size) := by show w.heap.size < _; simp
  clear hl h ht h0 hb0
  by_cases h16 : n ≤ 16
  · have d16 : decide ((n : Int) > 16) = false := decide_eq_false (by omega)
    unfold rcells at *
    unfold rcv rsv
    go_enter Try.func44, Try.ntmps44
    go_wp2
    go_loopw [14] (fun idx wr => MdRel v w (.cells (rcells r A n c) 26) l idx wr) (fun idx wr => n - (intOf idx).toNat)
    case atStart => exact ⟨0, by omega, rfl, by simp, HB0.out, H0.out, HS0.out⟩
    case round =>
      obtain ⟨i, hi, rfl, hok, hb, hbx, hz⟩ := hrel
      have HOK := Lib.hid hok
      have HBR := Lib.hid hb
      have HBX := Lib.hid hbx
      have HZ := Lib.hid hz
      rw [HL.out] at hi
      by_cases hlt : i < n
      · obtain ⟨x, hx⟩ : ∃ x, l[i]? = some x := ⟨_, List.getElem?_eq_getElem (by rw [HL.out]; exact hlt)⟩
        obtain ⟨ad, rfl, _, hcx⟩ := (H1.out.below hb).2 (by omega)
        obtain ⟨x0, x1, x2⟩ := dps_at l i x hx
        have k0 := hcx _ _ x0
        have k1 := hcx _ _ x1
        have k2 := hcx _ _ x2
        rw [add_one] at k1
        rw [add_two] at k2
        have hnb := one_new wr (.cells #[.string (tx x.name), .int .u64 x.hash, .bool x.order] 56)
        have p0 := at_cell (i := 0) hnb rfl
        have p1 := at_cell (i := 1) hnb rfl
        have p2 := at_cell (i := 2) hnb rfl
        have hbn := Lib.hid (hb.alloc (by omega) (.cells #[.string (tx x.name), .int .u64 x.hash, .bool x.order] 56))
        have hbxn := Lib.hid ((Below.heap_alloc wr (.cells #[.string (tx x.name), .int .u64 x.hash, .bool x.order] 56) w.heap.size hz).trans hbx)
        have hzn : Hid (w.heap.size < (wr.alloc (.cells #[.string (tx x.name), .int .u64 x.hash, .bool x.order] 56)).heap.size) := by show w.heap.size < _; simp; omega
        have hname := Lib.hid (name_any x.name)
        have hi0 : (0 : Int) ≤ (i : Int) := by omega
        have hi1 : (i : Int) < (n : Int) := by omega
        have HIN : Hid (DepP v x → ∀ d ∈ l.take (i + 1), DepP v d) := fun hp d hd => by
          rw [List.take_add_one, hx, List.mem_append] at hd
          rcases hd with hd | hd
          · exact HOK.out d hd
          · simp at hd; subst hd; exact hp
        have HOUT : Hid (¬ DepP v x → ¬ DepsP v r l) := fun hp hd => hp (hd.2.1 x (List.mem_of_getElem? hx))
        obtain ⟨xn, xh, xo⟩ := x
        unfold rsv at k0 hname
        simp only at k0 k1 k2 p0 p1 p2 hbn hbxn hzn hname
        clear hcx x0 x1 x2 hx hok hb hbx hz hnb
        cases hq : isName xn
        · have HNO := Lib.hid (HOUT.out (fun hp => by have := hp.1; simp only at this; rw [hq] at this; cases this))
          rw [hq] at hname
          go_wp2_with (go_at_call 41; refine (hname.out _).mono ?_; rintro e w2 ⟨rfl, rfl⟩)
          go_ret
          exact ⟨tells_false HNO.out, hbn.out⟩
        · rw [hq] at hname
          cases xo
          · have HGO := Lib.hid (HIN.out ⟨hq, fun h => by cases h⟩)
            go_wp2_with (go_at_call 41; refine (hname.out _).mono ?_; rintro e w2 ⟨rfl, rfl⟩)
            exact ⟨⟨i + 1, by rw [HL.out]; omega, by go_num, HGO.out, hbn.out, hbxn.out, hzn.out⟩, by simp [intOf]; omega⟩
          · by_cases hv : v < 3
            · have HNO := Lib.hid (HOUT.out (fun hp => by have := hp.2 rfl; omega))
              have dv : decide (v < 3) = true := decide_eq_true hv
              go_wp2_with (go_at_call 41; refine (hname.out _).mono ?_; rintro e w2 ⟨rfl, rfl⟩)
              go_ret
              exact ⟨tells_false HNO.out, hbn.out⟩
            · have HGO := Lib.hid (HIN.out ⟨hq, fun _ => by omega⟩)
              have dv : decide (v < 3) = false := decide_eq_false hv
              go_wp2_with (go_at_call 41; refine (hname.out _).mono ?_; rintro e w2 ⟨rfl, rfl⟩)
              exact ⟨⟨i + 1, by rw [HL.out]; omega, by go_num, HGO.out, hbn.out, hbxn.out, hzn.out⟩, by simp [intOf]; omega⟩
      · obtain rfl : i = n := by omega
        rw [List.take_of_length_le (by rw [HL.out]; omega)] at HOK
        have hnl : (names l).length = i := by unfold names; rw [List.length_map]; exact HL.out
        have hnm := named_any r A i c l hn HT.out HF.out wr.drew ((H1.out.below (hb.drew)).more (by show w.heap.size ≤ wr.heap.size; omega))
        have HNM := Lib.hid hnm
        have HNL := Lib.hid hnl
        have hq3 := at_cell (i := 3) hbx rfl
        clear hnm hnl hok hb hbx
        by_cases hd : (tnew (r.target :: names l)).length = 1 + i
        · have HP : Hid (DepsP v r l) := ⟨by rw [HL.out]; exact h16, HOK.out, (tnew_nodup _).1 (by rw [hd, List.length_cons, HNL.out]; omega)⟩
          go_wp2_with fail
          have hde : decide ((((tnew (r.target :: names l)).length : Nat) : Int) = 1 + (i : Int)) = true := decide_eq_true (by omega)
          have hdf : ((((tnew (r.target :: names l)).length : Nat) : Int) == 1 + (i : Int)) = true := by rw [beq_iff_eq]; omega
          refine wp_region_held (S := fun v1 => Below wr.heap.size wr v1) (by kernel_rfl) ?_
          have hS : Below wr.heap.size wr wr.drew := (Below.refl _ wr).drew
          refine h_take 0 (rcv r A i c) rfl (by kernel_rfl) (by kernel_rfl) (by kernel_rfl) (fun _ _ _ h => h) (by kernel_rfl) hS (by intro v1 hv; have q0 := (hv.cell (p := ⟨w.heap.size, 0, none⟩) HZ.out).trans (at_cell (i := 0) HBX.out rfl); have q1 := (hv.cell (p := ⟨w.heap.size, 1, none⟩) HZ.out).trans (at_cell (i := 1) HBX.out rfl); have q2 := (hv.cell (p := ⟨w.heap.size, 2, none⟩) HZ.out).trans (at_cell (i := 2) HBX.out rfl); have q3 := (hv.cell (p := ⟨w.heap.size, 3, none⟩) HZ.out).trans (at_cell (i := 3) HBX.out rfl); have q4 := (hv.cell (p := ⟨w.heap.size, 4, none⟩) HZ.out).trans (at_cell (i := 4) HBX.out rfl); have q5 := (hv.cell (p := ⟨w.heap.size, 5, none⟩) HZ.out).trans (at_cell (i := 5) HBX.out rfl); have q6 := (hv.cell (p := ⟨w.heap.size, 6, none⟩) HZ.out).trans (at_cell (i := 6) HBX.out rfl); go_simp; rfl) ?_
          refine h_take 3 (.pointer (some ⟨w.heap.size, 3, none⟩)) rfl (by kernel_rfl) (by kernel_rfl) (by kernel_rfl) (fun _ _ _ h => h) (by kernel_rfl) hS (fun _ _ => by kernel_rfl) ?_
          refine h_take 4 (.slice A i c) rfl (by kernel_rfl) (by kernel_rfl) (by kernel_rfl) (fun _ _ _ h => h) (by kernel_rfl) hS (by intro v1 hv; have q3 := (hv.cell (p := ⟨w.heap.size, 3, none⟩) HZ.out).trans (at_cell (i := 3) HBX.out rfl); go_simp; try rfl) ?_
          refine h_take 5 (.int .i64 (i : Int)) rfl (by kernel_rfl) (by kernel_rfl) (by kernel_rfl) (fun _ _ _ h => h) (by kernel_rfl) hS (by intro v1 hv; go_simp) ?_
          refine h_take 6 (.int .i64 (1 + (i : Int))) rfl (by kernel_rfl) (by kernel_rfl) (by kernel_rfl) (fun _ _ _ h => h) (by kernel_rfl) hS (by intro v1 hv; go_simp; exact wrap_small (by omega) (by omega)) ?_
          refine h_one 1 rfl (by kernel_rfl) (by kernel_rfl) (fun K hK => ?_)
          go_simp
          refine HNM.out.mono ?_
          rintro e w2 ⟨tb, rfl, htb0, htb1, htab, hb2⟩
          have hb3 : Below wr.heap.size wr.drew w2 := hb2
          have hS2 : Below wr.heap.size wr w2 := (Below.refl _ wr).drew.trans hb2
          refine hK _ _ hS2 ?_
          clear hK K
          refine h_one 2 rfl (by kernel_rfl) (by kernel_rfl) (fun K hK => ?_)
          go_simp
          refine (Len_any _ tb _ _ w2 htab).mono ?_
          rintro e w3 ⟨rfl, rfl⟩
          refine hK _ _ hS2 ?_
          clear hK K
          refine h_take 7 (.bool true) rfl (by kernel_rfl) (by kernel_rfl) (by kernel_rfl) (fun _ _ _ h => h) (by kernel_rfl) hS2 (by intro v1 hv; go_simp) ?_
          refine h_take 8 (.bool true) rfl (by kernel_rfl) (by kernel_rfl) (by kernel_rfl) (fun _ _ _ h => h) (by kernel_rfl) hS2 (fun _ _ => by kernel_rfl) ?_
          refine wpAnyH_done (by kernel_rfl) ?_ _
          go_simp
          go_wp2
          go_ret
          exact ⟨tells_true HP.out, HBR.out.drew.trans (hb3.mono (by show w.heap.size ≤ wr.heap.size; exact Nat.le_of_lt HZ.out))⟩
        · have HP : Hid (¬ DepsP v r l) := fun h => hd (by have := (tnew_nodup _).2 h.2.2; rw [this, List.length_cons, HNL.out]; omega)
          go_wp2_with fail
          have hde : decide ((((tnew (r.target :: names l)).length : Nat) : Int) = 1 + (i : Int)) = false := decide_eq_false (by omega)
          have hdf : ((((tnew (r.target :: names l)).length : Nat) : Int) == 1 + (i : Int)) = false := by rw [beq_eq_false_iff_ne]; omega
          refine wp_region_held (S := fun v1 => Below wr.heap.size wr v1) (by kernel_rfl) ?_
          have hS : Below wr.heap.size wr wr.drew := (Below.refl _ wr).drew
          refine h_take 0 (rcv r A i c) rfl (by kernel_rfl) (by kernel_rfl) (by kernel_rfl) (fun _ _ _ h => h) (by kernel_rfl) hS (by intro v1 hv; have q0 := (hv.cell (p := ⟨w.heap.size, 0, none⟩) HZ.out).trans (at_cell (i := 0) HBX.out rfl); have q1 := (hv.cell (p := ⟨w.heap.size, 1, none⟩) HZ.out).trans (at_cell (i := 1) HBX.out rfl); have q2 := (hv.cell (p := ⟨w.heap.size, 2, none⟩) HZ.out).trans (at_cell (i := 2) HBX.out rfl); have q3 := (hv.cell (p := ⟨w.heap.size, 3, none⟩) HZ.out).trans (at_cell (i := 3) HBX.out rfl); have q4 := (hv.cell (p := ⟨w.heap.size, 4, none⟩) HZ.out).trans (at_cell (i := 4) HBX.out rfl); have q5 := (hv.cell (p := ⟨w.heap.size, 5, none⟩) HZ.out).trans (at_cell (i := 5) HBX.out rfl); have q6 := (hv.cell (p := ⟨w.heap.size, 6, none⟩) HZ.out).trans (at_cell (i := 6) HBX.out rfl); go_simp; rfl) ?_
          refine h_take 3 (.pointer (some ⟨w.heap.size, 3, none⟩)) rfl (by kernel_rfl) (by kernel_rfl) (by kernel_rfl) (fun _ _ _ h => h) (by kernel_rfl) hS (fun _ _ => by kernel_rfl) ?_
          refine h_take 4 (.slice A i c) rfl (by kernel_rfl) (by kernel_rfl) (by kernel_rfl) (fun _ _ _ h => h) (by kernel_rfl) hS (by intro v1 hv; have q3 := (hv.cell (p := ⟨w.heap.size, 3, none⟩) HZ.out).trans (at_cell (i := 3) HBX.out rfl); go_simp; try rfl) ?_
          refine h_take 5 (.int .i64 (i : Int)) rfl (by kernel_rfl) (by kernel_rfl) (by kernel_rfl) (fun _ _ _ h => h) (by kernel_rfl) hS (by intro v1 hv; go_simp) ?_
          refine h_take 6 (.int .i64 (1 + (i : Int))) rfl (by kernel_rfl) (by kernel_rfl) (by kernel_rfl) (fun _ _ _ h => h) (by kernel_rfl) hS (by intro v1 hv; go_simp; exact wrap_small (by omega) (by omega)) ?_
          refine h_one 1 rfl (by kernel_rfl) (by kernel_rfl) (fun K hK => ?_)
          go_simp
          refine HNM.out.mono ?_
          rintro e w2 ⟨tb, rfl, htb0, htb1, htab, hb2⟩
          have hb3 : Below wr.heap.size wr.drew w2 := hb2
          have hS2 : Below wr.heap.size wr w2 := (Below.refl _ wr).drew.trans hb2
          refine hK _ _ hS2 ?_
          clear hK K
          refine h_one 2 rfl (by kernel_rfl) (by kernel_rfl) (fun K hK => ?_)
          go_simp
          refine (Len_any _ tb _ _ w2 htab).mono ?_
          rintro e w3 ⟨rfl, rfl⟩
          refine hK _ _ hS2 ?_
          clear hK K
          refine h_take 7 (.bool false) rfl (by kernel_rfl) (by kernel_rfl) (by kernel_rfl) (fun _ _ _ h => h) (by kernel_rfl) hS2 (by intro v1 hv; go_simp) ?_
          refine h_take 8 (.bool false) rfl (by kernel_rfl) (by kernel_rfl) (by kernel_rfl) (fun _ _ _ h => h) (by kernel_rfl) hS2 (fun _ _ => by kernel_rfl) ?_
          refine wpAnyH_done (by kernel_rfl) ?_ _
          go_simp
          go_wp2
          go_ret
          exact ⟨tells_false HP.out, HBR.out.drew.trans (hb3.mono (by show w.heap.size ≤ wr.heap.size; exact Nat.le_of_lt HZ.out))⟩
  · have d16 : decide ((n : Int) > 16) = true := decide_eq_true (by omega)
    have HP : Hid (¬ DepsP v r l) := fun h => h16 (by have := h.1; rw [HL.out] at this; exact this)
    unfold rcells at *
    unfold rcv rsv
    go_enter Try.func44, Try.ntmps44
    go_wp2
    go_ret
    exact ⟨tells_false HP.out, HB0.out⟩

end Go.Proofs.Ytfidfhajnobonaa

/- record.May. -/
namespace Go.Proofs.Ytfidfhajnobonaa
open Go.RowKit

def GoneP (r : Rc) (l : List Dp) : Prop := r = ⟨2, r.target, 0, 0, 0, []⟩ ∧ l = []
/-- A record may be at a version. -/
def MayP (v : Int) (r : Rc) (l : List Dp) : Prop := 1 ≤ v ∧ v ≤ 3 ∧ isName r.target = true ∧ ((r.kind = 1 ∧ TimeP v r ∧ TagP v r ∧ DepsP v r l) ∨ (r.kind = 2 ∧ GoneP r l))
/-- No text is longer than there can be one. -/
def Fits (r : Rc) (l : List Dp) : Prop := r.target.length ≤ maxLen ∧ r.tag.length ≤ maxLen ∧ ∀ d ∈ l, d.name.length ≤ maxLen

theorem Tells.iff {P Q : Prop} {e : Ending} (h : Tells P e) (hpq : P ↔ Q) : Tells Q e := by
  obtain ⟨q, h1, h2⟩ := h
  exact ⟨q, h1.trans hpq, h2⟩
theorem Tells.yes {P : Prop} {e : Ending} (h : Tells P e) (hp : P) : e = .returned (.bool true) := by
  obtain ⟨q, h1, h2⟩ := h
  rw [h2, h1.2 hp]
theorem Tells.no {P : Prop} {e : Ending} (h : Tells P e) (hp : ¬ P) : e = .returned (.bool false) := by
  obtain ⟨q, h1, h2⟩ := h
  rw [h2, show q = false from by rw [← Bool.not_eq_true, h1]; exact hp]

set_option maxRecDepth 100000 in
set_option maxHeartbeats 2000000 in
theorem may_any (v : Int) (r : Rc) (A : Option Addr) (n c : Nat) (l : List Dp) (hn : n ≤ 1000) (hfit : Fits r l) (w : World) (h : Reads w w.heap.size 3 A n (dps l)) :
    Calls Try.prog 22 #[.int .i64 v, rcv r A n c] w fun e w' => Tells (MayP v r l) e ∧ Below w.heap.size w w' := by
  have hz : (w.alloc (.cells (rcells r A n c) 26)).heap.size = w.heap.size + 1 := by simp
  have H0 := Lib.hid (one_new w (.cells (rcells r A n c) 26))
  have HB0 := Lib.hid ((Below.refl w.heap.size w).alloc (Nat.le_refl _) (.cells (rcells r A n c) 26))
  have HTIME : Hid (∀ W, Calls Try.prog 42 #[.int .i64 v, rcv r A n c] W fun e w' => Tells (TimeP v r) e ∧ Below W.heap.size W w') := fun W => (time_any v r A n c W).mono fun e w' ⟨q, h1, h2, h3⟩ => ⟨⟨q, h1, h2⟩, h3⟩
  have HTAG : Hid (∀ W, Calls Try.prog 43 #[.int .i64 v, rcv r A n c] W fun e w' => Tells (TagP v r) e ∧ Below W.heap.size W w') := fun W => (tag_any v r A n c W).mono fun e w' ⟨q, h1, h2, h3⟩ => ⟨⟨q, h1, h2⟩, h3⟩
  have HDEPS : Hid (∀ W, Below w.heap.size w W → Calls Try.prog 44 #[.int .i64 v, rcv r A n c] W fun e w' => Tells (DepsP v r l) e ∧ Below W.heap.size W w') := fun W hb => deps_any v r A n c l hn hfit.1 hfit.2.2 W ((h.below hb).more hb.size)
  have HSAME : Hid (∀ W, Below w.heap.size w W → Calls Try.prog 45 #[rcv r A n c, rcv ⟨2, r.target, 0, 0, 0, []⟩ none 0 0] W fun e w' => Tells (GoneP r l) e ∧ Below W.heap.size W w') := fun W hb =>
    (same_any r ⟨2, r.target, 0, 0, 0, []⟩ A none n 0 c 0 l [] (by omega) W ((h.below hb).more hb.size) Reads.none_).mono fun e w' ⟨q, h1, h2, h3⟩ => ⟨⟨q, h1, h2⟩, h3⟩
  obtain ⟨k, t, u, o, m, g⟩ := r
  have HNAME := Lib.hid (name_any t)
  clear h hfit
  generalize hW : w.alloc (.cells (rcells ⟨k, t, u, o, m, g⟩ A n c) 26) = W0 at *
  have CELL : ∀ {i : Nat} {x : Value}, (rcells ⟨k, t, u, o, m, g⟩ A n c)[i]? = some x → ∀ {W : World}, Below (w.heap.size + 1) W0 W → W.cell? ⟨w.heap.size, i, none⟩ = some x := fun hi W hb => (hb.cell (p := ⟨w.heap.size, _, none⟩) (show w.heap.size < w.heap.size + 1 by omega)).trans (at_cell H0.out hi)
  have hs := Below.refl (w.heap.size + 1) W0
  have q0 := CELL (i := 0) rfl hs
  have q1 := CELL (i := 1) rfl hs
  have q2 := CELL (i := 2) rfl hs
  have q3 := CELL (i := 3) rfl hs
  have q4 := CELL (i := 4) rfl hs
  have q5 := CELL (i := 5) rfl hs
  have q6 := CELL (i := 6) rfl hs
  subst hW
  have HZ := Lib.hid hz
  have HCELL : Hid (∀ {i : Nat} {x : Value}, (rcells ⟨k, t, u, o, m, g⟩ A n c)[i]? = some x → ∀ {W : World}, Below (w.heap.size + 1) (w.alloc (.cells (rcells ⟨k, t, u, o, m, g⟩ A n c) 26)) W → W.cell? ⟨w.heap.size, i, none⟩ = some x) := CELL
  clear CELL hs hz
  unfold rcells at *
  unfold rcv rsv at *
  by_cases hv1 : v < 1
  · have HP : Hid (¬ MayP v ⟨k, t, u, o, m, g⟩ l) := fun h => by have := h.1; omega
    have d1 : decide (v < 1) = true := decide_eq_true hv1
    go_enter Try.func22, Try.ntmps22
    go_wp2
    go_ret
    exact ⟨tells_false HP.out, HB0.out⟩
  have d1 : decide (v < 1) = false := decide_eq_false hv1
  by_cases hv3 : 3 < v
  · have HP : Hid (¬ MayP v ⟨k, t, u, o, m, g⟩ l) := fun h => by have := h.2.1; omega
    have d3 : decide (v > 3) = true := decide_eq_true hv3
    go_enter Try.func22, Try.ntmps22
    go_wp2
    go_ret
    exact ⟨tells_false HP.out, HB0.out⟩
  have d3 : decide (v > 3) = false := decide_eq_false hv3
  cases hq : isName t
  · have HP : Hid (¬ MayP v ⟨k, t, u, o, m, g⟩ l) := fun h => by have h2 : isName t = true := h.2.2.1; rw [hq] at h2; cases h2
    rw [hq] at HNAME
    go_enter Try.func22, Try.ntmps22
    go_wp2_with (go_at_call 41; refine (HNAME.out _).mono ?_; rintro e w2 ⟨rfl, rfl⟩)
    go_ret
    exact ⟨tells_false HP.out, HB0.out⟩
  rw [hq] at HNAME
  by_cases hk1 : k = 1
  · subst hk1
    by_cases hT : TimeP v ⟨1, t, u, o, m, g⟩
    · have HT : Hid (∀ W, Calls Try.prog 42 #[.int .i64 v, .agg #[.int .i64 1, .string (tx t), .int .u64 u, .slice A n c, .int .u64 o, .int .u64 m, .string (tx g)]] W fun e w' => e = .returned (.bool true) ∧ Below W.heap.size W w') := fun W => (HTIME.out W).mono fun e w' ⟨h1, h2⟩ => ⟨h1.yes hT, h2⟩
      by_cases hG : TagP v ⟨1, t, u, o, m, g⟩
      · have HG : Hid (∀ W, Calls Try.prog 43 #[.int .i64 v, .agg #[.int .i64 1, .string (tx t), .int .u64 u, .slice A n c, .int .u64 o, .int .u64 m, .string (tx g)]] W fun e w' => e = .returned (.bool true) ∧ Below W.heap.size W w') := fun W => (HTAG.out W).mono fun e w' ⟨h1, h2⟩ => ⟨h1.yes hG, h2⟩
        have HD : Hid (∀ W, Below w.heap.size w W → Calls Try.prog 44 #[.int .i64 v, .agg #[.int .i64 1, .string (tx t), .int .u64 u, .slice A n c, .int .u64 o, .int .u64 m, .string (tx g)]] W fun e w' => ∃ q : Bool, e = .returned (.bool q) ∧ Hid (Tells (MayP v ⟨1, t, u, o, m, g⟩ l) e) ∧ Below W.heap.size W w') := fun W hb => (HDEPS.out W hb).mono fun e w' ⟨h1, h2⟩ => by
          have h3 : Tells (MayP v ⟨1, t, u, o, m, g⟩ l) e := h1.iff ⟨fun hd => ⟨by omega, by omega, hq, .inl ⟨rfl, hT, hG, hd⟩⟩, fun hm => by rcases hm.2.2.2 with h | h; exact h.2.2.2; exact absurd h.1 (by simp)⟩
          obtain ⟨q, _, h5⟩ := h1
          exact ⟨q, h5, h3, h2⟩
        clear HTIME HTAG HDEPS HSAME hT hG
        go_enter Try.func22, Try.ntmps22
        go_wp2_with (first
          | (go_at_call 44; refine (HD.out _ (HB3.out.drew)).mono ?_; rintro e w4 ⟨q, rfl, hq4, hb4⟩; have HB4 := Lib.hid (HB3.out.trans (hb4.mono HB3.out.size)))
          | (go_at_call 44; refine (HD.out _ (HB3.out)).mono ?_; rintro e w4 ⟨q, rfl, hq4, hb4⟩; have HB4 := Lib.hid (HB3.out.trans (hb4.mono HB3.out.size)))
          | (go_at_call 43; refine (HG.out _).mono ?_; rintro e w3 ⟨rfl, hb3⟩; have HB3 := Lib.hid (HB2.out.trans (hb3.mono HB2.out.size)); have HS3 := Lib.hid (HS2.out.trans (hb3.mono HS2Z.out)); have hs30 := HCELL.out (i := 0) rfl HS3.out; have hs31 := HCELL.out (i := 1) rfl HS3.out; have hs32 := HCELL.out (i := 2) rfl HS3.out; have hs33 := HCELL.out (i := 3) rfl HS3.out; have hs34 := HCELL.out (i := 4) rfl HS3.out; have hs35 := HCELL.out (i := 5) rfl HS3.out; have hs36 := HCELL.out (i := 6) rfl HS3.out; clear hb3)
          | (go_at_call 42; refine (HT.out _).mono ?_; rintro e w2 ⟨rfl, hb2⟩; have HB2 := Lib.hid (HB0.out.trans (hb2.mono HB0.out.size)); have HS2 := Lib.hid (hb2.mono (Nat.le_of_eq HZ.out.symm)); have HS2Z : Hid (w.heap.size + 1 ≤ w2.heap.size) := by { have h1 := hb2.size; rw [HZ.out] at h1; exact h1 }; have hs20 := HCELL.out (i := 0) rfl HS2.out; have hs21 := HCELL.out (i := 1) rfl HS2.out; have hs22 := HCELL.out (i := 2) rfl HS2.out; have hs23 := HCELL.out (i := 3) rfl HS2.out; have hs24 := HCELL.out (i := 4) rfl HS2.out; have hs25 := HCELL.out (i := 5) rfl HS2.out; have hs26 := HCELL.out (i := 6) rfl HS2.out; clear hb2)
          | (go_at_call 41; refine (HNAME.out _).mono ?_; rintro e w2 ⟨rfl, rfl⟩))
        go_ret
        exact ⟨hq4.out, HB4.out⟩
      · have HG : Hid (∀ W, Calls Try.prog 43 #[.int .i64 v, .agg #[.int .i64 1, .string (tx t), .int .u64 u, .slice A n c, .int .u64 o, .int .u64 m, .string (tx g)]] W fun e w' => e = .returned (.bool false) ∧ Below W.heap.size W w') := fun W => (HTAG.out W).mono fun e w' ⟨h1, h2⟩ => ⟨h1.no hG, h2⟩
        have HP : Hid (¬ MayP v ⟨1, t, u, o, m, g⟩ l) := fun hm => by rcases hm.2.2.2 with h | h; exact hG h.2.2.1; exact absurd h.1 (by simp)
        clear HTIME HTAG HDEPS HSAME hT hG
        go_enter Try.func22, Try.ntmps22
        go_wp2_with (first
          | (go_at_call 43; refine (HG.out _).mono ?_; rintro e w3 ⟨rfl, hb3⟩; have HB3 := Lib.hid (HB2.out.trans (hb3.mono HB2.out.size)); clear hb3)
          | (go_at_call 42; refine (HT.out _).mono ?_; rintro e w2 ⟨rfl, hb2⟩; have HB2 := Lib.hid (HB0.out.trans (hb2.mono HB0.out.size)); have HS2 := Lib.hid (hb2.mono (Nat.le_of_eq HZ.out.symm)); have hs20 := HCELL.out (i := 0) rfl HS2.out; have hs21 := HCELL.out (i := 1) rfl HS2.out; have hs22 := HCELL.out (i := 2) rfl HS2.out; have hs23 := HCELL.out (i := 3) rfl HS2.out; have hs24 := HCELL.out (i := 4) rfl HS2.out; have hs25 := HCELL.out (i := 5) rfl HS2.out; have hs26 := HCELL.out (i := 6) rfl HS2.out; clear hb2)
          | (go_at_call 41; refine (HNAME.out _).mono ?_; rintro e w2 ⟨rfl, rfl⟩))
        go_ret
        exact ⟨tells_false HP.out, HB3.out⟩
    · have HT : Hid (∀ W, Calls Try.prog 42 #[.int .i64 v, .agg #[.int .i64 1, .string (tx t), .int .u64 u, .slice A n c, .int .u64 o, .int .u64 m, .string (tx g)]] W fun e w' => e = .returned (.bool false) ∧ Below W.heap.size W w') := fun W => (HTIME.out W).mono fun e w' ⟨h1, h2⟩ => ⟨h1.no hT, h2⟩
      have HP : Hid (¬ MayP v ⟨1, t, u, o, m, g⟩ l) := fun hm => by rcases hm.2.2.2 with h | h; exact hT h.2.1; exact absurd h.1 (by simp)
      clear HTIME HTAG HDEPS HSAME hT
      go_enter Try.func22, Try.ntmps22
      go_wp2_with (first
        | (go_at_call 42; refine (HT.out _).mono ?_; rintro e w2 ⟨rfl, hb2⟩; have HB2 := Lib.hid (HB0.out.trans (hb2.mono HB0.out.size)); clear hb2)
        | (go_at_call 41; refine (HNAME.out _).mono ?_; rintro e w2 ⟨rfl, rfl⟩))
      go_ret
      exact ⟨tells_false HP.out, HB2.out⟩
  · have d4 : decide (k = 1) = false := decide_eq_false hk1
    have d5 : (k == 1) = false := by rw [beq_eq_false_iff_ne]; exact hk1
    by_cases hk2 : k = 2
    · subst hk2
      have HD : Hid (∀ W, Below w.heap.size w W → Calls Try.prog 45 #[.agg #[.int .i64 2, .string (tx t), .int .u64 u, .slice A n c, .int .u64 o, .int .u64 m, .string (tx g)], .agg #[.int .i64 2, .string (tx t), .int .u64 0, .slice none 0 0, .int .u64 0, .int .u64 0, .string (tx [])]] W fun e w' => ∃ q : Bool, e = .returned (.bool q) ∧ Hid (Tells (MayP v ⟨2, t, u, o, m, g⟩ l) e) ∧ Below W.heap.size W w') := fun W hb => (HSAME.out W hb).mono fun e w' ⟨h1, h2⟩ => by
        have h3 : Tells (MayP v ⟨2, t, u, o, m, g⟩ l) e := h1.iff ⟨fun hd => ⟨by omega, by omega, hq, .inr ⟨rfl, hd⟩⟩, fun hm => by rcases hm.2.2.2 with h | h; exact absurd h.1 (by simp); exact h.2⟩
        obtain ⟨q, _, h5⟩ := h1
        exact ⟨q, h5, h3, h2⟩
      have htx : tx [] = ({ data := #[] } : ByteArray) := rfl
      rw [htx] at HD
      clear HTIME HTAG HDEPS HSAME htx
      go_enter Try.func22, Try.ntmps22
      go_wp2_with (first
        | (go_at_call 45; refine (HD.out _ HB0.out).mono ?_; rintro e w4 ⟨q, rfl, hq4, hb4⟩; have HB4 := Lib.hid (HB0.out.trans (hb4.mono HB0.out.size)))
        | (go_at_call 41; refine (HNAME.out _).mono ?_; rintro e w2 ⟨rfl, rfl⟩))
      go_ret
      exact ⟨hq4.out, HB4.out⟩
    · have HP : Hid (¬ MayP v ⟨k, t, u, o, m, g⟩ l) := fun hm => by rcases hm.2.2.2 with h | h; exact hk1 h.1; exact hk2 h.1
      have d6 : decide (k = 2) = false := decide_eq_false hk2
      have d7 : (k == 2) = false := by rw [beq_eq_false_iff_ne]; exact hk2
      clear HTIME HTAG HDEPS HSAME hk1 hk2
      go_enter Try.func22, Try.ntmps22
      go_wp2_with (first
        | (go_at_call 41; refine (HNAME.out _).mono ?_; rintro e w2 ⟨rfl, rfl⟩))
      go_ret
      exact ⟨tells_false HP.out, HB0.out⟩

end Go.Proofs.Ytfidfhajnobonaa

/- Great, told outright. -/
namespace Go.Proofs.Ytfidfhajnobonaa
open Go.RowKit

set_option maxRecDepth 100000 in
set_option maxHeartbeats 1000000 in
theorem great_says (r : Rc) (A : Option Addr) (n c : Nat) (l : List Dp) (w : World) (hn : n ≤ maxLen) (hfit : ∀ d ∈ l, d.name.length ≤ maxLen) (ht : r.target.length ≤ maxLen) (hg : r.tag.length ≤ maxLen) (h : Reads w w.heap.size 3 A n (dps l)) :
    Calls Try.prog 8 #[rcv r A n c] w fun e w' => Tells (¬ small r l) e ∧ Below w.heap.size w w' := by
  have HL : Hid (l.length = n) := by have := h.1; rw [dps_len] at this; show _ = _; omega
  have H1 := Lib.hid h
  have HF := Lib.hid hfit
  have hm : Hid (maxLen = 9223372036854775807 ∨ True) := .inr trivial
  have hbx := Lib.hid ((Below.refl w.heap.size w).alloc (Nat.le_refl _) (.cells #[.int .i64 r.kind, .string (tx r.target), .int .u64 r.rule, .slice A n c, .int .u64 r.out, .int .u64 r.time, .string (tx r.tag)] 26))
  have hnb : Hid ((w.alloc (.cells #[.int .i64 r.kind, .string (tx r.target), .int .u64 r.rule, .slice A n c, .int .u64 r.out, .int .u64 r.time, .string (tx r.tag)] 26)).heap[w.heap.size]? = some (.cells #[.int .i64 r.kind, .string (tx r.target), .int .u64 r.rule, .slice A n c, .int .u64 r.out, .int .u64 r.time, .string (tx r.tag)] 26 (0, 0))) := by show (w.heap.push _)[w.heap.size]? = _; exact Array.getElem?_push_size
  unfold rcv rsv
  have hs1 := tx_size0 r.target
  have hs2 := tx_size0 r.tag
  unfold maxLen at hn ht hg
  clear h hfit
  go_enter Try.func8, Try.ntmps8
  go_wp2
  go_loopw [8] (fun idx wr => ∃ i : Nat, i ≤ n ∧ idx = .int .i64 (i : Int) ∧ (∀ d ∈ l.take i, d.name.length ≤ 300) ∧ Below w.heap.size w wr ∧ wr.heap[w.heap.size]? = some (.cells #[.int .i64 r.kind, .string (tx r.target), .int .u64 r.rule, .slice A n c, .int .u64 r.out, .int .u64 r.time, .string (tx r.tag)] 26 (0, 0))) (fun idx wr => n - (intOf idx).toNat)
  case atStart => exact ⟨0, by omega, rfl, by simp, hbx.out, hnb.out⟩
  case round =>
    obtain ⟨i, hi, rfl, hsm, hb, hbl⟩ := hrel
    have HSM := Lib.hid hsm
    have q1 := at_cell (i := 1) hbl rfl
    have q3 := at_cell (i := 3) hbl rfl
    have q6 := at_cell (i := 6) hbl rfl
    clear hsm
    by_cases hlt : i < n
    · obtain ⟨x, hx⟩ : ∃ x, l[i]? = some x := ⟨_, List.getElem?_eq_getElem (by rw [HL.out]; exact hlt)⟩
      obtain ⟨ad, rfl, _, hcx⟩ := (H1.out.below hb).2 (by omega)
      obtain ⟨x0, x1, x2⟩ := dps_at l i x hx
      have k0 := hcx _ _ x0
      have k1 := hcx _ _ x1
      have k2 := hcx _ _ x2
      rw [add_one] at k1
      rw [add_two] at k2
      have hxl := HF.out x (List.mem_of_getElem? hx)
      obtain ⟨xn, xh, xo⟩ := x
      simp only at k0 k1 k2 hxl
      have hs3 := tx_size0 xn
      obtain ⟨m, hm⟩ : ∃ m, m = xn.length := ⟨_, rfl⟩
      rw [← hm] at hs3 hxl
      unfold rsv at k0
      unfold maxLen at hxl
      have HX : Hid (m ≤ 300 → ∀ d ∈ l.take (i + 1), d.name.length ≤ 300) := fun hle d hd => by
        rw [List.take_add_one, hx, List.mem_append] at hd
        rcases hd with hd | hd
        · exact HSM.out d hd
        · simp at hd; subst hd; exact hm ▸ hle
      have HNS : Hid (¬ m ≤ 300 → ¬ small r l) := fun hle h => hle (by rw [hm]; exact h.1 ⟨xn, xh, xo⟩ (List.mem_of_getElem? hx))
      have HBR := Lib.hid hb
      have HBL := Lib.hid hbl
      have hi0 : (0 : Int) ≤ (i : Int) := by omega
      have hi1 : (i : Int) < (n : Int) := by omega
      have HBN := Lib.hid (hb.alloc hb.size (.cells #[.string (tx xn), .int .u64 xh, .bool xo] 56))
      have HBLN := Lib.hid ((Below.heap_alloc wr (.cells #[.string (tx xn), .int .u64 xh, .bool xo] 56) w.heap.size (by
        rcases Nat.lt_or_ge w.heap.size wr.heap.size with h | h
        · exact h
        · rw [Array.getElem?_eq_none h] at hbl; cases hbl)).trans hbl)
      clear hcx x0 x1 x2 hx hb hbl hm
      by_cases h300 : m ≤ 300
      · have hd1 : decide ((m : Int) > 300) = false := by rw [decide_eq_false_iff_not]; omega
        go_wp2
        exact ⟨⟨i + 1, by omega, by go_num, HX.out h300, HBN.out, HBLN.out⟩, by simp [intOf]; omega⟩
      · have hd1 : decide ((m : Int) > 300) = true := by rw [decide_eq_true_iff]; omega
        have HN2 := Lib.hid (HNS.out h300)
        go_wp2
        go_ret
        exact ⟨tells_true HN2.out, HBN.out⟩
    · obtain rfl : i = n := by omega
      have HBR := Lib.hid hb
      rw [List.take_of_length_le (by rw [HL.out]; omega)] at HSM
      clear hb hbl
      by_cases hA : i ≤ 60 ∧ r.target.length ≤ 300 ∧ r.tag.length ≤ 300
      · have HQ : Hid (small r l) := ⟨HSM.out, by rw [HL.out]; exact hA.1, hA.2⟩
        obtain ⟨g1, g2, g3⟩ := hA
        go_wp2
        go_ret
        exact ⟨by first | exact tells_false (fun h => h HQ.out) | (refine (show ∀ {b : Bool}, b = false → Tells (¬ small r l) (.returned (.bool b)) from fun h => h ▸ tells_false (fun h => h HQ.out)) ?_; simp; omega), HBR.out⟩
      · have HNS : Hid (¬ small r l) := fun h => hA ⟨by have := h.2.1; rw [HL.out] at this; exact this, h.2.2⟩
        have END : Hid (∀ b : Bool, b = true → Tells (¬ small r l) (.returned (.bool b))) := fun b h => h ▸ tells_true HNS.out
        by_cases g1 : i ≤ 60
        · by_cases g2 : r.target.length ≤ 300
          · have g3 : 300 < r.tag.length := by omega
            clear hA
            go_wp2
            go_ret
            exact ⟨END.out _ (by first | rfl | (simp; omega)), HBR.out⟩
          · clear hA
            go_wp2
            go_ret
            exact ⟨END.out _ (by first | rfl | (simp; omega)), HBR.out⟩
        · clear hA
          go_wp2
          go_ret
          exact ⟨END.out _ (by first | rfl | (simp; omega)), HBR.out⟩

end Go.Proofs.Ytfidfhajnobonaa

/- The plain mathematics of reading a number's bytes: what is read is what was laid, and has just these bytes. -/
namespace Go.Proofs.Ytfidfhajnobonaa

theorem u8_back (c : UInt8) : UInt8.ofNat c.toNat = c := by simp

/-- What is read has just the bytes that were read. -/
theorem gr_ok : ∀ (ys : List UInt8) (i a n k : Nat), i ≤ 9 → gr i a ys = (n, k, 0) →
    ∃ m j, n = a + m * 128 ^ i ∧ k = i + j ∧ 1 ≤ j ∧ j ≤ ys.length ∧ vb m = ys.take j ∧ (i = 0 ∨ m ≠ 0) ∧ (m + 1) * 128 ^ i ≤ top
  | [], i, a, n, k, _, h => by rw [gr] at h; simp at h
  | c :: l, i, a, n, k, hi, h => by
    by_cases hok : ¬ (i = 9 ∧ 1 < c.toNat) ∧ (i = 0 ∨ c.toNat ≠ 0)
    · by_cases h128 : c.toNat < 128
      · rw [gr_last hok h128] at h
        simp only [Prod.mk.injEq] at h
        refine ⟨c.toNat, 1, h.1.symm, h.2.1.symm, Nat.le_refl _, by simp, ?_, hok.2, ?_⟩
        · rw [vb_lt h128, u8_back]; simp
        · by_cases h9 : i = 9
          · subst h9
            have h1 : c.toNat ≤ 1 := by have := hok.1; omega
            have h2 : (c.toNat + 1) * 128 ^ 9 ≤ 2 * 128 ^ 9 := Nat.mul_le_mul_right _ (by omega)
            unfold top; omega
          · have h1 : 128 ^ i ≤ 128 ^ 8 := Nat.pow_le_pow_right (by omega) (by omega)
            have h2 : (c.toNat + 1) * 128 ^ i ≤ 128 * 128 ^ 8 := Nat.mul_le_mul (by omega) h1
            unfold top; omega
      · rw [gr_on hok h128] at h
        have hi8 : i ≤ 8 := by have := hok.1; omega
        obtain ⟨m, j, hn, hk, hj, hjl, hv, hm, ht⟩ := gr_ok l (i + 1) _ n k (by omega) h
        have hm0 : m ≠ 0 := by omega
        have hc := c.toNat_lt
        refine ⟨c.toNat % 128 + 128 * m, j + 1, ?_, by omega, by omega, by simpa using hjl, ?_, .inr (by omega), ?_⟩
        · rw [hn, Nat.pow_succ, Nat.add_mul]
          have : 128 * m * 128 ^ i = m * (128 ^ i * 128) := by rw [Nat.mul_comm 128 m, Nat.mul_assoc, Nat.mul_comm 128]
          omega
        · rw [vb_ge (by omega)]
          have e1 : (c.toNat % 128 + 128 * m) / 128 = m := by omega
          have e2 : (c.toNat % 128 + 128 * m) % 128 + 128 = c.toNat := by omega
          rw [e1, e2, u8_back, hv]
          simp
        · rw [Nat.pow_succ] at ht
          have h1 : (c.toNat % 128 + 128 * m + 1) * 128 ^ i ≤ (128 * (m + 1)) * 128 ^ i := Nat.mul_le_mul_right _ (by omega)
          have h2 : (128 * (m + 1)) * 128 ^ i = (m + 1) * (128 ^ i * 128) := by rw [Nat.mul_comm 128 (m + 1), Nat.mul_assoc, Nat.mul_comm 128]
          omega
    · rw [gr_bad hok] at h; simp at h

theorem gr_three : ∀ (ys : List UInt8) (i a : Nat), gr i a ys = (0, 0, 2) ∨ gr i a ys = (0, 0, 3) ∨ ∃ n k, gr i a ys = (n, k, 0)
  | [], i, a => .inl (by rw [gr])
  | c :: l, i, a => by
    by_cases hok : ¬ (i = 9 ∧ 1 < c.toNat) ∧ (i = 0 ∨ c.toNat ≠ 0)
    · by_cases h128 : c.toNat < 128
      · exact .inr (.inr ⟨_, _, gr_last hok h128⟩)
      · rw [gr_on hok h128]
        exact gr_three l (i + 1) _
    · exact .inr (.inl (gr_bad hok))

theorem gr_ok0 {ys : List UInt8} {n k : Nat} (h : gr 0 0 ys = (n, k, 0)) : n < top ∧ 1 ≤ k ∧ k ≤ ys.length ∧ vb n = ys.take k := by
  obtain ⟨m, j, hn, hk, h1, h2, h3, _, h4⟩ := gr_ok ys 0 0 n k (by omega) h
  have e : m = n := by simpa using hn.symm
  have e2 : j = k := by omega
  subst e; subst e2
  exact ⟨by have : (m + 1) * 128 ^ 0 = m + 1 := by simp
            omega, h1, h2, h3⟩

/-- What was laid is read, whatever stands behind. -/
theorem gr_laid (tail : List UInt8) : ∀ (m i a : Nat), i ≤ 9 → (i = 0 ∨ m ≠ 0) → (m + 1) * 128 ^ i ≤ top → gr i a (vb m ++ tail) = (a + m * 128 ^ i, i + (vb m).length, 0) := by
  intro m
  induction m using Nat.strongRecOn with
  | ind m ih =>
    intro i a hi hm ht
    by_cases h1 : m < 128
    · rw [vb_lt h1]
      have e : (UInt8.ofNat m).toNat = m := u8_ofNat m (by omega)
      show gr i a (UInt8.ofNat m :: tail) = _
      rw [gr_last (by
        rw [e]
        refine ⟨fun h => ?_, hm⟩
        obtain ⟨rfl, h2⟩ := h
        have h3 : 3 * 128 ^ 9 ≤ (m + 1) * 128 ^ 9 := Nat.mul_le_mul_right _ (by omega)
        unfold top at ht; omega) (by rw [e]; exact h1), e]
      simp
    · rw [vb_ge (by omega)]
      have e : (UInt8.ofNat (m % 128 + 128)).toNat = m % 128 + 128 := u8_ofNat _ (by omega)
      show gr i a (UInt8.ofNat (m % 128 + 128) :: (vb (m / 128) ++ tail)) = _
      have hi8 : i ≤ 8 := by
        rcases Nat.lt_or_ge i 9 with h | h
        · omega
        · have : i = 9 := by omega
          subst this
          have h3 : 3 * 128 ^ 9 ≤ (m + 1) * 128 ^ 9 := Nat.mul_le_mul_right _ (by omega)
          unfold top at ht; omega
      rw [gr_on (by rw [e]; omega) (by rw [e]; omega), e]
      have hp : (m / 128 + 1) * 128 ^ (i + 1) ≤ top := by
        by_cases h8 : i = 8
        · subst h8
          have h4 : (m + 1) * 128 ^ 8 ≤ top := ht
          have h5 : m + 1 ≤ 256 := by
            rcases Nat.lt_or_ge 256 (m + 1) with h | h
            · have h6 : 257 * 128 ^ 8 ≤ (m + 1) * 128 ^ 8 := Nat.mul_le_mul_right _ (by omega)
              unfold top at h4; omega
            · exact h
          have h7 : m / 128 + 1 ≤ 2 := by omega
          have h8 : (m / 128 + 1) * 128 ^ 9 ≤ 2 * 128 ^ 9 := Nat.mul_le_mul_right _ h7
          unfold top; omega
        · -- 128^(9) divides top: so does the power
          obtain ⟨d, hd⟩ : ∃ d, 9 = i + 1 + d := ⟨9 - (i + 1), by omega⟩
          have htop : top = 2 * 128 ^ d * 128 ^ (i + 1) := by
            have : (128 : Nat) ^ 9 = 128 ^ (i + 1) * 128 ^ d := by rw [hd, Nat.pow_add]
            have h9 : top = 2 * 128 ^ 9 := by unfold top; omega
            rw [h9, this, Nat.mul_assoc, Nat.mul_comm (128 ^ d)]
          have hm1 : m + 1 ≤ 2 * 128 ^ d * 128 := by
            rw [htop, Nat.pow_succ, ← Nat.mul_assoc, Nat.mul_right_comm] at ht
            exact Nat.le_of_mul_le_mul_right ht (Nat.pow_pos (by omega))
          rw [htop]
          exact Nat.mul_le_mul_right _ (by omega)
      rw [ih (m / 128) (by omega) (i + 1) _ (by omega) (.inr (by omega)) hp]
      have e3 : m = m % 128 + 128 * (m / 128) := by omega
      have e4 : a + (m % 128 + 128) % 128 * 128 ^ i + m / 128 * 128 ^ (i + 1) = a + m * 128 ^ i := by
        have e5 : (m % 128 + 128) % 128 = m % 128 := by omega
        rw [e5, Nat.pow_succ]
        have e6 : m / 128 * (128 ^ i * 128) = 128 * (m / 128) * 128 ^ i := by rw [Nat.mul_comm (128 ^ i), ← Nat.mul_assoc, Nat.mul_comm 128]
        rw [e6, Nat.add_assoc, ← Nat.add_mul]
        exact congrArg (fun z => a + z * 128 ^ i) e3.symm
      rw [e4]
      simp; omega

theorem gr_laid0 (tail : List UInt8) (n : Nat) (h : n < top) : gr 0 0 (vb n ++ tail) = (n, (vb n).length, 0) := by
  rw [gr_laid tail n 0 0 (by omega) (.inl rfl) (by simp; omega)]
  simp

/-- Cut off within, it is too short. -/
theorem gr_cut : ∀ (m i a j : Nat), i ≤ 9 → (i = 0 ∨ m ≠ 0) → (vb m).length + i ≤ 10 → j < (vb m).length → gr i a ((vb m).take j) = (0, 0, 2) := by
  intro m
  induction m using Nat.strongRecOn with
  | ind m ih =>
    intro i a j hi hm hl hj
    cases j with
    | zero => rw [List.take_zero, gr]
    | succ j =>
      by_cases h1 : m < 128
      · rw [vb_lt h1] at hj; simp at hj
      · rw [vb_ge (by omega)] at hj hl ⊢
        have e : (UInt8.ofNat (m % 128 + 128)).toNat = m % 128 + 128 := u8_ofNat _ (by omega)
        simp only [List.length_cons] at hj hl
        have := vb_pos (m / 128)
        rw [List.take_succ_cons, gr_on (by rw [e]; omega) (by rw [e]; omega)]
        exact ih (m / 128) (by omega) (i + 1) _ j (by omega) (.inr (by omega)) (by omega) (by omega)

theorem gr_cut0 (n j : Nat) (h : n < top) (hj : j < (vb n).length) : gr 0 0 ((vb n).take j) = (0, 0, 2) :=
  gr_cut n 0 0 j (by omega) (.inl rfl) (by have := vb_len n h; omega) hj

end Go.Proofs.Ytfidfhajnobonaa
