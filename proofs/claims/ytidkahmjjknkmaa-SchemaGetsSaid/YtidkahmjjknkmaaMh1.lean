/- Texts of one proof, one behind the other. -/
import Derived.Below
import Derived.Laws.OwnMore
import Derived.Laws.CopyOwn
import Derived.Deep.AppendLies
import Derived.Deep.Draws
import Derived.OwnWalk
import Derived.Laws.IdiomStrings
import Derived.Laws.BytesArg
import Derived.Laws.Concat
import Derived.Laws.Strings
import Derived.ProofKit
import Derived.OpenShut
import Derived.Laws.AppendOwnNone
import Derived.Lib.Hide
import Derived.WalkKit
import Derived.Shelf.Abstract
import Derived.OwnWalkIn
import Derived.Maps.AppendAt
import Derived.Test.YtidkahmjjknkmaaProg
import Derived.Lib.AppendStr
import Derived.OrdersHeld
import Derived.Outline
import Derived.Laws.Bits64b
import Derived.RegionTactic
import Derived.OneCell

/- Words for memory: a slice that reads as a list (nil let in), bytes as values, and make with a length below its capacity. -/
namespace Go.Proofs.Ytidkahmjjknkmaa
open Go.RowKit

theorem block_of_add (a : Addr) (n : Nat) : (a.add n).block = a.block := by unfold Addr.add; split <;> rfl
theorem add_of_add (a : Addr) (i j : Nat) : (a.add i).add j = a.add (i + j) := by
  unfold Addr.add
  by_cases hi : i = 0 <;> by_cases hj : j = 0 <;> simp [hi, hj, Nat.add_assoc]

/-- The slice value '.slice A n c' holds the cells xs, and lies below block B. -/
def Reads (w : World) (B size : Nat) (A : Option Addr) (n : Nat) (xs : List Value) : Prop :=
  xs.length = n * size ∧ (0 < n → ∃ ad, A = some ad ∧ ad.block < B ∧ ∀ j u, xs[j]? = some u → w.cell? (ad.add j) = some u)

section
variable {w w' : World} {B B' size n : Nat} {A : Option Addr} {xs : List Value}
theorem Reads.none_ : Reads w B size A 0 [] := ⟨by simp, fun h => absurd h (by omega)⟩
theorem Reads.at_ {k : Nat} (h : Reads w B 1 A n xs) (hk : k < n) : ∃ ad u, A = some ad ∧ ad.block < B ∧ xs[k]? = some u ∧ w.cell? (ad.add k) = some u := by
  obtain ⟨ad, e, hb, hc⟩ := h.2 (by omega)
  have hl : k < xs.length := by have := h.1; omega
  exact ⟨ad, xs[k], e, hb, List.getElem?_eq_getElem hl, hc k _ (List.getElem?_eq_getElem hl)⟩
theorem Reads.keep (h : Reads w B size A n xs) (hk : ∀ p : Addr, p.block < B → w'.cell? p = w.cell? p) : Reads w' B size A n xs :=
  ⟨h.1, fun hn => by
    obtain ⟨ad, e, hb, hc⟩ := h.2 hn
    exact ⟨ad, e, hb, fun j u hu => (hk _ (by rw [block_of_add]; exact hb)).trans (hc j u hu)⟩⟩
theorem Reads.more (h : Reads w B size A n xs) (hB : B ≤ B') : Reads w B' size A n xs :=
  ⟨h.1, fun hn => by
    obtain ⟨ad, e, hb, hc⟩ := h.2 hn
    exact ⟨ad, e, by omega, hc⟩⟩
theorem Reads.below (h : Reads w B size A n xs) (hb : Below B w w') : Reads w' B size A n xs := h.keep fun _ hp => hb.cell hp
theorem Reads.drew (h : Reads w B size A n xs) : Reads w.drew B size A n xs := h
theorem Reads.drewN (h : Reads w B size A n xs) (k : Nat) : Reads (w.drewN k) B size A n xs := h
theorem Reads.alloc (h : Reads w B size A n xs) (hB : B ≤ w.heap.size) (o : Obj) : Reads (w.alloc o) B size A n xs := h.keep fun p hp => World.cell?_alloc_lt w o p (by omega)
theorem Reads.setCell (h : Reads w B size A n xs) {p : Addr} (hB : B ≤ p.block) (u : Value) : Reads (w.setCell p u) B size A n xs :=
  h.keep fun q hq => World.cell?_setCell_other w p q u (fun e => by subst e; omega)
theorem Reads.grown (h : Reads w B size A n xs) {row : Option Nat} (hg : w.grownBy w' row) (hB : B ≤ w.heap.size) (hr : ∀ g, row = some g → B ≤ g) : Reads w' B size A n xs :=
  h.keep fun p hp => World.cell?_of_block (hg.block p.block (by omega) (fun e => by have := hr _ e.symm; omega))
theorem Reads.cut (h : Reads w B size A n xs) {k cap : Nat} (hk : k ≤ n) (hc : n ≤ cap) :
    Reads w B size (if cap = k then A else A.map (·.add (k * size))) (n - k) (xs.drop (k * size)) := by
  refine ⟨by rw [List.length_drop, h.1, Nat.sub_mul], fun hn => ?_⟩
  obtain ⟨ad, rfl, hb, hcell⟩ := h.2 (by omega)
  rw [if_neg (by omega)]
  refine ⟨ad.add (k * size), rfl, by rw [block_of_add]; exact hb, fun j u hu => ?_⟩
  rw [add_of_add]
  exact hcell _ u (by rw [← hu, List.getElem?_drop])
theorem Reads.take (h : Reads w B 1 A n xs) {k : Nat} (hk : k ≤ n) : Reads w B 1 A k (xs.take k) := by
  refine ⟨by rw [List.length_take, h.1]; omega, fun hn => ?_⟩
  obtain ⟨ad, rfl, hb, hcell⟩ := h.2 (by omega)
  refine ⟨ad, rfl, hb, fun j u hu => hcell j u ?_⟩
  rw [List.getElem?_take] at hu
  split at hu
  · exact hu
  · cases hu
theorem Reads.of_own {base : Nat} {e : TypeId} {c : Nat} (h : w.ownsRow base e size (.slice A n c) n xs) : Reads w w.heap.size size A n xs := by
  refine ⟨h.1, fun hn => ?_⟩
  obtain ⟨g, cap, hv, _, hlt⟩ := h.form hn
  have hA : A = some ⟨g, 0, none⟩ := by injection hv
  subst hA
  exact ⟨_, rfl, hlt, h.cells (g := g) rfl⟩
end

theorem own_reads {w : World} {base n : Nat} {e : TypeId} {v : Value} {xs : List Value} (h : w.ownsRow base e 1 v n xs) : ∃ A c, v = .slice A n c ∧ n ≤ c ∧ Reads w w.heap.size 1 A n xs := by
  obtain ⟨h1, ⟨rfl, rfl⟩ | ⟨g, cap, cur, rfl, hb, hg, hn, hm, hs, hx⟩⟩ := h
  · exact ⟨none, 0, rfl, Nat.le_refl _, by simpa using h1, fun h => absurd h (by omega)⟩
  · exact ⟨_, _, rfl, hn, Reads.of_own ⟨h1, .inr ⟨g, cap, cur, rfl, hb, hg, hn, hm, hs, hx⟩⟩⟩

/-- A byte as a value of Go. -/
def bv (c : UInt8) : Value := .int .u8 (c.toNat : Int)

theorem bv_one (bs : List UInt8) : ∀ u ∈ bs.map bv, u.oneCell' = true := by
  intro u hu
  obtain ⟨c, _, rfl⟩ := List.mem_map.1 hu
  rfl

/-- 'make([]T, l, c)', l at most c: a new row of c zero elements. -/
theorem wpList_make_at {P : Program} (w : World) {ops : Array Oper} {rest : List Oper} {o : Oper} {a : Act} {Q : Exit → Act → World → Prop}
    (hg : o.guard = none) (l c : Operand) (t : TypeId) (hop : o.op = Op.makeSlice t l c)
    (e : TypeId) (i : TypeInfo) (z : Value) (h1 : P.underlying t = some (.slice e)) (h2 : P.info? e = some i) (h3 : i.zero = some z) (h4 : i.size = 1)
    (kl kc : IntKind) (L C : Int) (m n : Nat) (hl : a.eval l = .int kl L) (hc : a.eval c = .int kc C) (hL : L = (m : Int)) (hC : C = (n : Int)) (hmn : m ≤ n) (b2 : i.bytes * n ≤ 281474976710656) (b3 : n ≤ maxLen)
    (hK : ∀ Z : List Value, Hid (Z.length = n) → Hid (Z.toArray = madeCells z.cells n) → wpList P ops Q rest (a.put o.dst (.slice (some ⟨w.heap.size, 0, none⟩) m n)) (w.alloc (.cells Z.toArray e))) :
    wpList P ops Q (o :: rest) a w := by
  refine wpList_plain hg fun K hK' => ?_
  have hK1 := hK (madeCells z.cells n).toList (by have := size_madeCells z.cells n; simpa [Hid] using this) (by simp [Hid])
  have h63' : (n : Int) ≤ 9223372036854775807 := by
    have h := b3
    simp [maxLen] at h
    omega
  have hb' : (i.bytes : Int) * (n : Int) ≤ 281474976710656 := by
    have h : ((i.bytes * n : Nat) : Int) ≤ 281474976710656 := by omega
    rwa [Int.natCast_mul] at h
  have hr := run_make (P := P) w t e i z h1 h2 h3 kl kc m n (by omega) (by omega) hb' h63'
  simp only [Int.toNat_natCast, h4, Nat.mul_one] at hr
  subst hL
  subst hC
  unfold Oper.wp
  simp [execOp, hop, hl, hc, hr, Result.andThen]
  exact hK' _ _ (by simpa using hK1)

theorem grownBy_setRow (w : World) (g : Nat) (cs : Array Value) : w.grownBy (w.setRow g cs) (some g) :=
  ⟨rfl, rfl, rfl, by simp [World.setRow], fun k _ hne => setRow_other w g k cs (fun e => hne (by rw [e]))⟩

/-- 'copy(dst, src)', dst the head of a row that is known whole: only that row turns. -/
theorem wpList_copy_at {P : Program} {w : World} {ops : Array Oper} {rest : List Oper} {o : Oper} {a : Act} {Q : Exit → Act → World → Prop} (hgd : o.guard = none) (d s : Operand) (dT sT : TypeId)
    (ho : o.op = .call { callee := .builtin .copy, args := #[d, s], argTypes := #[dT, sT] }) (elem : TypeId) (hu : P.underlying dT = some (.slice elem)) (hsz : (P.info? elem).map (·.size) = some 1)
    (A : Option Addr) (dLen dCap sLen sCap : Nat) (g off : Nat) (hd : a.eval d = .slice (some ⟨g, off, none⟩) dLen dCap) (hs : a.eval s = .slice A sLen sCap)
    (cur : List Value) (t : TypeId) (hg : w.heap[g]? = some (.cells cur.toArray t (0, 0))) (cs : List Value) (B : Nat) (hr : Reads w B 1 A sLen cs) (hle : sLen ≤ dLen)
    (hfit : off + sLen ≤ cur.length) (h1 : ∀ v ∈ cs, v.oneCell' = true)
    (h : ∀ w', Hid (w'.heap[g]? = some (.cells (splice cur off cs).toArray t (0, 0))) → w.grownBy w' (some g) → wpList P ops Q rest (a.put o.dst (goInt sLen)) w') :
    wpList P ops Q (o :: rest) a w := by
  have hcl : cs.length = sLen := by have := hr.1; omega
  by_cases h0 : sLen = 0
  · subst h0
    obtain rfl : cs = [] := List.eq_nil_of_length_eq_zero hcl
    refine wpList_copy_nothing hgd d s dT sT ho elem hu hsz (some ⟨g, off, none⟩) A dLen dCap 0 sCap hd hs (Nat.min_eq_left (Nat.zero_le _)) ?_
    exact h w (show _ = _ by simpa [splice] using hg) (World.grownBy.refl w _)
  · obtain ⟨ad, rfl, _, hc⟩ := hr.2 (by omega)
    refine wpList_copy_own hgd d s dT sT ho elem hu hsz g off dLen dCap ad sLen sCap hd hs cur.toArray t hg cs (by rw [hcl]; exact (Nat.min_eq_left hle).symm) hc (by simpa [hcl] using hfit) h1 ?_
    have := h _ (show _ = _ by simpa [splice] using setRow_heap w g _ _ t _ hg) (grownBy_setRow w g ((cur.take off ++ (cs ++ cur.drop (off + cs.length))).toArray))
    rw [hcl] at *
    simpa [hcl] using this

/-- A row of the call's own out of a block that is known whole. -/
theorem ownsRow_of_block {w : World} {base g cap n : Nat} {e : TypeId} {cs : List Value} {xs : List Value} (hb : base ≤ g) (hg : w.heap[g]? = some (.cells cs.toArray e (0, 0))) (hn : n ≤ cap) (hm : cap ≤ maxLen) (hs : cs.length = cap) (hx : cs.take n = xs) :
    w.ownsRow base e 1 (.slice (some ⟨g, 0, none⟩) n cap) n xs :=
  ⟨by rw [← hx, List.length_take]; omega, .inr ⟨g, cap, cs.toArray, rfl, hb, hg, hn, hm, by simpa using hs, by simpa using hx⟩⟩

end Go.Proofs.Ytidkahmjjknkmaa

/- Bytes and texts: what 'string(b)' makes of a slice that reads as a list of bytes. -/
namespace Go.Proofs.Ytidkahmjjknkmaa
open Go.RowKit

/-- A list of bytes as a text of Go. -/
def tx (bs : List UInt8) : ByteArray := ⟨bs.toArray⟩

theorem tx_app (a b : List UInt8) : tx a ++ tx b = tx (a ++ b) := by
  apply ByteArray.ext
  show (tx a ++ tx b).data = _
  simp [tx, ByteArray.data_append]
theorem tx_inj {a b : List UInt8} (h : tx a = tx b) : a = b := by
  have := congrArg ByteArray.data h
  simpa [tx] using this
theorem tx_toList (a : List UInt8) : (tx a).toList = a := by rw [ByteArray.toList_eq]; simp [tx]
theorem tx_size (a : List UInt8) : (tx a).size = a.length := by simp [tx, ByteArray.size]

theorem conv_reads {P : Program} {w : World} {src dst e : TypeId} {A : Option Addr} {n c B : Nat} {bs : List UInt8} (hs : P.underlying src = some (.slice e)) (he : P.underlying e = some (.int .u8)) (hd : P.underlying dst = some .string)
    (hr : Reads w B 1 A n (bs.map bv)) : (convert src dst (.slice A n c)).run P w = .ok (.string (tx bs)) w := by
  have hl : bs.length = n := by have := hr.1; simpa using this
  subst hl
  rcases A with _ | a
  · have h0 : bs.length = 0 := by
      rcases Nat.eq_zero_or_pos bs.length with h0 | h0
      · exact h0
      · obtain ⟨ad, h, _⟩ := hr.2 h0
        cases h
    have hb : bs = [] := List.eq_nil_of_length_eq_zero h0
    subst hb
    rw [run_convert_bytes_string w src dst e none _ c hs he hd]
    rfl
  · refine run_convert_bytes_back w src dst e a c bs hs he hd (fun j hj => ?_)
    obtain ⟨ad, h, _, hc⟩ := hr.2 (by omega)
    cases h
    exact hc j _ (by simp [hj, bv])

theorem bv_ofNat {n : Nat} (h : n < 256) : bv (UInt8.ofNat n) = .int .u8 (n : Int) := by
  have : (UInt8.ofNat n).toNat = n := by simp; omega
  unfold bv
  rw [this]

/-- A slice of one byte that was just made. -/
theorem reads_one (W : World) (e : TypeId) (x : UInt8) : Reads (W.alloc (.cells #[bv x] e)) (W.heap.size + 1) 1 (some ⟨W.heap.size, 0, none⟩) 1 ([x].map bv) :=
  ⟨rfl, fun _ => ⟨_, rfl, by simp, fun j u hu => by
    cases j with
    | zero =>
      have hu' : bv x = u := by simpa using hu
      subst hu'
      simp [Addr.add]
    | succ j => simp at hu⟩⟩

theorem add_tx {P : Program} (w : World) (a b : List UInt8) (h : a.length + b.length ≤ 9223372036854775807) : (Op.stringOp .add (tx a) (tx b)).run P w = .ok (.string (tx (a ++ b))) w := by
  rw [run_string_add_sum w _ _ (by rw [tx_size, tx_size]; exact h), tx_app]

theorem reads_two (W : World) (e : TypeId) (x y : UInt8) : Reads (W.alloc (.cells #[bv x, bv y] e)) (W.heap.size + 1) 1 (some ⟨W.heap.size, 0, none⟩) 2 ([x, y].map bv) :=
  ⟨rfl, fun _ => ⟨_, rfl, by simp, fun j u hu => by
    match j with
    | 0 =>
      have hu' : bv x = u := by simpa using hu
      subst hu'
      simp [Addr.add]
    | 1 =>
      have hu' : bv y = u := by simpa using hu
      subst hu'
      simp [Addr.add]
    | j + 2 => simp at hu⟩⟩

end Go.Proofs.Ytidkahmjjknkmaa

/- The plain mathematics of a number's bytes, seven bits a byte: no program is named here. -/
namespace Go.Proofs.Ytidkahmjjknkmaa

/-- Above all numbers of 64 bits. -/
def top : Nat := 18446744073709551616

/-- A number's bytes, seven bits each, the lowest first. -/
def vb (n : Nat) : List UInt8 := if n < 128 then [UInt8.ofNat n] else UInt8.ofNat (n % 128 + 128) :: vb (n / 128)
termination_by n
decreasing_by omega

theorem vb_lt {n : Nat} (h : n < 128) : vb n = [UInt8.ofNat n] := by rw [vb, if_pos h]
theorem vb_ge {n : Nat} (h : 128 ≤ n) : vb n = UInt8.ofNat (n % 128 + 128) :: vb (n / 128) := by rw [vb, if_neg (by omega)]

theorem vb_pos (n : Nat) : 0 < (vb n).length := by
  by_cases h : n < 128
  · rw [vb_lt h]; simp
  · rw [vb_ge (by omega)]; simp

theorem vb_ne (n : Nat) : vb n ≠ [] := fun e => by have := vb_pos n; rw [e] at this; simp at this

theorem vb_len_pow : ∀ (k n : Nat), n < 128 ^ (k + 1) → (vb n).length ≤ k + 1
  | 0, n, h => by rw [vb_lt (by simpa using h)]; simp
  | k + 1, n, h => by
    by_cases h1 : n < 128
    · rw [vb_lt h1]; simp
    · rw [vb_ge (by omega)]
      have : n / 128 < 128 ^ (k + 1) := by
        rw [Nat.pow_succ] at h
        exact Nat.div_lt_of_lt_mul (by rw [Nat.mul_comm]; exact h)
      have := vb_len_pow k (n / 128) this
      simp; omega

theorem vb_len (n : Nat) (h : n < top) : (vb n).length ≤ 10 :=
  vb_len_pow 9 n (by unfold top at h; have : (128 : Nat) ^ (9 + 1) = 1180591620717411303424 := by decide
                     omega)

theorem vb_mono : ∀ (n m : Nat), n ≤ m → (vb n).length ≤ (vb m).length := by
  intro n
  induction n using Nat.strongRecOn with
  | ind n ih =>
    intro m h
    by_cases h1 : n < 128
    · rw [vb_lt h1]; exact vb_pos m
    · rw [vb_ge (by omega : 128 ≤ n), vb_ge (by omega : 128 ≤ m)]
      have := ih (n / 128) (by omega) (m / 128) (by omega)
      simpa using this

/-- The number that bytes stand for. -/
def bval : List UInt8 → Nat
  | [] => 0
  | c :: l => c.toNat % 128 + 128 * bval l

theorem u8_ofNat' (n : Nat) (h : n < 256) : (UInt8.ofNat n).toNat = n := by
  simp; omega

theorem bval_vb (n : Nat) : bval (vb n) = n := by
  induction n using Nat.strongRecOn with
  | ind n ih =>
    by_cases h1 : n < 128
    · rw [vb_lt h1, bval, bval, u8_ofNat' n (by omega)]; omega
    · rw [vb_ge (by omega), bval, ih (n / 128) (by omega), u8_ofNat' _ (by omega)]; omega

theorem vb_inj {n m : Nat} (h : vb n = vb m) : n = m := by rw [← bval_vb n, h, bval_vb]

/-- Each byte but the last goes on. -/
theorem vb_goes (n : Nat) : ∀ (i : Nat) (c : UInt8), (vb n)[i]? = some c → (128 ≤ c.toNat ↔ i + 1 < (vb n).length) := by
  induction n using Nat.strongRecOn with
  | ind n ih =>
    intro i c h
    by_cases h1 : n < 128
    · rw [vb_lt h1] at h ⊢
      cases i with
      | zero =>
        have hc : UInt8.ofNat n = c := by simpa using h
        subst hc
        rw [u8_ofNat' n (by omega)]; simp; omega
      | succ i => simp at h
    · rw [vb_ge (by omega)] at h ⊢
      cases i with
      | zero =>
        have hc : UInt8.ofNat (n % 128 + 128) = c := by simpa using h
        subst hc
        have := vb_pos (n / 128)
        rw [u8_ofNat' _ (by omega)]; simp; omega
      | succ i =>
        have := ih (n / 128) (by omega) i c (by simpa using h)
        rw [this]; simp

theorem u8_ofNat (n : Nat) (h : n < 256) : (UInt8.ofNat n).toNat = n := by
  simp; omega

theorem u8_cont (n : Nat) : (UInt8.ofNat (n % 128 + 128)).toNat = n % 128 + 128 := u8_ofNat _ (by omega)

/-- What is read, byte by byte, behind i bytes that have made acc: the number, how many bytes, the error. -/
def gr (i acc : Nat) : List UInt8 → Nat × Nat × Nat
  | [] => (0, 0, 2)
  | c :: l =>
    if ¬ (i = 9 ∧ 1 < c.toNat) ∧ (i = 0 ∨ c.toNat ≠ 0) then
      if c.toNat < 128 then (acc + c.toNat * 128 ^ i, i + 1, 0) else gr (i + 1) (acc + c.toNat % 128 * 128 ^ i) l
    else (0, 0, 3)

theorem gr_bad {i acc : Nat} {c : UInt8} {l : List UInt8} (h : ¬ (¬ (i = 9 ∧ 1 < c.toNat) ∧ (i = 0 ∨ c.toNat ≠ 0))) : gr i acc (c :: l) = (0, 0, 3) := by rw [gr, if_neg h]
theorem gr_last {i acc : Nat} {c : UInt8} {l : List UInt8} (h : ¬ (i = 9 ∧ 1 < c.toNat) ∧ (i = 0 ∨ c.toNat ≠ 0)) (h1 : c.toNat < 128) : gr i acc (c :: l) = (acc + c.toNat * 128 ^ i, i + 1, 0) := by rw [gr, if_pos h, if_pos h1]
theorem gr_on {i acc : Nat} {c : UInt8} {l : List UInt8} (h : ¬ (i = 9 ∧ 1 < c.toNat) ∧ (i = 0 ∨ c.toNat ≠ 0)) (h1 : ¬ c.toNat < 128) : gr i acc (c :: l) = gr (i + 1) (acc + c.toNat % 128 * 128 ^ i) l := by rw [gr, if_pos h, if_neg h1]

end Go.Proofs.Ytidkahmjjknkmaa

/- The way down: a slice of bytes, and one of numbers of 64 bits, that came in. -/
namespace Go.Proofs.Ytidkahmjjknkmaa
open Go.ChangeShapes Go.WideShapes Go.ChangeAt Go.RowKit

theorem cell_lt {w : World} {p : Addr} {v : Value} (h : w.cell? p = some v) : p.block < w.heap.size := by
  rcases Nat.lt_or_ge p.block w.heap.size with hlt | hge
  · exact hlt
  · rw [World.cell?, Array.getElem?_eq_none hge] at h
    cases h

/-- A slice of whole numbers that came in: its cells, in their order. -/
theorem open_nums {H : Type} {enc : TypeId × Value → H} {P : Program} {W : World} {t e : TypeId} {k : IntKind} {v : Value} {d : DataW H} {ps : List MemPlace} {r : Reach} {b0 : Nat} (ht : P.underlying t = some (.slice e)) (he : P.underlying e = some (.int k)) (hc : P.cellsOf e = 1)
    (hval : Value.okWide P W r b0 t v) (hd : DataW.Trod enc P W 0 (fun _ => true) true t v d ps) :
    ∃ (A : Option Addr) (n c : Nat) (zs : List Int), v = .slice A n c ∧ n ≤ c ∧ Reads W W.heap.size 1 A n (zs.map (Value.int k)) ∧ ∀ z ∈ zs, (Lit.int k z).wf = true := by
  obtain ⟨a, n, c, rfl⟩ := okWide_slice ht hval
  obtain ⟨fuel, hf⟩ := hd
  rcases open_ints ht he hc hf with ⟨hcs, hx⟩ | ⟨ad, len, cap, zs, hcs, _, hl, hm, hz, hx, hcell, hwz⟩
  · have h0 : Value.slice a n c = .slice none 0 0 := by simpa [Value.cells] using hcs
    cases h0
    exact ⟨none, 0, 0, [], rfl, Nat.le_refl _, Reads.none_, by simp⟩
  · have h0 : Value.slice a n c = .slice (some ad) len cap := by simpa [Value.cells] using hcs
    cases h0
    simp only [if_true] at hz
    refine ⟨some ad, n, c, zs.take n, rfl, hl, ⟨by simp [hz, Nat.min_eq_left hl], fun hn => ⟨ad, rfl, ?_, fun j u hu => ?_⟩⟩, fun z hz' => hwz z (List.mem_of_mem_take hz')⟩
    · have := cell_lt (hcell 0 (by omega))
      rwa [block_of_add] at this
    · rw [List.getElem?_map, List.getElem?_take] at hu
      split at hu
      · rename_i hj
        have hjl : j < zs.length := by omega
        rw [List.getElem?_eq_getElem hjl] at hu
        have hu' : Value.int k zs[j] = u := by simpa using hu
        rw [hcell j hjl, ← hu']
        simp [List.getD, List.getElem?_eq_getElem hjl]
      · cases hu

theorem bytes_of_nums : ∀ zs : List Int, (∀ z ∈ zs, (Lit.int .u8 z).wf = true) → ∃ bs : List UInt8, zs.map (Value.int .u8) = bs.map bv
  | [], _ => ⟨[], rfl⟩
  | z :: zs, h => by
    obtain ⟨bs, hb⟩ := bytes_of_nums zs (fun y hy => h y (by simp [hy]))
    have hx : 0 ≤ z ∧ z ≤ 255 := by simpa [Lit.wf, IntKind.min, IntKind.max, IntKind.signed, IntKind.bits] using h z (by simp)
    refine ⟨UInt8.ofNat z.toNat :: bs, ?_⟩
    have e : ((UInt8.ofNat z.toNat).toNat : Int) = z := by rw [u8_ofNat _ (by omega)]; omega
    simp only [List.map_cons, hb, bv, e]

theorem u64s_of_nums : ∀ zs : List Int, (∀ z ∈ zs, (Lit.int .u64 z).wf = true) → ∃ ns : List Nat, zs.map (Value.int .u64) = ns.map (fun n : Nat => Value.int .u64 (n : Int)) ∧ ∀ n ∈ ns, n < top
  | [], _ => ⟨[], rfl, by simp⟩
  | z :: zs, h => by
    obtain ⟨bs, hb, hl⟩ := u64s_of_nums zs (fun y hy => h y (by simp [hy]))
    have hx : 0 ≤ z ∧ z ≤ 18446744073709551615 := by simpa [Lit.wf, IntKind.min, IntKind.max, IntKind.signed, IntKind.bits] using h z (by simp)
    refine ⟨z.toNat :: bs, ?_, ?_⟩
    · have e : ((z.toNat : Nat) : Int) = z := by omega
      simp only [List.map_cons, hb, e]
    · intro n hn
      rcases List.mem_cons.1 hn with rfl | hn
      · unfold top; omega
      · exact hl n hn

theorem open_bytes {H : Type} {enc : TypeId × Value → H} {P : Program} {W : World} {t e : TypeId} {v : Value} {d : DataW H} {ps : List MemPlace} {r : Reach} {b0 : Nat} (ht : P.underlying t = some (.slice e)) (he : P.underlying e = some (.int .u8)) (hc : P.cellsOf e = 1)
    (hval : Value.okWide P W r b0 t v) (hd : DataW.Trod enc P W 0 (fun _ => true) true t v d ps) :
    ∃ (A : Option Addr) (n c : Nat) (bs : List UInt8), v = .slice A n c ∧ n ≤ c ∧ Reads W W.heap.size 1 A n (bs.map bv) := by
  obtain ⟨A, n, c, zs, hv, hl, hr, hw⟩ := open_nums ht he hc hval hd
  obtain ⟨bs, hb⟩ := bytes_of_nums zs hw
  rw [hb] at hr
  exact ⟨A, n, c, bs, hv, hl, hr⟩

theorem open_u64s {H : Type} {enc : TypeId × Value → H} {P : Program} {W : World} {t e : TypeId} {v : Value} {d : DataW H} {ps : List MemPlace} {r : Reach} {b0 : Nat} (ht : P.underlying t = some (.slice e)) (he : P.underlying e = some (.int .u64)) (hc : P.cellsOf e = 1)
    (hval : Value.okWide P W r b0 t v) (hd : DataW.Trod enc P W 0 (fun _ => true) true t v d ps) :
    ∃ (A : Option Addr) (n c : Nat) (ns : List Nat), v = .slice A n c ∧ n ≤ c ∧ Reads W W.heap.size 1 A n (ns.map (fun n : Nat => Value.int .u64 (n : Int))) ∧ ∀ n ∈ ns, n < top := by
  obtain ⟨A, n, c, zs, hv, hl, hr, hw⟩ := open_nums ht he hc hval hd
  obtain ⟨ns, hb, hn⟩ := u64s_of_nums zs hw
  rw [hb] at hr
  exact ⟨A, n, c, ns, hv, hl, hr, hn⟩

theorem nat_u64 {a : Int} (h : (Lit.int .u64 a).wf = true) : ∃ n : Nat, a = (n : Int) ∧ n < top := by
  have hx : 0 ≤ a ∧ a ≤ 18446744073709551615 := by simpa [Lit.wf, IntKind.min, IntKind.max, IntKind.signed, IntKind.bits] using h
  exact ⟨a.toNat, by omega, by unfold top; omega⟩

end Go.Proofs.Ytidkahmjjknkmaa

/- More words for memory: what the call owns stays owned; 'append' onto it of whatever reads as a list, nil let in; a slice of bytes that came in. -/
namespace Go.Proofs.Ytidkahmjjknkmaa
open Go.ChangeShapes Go.WideShapes Go.ChangeAt Go.RowKit

theorem own_block {w : World} {base n size : Nat} {e : TypeId} {v : Value} {xs : List Value} (h : w.ownsRow base e size v n xs) : ∀ k, v.ownBlock = some k → base ≤ k := by
  intro k hk
  obtain ⟨_, ⟨rfl, _⟩ | ⟨g, cap, cur, rfl, hb, _⟩⟩ := h
  · simp [Value.ownBlock] at hk
  · simp [Value.ownBlock] at hk; omega

theorem own_below {w w' : World} {base n size : Nat} {e : TypeId} {v : Value} {xs : List Value} (h : w.ownsRow base e size v n xs) (hb : Below w.heap.size w w') : w'.ownsRow base e size v n xs := by
  obtain ⟨h1, h2 | ⟨g, cap, cur, hv, hbg, hg, r⟩⟩ := h
  · exact ⟨h1, .inl h2⟩
  · have hlt : g < w.heap.size := by
      rcases Nat.lt_or_ge g w.heap.size with hlt | hge
      · exact hlt
      · rw [Array.getElem?_eq_none hge] at hg; cases hg
    exact ⟨h1, .inr ⟨g, cap, cur, hv, hbg, by rw [hb.block g hlt]; exact hg, r⟩⟩

/-- A slice of no bytes that was just laid. -/
theorem own_empty (w : World) (e : TypeId) : (w.alloc (.cells #[] e)).ownsRow w.heap.size e 1 (.slice (some ⟨w.heap.size, 0, none⟩) 0 0) 0 [] :=
  ⟨rfl, .inr ⟨w.heap.size, 0, #[], rfl, Nat.le_refl _, by show (w.heap.push _)[w.heap.size]? = _; simp, Nat.le_refl _, by unfold maxLen; omega, rfl, rfl⟩⟩

/-- 'append(v, x...)', v the call's own, x whatever reads as a list, nil let in. -/
theorem wpList_append_reads {P : Program} (w : World) {ops : Array Oper} {rest : List Oper} {o : Oper} {a : Act} {Q : Exit → Act → World → Prop} (hgd : o.guard = none) (s x : Operand) (t : TypeId)
    (ho : o.op = .call { callee := .builtin .append, args := #[s, x], argTypes := #[t, t] })
    (base : Nat) (e : TypeId) (i : TypeInfo) (z : Value) (bytes : Nat) (ht : P.underlying t = some (.slice e)) (hi : P.info? e = some i) (hz : i.zero = some z)
    (hsize : i.size = 1) (hby : i.bytes = bytes) (hzs : z.cells.size = 1)
    (v : Value) (n : Nat) (xs : List Value) (hs : a.eval s = v) (hown : w.ownsRow base e 1 v n xs)
    (A : Option Addr) (m c B : Nat) (news : List Value) (hx : a.eval x = .slice A m c) (hA : A = none → c = 0) (hr : Reads w B 1 A m news) (h1 : ∀ u ∈ news, u.oneCell' = true)
    (h63 : n + m ≤ maxLen) (hbytes : (n + m) * bytes ≤ 140737488355328) (hbase : base ≤ w.heap.size)
    (h : ∀ v' w', w'.ownsRow base e 1 v' (n + m) (xs ++ news) → w.grownBy w' v.ownBlock → wpList P ops Q rest (a.put o.dst v') w') : wpList P ops Q (o :: rest) a w := by
  cases A with
  | none =>
    have hm : m = 0 := by
      rcases Nat.eq_zero_or_pos m with h0 | h0
      · exact h0
      · obtain ⟨ad, e, _⟩ := hr.2 h0
        cases e
    subst hm
    have hc := hA rfl
    subst hc
    have hnews : news = [] := List.eq_nil_of_length_eq_zero (by have := hr.1; simpa using this)
    subst hnews
    exact wpList_append_own_none hgd s x t ho base e i 1 ht hi v n xs hs hown hx (h v w (by simpa using hown) (World.grownBy.refl w _))
  | some ad =>
    refine wpList_append_own w hgd s x t ho base e i z 1 bytes ht hi hz hsize hby hzs (by decide) v n xs hs hown ad m c news hx hr.1 ?_ h1 h63 hbytes hbase (fun v' w' a b _ => h v' w' a b)
    intro j u hu
    by_cases h0 : 0 < m
    · obtain ⟨ad', e, _, hc⟩ := hr.2 h0
      cases e
      exact hc j u hu
    · have hl := hr.1
      have := (List.getElem?_eq_some_iff.1 hu).1
      omega

/-- Two values that lie in unlike blocks. -/
def Apart (u v : Value) : Prop := ∀ g, u.ownBlock = some g → v.ownBlock ≠ some g
theorem Apart.symm {u v : Value} (h : Apart u v) : Apart v u := fun g h1 h2 => h g h2 h1

section
variable {w w' : World} {base n m k cap g size : Nat} {e : TypeId} {vb vc : Value} {xs : List Value}
theorem own_lt (h : w.ownsRow base e size vc n xs) : ∀ g, vc.ownBlock = some g → g < w.heap.size := by
  intro g hg
  obtain ⟨_, ⟨rfl, _⟩ | ⟨g', cap, cur, rfl, _, hh, _⟩⟩ := h
  · simp [Value.ownBlock] at hg
  · have e : g' = g := by simpa [Value.ownBlock] using hg
    subst e
    rcases Nat.lt_or_ge g' w.heap.size with hlt | hge
    · exact hlt
    · rw [Array.getElem?_eq_none hge] at hh; cases hh
theorem apart_new (hc : w.ownsRow base e size vc n xs) (h : Apart vb vc) (hg : vb.ownBlock = some g ∨ g = w.heap.size) : Apart (.slice (some ⟨g, 0, none⟩) k cap) vc := by
  intro g' h1 h2
  have e : g = g' := by simpa [Value.ownBlock] using h1
  subst e
  rcases hg with hg | hg
  · exact h g hg h2
  · have := own_lt hc g h2
    omega
theorem own_kept (hc : w.ownsRow base e size vc n xs) (h : Apart vb vc) (hg : w.grownBy w' vb.ownBlock) : w'.ownsRow base e size vc n xs := by
  refine hc.kept hg ?_
  cases hv : vc.ownBlock with
  | none => exact .inl rfl
  | some g => exact .inr (fun h2 => h g h2.symm hv)
theorem apart_nil (v : Value) : Apart (.slice none 0 0) v := fun g h => by simp [Value.ownBlock] at h
end

/-- A slice of bytes that came in; nil has no room. -/
theorem open_bytes2 {H : Type} {enc : TypeId × Value → H} {P : Program} {W : World} {t e : TypeId} {v : Value} {d : DataW H} {ps : List MemPlace} {r : Reach} {b0 : Nat} (ht : P.underlying t = some (.slice e)) (he : P.underlying e = some (.int .u8)) (hc : P.cellsOf e = 1)
    (hval : Value.okWide P W r b0 t v) (hd : DataW.Trod enc P W 0 (fun _ => true) true t v d ps) :
    ∃ (A : Option Addr) (n c : Nat) (bs : List UInt8), v = .slice A n c ∧ n ≤ c ∧ (A = none → c = 0) ∧ Reads W W.heap.size 1 A n (bs.map bv) := by
  obtain ⟨A, n, c, bs, rfl, hl, hr⟩ := open_bytes ht he hc hval hd
  refine ⟨A, n, c, bs, rfl, hl, ?_, hr⟩
  intro hA
  subst hA
  obtain ⟨fuel, hf⟩ := hd
  rcases open_ints ht he hc hf with ⟨hcs, hx⟩ | ⟨ad, len, cap, zs, hcs, _⟩
  · have h0 : Value.slice none n c = .slice none 0 0 := by simpa [Value.cells] using hcs
    cases h0
    rfl
  · simp [Value.cells] at hcs

end Go.Proofs.Ytidkahmjjknkmaa

/- The plain mathematics of reading a number's bytes: what is read is what was laid, and has just these bytes. -/
namespace Go.Proofs.Ytidkahmjjknkmaa

theorem u8_back (c : UInt8) : UInt8.ofNat c.toNat = c := by simp

/-- What is read has just the bytes that were read. -/
theorem gr_ok : ∀ (ys : List UInt8) (i a n k : Nat), i ≤ 9 → gr i a ys = (n, k, 0) →
    ∃ m j, n = a + m * 128 ^ i ∧ k = i + j ∧ 1 ≤ j ∧ j ≤ ys.length ∧ vb m = ys.take j ∧ (i = 0 ∨ m ≠ 0) ∧ (m + 1) * 128 ^ i ≤ top
  | [], i, a, n, k, _, h => by rw [gr] at h; simp at h
  | c :: l, i, a, n, k, hi, h => by
    by_cases hok : ¬ (i = 9 ∧ 1 < c.toNat) ∧ (i = 0 ∨ c.toNat ≠ 0)
    · by_cases h128 : c.toNat < 128
      · rw [gr_last hok h128] at h
        simp only [Prod.mk.injEq] at h
        refine ⟨c.toNat, 1, h.1.symm, h.2.1.symm, Nat.le_refl _, by simp, ?_, hok.2, ?_⟩
        · rw [vb_lt h128, u8_back]; simp
        · by_cases h9 : i = 9
          · subst h9
            have h1 : c.toNat ≤ 1 := by have := hok.1; omega
            have h2 : (c.toNat + 1) * 128 ^ 9 ≤ 2 * 128 ^ 9 := Nat.mul_le_mul_right _ (by omega)
            unfold top; omega
          · have h1 : 128 ^ i ≤ 128 ^ 8 := Nat.pow_le_pow_right (by omega) (by omega)
            have h2 : (c.toNat + 1) * 128 ^ i ≤ 128 * 128 ^ 8 := Nat.mul_le_mul (by omega) h1
            unfold top; omega
      · rw [gr_on hok h128] at h
        have hi8 : i ≤ 8 := by have := hok.1; omega
        obtain ⟨m, j, hn, hk, hj, hjl, hv, hm, ht⟩ := gr_ok l (i + 1) _ n k (by omega) h
        have hm0 : m ≠ 0 := by omega
        have hc := c.toNat_lt
        refine ⟨c.toNat % 128 + 128 * m, j + 1, ?_, by omega, by omega, by simpa using hjl, ?_, .inr (by omega), ?_⟩
        · rw [hn, Nat.pow_succ, Nat.add_mul]
          have : 128 * m * 128 ^ i = m * (128 ^ i * 128) := by rw [Nat.mul_comm 128 m, Nat.mul_assoc, Nat.mul_comm 128]
          omega
        · rw [vb_ge (by omega)]
          have e1 : (c.toNat % 128 + 128 * m) / 128 = m := by omega
          have e2 : (c.toNat % 128 + 128 * m) % 128 + 128 = c.toNat := by omega
          rw [e1, e2, u8_back, hv]
          simp
        · rw [Nat.pow_succ] at ht
          have h1 : (c.toNat % 128 + 128 * m + 1) * 128 ^ i ≤ (128 * (m + 1)) * 128 ^ i := Nat.mul_le_mul_right _ (by omega)
          have h2 : (128 * (m + 1)) * 128 ^ i = (m + 1) * (128 ^ i * 128) := by rw [Nat.mul_comm 128 (m + 1), Nat.mul_assoc, Nat.mul_comm 128]
          omega
    · rw [gr_bad hok] at h; simp at h

theorem gr_three : ∀ (ys : List UInt8) (i a : Nat), gr i a ys = (0, 0, 2) ∨ gr i a ys = (0, 0, 3) ∨ ∃ n k, gr i a ys = (n, k, 0)
  | [], i, a => .inl (by rw [gr])
  | c :: l, i, a => by
    by_cases hok : ¬ (i = 9 ∧ 1 < c.toNat) ∧ (i = 0 ∨ c.toNat ≠ 0)
    · by_cases h128 : c.toNat < 128
      · exact .inr (.inr ⟨_, _, gr_last hok h128⟩)
      · rw [gr_on hok h128]
        exact gr_three l (i + 1) _
    · exact .inr (.inl (gr_bad hok))

theorem gr_ok0 {ys : List UInt8} {n k : Nat} (h : gr 0 0 ys = (n, k, 0)) : n < top ∧ 1 ≤ k ∧ k ≤ ys.length ∧ vb n = ys.take k := by
  obtain ⟨m, j, hn, hk, h1, h2, h3, _, h4⟩ := gr_ok ys 0 0 n k (by omega) h
  have e : m = n := by simpa using hn.symm
  have e2 : j = k := by omega
  subst e; subst e2
  exact ⟨by have : (m + 1) * 128 ^ 0 = m + 1 := by simp
            omega, h1, h2, h3⟩

/-- What was laid is read, whatever stands behind. -/
theorem gr_laid (tail : List UInt8) : ∀ (m i a : Nat), i ≤ 9 → (i = 0 ∨ m ≠ 0) → (m + 1) * 128 ^ i ≤ top → gr i a (vb m ++ tail) = (a + m * 128 ^ i, i + (vb m).length, 0) := by
  intro m
  induction m using Nat.strongRecOn with
  | ind m ih =>
    intro i a hi hm ht
    by_cases h1 : m < 128
    · rw [vb_lt h1]
      have e : (UInt8.ofNat m).toNat = m := u8_ofNat m (by omega)
      show gr i a (UInt8.ofNat m :: tail) = _
      rw [gr_last (by
        rw [e]
        refine ⟨fun h => ?_, hm⟩
        obtain ⟨rfl, h2⟩ := h
        have h3 : 3 * 128 ^ 9 ≤ (m + 1) * 128 ^ 9 := Nat.mul_le_mul_right _ (by omega)
        unfold top at ht; omega) (by rw [e]; exact h1), e]
      simp
    · rw [vb_ge (by omega)]
      have e : (UInt8.ofNat (m % 128 + 128)).toNat = m % 128 + 128 := u8_ofNat _ (by omega)
      show gr i a (UInt8.ofNat (m % 128 + 128) :: (vb (m / 128) ++ tail)) = _
      have hi8 : i ≤ 8 := by
        rcases Nat.lt_or_ge i 9 with h | h
        · omega
        · have : i = 9 := by omega
          subst this
          have h3 : 3 * 128 ^ 9 ≤ (m + 1) * 128 ^ 9 := Nat.mul_le_mul_right _ (by omega)
          unfold top at ht; omega
      rw [gr_on (by rw [e]; omega) (by rw [e]; omega), e]
      have hp : (m / 128 + 1) * 128 ^ (i + 1) ≤ top := by
        by_cases h8 : i = 8
        · subst h8
          have h4 : (m + 1) * 128 ^ 8 ≤ top := ht
          have h5 : m + 1 ≤ 256 := by
            rcases Nat.lt_or_ge 256 (m + 1) with h | h
            · have h6 : 257 * 128 ^ 8 ≤ (m + 1) * 128 ^ 8 := Nat.mul_le_mul_right _ (by omega)
              unfold top at h4; omega
            · exact h
          have h7 : m / 128 + 1 ≤ 2 := by omega
          have h8 : (m / 128 + 1) * 128 ^ 9 ≤ 2 * 128 ^ 9 := Nat.mul_le_mul_right _ h7
          unfold top; omega
        · -- 128^(9) divides top: so does the power
          obtain ⟨d, hd⟩ : ∃ d, 9 = i + 1 + d := ⟨9 - (i + 1), by omega⟩
          have htop : top = 2 * 128 ^ d * 128 ^ (i + 1) := by
            have : (128 : Nat) ^ 9 = 128 ^ (i + 1) * 128 ^ d := by rw [hd, Nat.pow_add]
            have h9 : top = 2 * 128 ^ 9 := by unfold top; omega
            rw [h9, this, Nat.mul_assoc, Nat.mul_comm (128 ^ d)]
          have hm1 : m + 1 ≤ 2 * 128 ^ d * 128 := by
            rw [htop, Nat.pow_succ, ← Nat.mul_assoc, Nat.mul_right_comm] at ht
            exact Nat.le_of_mul_le_mul_right ht (Nat.pow_pos (by omega))
          rw [htop]
          exact Nat.mul_le_mul_right _ (by omega)
      rw [ih (m / 128) (by omega) (i + 1) _ (by omega) (.inr (by omega)) hp]
      have e3 : m = m % 128 + 128 * (m / 128) := by omega
      have e4 : a + (m % 128 + 128) % 128 * 128 ^ i + m / 128 * 128 ^ (i + 1) = a + m * 128 ^ i := by
        have e5 : (m % 128 + 128) % 128 = m % 128 := by omega
        rw [e5, Nat.pow_succ]
        have e6 : m / 128 * (128 ^ i * 128) = 128 * (m / 128) * 128 ^ i := by rw [Nat.mul_comm (128 ^ i), ← Nat.mul_assoc, Nat.mul_comm 128]
        rw [e6, Nat.add_assoc, ← Nat.add_mul]
        exact congrArg (fun z => a + z * 128 ^ i) e3.symm
      rw [e4]
      simp; omega

theorem gr_laid0 (tail : List UInt8) (n : Nat) (h : n < top) : gr 0 0 (vb n ++ tail) = (n, (vb n).length, 0) := by
  rw [gr_laid tail n 0 0 (by omega) (.inl rfl) (by simp; omega)]
  simp

/-- Cut off within, it is too short. -/
theorem gr_cut : ∀ (m i a j : Nat), i ≤ 9 → (i = 0 ∨ m ≠ 0) → (vb m).length + i ≤ 10 → j < (vb m).length → gr i a ((vb m).take j) = (0, 0, 2) := by
  intro m
  induction m using Nat.strongRecOn with
  | ind m ih =>
    intro i a j hi hm hl hj
    cases j with
    | zero => rw [List.take_zero, gr]
    | succ j =>
      by_cases h1 : m < 128
      · rw [vb_lt h1] at hj; simp at hj
      · rw [vb_ge (by omega)] at hj hl ⊢
        have e : (UInt8.ofNat (m % 128 + 128)).toNat = m % 128 + 128 := u8_ofNat _ (by omega)
        simp only [List.length_cons] at hj hl
        have := vb_pos (m / 128)
        rw [List.take_succ_cons, gr_on (by rw [e]; omega) (by rw [e]; omega)]
        exact ih (m / 128) (by omega) (i + 1) _ j (by omega) (.inr (by omega)) (by omega) (by omega)

theorem gr_cut0 (n j : Nat) (h : n < top) (hj : j < (vb n).length) : gr 0 0 ((vb n).take j) = (0, 0, 2) :=
  gr_cut n 0 0 j (by omega) (.inl rfl) (by have := vb_len n h; omega) hj

end Go.Proofs.Ytidkahmjjknkmaa

/- The plain mathematics of numbers laid one behind the other, and cut off. -/
namespace Go.Proofs.Ytidkahmjjknkmaa

/-- Numbers' bytes, one behind the other. -/
def lay : List Nat → List UInt8
  | [] => []
  | n :: l => vb n ++ lay l

theorem lay_append (a b : List Nat) : lay (a ++ b) = lay a ++ lay b := by
  induction a with
  | nil => rfl
  | cons n a ih => simp [lay, ih]

theorem lay_len : ∀ ns : List Nat, (∀ n ∈ ns, n < top) → (lay ns).length ≤ 10 * ns.length
  | [], _ => by simp [lay]
  | n :: l, h => by
    have h1 := vb_len n (h n (by simp))
    have h2 := lay_len l (fun m hm => h m (by simp [hm]))
    simp only [lay, List.length_append, List.length_cons]
    omega

theorem lay_succ {ns : List Nat} {i x : Nat} (h : ns[i]? = some x) : lay (ns.take (i + 1)) = lay (ns.take i) ++ vb x := by
  obtain ⟨hlt, rfl⟩ := List.getElem?_eq_some_iff.1 h
  rw [List.take_succ_eq_append_getElem hlt, lay_append]
  simp [lay]

theorem lay_split {ns : List Nat} {i x : Nat} (h : ns[i]? = some x) : lay ns = lay (ns.take i) ++ (vb x ++ lay (ns.drop (i + 1))) := by
  obtain ⟨hlt, rfl⟩ := List.getElem?_eq_some_iff.1 h
  have h1 : lay (ns.take i ++ ns.drop i) = lay (ns.take i) ++ lay (ns.drop i) := lay_append _ _
  rw [List.take_append_drop] at h1
  rw [h1, List.drop_eq_getElem_cons hlt, lay]

theorem cuts_at {ns : List Nat} {i x en : Nat} (h : ns[i]? = some x) :
    ((lay ns).take en).drop (lay (ns.take i)).length = (vb x ++ lay (ns.drop (i + 1))).take (en - (lay (ns.take i)).length) := by
  rw [lay_split h, List.drop_take]
  simp

theorem cuts_in {ns : List Nat} {i x en : Nat} (h : ns[i]? = some x) (hx : x < top) (hen : (lay (ns.take i)).length + (vb x).length ≤ en) :
    gr 0 0 (((lay ns).take en).drop (lay (ns.take i)).length) = (x, (vb x).length, 0) := by
  rw [cuts_at h, List.take_append]
  rw [List.take_of_length_le (by omega)]
  exact gr_laid0 _ x hx

theorem cuts_out {ns : List Nat} {i x en : Nat} (h : ns[i]? = some x) (hx : x < top) (h1 : (lay (ns.take i)).length ≤ en) (h2 : en < (lay (ns.take i)).length + (vb x).length) :
    gr 0 0 (((lay ns).take en).drop (lay (ns.take i)).length) = (0, 0, 2) := by
  rw [cuts_at h, List.take_append_of_le_length (by omega)]
  exact gr_cut0 x _ hx (by omega)

end Go.Proofs.Ytidkahmjjknkmaa

/- The plain mathematics of blobs: a text's bytes with how many they are ahead. No program is named here. -/
namespace Go.Proofs.Ytidkahmjjknkmaa

/-- A text's blob. -/
def blob (t : List UInt8) : List UInt8 := vb t.length ++ t

/-- Texts' blobs, one behind the other. -/
def blobs : List (List UInt8) → List UInt8
  | [] => []
  | t :: l => blob t ++ blobs l

theorem blob_len (t : List UInt8) : (blob t).length = (vb t.length).length + t.length := by simp [blob]

theorem blobs_append (a b : List (List UInt8)) : blobs (a ++ b) = blobs a ++ blobs b := by
  induction a with
  | nil => rfl
  | cons n a ih => simp [blobs, ih]

theorem blobs_succ {ts : List (List UInt8)} {i : Nat} {x : List UInt8} (h : ts[i]? = some x) : blobs (ts.take (i + 1)) = blobs (ts.take i) ++ blob x := by
  obtain ⟨hlt, rfl⟩ := List.getElem?_eq_some_iff.1 h
  rw [List.take_succ_eq_append_getElem hlt, blobs_append]
  simp [blobs]

theorem blobs_split {ts : List (List UInt8)} {i : Nat} {x : List UInt8} (h : ts[i]? = some x) : blobs ts = blobs (ts.take i) ++ (blob x ++ blobs (ts.drop (i + 1))) := by
  obtain ⟨hlt, rfl⟩ := List.getElem?_eq_some_iff.1 h
  have h1 : blobs (ts.take i ++ ts.drop i) = blobs (ts.take i) ++ blobs (ts.drop i) := blobs_append _ _
  rw [List.take_append_drop] at h1
  rw [h1, List.drop_eq_getElem_cons hlt, blobs]

theorem blobs_len : ∀ (ts : List (List UInt8)) (m : Nat), m < top → (∀ t ∈ ts, t.length ≤ m) → (blobs ts).length ≤ (10 + m) * ts.length
  | [], _, _, _ => by simp [blobs]
  | t :: l, m, hm, h => by
    have h1 := h t (by simp)
    have h2 := vb_len t.length (by omega)
    have h3 := blobs_len l m hm (fun t' ht => h t' (by simp [ht]))
    simp only [blobs, List.length_append, blob_len, List.length_cons, Nat.mul_add]
    omega

theorem blobs_take_le {ts : List (List UInt8)} (i : Nat) : (blobs (ts.take i)).length ≤ (blobs ts).length := by
  have h1 : blobs (ts.take i ++ ts.drop i) = blobs (ts.take i) ++ blobs (ts.drop i) := blobs_append _ _
  rw [List.take_append_drop] at h1
  rw [h1]; simp

theorem blobs_one_le {ts : List (List UInt8)} {i : Nat} {x : List UInt8} (h : ts[i]? = some x) : (blobs (ts.take i)).length + (blob x).length ≤ (blobs ts).length := by
  rw [blobs_split h]; simp

/-- What is read as a text: its bytes, the place behind, the error. -/
def bg (most : Int) (at_ : Nat) (bs : List UInt8) : List UInt8 × Nat × Nat :=
  let r := gr 0 0 (bs.drop at_)
  if r.2.2 ≠ 0 then ([], 0, r.2.2)
  else if max most 0 < (r.1 : Int) then ([], 0, 5)
  else if bs.length - (at_ + r.2.1) < r.1 then ([], 0, 2)
  else ((bs.drop (at_ + r.2.1)).take r.1, at_ + r.2.1 + r.1, 0)

theorem bg_err {most : Int} {at_ n k e : Nat} {bs : List UInt8} (h : gr 0 0 (bs.drop at_) = (n, k, e)) (he : e ≠ 0) : bg most at_ bs = ([], 0, e) := by
  simp [bg, h, he]
theorem bg_limit {most : Int} {at_ n k : Nat} {bs : List UInt8} (h : gr 0 0 (bs.drop at_) = (n, k, 0)) (hl : max most 0 < (n : Int)) : bg most at_ bs = ([], 0, 5) := by
  simp only [bg, h, ne_eq, not_true_eq_false, if_false, if_pos hl]
theorem bg_short {most : Int} {at_ n k : Nat} {bs : List UInt8} (h : gr 0 0 (bs.drop at_) = (n, k, 0)) (hl : ¬ max most 0 < (n : Int)) (hs : bs.length - (at_ + k) < n) : bg most at_ bs = ([], 0, 2) := by
  simp only [bg, h, ne_eq, not_true_eq_false, if_false, if_neg hl, if_pos hs]
theorem bg_ok {most : Int} {at_ n k : Nat} {bs : List UInt8} (h : gr 0 0 (bs.drop at_) = (n, k, 0)) (hl : ¬ max most 0 < (n : Int)) (hs : ¬ bs.length - (at_ + k) < n) : bg most at_ bs = ((bs.drop (at_ + k)).take n, at_ + k + n, 0) := by
  simp only [bg, h, ne_eq, not_true_eq_false, if_false, if_neg hl, if_neg hs]

/-- What was laid is read, whatever stands ahead and behind. -/
theorem bg_laid (most : Int) (pre t tail : List UInt8) (ht : t.length < top) (hm : (t.length : Int) ≤ max most 0) : bg most pre.length (pre ++ (blob t ++ tail)) = (t, pre.length + (blob t).length, 0) := by
  have h0 : (pre ++ (blob t ++ tail)).drop pre.length = vb t.length ++ (t ++ tail) := by simp [blob]
  have h1 : gr 0 0 ((pre ++ (blob t ++ tail)).drop pre.length) = (t.length, (vb t.length).length, 0) := by rw [h0]; exact gr_laid0 _ _ ht
  rw [bg_ok h1 (by omega) (by simp [blob]; omega)]
  have h2 : (pre ++ (blob t ++ tail)).drop (pre.length + (vb t.length).length) = t ++ tail := by
    rw [← List.drop_drop, h0]; simp
  rw [h2, blob_len]
  simp [Nat.add_assoc]

/-- Cut off within, it is too short. -/
theorem bg_cut (most : Int) (pre t : List UInt8) (j : Nat) (ht : t.length < top) (hm : (t.length : Int) ≤ max most 0) (hj : j < (blob t).length) : bg most pre.length (pre ++ (blob t).take j) = ([], 0, 2) := by
  have h0 : (pre ++ (blob t).take j).drop pre.length = (blob t).take j := by simp
  rw [blob_len] at hj
  rcases Nat.lt_or_ge j (vb t.length).length with h | h
  · have h1 : gr 0 0 ((pre ++ (blob t).take j).drop pre.length) = (0, 0, 2) := by
      rw [h0, blob, List.take_append_of_le_length (by omega)]
      exact gr_cut0 _ _ ht h
    exact bg_err h1 (by decide)
  · have h1 : gr 0 0 ((pre ++ (blob t).take j).drop pre.length) = (t.length, (vb t.length).length, 0) := by
      rw [h0, blob, List.take_append, List.take_of_length_le (by omega)]
      exact gr_laid0 _ _ ht
    refine bg_short h1 (by omega) ?_
    have : ((blob t).take j).length = j := by rw [List.length_take, blob_len]; omega
    rw [List.length_append, this]
    omega

/-- What is read has just the bytes that were read. -/
theorem bg_one {most : Int} {at_ nx : Nat} {bs s : List UInt8} (h : bg most at_ bs = (s, nx, 0)) : at_ < nx ∧ nx ≤ bs.length ∧ blob s = (bs.drop at_).take (nx - at_) := by
  rcases hg : gr 0 0 (bs.drop at_) with ⟨n, k, e⟩
  by_cases he : e = 0
  · subst he
    by_cases hl : max most 0 < (n : Int)
    · rw [bg_limit hg hl] at h; simp at h
    · by_cases hs : bs.length - (at_ + k) < n
      · rw [bg_short hg hl hs] at h; simp at h
      · rw [bg_ok hg hl hs] at h
        obtain ⟨_, hk1, hk2, hv⟩ := gr_ok0 hg
        rw [List.length_drop] at hk2
        simp only [Prod.mk.injEq, and_true] at h
        obtain ⟨rfl, rfl⟩ := h
        refine ⟨by omega, by omega, ?_⟩
        have hlen : ((bs.drop (at_ + k)).take n).length = n := by rw [List.length_take, List.length_drop]; omega
        rw [blob, hlen, hv]
        have e1 : at_ + k + n - at_ = k + n := by omega
        rw [e1, List.take_add, List.drop_drop]
  · rw [bg_err hg he] at h
    simp only [Prod.mk.injEq] at h
    exact absurd h.2.2 he

theorem bg_five {most : Int} {at_ : Nat} {bs : List UInt8} : bg most at_ bs = ([], 0, 2) ∨ bg most at_ bs = ([], 0, 3) ∨ bg most at_ bs = ([], 0, 5) ∨ ∃ s nx, bg most at_ bs = (s, nx, 0) := by
  rcases gr_three (bs.drop at_) 0 0 with h | h | ⟨n, k, h⟩
  · exact .inl (bg_err h (by decide))
  · exact .inr (.inl (bg_err h (by decide)))
  · by_cases hl : max most 0 < (n : Int)
    · exact .inr (.inr (.inl (bg_limit h hl)))
    · by_cases hs : bs.length - (at_ + k) < n
      · exact .inl (bg_short h hl hs)
      · exact .inr (.inr (.inr ⟨_, _, bg_ok h hl hs⟩))

/-- Texts that are laid one behind the other, and cut off: each that is whole is there. -/
theorem blobs_in {most : Int} {pre : List UInt8} {ts : List (List UInt8)} {i en : Nat} {x : List UInt8} (h : ts[i]? = some x) (hx : x.length < top) (hm : (x.length : Int) ≤ max most 0)
    (hen : (pre ++ blobs (ts.take i)).length + (blob x).length ≤ en) : bg most (pre ++ blobs (ts.take i)).length ((pre ++ blobs ts).take en) = (x, (pre ++ blobs (ts.take i)).length + (blob x).length, 0) := by
  have e0 : pre ++ blobs ts = (pre ++ blobs (ts.take i)) ++ (blob x ++ blobs (ts.drop (i + 1))) := by rw [blobs_split h, List.append_assoc]
  rw [e0]
  generalize pre ++ blobs (ts.take i) = q at hen ⊢
  have e1 : (q ++ (blob x ++ blobs (ts.drop (i + 1)))).take en = q ++ (blob x ++ (blobs (ts.drop (i + 1))).take (en - q.length - (blob x).length)) := by
    rw [List.take_append, List.take_of_length_le (by omega), List.take_append, List.take_of_length_le (l := blob x) (by omega)]
  rw [e1]
  exact bg_laid most q x _ hx hm

theorem blobs_out {most : Int} {pre : List UInt8} {ts : List (List UInt8)} {i en : Nat} {x : List UInt8} (h : ts[i]? = some x) (hx : x.length < top) (hm : (x.length : Int) ≤ max most 0)
    (h1 : (pre ++ blobs (ts.take i)).length ≤ en) (h2 : en < (pre ++ blobs (ts.take i)).length + (blob x).length) : bg most (pre ++ blobs (ts.take i)).length ((pre ++ blobs ts).take en) = ([], 0, 2) := by
  have e0 : pre ++ blobs ts = (pre ++ blobs (ts.take i)) ++ (blob x ++ blobs (ts.drop (i + 1))) := by rw [blobs_split h, List.append_assoc]
  rw [e0]
  generalize pre ++ blobs (ts.take i) = q at h1 h2 ⊢
  have e1 : (q ++ (blob x ++ blobs (ts.drop (i + 1)))).take en = q ++ (blob x).take (en - q.length) := by
    rw [List.take_append, List.take_of_length_le (by omega), List.take_append_of_le_length (by omega)]
  rw [e1]
  exact bg_cut most q x _ hx hm (by omega)

/-- Unlike lists have unlike blobs. -/
theorem blobs_inj : ∀ (a b : List (List UInt8)), (∀ t ∈ a, t.length < top) → (∀ t ∈ b, t.length < top) → blobs a = blobs b → a = b
  | [], [], _, _, _ => rfl
  | [], t :: b, _, _, h => by
    have := congrArg List.length h
    have h0 := vb_pos t.length
    simp only [blobs, blob, List.length_append, List.length_nil] at this
    omega
  | t :: a, [], _, _, h => by
    have := congrArg List.length h
    have h0 := vb_pos t.length
    simp only [blobs, blob, List.length_append, List.length_nil] at this
    omega
  | t :: a, u :: b, ha, hb, h => by
    have hgt : gr 0 0 (blob t ++ blobs a) = (t.length, (vb t.length).length, 0) := by
      rw [blob, List.append_assoc]; exact gr_laid0 _ _ (ha t (by simp))
    have hgu : gr 0 0 (blob u ++ blobs b) = (u.length, (vb u.length).length, 0) := by
      rw [blob, List.append_assoc]; exact gr_laid0 _ _ (hb u (by simp))
    have h' : blob t ++ blobs a = blob u ++ blobs b := h
    rw [h', hgu] at hgt
    simp only [Prod.mk.injEq, and_true] at hgt
    have hl : (blob t).length = (blob u).length := by rw [blob_len, blob_len]; omega
    obtain ⟨e1, e2⟩ := List.append_inj h' hl
    have hl2 : (vb t.length).length = (vb u.length).length := by omega
    have e3 := (List.append_inj e1 hl2).2
    rw [e3, blobs_inj a b (fun x hx => ha x (by simp [hx])) (fun x hx => hb x (by simp [hx])) e2]

end Go.Proofs.Ytidkahmjjknkmaa

/- The walk of bytes.Clone, and words for texts. -/
namespace Go.Proofs.Ytidkahmjjknkmaa
open Go.RowKit Go.Shelf
attribute [local go_sem] Oper.semAt_some

theorem info5k : (Try.prog.info? 5).map (fun i => (i.zero, i.size, i.bytes)) = some (some (.int .u8 0), 1, 1) := by kernel_rfl

/-- A text as a value of Go. -/
def sv (t : List UInt8) : Value := .string (tx t)

theorem strCells_tx (t : List UInt8) : Lib.strCells (tx t) = t.map bv := by simp [Lib.strCells, tx, bv]

set_option maxRecDepth 100000 in
set_option maxHeartbeats 400000 in
theorem clone_some (ad : Addr) (n c B : Nat) (bs : List UInt8) (hn : n ≤ 1073741824) (w : World) (hB : B ≤ w.heap.size) (hr : Reads w B 1 (some ad) n (bs.map bv)) :
    Calls Try.prog 75 #[.slice (some ad) n c] w fun e w' => ∃ v, e = .returned v ∧ w'.ownsRow w.heap.size 5 1 v n (bs.map bv) ∧ Below w.heap.size w w' := by
  obtain ⟨i0, hi, hz0, hz1, hz2⟩ := info_parts info5k
  have hown0 : (w.alloc (.cells #[] 5)).ownsRow w.heap.size 5 1 (.slice (some ⟨w.heap.size, 0, none⟩) 0 0) 0 [] :=
    ⟨rfl, .inr ⟨w.heap.size, 0, #[], rfl, Nat.le_refl _, by show (w.heap.push _)[w.heap.size]? = _; simp, Nat.le_refl _, by unfold maxLen; omega, rfl, rfl⟩⟩
  have he : ∀ w : World, (binOp .eql 44 (.slice (some ad) n c) (.slice none 0 0)).run Try.prog w = .ok (.bool false) w := fun _ => rfl
  have hone := bv_one bs
  obtain ⟨xs, hx⟩ : ∃ xs, xs = bs.map bv := ⟨_, rfl⟩
  rw [← hx] at hr hone ⊢
  clear hx
  go_enter Try.func75, Try.ntmps75
  go_wp2_with (first
    | (at_builtin; refine wpList_append_own _ rfl (.tmp 5) (.tmp 6) 44 rfl w.heap.size 5 i0 (.int .u8 0) 1 1 Try.underlying44 hi hz0 hz1 hz2 rfl (by decide) _ _ _ rfl hown0 ad n c xs rfl hr.1 ?c1 hone (by unfold maxLen; omega) (by omega) (by simp) ?_))
  case c1 =>
    intro j u hu
    have hr' := hr.alloc (o := .cells #[] 5) (w := w) hB
    by_cases h0 : 0 < n
    · obtain ⟨ad', e, _, hc⟩ := hr'.2 h0
      cases e
      exact hc j u hu
    · have hl := hr.1
      have := (List.getElem?_eq_some_iff.1 hu).1
      omega
  intro v' w1 hown' hgrow hnil
  go_wp2
  go_ret
  exact ⟨_, rfl, by simpa using hown', ((Below.refl _ _).alloc (Nat.le_refl _) _).grown hgrow (by simp) (fun k hk => by simp [Value.ownBlock] at hk; omega)⟩

set_option maxRecDepth 100000 in
set_option maxHeartbeats 400000 in
theorem clone_none (c : Nat) (w : World) :
    Calls Try.prog 75 #[.slice none 0 c] w fun e w' => e = .returned (.slice none 0 0) ∧ w = w' := by
  have he : ∀ w : World, (binOp .eql 44 (.slice none 0 c) (.slice none 0 0)).run Try.prog w = .ok (.bool true) w := fun _ => rfl
  go_enter Try.func75, Try.ntmps75
  go_wp2
  go_ret
  exact ⟨rfl, rfl⟩

/-- bytes.Clone: the same bytes, in memory of the call's own. -/
theorem clone_any (A : Option Addr) (n c B : Nat) (bs : List UInt8) (hn : n ≤ 1073741824) (w : World) (hB : B ≤ w.heap.size) (hr : Reads w B 1 A n (bs.map bv)) :
    Calls Try.prog 75 #[.slice A n c] w fun e w' => ∃ v, e = .returned v ∧ w'.ownsRow w.heap.size 5 1 v n (bs.map bv) ∧ Below w.heap.size w w' := by
  cases A with
  | some ad => exact clone_some ad n c B bs hn w hB hr
  | none =>
    have h0 : n = 0 := by
      rcases Nat.eq_zero_or_pos n with h | h
      · exact h
      · obtain ⟨ad, e, _⟩ := hr.2 h
        cases e
    subst h0
    have hb : bs = [] := List.eq_nil_of_length_eq_zero (by have := hr.1; simpa using this)
    subst hb
    refine (clone_none c w).mono ?_
    rintro e w' ⟨rfl, rfl⟩
    exact ⟨_, rfl, ⟨rfl, .inl ⟨rfl, rfl⟩⟩, Below.refl _ _⟩

theorem text_at {ts : List (List UInt8)} {i : Nat} {u : Value} (h : (ts.map sv)[i]? = some u) : ∃ x, u = .string (tx x) ∧ ts[i]? = some x := by
  rw [List.getElem?_map] at h
  obtain ⟨x, hx, rfl⟩ := Option.map_eq_some_iff.1 h
  exact ⟨x, rfl, hx⟩

theorem reads_text (W : World) (e : TypeId) (t : List UInt8) : Reads (W.alloc (.cells #[sv t] e)) (W.heap.size + 1) 1 (some ⟨W.heap.size, 0, none⟩) 1 ([t].map sv) :=
  ⟨rfl, fun _ => ⟨_, rfl, by simp, fun j u hu => by
    cases j with
    | zero =>
      have hu' : sv t = u := by simpa using hu
      subst hu'
      simp [Addr.add]
    | succ j => simp at hu⟩⟩

end Go.Proofs.Ytidkahmjjknkmaa

/- Steps through a region that may be carried out in more than one order: what yields one value in every world of a class is taken first; what is skipped is taken first; the one that is left is carried out. -/
namespace Go.Proofs.Ytidkahmjjknkmaa
open Go.RowKit
variable {P : Program} {md : Region.Mode} {ops : Array Oper} {Q : Exit → Act → World → Prop} {S : World → Prop}

/-- It yields v in every world of the class: it is taken first. -/
theorem h_take (i : Nat) (v : Value) {oi : Oper} {fuel : Nat} {listed : Array Bool} {a : Act} {w : World} (hi : ops[i]? = some oi)
    (hs : Region.noSelect ops = true) (hf : Region.free md ops listed i = true) (hr : (Region.ready md ops listed).contains i = true)
    (hQ : ∀ c a w, Q (.panic c) (a.put oi.dst v) w → Q (.panic c) a w) (hw : Region.wanted oi (yielded ops a.tmps) = true) (hS : S w)
    (hy : ∀ w, S w → (execOp a.eval oi).run P w = .ok (.value v) w)
    (h : wpAnyH P md ops Q S fuel (listed.setIfInBounds i true) (a.put oi.dst v) w) : wpAnyH P md ops Q S (fuel + 1) listed a w :=
  wpAnyH_take hi hs hf hr hQ (.inl ⟨hw, hy⟩) hS h

/-- It isn't wanted: it is taken first. -/
theorem h_skip (i : Nat) {oi : Oper} {fuel : Nat} {listed : Array Bool} {a : Act} {w : World} (hi : ops[i]? = some oi)
    (hs : Region.noSelect ops = true) (hf : Region.free md ops listed i = true) (hr : (Region.ready md ops listed).contains i = true)
    (hQ : ∀ c a w, Q (.panic c) (a.put oi.dst undef) w → Q (.panic c) a w) (hw : Region.wanted oi (yielded ops a.tmps) = false) (hS : S w)
    (h : wpAnyH P md ops Q S fuel (listed.setIfInBounds i true) (a.put oi.dst undef) w) : wpAnyH P md ops Q S (fuel + 1) listed a w :=
  wpAnyH_take hi hs hf hr hQ (.inr ⟨hw, rfl⟩) hS h

/-- It is the only one that may come up. -/
theorem h_one (i : Nat) {oi : Oper} {fuel : Nat} {listed : Array Bool} {a : Act} {w : World} (hi : ops[i]? = some oi)
    (hr : Region.ready md ops listed = [i]) (hw : Region.wanted oi (yielded ops a.tmps) = true)
    (h : ∀ K : Act → World → Prop, (∀ a' w', S w' → wpAnyH P md ops Q S fuel (listed.setIfInBounds i true) a' w' → K a' w') → oi.wp P a w K Q) : wpAnyH P md ops Q S (fuel + 1) listed a w := by
  refine wpAnyH_all hr (by simp) (fun j hj => ?_)
  obtain rfl : j = i := by simpa using hj
  unfold wpOp
  simp only [hi, hw, if_true]
  exact .inl (h _ fun _ _ h1 h2 => ⟨h1, h2⟩)

end Go.Proofs.Ytidkahmjjknkmaa

/- The walks of varint.mayStand and of varint.Get: at every list of bytes and every place. -/
namespace Go.Proofs.Ytidkahmjjknkmaa
open Go.RowKit Go.Shelf

set_option maxHeartbeats 400000 in
theorem vmay_any (i x : Nat) (hi : i ≤ 9) (w : World) :
    Calls Try.prog 97 #[.int .i64 (i : Int), .int .u8 (x : Int)] w fun e w' => e = .returned (.bool (decide (¬ (i = 9 ∧ 1 < x) ∧ (i = 0 ∨ x ≠ 0)))) ∧ w = w' := by
  by_cases h1 : i = 9
  · subst h1
    by_cases h2 : 1 < x
    · go_enter Try.func97, Try.ntmps97
      go_wp2
      go_ret
      exact ⟨by simp [h2], rfl⟩
    · have h3 : ¬ (1 < (x : Int)) := by omega
      by_cases h0 : x = 0
      · subst h0
        go_enter Try.func97, Try.ntmps97
        go_wp2
        go_ret
        exact ⟨by simp, rfl⟩
      · have h4 : ((x : Int) == 0) = false := by simpa using h0
        have h5 : ((x : Int) != 0) = true := by simpa using h0
        go_enter Try.func97, Try.ntmps97
        go_wp2
        go_ret
        exact ⟨by simp, rfl⟩
  · have h9 : ((i : Int) == 9) = false := by simpa using (by omega : ¬ (i : Int) = 9)
    by_cases hi0 : i = 0
    · subst hi0
      go_enter Try.func97, Try.ntmps97
      go_wp2
      go_ret
      exact ⟨by simp, rfl⟩
    · have hz : ((i : Int) == 0) = false := by simpa using hi0
      by_cases h0 : x = 0
      · subst h0
        go_enter Try.func97, Try.ntmps97
        go_wp2
        go_ret
        exact ⟨by simp [h1, hi0], rfl⟩
      · have h5 : ((x : Int) != 0) = true := by simpa using h0
        go_enter Try.func97, Try.ntmps97
        go_wp2
        go_ret
        exact ⟨by simp [h1, h0], rfl⟩

theorem may_yes (i x : Nat) (hi : i ≤ 9) (h : ¬ (i = 9 ∧ 1 < x) ∧ (i = 0 ∨ x ≠ 0)) (w : World) :
    Calls Try.prog 97 #[.int .i64 (i : Int), .int .u8 (x : Int)] w fun e w' => e = .returned (.bool true) ∧ w = w' :=
  (vmay_any i x hi w).mono fun _ _ ⟨he, hw⟩ => ⟨by rw [he, decide_eq_true h], hw⟩
theorem may_no (i x : Nat) (hi : i ≤ 9) (h : ¬ (¬ (i = 9 ∧ 1 < x) ∧ (i = 0 ∨ x ≠ 0))) (w : World) :
    Calls Try.prog 97 #[.int .i64 (i : Int), .int .u8 (x : Int)] w fun e w' => e = .returned (.bool false) ∧ w = w' :=
  (vmay_any i x hi w).mono fun _ _ ⟨he, hw⟩ => ⟨by rw [he, decide_eq_false h], hw⟩

theorem or_add (a x k : Nat) (ha : a < 2 ^ k) : a ||| (x * 2 ^ k) = a + x * 2 ^ k := by
  have := Nat.two_pow_add_eq_or_of_lt ha x
  rw [Nat.or_comm, Nat.mul_comm, ← this, Nat.add_comm]

/-- 'n |= uint64(c%128) << (7*i)', n below what the bits reach: a sum. -/
theorem or_shift (a v i : Nat) (hi : i ≤ 9) (ha : a < 128 ^ i) (hv : i = 9 → v ≤ 1) :
    bits BinOp.or IntKind.u64 (a : Int) (IntKind.u64.wrap ((v : Int) % 128 * 2 ^ (7 * i))) = ((a + v % 128 * 128 ^ i : Nat) : Int) := by
  have e : (128 : Nat) ^ i = 2 ^ (7 * i) := by rw [show (128 : Nat) = 2 ^ 7 by rfl, ← Nat.pow_mul]
  rw [e] at ha ⊢
  have hx : v % 128 * 2 ^ (7 * i) < 18446744073709551616 := by
    by_cases h9 : i = 9
    · subst h9
      have := hv rfl
      have : v % 128 ≤ 1 := by omega
      have h2 : v % 128 * 2 ^ (7 * 9) ≤ 1 * 2 ^ (7 * 9) := Nat.mul_le_mul_right _ this
      omega
    · have h1 : 2 ^ (7 * i) ≤ 2 ^ 56 := Nat.pow_le_pow_right (by omega) (by omega)
      have h2 : v % 128 * 2 ^ (7 * i) ≤ 127 * 2 ^ 56 := Nat.mul_le_mul (by omega) h1
      omega
  have ha2 : a < 18446744073709551616 := by
    have h1 : 2 ^ (7 * i) ≤ 2 ^ 63 := Nat.pow_le_pow_right (by omega) (by omega)
    omega
  have ew : IntKind.u64.wrap ((v : Int) % 128 * 2 ^ (7 * i)) = ((v % 128 * 2 ^ (7 * i) : Nat) : Int) := by
    have e1 : ((v : Int) % 128 * 2 ^ (7 * i)) = ((v % 128 * 2 ^ (7 * i) : Nat) : Int) := by push_cast; rfl
    rw [e1, IntKind.wrap_u64]
    omega
  rw [ew, bits_or_u64_nat _ _ ha2 hx, or_add _ _ _ ha]

theorem byte_get {ys : List UInt8} {i : Nat} {u : Value} (h : (ys.map bv)[i]? = some u) : ∃ x : UInt8, u = .int .u8 (x.toNat : Int) ∧ ys[i]? = some x := by
  rw [List.getElem?_map] at h
  obtain ⟨x, hx, rfl⟩ := Option.map_eq_some_iff.1 h
  exact ⟨_, rfl, hx⟩

/-- The place behind what was read. -/
def gnext (at_ : Nat) (r : Nat × Nat × Nat) : Nat := if r.2.2 = 0 then at_ + r.2.1 else 0
/-- What Get answers. -/
def gres (at_ : Nat) (r : Nat × Nat × Nat) : Value := .tuple #[.int .u64 (r.1 : Int), .int .i64 (gnext at_ r : Int), .int .i64 (r.2.2 : Int)]

/-- A byte of a slice of bytes, and what stands from there on. -/
theorem byte_at {ys : List UInt8} {i : Nat} {u : Value} (h : (ys.map bv)[i]? = some u) : ∃ x : UInt8, u = .int .u8 (x.toNat : Int) ∧ ys.drop i = x :: ys.drop (i + 1) := by
  rw [List.getElem?_map] at h
  obtain ⟨x, hx, rfl⟩ := Option.map_eq_some_iff.1 h
  obtain ⟨hlt, rfl⟩ := List.getElem?_eq_some_iff.1 hx
  exact ⟨_, rfl, List.drop_eq_getElem_cons hlt⟩

set_option maxRecDepth 100000 in
set_option maxHeartbeats 400000 in
theorem get_bad (A : Option Addr) (n c : Nat) (at_ : Int) (h : at_ < 0 ∨ (n : Int) < at_) (w : World) :
    Calls Try.prog 90 #[.slice A n c, .int .i64 at_] w fun e w' => e = .returned (.tuple #[.int .u64 0, .int .i64 0, .int .i64 1]) ∧ w = w' := by
  by_cases h0 : at_ < 0
  · go_enter Try.func90, Try.ntmps90
    go_wp2
    go_ret3
    exact ⟨rfl, rfl⟩
  · have h1 : (n : Int) < at_ := by omega
    clear h
    go_enter Try.func90, Try.ntmps90
    go_wp2
    go_ret3
    exact ⟨rfl, rfl⟩

/-- At the head of a round of Get's loop. -/
def GRel (m : Nat) (r : Nat × Nat × Nat) (ys : List UInt8) (acc idx : Value) : Prop :=
  ∃ i a : Nat, i ≤ m ∧ i ≤ 9 ∧ idx = .int .i64 (i : Int) ∧ acc = .int .u64 (a : Int) ∧ r = gr i a (ys.drop i) ∧ a < 128 ^ i

set_option maxRecDepth 100000 in
set_option maxHeartbeats 400000 in
theorem get_on (A : Option Addr) (n c at_ B : Nat) (ys : List UInt8) (hc : ¬ c = at_) (hn : n ≤ 1073741824) (hat : at_ ≤ n) (w : World) (hr : Reads w B 1 (A.map (fun x => x.add at_)) (n - at_) (ys.map bv)) :
    Calls Try.prog 90 #[.slice A n c, .int .i64 (at_ : Int)] w fun e w' => e = .returned (gres at_ (gr 0 0 ys)) ∧ w = w' := by
  obtain ⟨A', hA⟩ : ∃ A', A' = A.map (fun x => x.add at_) := ⟨_, rfl⟩
  rw [← hA] at hr
  have HA := Lib.hid hA
  clear hA
  obtain ⟨m, hm⟩ : ∃ m, m = n - at_ := ⟨_, rfl⟩
  rw [← hm] at hr
  have HM := Lib.hid hm
  clear hm
  obtain ⟨r, hr0⟩ : ∃ r, r = gr 0 0 ys := ⟨_, rfl⟩
  rw [← hr0]
  have HR := Lib.hid hr0
  clear hr0
  have hd1 : decide ((at_ : Int) < 0) = false := decide_eq_false (by omega)
  have hd2 : decide (n < at_) = false := decide_eq_false (by omega)
  go_enter Try.func90, Try.ntmps90
  go_wp2
  rw [← HA.out, ← HM.out]
  go_loop [4, 21] (fun acc idx => GRel m r ys acc idx) (fun _ idx => m - (intOf idx).toNat)
  case atStart => exact ⟨0, 0, by omega, by omega, rfl, rfl, HR.out, by simp⟩
  case round =>
    obtain ⟨i, a, him, hi9, rfl, rfl, hG, hL⟩ := hrel
    have HG := Lib.hid hG
    have HL := Lib.hid hL
    clear hG hL
    by_cases hlt : i < m
    · obtain ⟨ad, u, rfl, _, hx, hcell⟩ := hr.at_ hlt
      obtain ⟨x, rfl, hd⟩ := byte_at hx
      obtain ⟨v, hv⟩ : ∃ v, v = x.toNat := ⟨_, rfl⟩
      have hv256 : v < 256 := by rw [hv]; exact x.toNat_lt
      have HG' : Hid (r = gr i a (x :: ys.drop (i + 1))) := by rw [← hd]; exact HG.out
      clear HG hd hx
      rw [← hv] at hcell
      have HV := Lib.hid hv
      clear hv
      by_cases hb : ¬ (i = 9 ∧ 1 < v) ∧ (i = 0 ∨ v ≠ 0)
      · have HB := Lib.hid hb
        clear hb
        by_cases h128 : v < 128
        · go_wp2_with (go_at_call 97; refine (may_yes i v hi9 HB.out _).mono ?_; rintro e w' ⟨rfl, rfl⟩)
          go_ret3
          have hr' : r = (a + v * 128 ^ i, i + 1, 0) := by rw [HG'.out, HV.out, gr_last (by rw [← HV.out]; exact HB.out) (by rw [← HV.out]; exact h128)]
          have hor := or_shift a v i hi9 HL.out (fun h9 => by have := HB.out.1; omega)
          rw [Nat.mod_eq_of_lt h128] at hor
          exact ⟨by rw [hor, hr', gres, gnext]; simp [Int.add_assoc], rfl⟩
        · have hor := or_shift a v i hi9 HL.out (fun h9 => by have := HB.out.1; omega)
          have HOR := Lib.hid hor
          clear hor
          have hi8 : i ≤ 8 := by have := HB.out.1; omega
          have HG2 : Hid (r = gr (i + 1) (a + v % 128 * 128 ^ i) (ys.drop (i + 1))) := by
            show r = _
            rw [HG'.out, HV.out, gr_on (by rw [← HV.out]; exact HB.out) (by rw [← HV.out]; exact h128)]
          have HL2 : Hid (a + v % 128 * 128 ^ i < 128 ^ (i + 1)) := by
            show _ < _
            have h1 := HL.out
            have h2 : v % 128 * 128 ^ i ≤ 127 * 128 ^ i := Nat.mul_le_mul_right _ (by omega)
            rw [Nat.pow_succ]; omega
          go_wp2_with (go_at_call 97; refine (may_yes i v hi9 HB.out _).mono ?_; rintro e w' ⟨rfl, rfl⟩)
          rw [HOR.out]
          go_round
          case rel => exact ⟨i + 1, _, by omega, by omega, by go_num, rfl, HG2.out, HL2.out⟩
          case measure => simp [intOf]; omega
      · have hr' : Hid (r = (0, 0, 3)) := by
          show r = _
          rw [HG'.out, gr_bad (by rw [← HV.out]; exact hb)]
        have HB := Lib.hid hb
        clear hb
        go_wp2_with (go_at_call 97; refine (may_no i v hi9 HB.out _).mono ?_; rintro e w' ⟨rfl, rfl⟩)
        go_ret3
        exact ⟨by rw [hr'.out]; rfl, rfl⟩
    · obtain rfl : i = m := by omega
      have hd : ys.drop i = [] := List.drop_eq_nil_of_le (by have := hr.1; simp at this; omega)
      have hr' : Hid (r = (0, 0, 2)) := by
        show r = _
        rw [HG.out, hd, gr]
      clear hd HG
      go_wp2
      go_ret3
      exact ⟨by rw [hr'.out]; rfl, rfl⟩

set_option maxRecDepth 100000 in
set_option maxHeartbeats 400000 in
theorem get_end (A : Option Addr) (n : Nat) (hn : n ≤ 1073741824) (w : World) :
    Calls Try.prog 90 #[.slice A n n, .int .i64 (n : Int)] w fun e w' => e = .returned (gres n (gr 0 0 [])) ∧ w = w' := by
  have hd1 : decide ((n : Int) < 0) = false := decide_eq_false (by omega)
  have hd2 : decide (n < n) = false := decide_eq_false (by omega)
  go_enter Try.func90, Try.ntmps90
  go_wp2
  go_loop [21] (fun idx => idx = .int .i64 0) (fun idx => 0)
  case atStart => rfl
  case round =>
    obtain rfl := hrel
    go_wp2
    go_ret3
    exact ⟨rfl, rfl⟩

/-- **Get, at every list of bytes and every place of it.** -/
theorem get_any (A : Option Addr) (n c at_ B : Nat) (bs : List UInt8) (hc : n ≤ c) (hn : n ≤ 1073741824) (hat : at_ ≤ n) (w : World) (hr : Reads w B 1 A n (bs.map bv)) :
    Calls Try.prog 90 #[.slice A n c, .int .i64 (at_ : Int)] w fun e w' => e = .returned (gres at_ (gr 0 0 (bs.drop at_))) ∧ w = w' := by
  by_cases h : c = at_
  · obtain rfl : c = n := by omega
    obtain rfl : at_ = c := h.symm
    have : bs.drop at_ = [] := List.drop_eq_nil_of_le (by have := hr.1; simp at this; omega)
    rw [this]
    exact get_end A at_ hn w
  · refine get_on A n c at_ B (bs.drop at_) h hn hat w ?_
    have := hr.cut (cap := c) hat hc
    rw [if_neg h, Nat.mul_one, ← List.map_drop] at this
    exact this

end Go.Proofs.Ytidkahmjjknkmaa

/- The mathematics of cursors: what is taken, and where it stands then. No program is named here. -/
namespace Go.Proofs.Ytidkahmjjknkmaa

structure Cu where
  bs : List UInt8
  at_ : Nat
  e : Int

namespace Cu

def fail (c : Cu) (e : Int) : Cu := if c.e = 0 then { c with e := e } else c

/-- One thing is taken: r is what stands there, the place behind it, and an error's number. -/
def tk {α : Type} (zero : α) (c : Cu) (r : α × Nat × Nat) : α × Cu :=
  if c.e = 0 then (if r.2.2 = 0 then (r.1, { c with at_ := r.2.1 }) else (zero, { c with e := (r.2.2 : Int) })) else (zero, c)

def byR (c : Cu) : UInt8 × Nat × Nat := match c.bs.drop c.at_ with
  | [] => (0, 0, 2)
  | x :: _ => (x, c.at_ + 1, 0)
def nuR (c : Cu) : Nat × Nat × Nat := ((gr 0 0 (c.bs.drop c.at_)).1, gnext c.at_ (gr 0 0 (c.bs.drop c.at_)), (gr 0 0 (c.bs.drop c.at_)).2.2)
def txR (c : Cu) (most : Int) : List UInt8 × Nat × Nat := bg most c.at_ c.bs

def byte (c : Cu) : UInt8 × Cu := tk 0 c c.byR
def num (c : Cu) : Nat × Cu := tk 0 c c.nuR
def text (c : Cu) (most : Int) : List UInt8 × Cu := tk [] c (c.txR most)

def cnt (c : Cu) (most : Int) : Nat × Cu := if max most 0 < (c.num.1 : Int) then (0, c.num.2.fail 5) else (c.num.1, c.num.2)

def many {α : Type} (one : Cu → α × Cu) : Nat → Cu → List α × Cu
  | 0, c => ([], c)
  | k + 1, c => if c.e = 0 then ((one c).1 :: (many one k (one c).2).1, (many one k (one c).2).2) else ([], c)

def all {α : Type} (one : Cu → α × Cu) (c : Cu) (most : Int) : List α × Cu :=
  (if (many one (c.cnt most).1 (c.cnt most).2).2.e = 0 then (many one (c.cnt most).1 (c.cnt most).2).1 else [], (many one (c.cnt most).1 (c.cnt most).2).2)

def nums (c : Cu) (most : Int) : List Nat × Cu := all num c most
def txt (each : Int) (c : Cu) : List UInt8 × Cu := c.text each
def texts (c : Cu) (most each : Int) : List (List UInt8) × Cu := all (txt each) c most

/-- It may be: its place isn't beyond. -/
def ok (c : Cu) : Prop := c.at_ ≤ c.bs.length

/-- From one cursor another came: the same bytes, a place that isn't ahead of it and isn't beyond; and what has failed stays as it is. -/
structure To (c d : Cu) : Prop where
  bs : d.bs = c.bs
  le : c.at_ ≤ d.at_
  ok : d.at_ ≤ c.bs.length
  stay : c.e ≠ 0 → d = c

theorem To.refl {c : Cu} (h : c.ok) : To c c := ⟨rfl, Nat.le_refl _, h, fun _ => rfl⟩
theorem To.trans {a b c : Cu} (h : To a b) (k : To b c) : To a c :=
  ⟨k.bs.trans h.bs, Nat.le_trans h.le k.le, by rw [← h.bs]; exact k.ok, fun he => by
    have h1 := h.stay he
    subst h1
    exact k.stay he⟩
theorem To.good {c d : Cu} (h : To c d) : d.ok := by
  have := h.ok
  rwa [← h.bs] at this

theorem fail_to {c : Cu} (h : c.ok) (e : Int) : To c (c.fail e) := by
  unfold fail
  split
  · rename_i h0
    exact ⟨rfl, Nat.le_refl _, h, fun h1 => absurd h0 h1⟩
  · exact To.refl h

theorem tk_to {α : Type} {zero : α} {c : Cu} {r : α × Nat × Nat} (h : c.ok) (hr : r.2.2 = 0 → c.at_ ≤ r.2.1 ∧ r.2.1 ≤ c.bs.length) : To c (tk zero c r).2 := by
  unfold tk
  split
  · rename_i h0
    split
    · rename_i h1
      exact ⟨rfl, (hr h1).1, (hr h1).2, fun h2 => absurd h0 h2⟩
    · exact ⟨rfl, Nat.le_refl _, h, fun h2 => absurd h0 h2⟩
  · exact To.refl h

theorem byR_in {c : Cu} (hb : c.ok) : c.byR.2.2 = 0 → c.at_ < c.byR.2.1 ∧ c.byR.2.1 ≤ c.bs.length := by
  intro h
  unfold byR at *
  split at h
  · cases h
  · rename_i x l hx
    have := congrArg List.length hx
    simp at this
    unfold ok at hb
    exact ⟨by simp, by simp only; omega⟩
theorem nuR_in {c : Cu} (hb : c.ok) : c.nuR.2.2 = 0 → c.at_ < c.nuR.2.1 ∧ c.nuR.2.1 ≤ c.bs.length := by
  intro h
  unfold nuR at *
  simp only at *
  obtain ⟨n, k, hg⟩ : ∃ n k, gr 0 0 (c.bs.drop c.at_) = (n, k, 0) := by
    rcases gr_three (c.bs.drop c.at_) 0 0 with hg | hg | hg
    · rw [hg] at h; cases h
    · rw [hg] at h; cases h
    · exact hg
  obtain ⟨_, h1, h2, _⟩ := gr_ok0 hg
  rw [hg, gnext, if_pos rfl]
  rw [List.length_drop] at h2
  unfold ok at hb
  exact ⟨by simp only; omega, by simp only; omega⟩
theorem txR_in {c : Cu} (most : Int) : (c.txR most).2.2 = 0 → c.at_ < (c.txR most).2.1 ∧ (c.txR most).2.1 ≤ c.bs.length := by
  intro h
  unfold txR at *
  obtain ⟨s, nx, hg⟩ : ∃ s nx, bg most c.at_ c.bs = (s, nx, 0) := by
    rcases bg_five (most := most) (at_ := c.at_) (bs := c.bs) with hg | hg | hg | hg
    · rw [hg] at h; cases h
    · rw [hg] at h; cases h
    · rw [hg] at h; cases h
    · exact hg
  have := bg_one hg
  rw [hg]
  exact ⟨this.1, this.2.1⟩

theorem byte_to {c : Cu} (h : c.ok) : To c c.byte.2 := tk_to h fun h1 => ⟨Nat.le_of_lt (byR_in h h1).1, (byR_in h h1).2⟩
theorem num_to {c : Cu} (h : c.ok) : To c c.num.2 := tk_to h fun h1 => ⟨Nat.le_of_lt (nuR_in h h1).1, (nuR_in h h1).2⟩
theorem text_to {c : Cu} (h : c.ok) (most : Int) : To c (c.text most).2 := tk_to h fun h1 => ⟨Nat.le_of_lt (txR_in most h1).1, (txR_in most h1).2⟩

theorem tk_e {α : Type} {zero : α} {c : Cu} {r : α × Nat × Nat} (h : c.e ≠ 0) : tk zero c r = (zero, c) := by rw [tk, if_neg h]

/-- A step forward, if it took. -/
theorem tk_on {α : Type} {zero : α} {c : Cu} {r : α × Nat × Nat} (h0 : c.e = 0) (hr : r.2.2 = 0 → c.at_ < r.2.1) (h : (tk zero c r).2.e = 0) : c.at_ < (tk zero c r).2.at_ := by
  unfold tk at *
  rw [if_pos h0] at *
  split
  · rename_i h1
    exact hr h1
  · rename_i h1
    rw [if_neg h1] at h
    simp only at h
    omega

theorem num_lt {c : Cu} : c.num.1 < top := by
  unfold num tk
  split
  · split
    · rename_i h1
      unfold nuR at *
      simp only at *
      rcases gr_three (c.bs.drop c.at_) 0 0 with hg | hg | ⟨n, k, hg⟩
      · rw [hg]; decide
      · rw [hg]; decide
      · rw [hg]; exact (gr_ok0 hg).1
    · exact (by decide : 0 < top)
  · exact (by decide : 0 < top)

theorem num_bad {c : Cu} (h : c.num.2.e ≠ 0) : c.num.1 = 0 := by
  unfold num tk at *
  split
  · rename_i h0
    split
    · rename_i h1
      rw [if_pos h0, if_pos h1] at h
      exact absurd h0 h
    · rfl
  · rfl

theorem cnt_to {c : Cu} (h : c.ok) (most : Int) : To c (c.cnt most).2 := by
  unfold cnt
  split
  · exact (num_to h).trans (fail_to (num_to h).good 5)
  · exact num_to h

/-- One thing after the other: so many are left, from the cursor d on, behind the list l. -/
theorem many_to {α : Type} {one : Cu → α × Cu} (h1 : ∀ c : Cu, c.ok → To c (one c).2) : ∀ (k : Nat) (c : Cu), c.ok → To c (many one k c).2
  | 0, c, h => To.refl h
  | k + 1, c, h => by
    unfold many
    split
    · exact (h1 c h).trans (many_to h1 k _ (h1 c h).good)
    · exact To.refl h

theorem many_stop {α : Type} {one : Cu → α × Cu} {k : Nat} {c : Cu} (h : c.e ≠ 0) : many one k c = ([], c) := by
  cases k with
  | zero => rfl
  | succ k => rw [many, if_neg h]
theorem many_next {α : Type} {one : Cu → α × Cu} {k : Nat} {c : Cu} (h : c.e = 0) : many one (k + 1) c = ((one c).1 :: (many one k (one c).2).1, (many one k (one c).2).2) := by
  rw [many, if_pos h]

theorem all_to {α : Type} {one : Cu → α × Cu} (h1 : ∀ c : Cu, c.ok → To c (one c).2) {c : Cu} (h : c.ok) (most : Int) : To c (all one c most).2 :=
  (cnt_to h most).trans (many_to h1 _ _ (cnt_to h most).good)

theorem nums_to {c : Cu} (h : c.ok) (most : Int) : To c (c.nums most).2 := all_to (fun _ h => num_to h) h most
theorem texts_to {c : Cu} (h : c.ok) (most each : Int) : To c (c.texts most each).2 := all_to (fun _ h => text_to h each) h most

end Cu
end Go.Proofs.Ytidkahmjjknkmaa

/- A cursor in memory; the walks of Fail, Err, At and Left. -/
namespace Go.Proofs.Ytidkahmjjknkmaa
open Go.RowKit

/-- From w to w' nothing of what was there has turned but block b. -/
structure Only (b : Nat) (w w' : World) : Prop where
  os : w'.os = w.os
  tape : w'.tape = w.tape
  output : w'.output = w.output
  size : w.heap.size ≤ w'.heap.size
  block : ∀ k, k < w.heap.size → k ≠ b → w'.heap[k]? = w.heap[k]?

theorem Only.refl (b : Nat) (w : World) : Only b w w := ⟨rfl, rfl, rfl, Nat.le_refl _, fun _ _ _ => rfl⟩
theorem Only.trans {b : Nat} {x y z : World} (h : Only b x y) (k : Only b y z) : Only b x z :=
  ⟨k.os.trans h.os, k.tape.trans h.tape, k.output.trans h.output, Nat.le_trans h.size k.size, fun i hi hn => (k.block i (Nat.lt_of_lt_of_le hi h.size) hn).trans (h.block i hi hn)⟩
theorem Only.of_below {b : Nat} {w w' : World} (h : Below w.heap.size w w') : Only b w w' := ⟨h.os, h.tape, h.output, h.size, fun k hk _ => h.block k hk⟩
theorem Only.setCell {b i : Nat} {w : World} (u : Value) : Only b w (w.setCell ⟨b, i, none⟩ u) :=
  ⟨rfl, rfl, rfl, by simp [World.setCell], fun _ _ hn => Below.heap_setCell _ _ _ _ hn⟩
theorem Only.below {b B : Nat} {w w' : World} (h : Only b w w') (hB : B ≤ b) (hw : B ≤ w.heap.size) : Below B w w' :=
  ⟨h.os, h.tape, h.output, h.size, fun k hk => h.block k (by omega) (by omega)⟩
/-- A block of the call's own that was made on the way is of no account. -/
theorem Only.fresh {b : Nat} {w w1 w2 : World} (h : Below w.heap.size w w1) (hb : w.heap.size ≤ b) (k : Only b w1 w2) : Below w.heap.size w w2 :=
  h.trans (k.below hb h.size)

theorem cfield_cell {w : World} {b i : Nat} {cs : Array Value} {t : TypeId} {u : Value} (h : w.heap[b]? = some (.cells cs t (0, 0))) (hi : cs[i]? = some u) : w.cell? ⟨b, i, none⟩ = some u := by
  simp [World.cell?, h, hi]
theorem cfield_free {w : World} {b i : Nat} {cs : Array Value} {t : TypeId} (h : w.heap[b]? = some (.cells cs t (0, 0))) : w.frozen? ⟨b, i, none⟩ = false := by
  simp [World.frozen?, h]

def cuCells (A : Option Addr) (n cap : Nat) (c : Cu) : Array Value := #[.slice A n cap, .int .i64 (c.at_ : Int), .int .i64 c.e]

/-- A cursor lies in block b, its bytes below block B. -/
structure CurIn (w : World) (B b : Nat) (c : Cu) : Prop where
  ok : c.ok
  room : c.bs.length ≤ 1000000
  le : B ≤ b
  lies : ∃ A n cap, n ≤ cap ∧ Reads w B 1 A n (c.bs.map bv) ∧ w.heap[b]? = some (.cells (cuCells A n cap c) 119 (0, 0))

theorem CurIn.lt {w : World} {B b : Nat} {c : Cu} (h : CurIn w B b c) : b < w.heap.size := by
  obtain ⟨A, n, cap, _, _, h1⟩ := h.lies
  exact lt_of_block h1
theorem CurIn.below {w w' : World} {B b D : Nat} {c : Cu} (h : CurIn w B b c) (hb : Below D w w') (hD : b < D) : CurIn w' B b c := by
  obtain ⟨A, n, cap, h0, h1, h2⟩ := h.lies
  exact ⟨h.ok, h.room, h.le, A, n, cap, h0, h1.below (hb.mono (by have := h.le; omega)), (hb.block b hD).trans h2⟩
/-- Another block of the call's own turns: the cursor stays. -/
theorem CurIn.only {w w' : World} {B b d : Nat} {c : Cu} (h : CurIn w B b c) (hb : Only d w w') (hd : B ≤ d) (hn : b ≠ d) : CurIn w' B b c := by
  have hlt := h.lt
  obtain ⟨A, n, cap, h0, h1, h2⟩ := h.lies
  exact ⟨h.ok, h.room, h.le, A, n, cap, h0, h1.below (hb.below hd (by have := h.le; omega)), (hb.block b hlt hn).trans h2⟩

theorem CurIn.cells {w : World} {B b : Nat} {c : Cu} (h : CurIn w B b c) : ∃ A n cap, n ≤ cap ∧ c.bs.length = n ∧ Reads w B 1 A n (c.bs.map bv) ∧ w.cell? ⟨b, 0, none⟩ = some (.slice A n cap) ∧
    w.cell? ⟨b, 1, none⟩ = some (.int .i64 (c.at_ : Int)) ∧ w.cell? ⟨b, 2, none⟩ = some (.int .i64 c.e) ∧ w.frozen? ⟨b, 1, none⟩ = false ∧ w.frozen? ⟨b, 2, none⟩ = false := by
  obtain ⟨A, n, cap, h0, h1, h2⟩ := h.lies
  exact ⟨A, n, cap, h0, by have := h1.1; simpa using this, h1, cfield_cell h2 rfl, cfield_cell h2 rfl, cfield_cell h2 rfl, cfield_free h2, cfield_free h2⟩

theorem CurIn.setE {w : World} {B b : Nat} {c : Cu} (h : CurIn w B b c) (e : Int) : CurIn (w.setCell ⟨b, 2, none⟩ (.int .i64 e)) B b { c with e := e } := by
  obtain ⟨A, n, cap, h0, h1, h2⟩ := h.lies
  exact ⟨h.ok, h.room, h.le, A, n, cap, h0, h1.setCell (p := ⟨b, 2, none⟩) h.le _, heap_setCell_same _ _ 2 _ _ _ h2⟩
theorem CurIn.setAt {w : World} {B b : Nat} {c : Cu} (h : CurIn w B b c) (at_ : Nat) (hat : at_ ≤ c.bs.length) : CurIn (w.setCell ⟨b, 1, none⟩ (.int .i64 (at_ : Int))) B b { c with at_ := at_ } := by
  obtain ⟨A, n, cap, h0, h1, h2⟩ := h.lies
  exact ⟨hat, h.room, h.le, A, n, cap, h0, h1.setCell (p := ⟨b, 1, none⟩) h.le _, heap_setCell_same _ _ 1 _ _ _ h2⟩

theorem fail_any (B b : Nat) (c : Cu) (e0 : Int) (w : World) (h : CurIn w B b c) :
    Calls Try.prog 76 #[.pointer (some ⟨b, 0, none⟩), .int .i64 e0] w fun e w' => e = .returned (.tuple #[]) ∧ CurIn w' B b (c.fail e0) ∧ Only b w w' := by
  obtain ⟨A, n, cap, _, _, _, _, _, f2, _, z2⟩ := h.cells
  have hs := h.setE e0
  have ho := Only.setCell (b := b) (i := 2) (w := w) (.int .i64 e0)
  have H := Lib.hid h
  have HS := Lib.hid hs
  have HO := Lib.hid ho
  clear hs ho h
  by_cases h0 : c.e = 0
  · have hf : c.fail e0 = { c with e := e0 } := by rw [Cu.fail, if_pos h0]
    rw [hf]
    rw [h0] at f2
    clear hf h0
    go_enter Try.func76, Try.ntmps76
    go_wp2
    go_end0
    exact ⟨rfl, HS.out, HO.out⟩
  · have hf : c.fail e0 = c := by rw [Cu.fail, if_neg h0]
    rw [hf]
    clear hf
    generalize c.e = x at f2 h0
    go_enter Try.func76, Try.ntmps76
    go_wp2
    go_end0
    exact ⟨rfl, H.out, Only.refl _ _⟩

end Go.Proofs.Ytidkahmjjknkmaa

/- The walk of blob.Get: at every list of bytes, every place and every most. -/
namespace Go.Proofs.Ytidkahmjjknkmaa
open Go.RowKit Go.Shelf
attribute [local go_sem] Oper.semAt_some

/-- What Get answers. -/
def bres (r : List UInt8 × Nat × Nat) : Value := .tuple #[.string (tx r.1), .int .i64 (r.2.1 : Int), .int .i64 (r.2.2 : Int)]

set_option maxRecDepth 100000 in
set_option maxHeartbeats 400000 in
theorem bget_err (A : Option Addr) (n c : Nat) (at_ most : Int) (e0 : Nat) (he : e0 = 1 ∨ e0 = 2 ∨ e0 = 3) (w : World)
    (h : Calls Try.prog 90 #[.slice A n c, .int .i64 at_] w fun e w' => e = .returned (.tuple #[.int .u64 0, .int .i64 0, .int .i64 (e0 : Int)]) ∧ w = w') :
    Calls Try.prog 96 #[.slice A n c, .int .i64 at_, .int .i64 most] w fun e w' => e = .returned (bres ([], 0, e0)) ∧ w = w' := by
  have H := Lib.hid h
  clear h
  rcases he with rfl | rfl | rfl
  all_goals
    go_enter Try.func96, Try.ntmps96
    go_wp2_with (go_at_call 90; refine H.out.mono ?_; rintro e w' ⟨rfl, rfl⟩)
    go_ret3
    exact ⟨rfl, rfl⟩

theorem max_val (most : Int) : (if most < 0 then (0 : Int) else most) = max most 0 := by
  by_cases h : most < 0
  · rw [if_pos h]; omega
  · rw [if_neg h]; omega

set_option maxRecDepth 100000 in
set_option maxHeartbeats 400000 in
theorem bget_go (A : Option Addr) (n c at_ m k : Nat) (most : Int) (B : Nat) (bs : List UInt8) (hc : n ≤ c) (hn : n ≤ 1073741824) (hmost : most < 9223372036854775808) (hm : m < top) (hk : 1 ≤ k) (hkn : at_ + k ≤ n) (hg : gr 0 0 (bs.drop at_) = (m, k, 0)) (w : World) (hr : Reads w B 1 A n (bs.map bv))
    (h : Calls Try.prog 90 #[.slice A n c, .int .i64 (at_ : Int)] w fun e w' => e = .returned (.tuple #[.int .u64 (m : Int), .int .i64 ((at_ + k : Nat) : Int), .int .i64 0]) ∧ w = w') :
    Calls Try.prog 96 #[.slice A n c, .int .i64 (at_ : Int), .int .i64 most] w fun e w' => e = .returned (bres (bg most at_ bs)) ∧ w = w' := by
  obtain ⟨f, hf⟩ : ∃ f, f = at_ + k := ⟨_, rfl⟩
  rw [← hf] at h hkn
  have hf1 : 1 ≤ f := by omega
  have hl : bs.length = n := by have := hr.1; simpa using this
  have hM : (most < 0 ∧ max most 0 = 0) ∨ (¬ most < 0 ∧ max most 0 = most) := by omega
  obtain ⟨M, hMM⟩ : ∃ M, M = max most 0 := ⟨_, rfl⟩
  have H := Lib.hid h
  have HF := Lib.hid hf
  have HG := Lib.hid hg
  have HL := Lib.hid hl
  have HM := Lib.hid hm
  clear h hf hg hl hm
  have hw : IntKind.u64.wrap M = M := by rw [IntKind.wrap_u64]; omega
  have HMM := Lib.hid hMM
  rw [← hMM] at hM
  clear hMM
  have hw2 : IntKind.u64.wrap ((n : Int) - (f : Int)) = ((n - f : Nat) : Int) := by rw [IntKind.wrap_u64]; omega
  by_cases h1 : M < (m : Int)
  · have hres : Hid (bg most at_ bs = ([], 0, 5)) := bg_limit HG.out (by rw [← HMM.out]; exact h1)
    rcases hM with ⟨hM0, hM1⟩ | ⟨hM0, hM1⟩
    all_goals
      subst hM1
      clear HMM
      go_enter Try.func96, Try.ntmps96
      go_wp2_with (go_at_call 90; refine H.out.mono ?_; rintro e w' ⟨rfl, rfl⟩)
      go_ret3
      exact ⟨by rw [hres.out]; rfl, rfl⟩
  · by_cases h2 : n - f < m
    · have hres : Hid (bg most at_ bs = ([], 0, 2)) := bg_short HG.out (by rw [← HMM.out]; exact h1) (by rw [HL.out, ← HF.out]; exact h2)
      rcases hM with ⟨hM0, hM1⟩ | ⟨hM0, hM1⟩
      · exact absurd h2 (by omega)
      · subst hM1
        clear HMM
        go_enter Try.func96, Try.ntmps96
        go_wp2_with (go_at_call 90; refine H.out.mono ?_; rintro e w' ⟨rfl, rfl⟩)
        go_ret3
        exact ⟨by rw [hres.out]; rfl, rfl⟩
    · have hres : Hid (bg most at_ bs = ((bs.drop f).take m, f + m, 0)) := by
        have := bg_ok HG.out (by rw [← HMM.out]; exact h1) (by rw [HL.out, ← HF.out]; exact h2)
        rwa [← HF.out] at this
      have hw3 : IntKind.i64.wrap (m : Int) = (m : Int) := by rw [IntKind.wrap_i64]; omega
      have hle : f + m ≤ n := by omega
      have hle2 : f + m ≤ c := by omega
      obtain ⟨nx, hnx⟩ : ∃ nx, nx = f + m := ⟨_, rfl⟩
      have hnx' : (f : Int) + (m : Int) = (nx : Int) := by omega
      have hsub : nx - f = m := by omega
      rw [← hnx] at hle hle2 hres
      have hfn : f ≤ nx := by omega
      have HNX := Lib.hid hnx
      clear hnx
      by_cases hcf : c = f
      · subst hcf
        have hm0 : m = 0 := by have := HNX.out; omega
        subst hm0
        obtain rfl : nx = c := by have := HNX.out; omega
        have hcv : (convert 44 9 (.slice A 0 0)).run Try.prog w = .ok (.string (tx [])) w := conv_reads (bs := []) Try.underlying44 Try.underlying5 Try.underlying9 (hr.take (k := 0) (by omega))
        rcases hM with ⟨hM0, hM1⟩ | ⟨hM0, hM1⟩
        all_goals
          subst hM1
          clear HMM
          go_enter Try.func96, Try.ntmps96
          go_wp2_with (go_at_call 90; refine H.out.mono ?_; rintro e w' ⟨rfl, rfl⟩)
          go_ret3
          exact ⟨by rw [hres.out]; rfl, rfl⟩
      · have hcv : (convert 44 9 (.slice (A.map (fun x => x.add f)) m (c - f))).run Try.prog w = .ok (.string (tx ((bs.drop f).take m))) w := by
          have h1 := hr.cut (cap := c) (k := f) (by omega) hc
          rw [if_neg hcf, Nat.mul_one, ← List.map_drop] at h1
          have h2 := h1.take (k := m) (by omega)
          rw [← List.map_take] at h2
          exact conv_reads Try.underlying44 Try.underlying5 Try.underlying9 h2
        rcases hM with ⟨hM0, hM1⟩ | ⟨hM0, hM1⟩
        all_goals
          subst hM1
          clear HMM
          go_enter Try.func96, Try.ntmps96
          go_wp2_with (go_at_call 90; refine H.out.mono ?_; rintro e w' ⟨rfl, rfl⟩)
          go_ret3
          exact ⟨by rw [hres.out]; rfl, rfl⟩

/-- **blob.Get, at every list of bytes, every place of it and every most.** -/
theorem bget_any (A : Option Addr) (n c at_ : Nat) (most : Int) (B : Nat) (bs : List UInt8) (hc : n ≤ c) (hn : n ≤ 1073741824) (hmost : most < 9223372036854775808) (hat : at_ ≤ n) (w : World) (hr : Reads w B 1 A n (bs.map bv)) :
    Calls Try.prog 96 #[.slice A n c, .int .i64 (at_ : Int), .int .i64 most] w fun e w' => e = .returned (bres (bg most at_ bs)) ∧ w = w' := by
  have h := get_any A n c at_ B bs hc hn hat w hr
  have hl : bs.length = n := by have := hr.1; simpa using this
  rcases gr_three (bs.drop at_) 0 0 with hg | hg | ⟨m, k, hg⟩
  · rw [hg] at h
    have hb : bg most at_ bs = ([], 0, 2) := bg_err hg (by decide)
    rw [hb]
    exact bget_err A n c at_ most 2 (by omega) w h
  · rw [hg] at h
    have hb : bg most at_ bs = ([], 0, 3) := bg_err hg (by decide)
    rw [hb]
    exact bget_err A n c at_ most 3 (by omega) w h
  · obtain ⟨hm, hk1, hk2, _⟩ := gr_ok0 hg
    rw [List.length_drop] at hk2
    rw [hg] at h
    exact bget_go A n c at_ m k most B bs hc hn hmost hm hk1 (by omega) hg w hr h

theorem bget_bad (A : Option Addr) (n c : Nat) (at_ most : Int) (h : at_ < 0 ∨ (n : Int) < at_) (w : World) :
    Calls Try.prog 96 #[.slice A n c, .int .i64 at_, .int .i64 most] w fun e w' => e = .returned (bres ([], 0, 1)) ∧ w = w' :=
  bget_err A n c at_ most 1 (by omega) w (get_bad A n c at_ h w)

end Go.Proofs.Ytidkahmjjknkmaa
