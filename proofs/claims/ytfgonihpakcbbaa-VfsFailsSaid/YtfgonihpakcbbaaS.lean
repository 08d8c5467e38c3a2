/- Bytes and texts: what 'string(b)' makes of a slice that reads as a list of bytes. -/
import Derived.Test.YtfgonihpakcbbaaK
import Derived.Laws.IdiomStrings
import Derived.Laws.BytesArg
import Derived.Laws.Concat
import Derived.Laws.Strings
namespace Go.Proofs.Ytfgonihpakcbbaa
open Go.RowKit

/-- A list of bytes as a text of Go. -/
def tx (bs : List UInt8) : ByteArray := ⟨bs.toArray⟩

theorem tx_app (a b : List UInt8) : tx a ++ tx b = tx (a ++ b) := by
  apply ByteArray.ext
  show (tx a ++ tx b).data = _
  simp [tx, ByteArray.data_append]
theorem tx_inj {a b : List UInt8} (h : tx a = tx b) : a = b := by
  have := congrArg ByteArray.data h
  simpa [tx] using this
theorem tx_toList (a : List UInt8) : (tx a).toList = a := by rw [ByteArray.toList_eq]; simp [tx]
theorem tx_size (a : List UInt8) : (tx a).size = a.length := by simp [tx, ByteArray.size]

theorem conv_reads {P : Program} {w : World} {src dst e : TypeId} {A : Option Addr} {n c B : Nat} {bs : List UInt8} (hs : P.underlying src = some (.slice e)) (he : P.underlying e = some (.int .u8)) (hd : P.underlying dst = some .string)
    (hr : Reads w B 1 A n (bs.map bv)) : (convert src dst (.slice A n c)).run P w = .ok (.string (tx bs)) w := by
  have hl : bs.length = n := by have := hr.1; simpa using this
  subst hl
  rcases A with _ | a
  · have h0 : bs.length = 0 := by
      rcases Nat.eq_zero_or_pos bs.length with h0 | h0
      · exact h0
      · obtain ⟨ad, h, _⟩ := hr.2 h0
        cases h
    have hb : bs = [] := List.eq_nil_of_length_eq_zero h0
    subst hb
    rw [run_convert_bytes_string w src dst e none _ c hs he hd]
    rfl
  · refine run_convert_bytes_back w src dst e a c bs hs he hd (fun j hj => ?_)
    obtain ⟨ad, h, _, hc⟩ := hr.2 (by omega)
    cases h
    exact hc j _ (by simp [hj, bv])

theorem bv_ofNat {n : Nat} (h : n < 256) : bv (UInt8.ofNat n) = .int .u8 (n : Int) := by
  have : (UInt8.ofNat n).toNat = n := by simp; omega
  unfold bv
  rw [this]

/-- A slice of one byte that was just made. -/
theorem reads_one (W : World) (e : TypeId) (x : UInt8) : Reads (W.alloc (.cells #[bv x] e)) (W.heap.size + 1) 1 (some ⟨W.heap.size, 0, none⟩) 1 ([x].map bv) :=
  ⟨rfl, fun _ => ⟨_, rfl, by simp, fun j u hu => by
    cases j with
    | zero =>
      have hu' : bv x = u := by simpa using hu
      subst hu'
      simp [Addr.add]
    | succ j => simp at hu⟩⟩

theorem add_tx {P : Program} (w : World) (a b : List UInt8) (h : a.length + b.length ≤ 9223372036854775807) : (Op.stringOp .add (tx a) (tx b)).run P w = .ok (.string (tx (a ++ b))) w := by
  rw [run_string_add_sum w _ _ (by rw [tx_size, tx_size]; exact h), tx_app]

theorem reads_two (W : World) (e : TypeId) (x y : UInt8) : Reads (W.alloc (.cells #[bv x, bv y] e)) (W.heap.size + 1) 1 (some ⟨W.heap.size, 0, none⟩) 2 ([x, y].map bv) :=
  ⟨rfl, fun _ => ⟨_, rfl, by simp, fun j u hu => by
    match j with
    | 0 =>
      have hu' : bv x = u := by simpa using hu
      subst hu'
      simp [Addr.add]
    | 1 =>
      have hu' : bv y = u := by simpa using hu
      subst hu'
      simp [Addr.add]
    | j + 2 => simp at hu⟩⟩

end Go.Proofs.Ytfgonihpakcbbaa
