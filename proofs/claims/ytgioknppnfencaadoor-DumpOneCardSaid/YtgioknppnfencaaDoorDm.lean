/- The way down: a text, a number of 64 bits, and a slice of them, that came in. -/
import Derived.Test.YtgioknppnfencaaDoorD
import Derived.Test.YtgioknppnfencaaDoorS
import Derived.Test.YtgioknppnfencaaDoorDa
import Derived.SliceStrings
import Derived.ChangeMaps5
namespace Go.Proofs.YtgioknppnfencaaDoor
open Go.ChangeShapes Go.WideShapes Go.ChangeAt Go.RowKit

theorem text_back (s : ByteArray) : tx s.data.toList = s := by
  cases s
  simp [tx]

theorem open_text1 {H : Type} {enc : TypeId × Value → H} {P : Program} {W : World} {t : TypeId} {v : Value} {d : DataW H} {ps : List MemPlace} {r : Reach} {b0 : Nat} (ht : P.underlying t = some .string)
    (hval : Value.okWide P W r b0 t v) (hd : DataW.Trod enc P W 0 (fun _ => true) true t v d ps) : ∃ bs : List UInt8, v = .string (tx bs) ∧ ps = [] := by
  obtain ⟨s, rfl, _, hps, _⟩ := ChangeMaps.open_string ht hval hd
  exact ⟨s.data.toList, by rw [text_back], hps⟩

theorem qv_ofNat {n : Nat} (h : n < top) : qv (BitVec.ofNat 64 n) = .int .u64 (n : Int) := by
  unfold qv
  rw [BitVec.toNat_ofNat, Nat.mod_eq_of_lt (show n < 2 ^ 64 from h)]

theorem open_q {H : Type} {enc : TypeId × Value → H} {P : Program} {W : World} {t : TypeId} {v : Value} {d : DataW H} {ps : List MemPlace} {r : Reach} {b0 : Nat} (ht : P.underlying t = some (.int .u64))
    (hval : Value.okWide P W r b0 t v) (hd : DataW.Trod enc P W 0 (fun _ => true) true t v d ps) : ∃ x : Q64, v = qv x ∧ ps = [] := by
  obtain ⟨b, rfl, rfl, hps, wb⟩ := open_int ht hval hd
  obtain ⟨n, rfl, hn⟩ := nat_u64 wb
  exact ⟨_, (qv_ofNat hn).symm, hps⟩

theorem qs_of_nats : ∀ ns : List Nat, (∀ n ∈ ns, n < top) → ns.map (fun n : Nat => Value.int .u64 (n : Int)) = (ns.map (BitVec.ofNat 64)).map qv
  | [], _ => rfl
  | n :: ns, h => by
    simp only [List.map_cons]
    rw [qs_of_nats ns (fun m hm => h m (by simp [hm])), qv_ofNat (h n (by simp))]

theorem open_qs {H : Type} {enc : TypeId × Value → H} {P : Program} {W : World} {t e : TypeId} {v : Value} {d : DataW H} {ps : List MemPlace} {r : Reach} {b0 : Nat} (ht : P.underlying t = some (.slice e)) (he : P.underlying e = some (.int .u64)) (hc : P.cellsOf e = 1)
    (hval : Value.okWide P W r b0 t v) (hd : DataW.Trod enc P W 0 (fun _ => true) true t v d ps) :
    ∃ (A : Option Addr) (n c : Nat) (xs : List Q64), v = .slice A n c ∧ n ≤ c ∧ Reads W W.heap.size 1 A n (xs.map qv) := by
  obtain ⟨A, n, c, ns, hv, hl, hr, hw⟩ := open_u64s ht he hc hval hd
  rw [qs_of_nats ns hw] at hr
  exact ⟨A, n, c, _, hv, hl, hr⟩

end Go.Proofs.YtgioknppnfencaaDoor
