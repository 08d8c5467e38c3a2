/- The way down: a slice of bytes, and one of numbers of 64 bits, that came in. -/
import Derived.ProofKit
import Derived.OpenShut
import Derived.Test.YtfgonihpakcbbaaK
import Derived.Test.YtfgonihpakcbbaaM
namespace Go.Proofs.Ytfgonihpakcbbaa
open Go.ChangeShapes Go.WideShapes Go.ChangeAt Go.RowKit

theorem cell_lt {w : World} {p : Addr} {v : Value} (h : w.cell? p = some v) : p.block < w.heap.size := by
  rcases Nat.lt_or_ge p.block w.heap.size with hlt | hge
  · exact hlt
  · rw [World.cell?, Array.getElem?_eq_none hge] at h
    cases h

/-- A slice of whole numbers that came in: its cells, in their order. -/
theorem open_nums {H : Type} {enc : TypeId × Value → H} {P : Program} {W : World} {t e : TypeId} {k : IntKind} {v : Value} {d : DataW H} {ps : List MemPlace} {r : Reach} {b0 : Nat} (ht : P.underlying t = some (.slice e)) (he : P.underlying e = some (.int k)) (hc : P.cellsOf e = 1)
    (hval : Value.okWide P W r b0 t v) (hd : DataW.Trod enc P W 0 (fun _ => true) true t v d ps) :
    ∃ (A : Option Addr) (n c : Nat) (zs : List Int), v = .slice A n c ∧ n ≤ c ∧ Reads W W.heap.size 1 A n (zs.map (Value.int k)) ∧ ∀ z ∈ zs, (Lit.int k z).wf = true := by
  obtain ⟨a, n, c, rfl⟩ := okWide_slice ht hval
  obtain ⟨fuel, hf⟩ := hd
  rcases open_ints ht he hc hf with ⟨hcs, hx⟩ | ⟨ad, len, cap, zs, hcs, _, hl, hm, hz, hx, hcell, hwz⟩
  · have h0 : Value.slice a n c = .slice none 0 0 := by simpa [Value.cells] using hcs
    cases h0
    exact ⟨none, 0, 0, [], rfl, Nat.le_refl _, Reads.none_, by simp⟩
  · have h0 : Value.slice a n c = .slice (some ad) len cap := by simpa [Value.cells] using hcs
    cases h0
    simp only [if_true] at hz
    refine ⟨some ad, n, c, zs.take n, rfl, hl, ⟨by simp [hz, Nat.min_eq_left hl], fun hn => ⟨ad, rfl, ?_, fun j u hu => ?_⟩⟩, fun z hz' => hwz z (List.mem_of_mem_take hz')⟩
    · have := cell_lt (hcell 0 (by omega))
      rwa [block_of_add] at this
    · rw [List.getElem?_map, List.getElem?_take] at hu
      split at hu
      · rename_i hj
        have hjl : j < zs.length := by omega
        rw [List.getElem?_eq_getElem hjl] at hu
        have hu' : Value.int k zs[j] = u := by simpa using hu
        rw [hcell j hjl, ← hu']
        simp [List.getD, List.getElem?_eq_getElem hjl]
      · cases hu

theorem bytes_of_nums : ∀ zs : List Int, (∀ z ∈ zs, (Lit.int .u8 z).wf = true) → ∃ bs : List UInt8, zs.map (Value.int .u8) = bs.map bv
  | [], _ => ⟨[], rfl⟩
  | z :: zs, h => by
    obtain ⟨bs, hb⟩ := bytes_of_nums zs (fun y hy => h y (by simp [hy]))
    have hx : 0 ≤ z ∧ z ≤ 255 := by simpa [Lit.wf, IntKind.min, IntKind.max, IntKind.signed, IntKind.bits] using h z (by simp)
    refine ⟨UInt8.ofNat z.toNat :: bs, ?_⟩
    have e : ((UInt8.ofNat z.toNat).toNat : Int) = z := by rw [u8_ofNat _ (by omega)]; omega
    simp only [List.map_cons, hb, bv, e]

theorem u64s_of_nums : ∀ zs : List Int, (∀ z ∈ zs, (Lit.int .u64 z).wf = true) → ∃ ns : List Nat, zs.map (Value.int .u64) = ns.map (fun n : Nat => Value.int .u64 (n : Int)) ∧ ∀ n ∈ ns, n < top
  | [], _ => ⟨[], rfl, by simp⟩
  | z :: zs, h => by
    obtain ⟨bs, hb, hl⟩ := u64s_of_nums zs (fun y hy => h y (by simp [hy]))
    have hx : 0 ≤ z ∧ z ≤ 18446744073709551615 := by simpa [Lit.wf, IntKind.min, IntKind.max, IntKind.signed, IntKind.bits] using h z (by simp)
    refine ⟨z.toNat :: bs, ?_, ?_⟩
    · have e : ((z.toNat : Nat) : Int) = z := by omega
      simp only [List.map_cons, hb, e]
    · intro n hn
      rcases List.mem_cons.1 hn with rfl | hn
      · unfold top; omega
      · exact hl n hn

theorem open_bytes {H : Type} {enc : TypeId × Value → H} {P : Program} {W : World} {t e : TypeId} {v : Value} {d : DataW H} {ps : List MemPlace} {r : Reach} {b0 : Nat} (ht : P.underlying t = some (.slice e)) (he : P.underlying e = some (.int .u8)) (hc : P.cellsOf e = 1)
    (hval : Value.okWide P W r b0 t v) (hd : DataW.Trod enc P W 0 (fun _ => true) true t v d ps) :
    ∃ (A : Option Addr) (n c : Nat) (bs : List UInt8), v = .slice A n c ∧ n ≤ c ∧ Reads W W.heap.size 1 A n (bs.map bv) := by
  obtain ⟨A, n, c, zs, hv, hl, hr, hw⟩ := open_nums ht he hc hval hd
  obtain ⟨bs, hb⟩ := bytes_of_nums zs hw
  rw [hb] at hr
  exact ⟨A, n, c, bs, hv, hl, hr⟩

theorem open_u64s {H : Type} {enc : TypeId × Value → H} {P : Program} {W : World} {t e : TypeId} {v : Value} {d : DataW H} {ps : List MemPlace} {r : Reach} {b0 : Nat} (ht : P.underlying t = some (.slice e)) (he : P.underlying e = some (.int .u64)) (hc : P.cellsOf e = 1)
    (hval : Value.okWide P W r b0 t v) (hd : DataW.Trod enc P W 0 (fun _ => true) true t v d ps) :
    ∃ (A : Option Addr) (n c : Nat) (ns : List Nat), v = .slice A n c ∧ n ≤ c ∧ Reads W W.heap.size 1 A n (ns.map (fun n : Nat => Value.int .u64 (n : Int))) ∧ ∀ n ∈ ns, n < top := by
  obtain ⟨A, n, c, zs, hv, hl, hr, hw⟩ := open_nums ht he hc hval hd
  obtain ⟨ns, hb, hn⟩ := u64s_of_nums zs hw
  rw [hb] at hr
  exact ⟨A, n, c, ns, hv, hl, hr, hn⟩

theorem nat_u64 {a : Int} (h : (Lit.int .u64 a).wf = true) : ∃ n : Nat, a = (n : Int) ∧ n < top := by
  have hx : 0 ≤ a ∧ a ≤ 18446744073709551615 := by simpa [Lit.wf, IntKind.min, IntKind.max, IntKind.signed, IntKind.bits] using h
  exact ⟨a.toNat, by omega, by unfold top; omega⟩

end Go.Proofs.Ytfgonihpakcbbaa
