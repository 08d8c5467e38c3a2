/- The way down: rows of numbers in fields, pairs and threes of them. -/
import Derived.Laws.IdiomArrays
import Derived.ChangeSame
import Derived.Test.YtbaokcigfgfoaaaD
import Derived.Test.YtbaokcigfgfoaaaDa
import Derived.Test.YtbaokcigfgfoaaaXd0
namespace Go.Proofs.Ytbaokcigfgfoaaa
open Go.ChangeShapes Go.WideShapes Go.ChangeAt Go.RowKit Go.Deep

theorem kq_ofNat {n : Nat} (h : n < top) : qv (BitVec.ofNat 64 n) = .int .u64 (n : Int) := by
  unfold qv
  rw [BitVec.toNat_ofNat, Nat.mod_eq_of_lt (show n < 2 ^ 64 from h)]
theorem kqs_of_nats : ∀ ns : List Nat, (∀ n ∈ ns, n < top) → ns.map (fun n : Nat => Value.int .u64 (n : Int)) = (ns.map (BitVec.ofNat 64)).map qv
  | [], _ => rfl
  | n :: ns, h => by
    simp only [List.map_cons]
    rw [kqs_of_nats ns (fun m hm => h m (by simp [hm])), kq_ofNat (h n (by simp))]

set_option maxRecDepth 100000 in
theorem open_kqs {H : Type} {enc : TypeId × Value → H} {W : World} {fuel : Nat} {cs : List Value} {x : DataW H × List MemPlace} (hf : DataW.trod enc Try.prog W 0 (fun _ => true) true fuel 27 cs = some x) :
    ∃ (A : Option Addr) (n c : Nat) (qs : List Q64), cs = [.slice A n c] ∧ n ≤ c ∧ c ≤ maxLen ∧ (A = none → c = 0) ∧ Reads W W.heap.size 1 A n (qs.map qv) := by
  rcases open_ints Try.underlying27 Try.underlying22 n_u64 hf with ⟨hcs, hx⟩ | ⟨ad, n, c, zs, hcs, _, hl, hm, hz, hx, hcell, hwz⟩
  · exact ⟨none, 0, 0, [], hcs, Nat.le_refl _, by omega, fun _ => rfl, Reads.none_⟩
  · simp only [if_true] at hz
    obtain ⟨ns, hb, hn⟩ := u64s_of_nums (zs.take n) (fun z hz' => hwz z (List.mem_of_mem_take hz'))
    rw [kqs_of_nats ns hn] at hb
    refine ⟨some ad, n, c, ns.map (BitVec.ofNat 64), hcs, hl, hm, fun h => (by cases h), ?_⟩
    rw [← hb]
    refine ⟨by simp [hz, Nat.min_eq_left hl], fun hn => ⟨ad, rfl, ?_, fun j u hu => ?_⟩⟩
    · have := cell_lt (hcell 0 (by omega))
      rwa [block_of_add] at this
    · rw [List.getElem?_map, List.getElem?_take] at hu
      split at hu
      · rename_i hj
        have hjl : j < zs.length := by omega
        rw [List.getElem?_eq_getElem hjl] at hu
        have hu' : Value.int .u64 zs[j] = u := by simpa using hu
        rw [hcell j hjl, ← hu']
        simp [List.getD, List.getElem?_eq_getElem hjl]
      · cases hu
set_option maxRecDepth 100000 in
theorem open_kq1 {H : Type} {enc : TypeId × Value → H} {W : World} {v : Value} {d : DataW H} {ps : List MemPlace} {r0 : Reach} {b0 : Nat} (hval : Value.okWide Try.prog W r0 b0 27 v) (hd : DataW.Trod enc Try.prog W 0 (fun _ => true) true 27 v d ps) :
    ∃ (A : Option Addr) (n c : Nat) (qs : List Q64), v = .slice A n c ∧ n ≤ c ∧ c ≤ maxLen ∧ (A = none → c = 0) ∧ Reads W W.heap.size 1 A n (qs.map qv) := by
  obtain ⟨a, n0, c0, rfl⟩ := okWide_slice Try.underlying27 hval
  obtain ⟨fuel, hf⟩ := hd
  obtain ⟨A, n, c, qs, h1, h2⟩ := open_kqs hf
  exact ⟨A, n, c, qs, by simpa [Value.cells] using h1, h2⟩
theorem qs_ints (qs : List Q64) : (qs.map (fun q => (q.toNat : Int))).map (Value.int .u64) = qs.map qv := by
  rw [List.map_map]
  rfl

theorem trod_array2k {H : Type} {enc : TypeId × Value → H} {P : Program} {w : World} {base : Nat} {spare : Nat → Bool} {held : Bool} {t e : TypeId} {fuel : Nat} {c0 c1 : Value} {x : DataW H × List MemPlace} (ht : P.underlying t = some (.array 2 e)) (hce : P.cellsOf e = 1)
    (h : DataW.trod enc P w base spare held fuel t [c0, c1] = some x) : ∃ y0 y1 n, DataW.trod enc P w base spare held n e [c0] = some y0 ∧ DataW.trod enc P w base spare held n e [c1] = some y1 := by
  cases fuel with
  | zero => simp [DataW.trod] at h
  | succ n =>
    unfold DataW.trod at h
    rw [ht] at h
    simp [hce, List.range_succ] at h
    cases h0 : DataW.trod enc P w base spare held n e [c0] with
    | none => simp [h0] at h
    | some y0 =>
      cases h1 : DataW.trod enc P w base spare held n e [c1] with
      | none => simp [h0, h1] at h
      | some y1 => exact ⟨y0, y1, n, h0, h1⟩

end Go.Proofs.Ytbaokcigfgfoaaa
