/- The walks of the document's own answers: Put, List and Get of tephraref02. -/
import Derived.Test.YtkpgnpiofhgcpaaQ
import Derived.Test.YtkpgnpiofhgcpaaBc
namespace Go.Proofs.Ytkpgnpiofhgcpaa
open Go.RowKit Go.Shelf

set_option maxRecDepth 100000 in
set_option maxHeartbeats 400000 in
theorem rbput_any (t : List UInt8) (hbig : t.length ≤ 1073741824) (w : World) :
    Calls Try.prog 40 #[.string (tx t)] w fun e w' => e = .returned (.string (tx (blob t))) ∧ Below w.heap.size w w' := by
  obtain ⟨k, hk⟩ : ∃ k, k = t.length := ⟨_, rfl⟩
  have hv := vb_len k (by unfold top; omega)
  have hadd : ∀ W : World, (Op.stringOp .add (tx (vb k)) (tx t)).run Try.prog W = .ok (.string (tx (blob t))) W := fun W => by
    rw [blob, ← hk]
    exact add_tx W (vb k) t (by omega)
  have hput : Hid (∀ W, Calls Try.prog 45 #[.int .u64 (k : Int)] W fun e w' => e = .returned (.string (tx (vb k))) ∧ Below W.heap.size W w') := fun W => refput_any k (by unfold top; omega) W
  have hsz : (tx t).size = k := by rw [tx_size, hk]
  have hw1 : IntKind.u64.wrap (k : Int) = (k : Int) := by rw [IntKind.wrap_u64]; omega
  clear hv hk
  go_enter Try.func40, Try.ntmps40
  go_wp2_with (go_at_call 45; refine (hput.out _).mono ?_; rintro e w' ⟨rfl, hb⟩)
  go_ret
  exact ⟨rfl, hb⟩

/-- At the head of a round of the document's List. -/
def MRel (w : World) (ts : List (List UInt8)) (s idx : Value) (wr : World) : Prop :=
  ∃ i, i ≤ ts.length ∧ idx = .int .i64 (i : Int) ∧ s = .string (tx (blobs (ts.take i))) ∧ Below w.heap.size w wr

set_option maxRecDepth 100000 in
set_option maxHeartbeats 400000 in
theorem rblist_any (L : Option Addr) (m d B : Nat) (ts : List (List UInt8)) (hbig : (blobs ts).length ≤ 1073741824) (hm : m ≤ 1073741824) (w : World) (hB : B ≤ w.heap.size) (hl : Reads w B 1 L m (ts.map sv)) :
    Calls Try.prog 18 #[.slice L m d] w fun e w' => e = .returned (.string (tx (blobs ts))) ∧ Below w.heap.size w w' := by
  have hml : ts.length = m := by have := hl.1; simpa using this
  have HML := Lib.hid hml
  have HBIG := Lib.hid hbig
  clear hml hbig
  go_enter Try.func18, Try.ntmps18
  go_wp2
  go_loopw [3, 4] (fun s idx wr => MRel w ts s idx wr) (fun s idx wr => m - (intOf idx).toNat)
  case atStart => exact ⟨0, by omega, rfl, rfl, Below.refl _ _⟩
  case round =>
    obtain ⟨i, hi, rfl, rfl, hb⟩ := hrel
    rw [HML.out] at hi
    obtain ⟨q, hq⟩ : ∃ q, q = blobs (ts.take i) := ⟨_, rfl⟩
    rw [← hq]
    have HQ := Lib.hid hq
    clear hq
    by_cases hlt : i < m
    · obtain ⟨ad, u, rfl, hadb, hx, hcell0⟩ := hl.at_ hlt
      obtain ⟨x, rfl, hxi⟩ := text_at hx
      have hcell := (hb.cell (p := ad.add i) (by rw [block_of_add]; omega)).trans hcell0
      have hfit : q.length + (blob x).length ≤ 1073741824 := by
        have h1 := blobs_one_le hxi
        have h2 := HBIG.out
        rw [HQ.out]; omega
      have HXI := Lib.hid hxi
      have hput : Hid (∀ W, Calls Try.prog 40 #[.string (tx x)] W fun e w' => e = .returned (.string (tx (blob x))) ∧ Below W.heap.size W w') := fun W => rbput_any x (by rw [blob_len] at hfit; omega) W
      have hadd : ∀ W : World, (Op.stringOp .add (tx q) (tx (blob x))).run Try.prog W = .ok (.string (tx (q ++ blob x))) W := fun W => add_tx W q (blob x) (by omega)
      clear hcell0 hx hxi hadb hfit
      go_wp2_with (go_at_call 40; refine (hput.out _).mono ?_; rintro e w2 ⟨rfl, hb2⟩)
      have e1 : blobs (ts.take (i + 1)) = q ++ blob x := by rw [blobs_succ HXI.out, ← HQ.out]
      exact ⟨⟨i + 1, by rw [HML.out]; omega, by go_num, by rw [e1], hb.trans (hb2.mono hb.size)⟩, by simp [intOf]; omega⟩
    · obtain rfl : i = m := by omega
      have hall : ts.take i = ts := List.take_of_length_le (by rw [HML.out]; omega)
      have HQ2 : Hid (q = blobs ts) := by show _ = _; rw [HQ.out, hall]
      clear HQ hall
      go_wp2
      go_ret
      exact ⟨by rw [HQ2.out]; rfl, hb⟩

end Go.Proofs.Ytkpgnpiofhgcpaa
