/- compact.Records and Waste, the document's Waste, and the example. -/
import Derived.Test.YtdpminfdcacfeaaGg
import Derived.Test.YtdpminfdcacfeaaGl
import Derived.Test.YtdpminfdcacfeaaTc
namespace Go.Proofs.Ytdpminfdcacfeaa
open Go.RowKit

theorem StateIn.recs {w : World} {base : Nat} {A : Option Addr} {n c : Nat} {zs : List Rw} (h : StateIn w base A n c zs) : Recs w w.heap.size A n zs :=
  ⟨Reads.of_own h.1, fun z hz => ⟨Reads.of_own (h.2.2 z hz).1, (h.2.2 z hz).2⟩⟩

/-- What Of answers. -/
def OfPost (xs : List Rw) (w : World) (e : Ending) (w' : World) : Prop :=
  ∃ A' c' zs, e = .returned (.slice A' (fo Rw.k Rw.t xs).length c') ∧ zs.map Rw.say = (fo Rw.k Rw.t xs).map Rw.say ∧ StateIn w' w.heap.size A' (fo Rw.k Rw.t xs).length c' zs ∧ Below w.heap.size w w'

set_option maxRecDepth 100000 in
set_option maxHeartbeats 1000000 in
theorem records_any (A : Option Addr) (n c : Nat) (xs : List Rw) (hn : n ≤ 1000000) (hf : ∀ x ∈ xs, x.t.length ≤ maxLen ∧ x.n ≤ 1000000) (w : World) (h : Recs w w.heap.size A n xs) :
    Calls Try.prog 6 #[.slice A n c] w fun e w' => OfPost xs w e w' := by
  have HQ := Lib.hid (fof_any A n c xs hn hf w h)
  clear h hf
  go_enter Try.func6, Try.ntmps6
  go_wp2_with fail
  refine HQ.out.mono ?_
  rintro e w2 ⟨A', c', zs, rfl, h1, h2, h3⟩
  have H1 := Lib.hid h1
  have H2 := Lib.hid h2
  have H3 := Lib.hid h3
  clear h1 h2 h3
  go_wp2
  go_ret
  exact ⟨A', c', zs, rfl, H1.out, H2.out, H3.out⟩

set_option maxRecDepth 100000 in
set_option maxHeartbeats 1000000 in
theorem waste_any (A : Option Addr) (n c : Nat) (xs : List Rw) (hn : n ≤ 1000000) (hf : ∀ x ∈ xs, x.t.length ≤ maxLen ∧ x.n ≤ 1000000) (w : World) (h : Recs w w.heap.size A n xs) :
    Calls Try.prog 9 #[.slice A n c] w fun e w' => e = .returned (.int .i64 ((n : Int) - ((fo Rw.k Rw.t xs).length : Int))) ∧ Below w.heap.size w w' := by
  have HQ := Lib.hid (records_any A n c xs hn hf w h)
  have hlen := fo_len (k := Rw.k) (t := Rw.t) xs
  rw [h.len] at hlen
  generalize hm : (fo Rw.k Rw.t xs).length = m at *
  have HM := Lib.hid hm
  have hw : IntKind.i64.wrap ((n : Int) - (m : Int)) = (n : Int) - (m : Int) := wrap_small (by omega) (by omega)
  clear h hf hm
  go_enter Try.func9, Try.ntmps9
  go_wp2_with fail
  refine HQ.out.mono ?_
  rintro e w2 ⟨A', c', zs, rfl, h1, h2, h3⟩
  rw [HM.out]
  have H3 := Lib.hid h3
  clear h1 h2 h3
  go_wp2
  go_ret
  exact ⟨rfl, H3.out⟩

set_option maxRecDepth 100000 in
set_option maxHeartbeats 1000000 in
theorem rwaste_any (A : Option Addr) (n c : Nat) (xs : List Rw) (hn : n ≤ 100000) (hf : ∀ x ∈ xs, x.t.length ≤ maxLen) (w : World) (h : Recs w w.heap.size A n xs) :
    Calls Try.prog 10 #[.slice A n c] w fun e w' => e = .returned (.int .i64 ((n : Int) - ((fo Rw.k Rw.t xs).length : Int))) ∧ Below w.heap.size w w' := by
  have HQ := Lib.hid (rof_any A n c xs hn hf w h)
  have hlen := fo_len (k := Rw.k) (t := Rw.t) xs
  rw [h.len] at hlen
  generalize hm : (fo Rw.k Rw.t xs).length = m at *
  have HM := Lib.hid hm
  have hw : IntKind.i64.wrap ((n : Int) - (m : Int)) = (n : Int) - (m : Int) := wrap_small (by omega) (by omega)
  clear h hf hm
  go_enter Try.func10, Try.ntmps10
  go_wp2_with fail
  refine HQ.out.mono ?_
  rintro e w2 ⟨A', c', rfl, h1, h3⟩
  have H3 := Lib.hid h3
  clear h1 h3
  go_wp2
  go_ret
  exact ⟨rfl, H3.out⟩

end Go.Proofs.Ytdpminfdcacfeaa
