/- A text put behind others, if it isn't there. -/
import Derived.WalkKit
import Derived.Test.YtgioknppnfencaaDoorProg
import Derived.Test.YtgioknppnfencaaDoorS
namespace Go.Proofs.YtgioknppnfencaaDoor
open Go.RowKit

/-- A text comes behind the others, if it isn't there. -/
def tput (l : List (List UInt8)) (s : List UInt8) : List (List UInt8) := if s ∈ l then l else l ++ [s]
theorem tput_in {l : List (List UInt8)} {s : List UInt8} (h : s ∈ l) : tput l s = l := if_pos h
theorem tput_new {l : List (List UInt8)} {s : List UInt8} (h : s ∉ l) : tput l s = l ++ [s] := if_neg h
theorem tput_nodup {l : List (List UInt8)} {s : List UInt8} (h : l.Nodup) : (tput l s).Nodup := by
  by_cases hs : s ∈ l
  · rw [tput_in hs]; exact h
  · rw [tput_new hs, List.nodup_append]
    exact ⟨h, by simp, fun a ha b hb => by simp at hb; subst hb; exact fun e => hs (e ▸ ha)⟩
theorem tinfo : (Tryd.prog.info? 9).map (fun i => (i.zero, i.size, i.bytes)) = some (some (.string { data := #[] }), 1, 16) := by kernel_rfl

end Go.Proofs.YtgioknppnfencaaDoor
