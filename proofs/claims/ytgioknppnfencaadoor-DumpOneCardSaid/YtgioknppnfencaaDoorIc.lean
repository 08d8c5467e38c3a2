/- The walk of New. -/
import Derived.Test.YtgioknppnfencaaDoorIb
namespace Go.Proofs.YtgioknppnfencaaDoor
open Go.RowKit Go.Maps Go.ChangeMaps Go.WideMaps

/-- Texts, each once. -/
def tnew (ts : List (List UInt8)) : List (List UInt8) := ts.foldl tput []
theorem tnew_snoc (ts : List (List UInt8)) (s : List UInt8) : tnew (ts ++ [s]) = tput (tnew ts) s := by simp [tnew]
theorem tput_len (l : List (List UInt8)) (s : List UInt8) : (tput l s).length ≤ l.length + 1 := by
  unfold tput; split <;> simp
theorem tfold_len : ∀ (ts l : List (List UInt8)), (ts.foldl tput l).length ≤ l.length + ts.length
  | [], l => by simp
  | s :: ts, l => by
    have h1 := tfold_len ts (tput l s)
    have h2 := tput_len l s
    simp only [List.foldl_cons, List.length_cons]
    omega
theorem tnew_len (ts : List (List UInt8)) : (tnew ts).length ≤ ts.length := by
  have := tfold_len ts []
  simpa [tnew] using this

/-- An empty table. -/
theorem tab_empty (w : World) : Tab (w.alloc (.cells #[.slice none 0 0, .map none] 110)) (fun k => w.heap.size ≤ k) w.heap.size 0 [] := by
  refine ⟨none, 0, none, ?_, Nat.le_refl _, World.ownsRow_nil _ _ _ _, fun g hg => by simp [Value.ownBlock] at hg, .inl ⟨rfl, rfl⟩, List.nodup_nil, by simp⟩
  show (w.heap.push _)[w.heap.size]? = _
  simp

def NwRel (ts : List (List UInt8)) (w : World) (idx : Value) (wr : World) : Prop :=
  ∃ i : Nat, i ≤ ts.length ∧ idx = .int .i64 (i : Int) ∧ Tab wr (fun k => w.heap.size ≤ k) w.heap.size i (tnew (ts.take i)) ∧ Below w.heap.size w wr

set_option maxRecDepth 100000 in
set_option maxHeartbeats 1000000 in
theorem New_any (L : Option Addr) (m d n0 : Nat) (ts : List (List UInt8)) (hm : m ≤ 1000000) (hts : ∀ s ∈ ts, s.length ≤ maxLen) (w : World) (hn0 : n0 ≤ w.heap.size) (hr : Reads w n0 1 L m (ts.map tsv)) :
    Calls Tryd.prog 72 #[.slice L m d] w fun e w' => e = .returned (.pointer (some ⟨w.heap.size, 0, none⟩)) ∧ Tab w' (fun k => w.heap.size ≤ k) w.heap.size m (tnew ts) ∧ Below w.heap.size w w' := by
  have hml : ts.length = m := by have := hr.1; simpa using this
  have HML := Lib.hid hml
  have HTS := Lib.hid hts
  have HR := Lib.hid (hr.more hn0)
  have HT0 := Lib.hid (tab_empty w)
  have HB0 : Hid (Below w.heap.size w (w.alloc (.cells #[.slice none 0 0, .map none] 110))) := (Below.refl _ w).alloc (Nat.le_refl _) _
  clear hml hts hr
  go_enter Tryd.func72, Tryd.ntmps72
  go_wp2
  go_loopw [10] (fun idx wr => NwRel ts w idx wr) (fun idx wr => m - (intOf idx).toNat)
  case atStart => exact ⟨0, by omega, rfl, HT0.out, HB0.out⟩
  case round =>
    obtain ⟨i, hi, rfl, ht, hb⟩ := hrel
    rw [HML.out] at hi
    by_cases hlt : i < m
    · obtain ⟨ad, u, rfl, _, hu, hcell⟩ := (HR.out.below hb).at_ hlt
      obtain ⟨s, hs⟩ : ∃ s, ts[i]? = some s := ⟨_, List.getElem?_eq_getElem (by rw [HML.out]; exact hlt)⟩
      obtain rfl : u = tsv s := by rw [List.getElem?_map, hs] at hu; simpa using hu.symm
      have htk : ts.take (i + 1) = ts.take i ++ [s] := by rw [List.take_add_one, hs]; rfl
      have hln : (tnew (ts.take i)).length ≤ i := by have := tnew_len (ts.take i); rw [List.length_take] at this; omega
      have hid := ID_any _ w.heap.size i (tnew (ts.take i)) s (HTS.out s (List.mem_of_getElem? hs)) (by omega) (by omega) wr ht
      rw [← tnew_snoc, ← htk] at hid
      have HID := Lib.hid hid
      have HB := Lib.hid hb
      unfold tsv at hcell HID
      clear hu hs htk hln hid ht hb
      go_wp2_with (go_at_call 73; refine HID.out.mono ?_; rintro e w1 ⟨rfl, ht1, htu1⟩)
      have hsz := HB.out.size
      exact ⟨⟨i + 1, by rw [HML.out]; omega, by go_num, ht1.wide (fun k hk _ => by rcases hk with hk | hk <;> omega), HB.out.trans (htu1.below (fun k hk => hk) hsz)⟩, by simp [intOf]; omega⟩
    · obtain rfl : i = m := by omega
      have hall : ts.take i = ts := List.take_of_length_le (by rw [HML.out]; omega)
      rw [hall] at ht
      go_wp2
      go_ret
      exact ⟨rfl, ht, hb⟩

end Go.Proofs.YtgioknppnfencaaDoor
