/- What a table answers where a text is there; texts in memory; what a table has. -/
import Derived.Test.YtgioknppnfencaaDoorIc
namespace Go.Proofs.YtgioknppnfencaaDoor
open Go.RowKit Go.Maps Go.ChangeMaps Go.WideMaps

set_option maxRecDepth 100000 in
set_option maxHeartbeats 400000 in
theorem ID_in (S : Nat → Prop) (b N : Nat) (l : List (List UInt8)) (s : List UInt8) (hin : s ∈ l) (w : World) (h : Tab w S b N l) :
    Calls Tryd.prog 73 #[.pointer (some ⟨b, 0, none⟩), tsv s] w fun e w' => e = .returned (.tuple #[.int .u64 (tnum l s : Int), .bool false]) ∧ w = w' := by
  have hnum : Hid (Calls Tryd.prog 77 #[.pointer (some ⟨b, 0, none⟩), tsv s] w fun e w' => e = .returned (.tuple #[.int .u64 (tnum l s : Int), .bool false]) ∧ w = w') := by
    show Calls _ _ _ _ _
    obtain ⟨L, c, mv, h1, hSb, h3, h4, h5, hnd, hlen⟩ := h
    have hc1 : w.cell? ⟨b, 1, none⟩ = some (.map mv) := field_cell h1 rfl
    have hkey := tkeyOf (hlen s hin)
    unfold tsv at hkey ⊢
    obtain ⟨mb, D, rfl, hSm, hm, hn⟩ : ∃ (mb : Nat) (D : DataW Nat), mv = some mb ∧ S mb ∧ w.ownsMap Tryd.prog 9 (plainElem Tryd.prog 32) mb N D ∧ NumOf D l := by
      rcases h5 with ⟨_, e⟩ | h5
      · rw [e] at hin; simp at hin
      · exact h5
    obtain ⟨e1, e2⟩ := hn.2 s
    rw [decide_eq_true hin] at e1
    have E2 := Lib.hid e2
    clear e2 h1 h3 h4 h5 hnd hlen hin
    go_enter Tryd.func77, Tryd.ntmps77
    go_wp2_with (at_lookup; refine wpList_lookup_own_ok_int _ rfl _ _ 103 rfl 9 32 .u64 tkey Tryd.underlying103 Tryd.underlying32 (zeroU _) mb N D rfl hm _ _ rfl hkey ?_; intro cv hat hwc)
    go_ret2
    have e3 := E2.out
    unfold u0 at e3
    rw [e3] at hat
    have : cv = (tnum l s : Int) := by injection hat with hat; injection hat with _ hat; exact hat.symm
    rw [this]
    exact ⟨rfl, rfl⟩
  unfold tsv at hnum ⊢
  clear h hin
  go_enter Tryd.func73, Tryd.ntmps73
  go_wp2_with (first
    | (go_at_call 74; refine (all_any b _).mono ?_; rintro e w1 ⟨rfl, rfl⟩)
    | (go_at_call 77; refine hnum.out.mono ?_; rintro e w1 ⟨rfl, rfl⟩))
  go_ret2
  exact ⟨rfl, rfl⟩

theorem reads_tsv (W : World) (e : TypeId) (ts : List (List UInt8)) : Reads (W.alloc (.cells (ts.map tsv).toArray e)) (W.heap.size + 1) 1 (some ⟨W.heap.size, 0, none⟩) ts.length (ts.map tsv) :=
  ⟨by simp, fun _ => ⟨_, rfl, by simp, fun j u hu => by
    have h0 : Addr.add ⟨W.heap.size, 0, none⟩ j = ⟨W.heap.size, j, none⟩ := by
      unfold Addr.add
      split
      · rename_i h; rw [h]
      · simp
    rw [h0]
    simp only [World.cell?, World.alloc, Array.getElem?_push_size]
    simpa using hu⟩⟩

theorem tput_mem {l : List (List UInt8)} {s t : List UInt8} (h : t ∈ l ∨ t = s) : t ∈ tput l s := by
  unfold tput
  split
  · rename_i hs
    rcases h with h | rfl
    · exact h
    · exact hs
  · rcases h with h | rfl <;> simp [*]
theorem tfold_mem : ∀ (ts l : List (List UInt8)) (s : List UInt8), s ∈ l ∨ s ∈ ts → s ∈ ts.foldl tput l
  | [], l, s, h => by simpa using h
  | t :: ts, l, s, h => tfold_mem ts (tput l t) s (by
    rcases h with h | h
    · exact .inl (tput_mem (.inl h))
    · rcases List.mem_cons.1 h with h | h
      · exact .inl (tput_mem (.inr h))
      · exact .inr h)
theorem tnew_mem {ts : List (List UInt8)} {s : List UInt8} (h : s ∈ ts) : s ∈ tnew ts := tfold_mem ts [] s (.inr h)
theorem tnum_inj {l : List (List UInt8)} {s u : List UInt8} (hs : s ∈ l) (hu : u ∈ l) (h : tnum l s = tnum l u) : s = u := by
  have h1 := tnum_at hs
  have h2 := tnum_at hu
  rw [h, h2] at h1
  exact (Option.some.inj h1).symm

theorem tnum_snoc {l : List (List UInt8)} {s : List UInt8} (h : s ∉ l) : tnum (l ++ [s]) s = l.length := by
  unfold tnum
  rw [if_pos (by simp), List.idxOf_append, if_neg h]
  simp

end Go.Proofs.YtgioknppnfencaaDoor
