/- Layer 13: the chapter's example. -/
import Derived.Test.YtfgonihpakcbbaaOw
import Derived.Lib.SlBytesConst
namespace Go.Proofs.Ytfgonihpakcbbaa
open Go.RowKit

/-- A row that was just laid, of whichever mark. -/
theorem reads_laid (W : World) (e : TypeId) (xs : List Value) (fz : Nat × Nat) : Reads (W.alloc (.cells xs.toArray e fz)) (W.alloc (.cells xs.toArray e fz)).heap.size 1 (some ⟨W.heap.size, 0, none⟩) xs.length xs :=
  ⟨by simp, fun _ => ⟨_, rfl, by simp, fun j u hu => by
    have h0 : Addr.add ⟨W.heap.size, 0, none⟩ j = ⟨W.heap.size, j, none⟩ := by
      unfold Addr.add
      split
      · rename_i h; rw [h]
      · simp
    rw [h0]
    simp only [World.cell?, World.alloc, Array.getElem?_push_size]
    simpa using hu⟩⟩
def xf1 : List UInt8 → Option Fl := flput (fun _ => none) [120] (some ⟨[97, 98], 0⟩)
def xf2 : List UInt8 → Option Fl := flput xf1 [120] (some ⟨[97, 98], 2⟩)
def xf3 : List UInt8 → Option Fl := flput xf2 [120] (some ⟨[97, 98, 99, 100], 2⟩)
theorem xf_other {u : List UInt8} (h : u ≠ [120]) : xf3 u = none := by simp [xf3, xf2, xf1, flput, h]
theorem xf_x : xf3 [120] = some ⟨[97, 98, 99, 100], 2⟩ := by simp [xf3, flput]
theorem xf_names {ns : List (List UInt8)} (h : IsNames xf3 ns) : ns = [[120]] := by
  have h1 : [120] ∈ ns := (h.2 _).2 (by rw [xf_x]; rfl)
  have h2 : ∀ u ∈ ns, u = [120] := fun u hu => by
    rcases Classical.em (u = [120]) with e | e
    · exact e
    · have := (h.2 u).1 hu
      rw [xf_other e] at this
      cases this
  have hn := names_nodup h
  match ns, h1, h2, hn with
  | [a], _, h2, _ => rw [h2 a (by simp)]
  | a :: b :: l, _, h2, hn =>
    have e1 := h2 a (by simp)
    have e2 := h2 b (by simp)
    subst e1 e2
    simp at hn
theorem crN_cons {s : List UInt8} {ns : List (List UInt8)} {st : (List UInt8 → Option Fl) × List Int} {x : Fl} (h : st.1 s = some x) : crN (s :: ns) st = crN ns (flput st.1 s (some (crOne x st.2).1), (crOne x st.2).2) := by
  show (match st.1 s with | none => crN ns st | some x => crN ns (flput st.1 s (some (crOne x st.2).1), (crOne x st.2).2)) = _
  rw [h]
theorem xf_end : (crN [[120]] (xf3, [1])).1 [120] = some ⟨[97, 98, 99], 3⟩ := by
  rw [crN_cons (st := (xf3, [1])) xf_x]
  show flput xf3 [120] _ [120] = _
  unfold flput
  rw [if_pos rfl]
  rfl
theorem xf_get : flGet xf2 [120] = ⟨[97, 98], 2⟩ := flGet_some (by simp [xf2, flput])
theorem ask0 : AskIn (false, 0) := by simp [AskIn]

set_option maxRecDepth 100000 in
set_option maxHeartbeats 2000000 in
theorem vfixed_any (w : World) : Calls Try.prog 6 #[] w fun e w' => e = .returned (.bool true) ∧ Below w.heap.size w w' := by
  have kc := fun (w : World) (C : Array Value) (n c : Nat) => Lib.run_convert_bytes_const (P := Try.prog) w 28 5 C n c Try.underlying28 Try.underlying5
  have htl : (tx [97, 98, 99]).toList = [97, 98, 99] := by simp [tx]
  go_enter Try.func6, Try.ntmps6
  go_wp2_with fail
  refine (new_any 0 w).mono ?_
  rintro e w1 ⟨rfl, hx1, hf1, hb1⟩
  obtain ⟨p, hp⟩ : ∃ p, p = w.heap.size + 1 := ⟨_, rfl⟩
  obtain ⟨b, hb⟩ : ∃ b, b = w.heap.size := ⟨_, rfl⟩
  have HP : Hid (w.heap.size ≤ p) := (by show _ ≤ p; omega)
  have HBB : Hid (w.heap.size ≤ b) := (by show _ ≤ b; omega)
  rw [← hp, ← hb] at hx1
  rw [← hb] at hf1
  rw [← hp]
  have HX1 := Lib.hid hx1
  have HF1 := Lib.hid hf1
  have HB1 := Lib.hid hb1
  clear hx1 hf1 hb1 hp hb
  go_wp2_with fail
  have ha := (Below.refl w1.heap.size w1).alloc (Nat.le_refl _) (.cells #[.int .u8 97, .int .u8 98] 5 (2, 3))
  refine (append_any p b 0 0 _ (false, 0) (false, 0) ask0 ask0 (fun _ => none) (fun _ => none) [120] (by unfold maxLen; simp) (some ⟨w1.heap.size, 0, none⟩) 2 2 [97, 98] (fun h => by cases h) (by omega) (by omega) (by simp [flGet]) _ (Nat.zero_le _) (HX1.out.below ha) (HF1.out.below ha) (Nat.le_refl _) (reads_laid w1 5 [.int .u8 97, .int .u8 98] (2, 3))).mono ?_
  clear ha
  rintro e w2 ⟨rfl, N2, F2, hact⟩
  have HF2 : Hid (FilesF w2 0 b N2 xf1 F2) := hact.files
  have HX2 : Hid (FsBox w2 p b false (false, 0) (false, 0)) := hact.box
  have HN2 : Hid (N2 ≤ 2) := hact.room
  have HS2 : Hid (∀ k, FsBlk p b F2 k → w.heap.size ≤ k) := fun k hk => by
    rcases hact.sub k hk with h | h
    · rcases h with h | h | ⟨u, A, n, c, s, h, _⟩
      · rw [h]; exact HP.out
      · rw [h]; exact HBB.out
      · cases h
    · exact Nat.le_trans HB1.out.size (Nat.le_trans (by simp) h)
  have hb2 : Below w.heap.size w w2 := (HB1.out.trans (((Below.refl w1.heap.size w1).alloc (Nat.le_refl _) _).mono HB1.out.size)).trans (hact.turn.below (fun i hi => by
    rcases hi with h | h | ⟨u, A, n, c, s, h, _⟩
    · rw [h]; exact HP.out
    · rw [h]; exact HBB.out
    · cases h) (by have := HB1.out.size; simp; omega))
  have HB2 := Lib.hid hb2
  clear hact hb2
  go_wp2_with fail
  refine (sync_act p b N2 0 (false, 0) (false, 0) ask0 ask0 xf1 F2 [120] (by unfold maxLen; simp) ⟨[97, 98], 0⟩ (by simp [xf1, flput]) (by have := HN2.out; omega) w2 HX2.out HF2.out).mono ?_
  rintro e w3 ⟨rfl, N3, F3, hact⟩
  have HF3 : Hid (FilesF w3 0 b N3 xf2 F3) := hact.files
  have HX3 : Hid (FsBox w3 p b false (false, 0) (false, 0)) := hact.box
  have HN3 : Hid (N3 ≤ 4) := Nat.le_trans hact.room (by have := HN2.out; omega)
  have HS3 : Hid (∀ k, FsBlk p b F3 k → w.heap.size ≤ k) := fun k hk => by
    rcases hact.sub k hk with h | h
    · exact HS2.out k h
    · exact Nat.le_trans HB2.out.size h
  have HB3 : Hid (Below w.heap.size w w3) := HB2.out.trans (hact.turn.below HS2.out HB2.out.size)
  clear hact
  go_wp2_with fail
  have ha := (Below.refl w3.heap.size w3).alloc (Nat.le_refl _) (.cells #[.int .u8 99, .int .u8 100] 5 (2, 3))
  refine (append_any p b N3 0 _ (false, 0) (false, 0) ask0 ask0 xf2 F3 [120] (by unfold maxLen; simp) (some ⟨w3.heap.size, 0, none⟩) 2 2 [99, 100] (fun h => by cases h) (by have := HN3.out; omega) (by omega) (by rw [xf_get]; simp) _ (Nat.zero_le _) (HX3.out.below ha) (HF3.out.below ha) (Nat.le_refl _) (reads_laid w3 5 [.int .u8 99, .int .u8 100] (2, 3))).mono ?_
  rintro e w4 ⟨rfl, N4, F4, hact⟩
  have hfl : FilesF w4 0 b N4 (flput xf2 [120] (some ⟨(flGet xf2 [120]).body ++ [99, 100], (flGet xf2 [120]).safe⟩)) F4 := hact.files
  rw [xf_get] at hfl
  have HF4 : Hid (FilesF w4 0 b N4 xf3 F4) := hfl
  have HX4 : Hid (FsBox w4 p b false (false, 0) (false, 0)) := hact.box
  have HN4 : Hid (N4 ≤ 6) := Nat.le_trans hact.room (by have := HN3.out; omega)
  have hb3 : Below w.heap.size w (w3.alloc (.cells #[.int .u8 99, .int .u8 100] 5 (2, 3))) := HB3.out.trans (ha.mono HB3.out.size)
  have HS4 : Hid (∀ k, FsBlk p b F4 k → w.heap.size ≤ k) := fun k hk => by
    rcases hact.sub k hk with h | h
    · exact HS3.out k h
    · exact Nat.le_trans hb3.size h
  have HB4 : Hid (Below w.heap.size w w4) := hb3.trans (hact.turn.below HS3.out hb3.size)
  clear hact hfl ha hb3
  go_wp2_with fail
  have ha := (Below.refl w4.heap.size w4).alloc (Nat.le_refl _) (.cells #[.int .i64 1] 3)
  have hlt4 := blk_lt HF4.out HX4.out
  refine (crash_any p b N4 0 false (false, 0) (false, 0) xf3 F4 (some ⟨w4.heap.size, 0, none⟩) 1 1 [1] (by have := HN4.out; omega) (fun u x hu => ?_) (Nat.le_refl _) (by unfold maxLen; omega) (fun h => by cases h) _ (Nat.zero_le _) (HX4.out.below ha) (HF4.out.below ha) (fun _ ad e h => by cases e; exact absurd (hlt4 _ h) (Nat.lt_irrefl _)) (reads_laid w4 3 [.int .i64 1] (0, 0))).mono ?_
  · rcases Classical.em (u = [120]) with e | e
    · rw [e, xf_x] at hu
      cases hu
      rw [e]
      unfold maxLen
      simp
    · rw [xf_other e] at hu
      cases hu
  rintro e w5 ⟨rfl, F5, ns, hns, hnl, hf5, hx5, ht5, _⟩
  obtain rfl := xf_names hns
  have HF5 := Lib.hid hf5
  have HX5 := Lib.hid hx5
  have hb4 : Below w.heap.size w (w4.alloc (.cells #[.int .i64 1] 3)) := HB4.out.trans (ha.mono HB4.out.size)
  have HB5 : Hid (Below w.heap.size w w5) := hb4.trans (ht5.below HS4.out hb4.size)
  clear hf5 hx5 ht5 hns hnl ha hb4 hlt4
  go_wp2_with fail
  refine (read_some p b _ 0 false (false, 0) (false, 0) _ F5 [120] (by unfold maxLen; simp) ⟨[97, 98, 99], 3⟩ xf_end (by simp) w5 HX5.out HF5.out).mono ?_
  rintro e w6 ⟨⟨A6, c6, he6, hA6, ho6⟩, hb6⟩
  replace he6 : e = .returned (.tuple #[.slice A6 3 c6, .int .i64 0]) := he6
  replace ho6 : w6.ownsRow w5.heap.size 5 1 (.slice A6 3 c6) 3 ([97, 98, 99].map bv) := ho6
  subst he6
  have hcv := conv_reads (P := Try.prog) (c := c6) Try.underlying28 Try.underlying5 Try.underlying9 (Reads.of_own ho6)
  have HB6 := Lib.hid (HB5.out.trans (hb6.mono HB5.out.size))
  clear ho6 hb6 hA6
  go_wp2
  go_ret
  exact ⟨rfl, HB6.out⟩

end Go.Proofs.Ytfgonihpakcbbaa
