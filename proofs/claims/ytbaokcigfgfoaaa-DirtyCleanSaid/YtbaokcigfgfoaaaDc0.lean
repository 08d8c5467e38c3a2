/- The walks of through, Of and Back, of the document's digest, and of the example. -/
import Derived.Test.YtbaokcigfgfoaaaK
import Derived.Test.YtbaokcigfgfoaaaDb0
namespace Go.Proofs.Ytbaokcigfgfoaaa
open Go.RowKit

/-- A step as a value of Go, its captured variable in a block. -/
def St.val (s : St) (b : Nat) : Value := .func (.func s.fn) #[] #[.pointer (some ⟨b, 0, none⟩)]

/-- A step lies in memory. -/
def St.laid (w : World) (v : Value) (s : St) : Prop := s.ok ∧ ∃ b, v = s.val b ∧ w.cell? ⟨b, 0, none⟩ = some s.cap

theorem plus_any (c : Int) (w : World) :
    Calls Try.prog 33 #[.int .u64 c] w fun e w' => e = .returned (.func (.func 37) #[] #[.pointer (some ⟨w.heap.size, 0, none⟩)]) ∧ w' = w.alloc (.cells #[.int .u64 c] 22) := by
  have hmf : ∀ (fn : Fn) (first cap : Array Value) (w : World), (Instr.makeFunc fn first cap).run Try.prog w = .ok (.func fn first cap) w := fun _ _ _ _ => rfl
  go_enter Try.func33, Try.ntmps33
  go_wp2
  go_ret
  exact ⟨rfl, rfl⟩
theorem times_any (c : Int) (w : World) :
    Calls Try.prog 35 #[.int .u64 c] w fun e w' => e = .returned (.func (.func 39) #[] #[.pointer (some ⟨w.heap.size, 0, none⟩)]) ∧ w' = w.alloc (.cells #[.int .u64 c] 22) := by
  have hmf : ∀ (fn : Fn) (first cap : Array Value) (w : World), (Instr.makeFunc fn first cap).run Try.prog w = .ok (.func fn first cap) w := fun _ _ _ _ => rfl
  go_enter Try.func35, Try.ntmps35
  go_wp2
  go_ret
  exact ⟨rfl, rfl⟩
theorem mixed_any (c : Int) (w : World) :
    Calls Try.prog 34 #[.int .i64 c] w fun e w' => e = .returned (.func (.func 38) #[] #[.pointer (some ⟨w.heap.size, 0, none⟩)]) ∧ w' = w.alloc (.cells #[.int .i64 c] 3) := by
  have hmf : ∀ (fn : Fn) (first cap : Array Value) (w : World), (Instr.makeFunc fn first cap).run Try.prog w = .ok (.func fn first cap) w := fun _ _ _ _ => rfl
  go_enter Try.func34, Try.ntmps34
  go_wp2
  go_ret
  exact ⟨rfl, rfl⟩
theorem step_any (s : St) (hok : s.ok) (x : Q64) (b : Nat) (w : World) (h : w.cell? ⟨b, 0, none⟩ = some s.cap) :
    Calls Try.prog s.fn #[qv x, .pointer (some ⟨b, 0, none⟩)] w fun e w' => e = .returned (qv (s.run x)) ∧ w = w' := by
  cases s with
  | plus c => exact plus1_any x c b w h
  | times c => exact times1_any x c b w h
  | mix k => exact mixed1_any x k hok b w h
  | unmix k => exact absurd hok id

/-- At the head of a round of through. -/
def TRel (x : Q64) (ss : List St) (w : World) (v idx : Value) (wr : World) : Prop := ∃ i, i ≤ ss.length ∧ idx = .int .i64 (i : Int) ∧ v = qv (runs x (ss.take i)) ∧ w = wr

theorem thr_end {x : Q64} {ss : List St} {i : Nat} (h : i = ss.length) : runs x (ss.take i) = runs x ss := by rw [h, List.take_length]

set_option maxRecDepth 100000 in
set_option maxHeartbeats 400000 in
theorem through_any (L : Option Addr) (n c : Nat) (vs : List Value) (ss : List St) (hn : n ≤ 1000) (x : Q64) (w : World) (hr : Reads w w.heap.size 1 L n vs) (hl : ss.length = n)
    (h : ∀ (i : Nat) (v : Value), vs[i]? = some v → ∃ s, ss[i]? = some s ∧ s.laid w v) :
    Calls Try.prog 32 #[qv x, .slice L n c] w fun e w' => e = .returned (qv (runs x ss)) ∧ w = w' := by
  have HL := Lib.hid hl
  have HS := Lib.hid h
  have H0 : TRel x ss w (qv x) (.int .i64 0) w := ⟨0, by omega, rfl, rfl, rfl⟩
  generalize qv x = v0 at H0 ⊢
  clear hl h
  go_enter Try.func32, Try.ntmps32
  go_wp2
  go_loopw [0, 9] (fun v idx wr => TRel x ss w v idx wr) (fun v idx wr => n - (intOf idx).toNat)
  case atStart => exact H0
  case round =>
    obtain ⟨i, hi, rfl, rfl, rfl⟩ := hrel
    clear H0
    rw [HL.out] at hi
    by_cases hlt : i < n
    · obtain ⟨ad, u, rfl, hadb, hx, hcell⟩ := hr.at_ hlt
      obtain ⟨s, hs, hok, b, rfl, hcap⟩ := HS.out i u hx
      have hone := runs_one x ss i s hs
      obtain ⟨y, hy⟩ : ∃ y, y = runs x (ss.take i) := ⟨_, rfl⟩
      rw [← hy] at hone ⊢
      have hc := step_any s hok y b w hcap
      rw [← hone] at hc
      generalize hq : qv (runs x (ss.take (i + 1))) = r at hc
      generalize qv y = v1 at hc ⊢
      have HQ := Lib.hid hq
      clear hx hs hy hone hcap hq
      cases s with
      | unmix k => exact absurd hok id
      | _ =>
        clear hok
        simp only [St.val, St.fn] at hcell hc
        go_wp2_with fail
        refine hc.mono ?_
        rintro e w1 ⟨rfl, rfl⟩
        go_wp2
        exact ⟨⟨i + 1, by rw [HL.out]; omega, by go_num, HQ.out.symm, rfl⟩, by simp [intOf]; omega⟩
    · obtain rfl : i = n := by omega
      have he := thr_end (x := x) HL.out.symm
      rw [he]
      obtain ⟨r, hr⟩ : ∃ r, qv (runs x ss) = r := ⟨_, rfl⟩
      rw [hr]
      have HR := Lib.hid hr
      clear he hr
      go_wp2
      go_ret
      exact ⟨by rw [HR.out]; rfl, rfl⟩

theorem cell_new (w : World) (v : Value) (t : TypeId) : (w.alloc (.cells #[v] t)).cell? ⟨w.heap.size, 0, none⟩ = some v := by
  simp only [World.cell?, World.alloc, Array.getElem?_push_size]
  rfl
theorem cell_old {w : World} {b : Nat} {v : Value} (o : Obj) (h : w.cell? ⟨b, 0, none⟩ = some v) : (w.alloc o).cell? ⟨b, 0, none⟩ = some v := by
  rw [World.cell?_alloc_lt w o _ (by
    rcases Nat.lt_or_ge b w.heap.size with hlt | hge
    · exact hlt
    · rw [World.cell?, Array.getElem?_eq_none hge] at h
      cases h)]
  exact h

/-- Six steps, each in a block of its own that was just made, handed to through. -/
theorem through_six (w : World) (x : Q64) (s1 s2 s3 s4 s5 s6 : St) (h1 : s1.ok) (h2 : s2.ok) (h3 : s3.ok) (h4 : s4.ok) (h5 : s5.ok) (h6 : s6.ok) (t1 t2 t3 t4 t5 t6 t7 : TypeId) (X : World)
    (hX : X = ((((((w.alloc (.cells #[s1.cap] t1)).alloc (.cells #[s2.cap] t2)).alloc (.cells #[s3.cap] t3)).alloc (.cells #[s4.cap] t4)).alloc (.cells #[s5.cap] t5)).alloc (.cells #[s6.cap] t6)).alloc
      (.cells #[s1.val w.heap.size, s2.val (w.heap.size + 1), s3.val (w.heap.size + 2), s4.val (w.heap.size + 3), s5.val (w.heap.size + 4), s6.val (w.heap.size + 5)] t7)) :
    Calls Try.prog 32 #[qv x, .slice (some ⟨w.heap.size + 6, 0, none⟩) 6 6] X fun e w' => e = .returned (qv (runs x [s1, s2, s3, s4, s5, s6])) ∧ X = w' := by
  obtain ⟨w1, hw1⟩ : ∃ w1, w1 = w.alloc (.cells #[s1.cap] t1) := ⟨_, rfl⟩
  obtain ⟨w2, hw2⟩ : ∃ w2, w2 = w1.alloc (.cells #[s2.cap] t2) := ⟨_, rfl⟩
  obtain ⟨w3, hw3⟩ : ∃ w3, w3 = w2.alloc (.cells #[s3.cap] t3) := ⟨_, rfl⟩
  obtain ⟨w4, hw4⟩ : ∃ w4, w4 = w3.alloc (.cells #[s4.cap] t4) := ⟨_, rfl⟩
  obtain ⟨w5, hw5⟩ : ∃ w5, w5 = w4.alloc (.cells #[s5.cap] t5) := ⟨_, rfl⟩
  obtain ⟨w6, hw6⟩ : ∃ w6, w6 = w5.alloc (.cells #[s6.cap] t6) := ⟨_, rfl⟩
  rw [← hw1, ← hw2, ← hw3, ← hw4, ← hw5, ← hw6] at hX
  have z1 : w1.heap.size = w.heap.size + 1 := by rw [hw1]; simp
  have z2 : w2.heap.size = w.heap.size + 2 := by rw [hw2]; simp [z1]
  have z3 : w3.heap.size = w.heap.size + 3 := by rw [hw3]; simp [z2]
  have z4 : w4.heap.size = w.heap.size + 4 := by rw [hw4]; simp [z3]
  have z5 : w5.heap.size = w.heap.size + 5 := by rw [hw5]; simp [z4]
  have z6 : w6.heap.size = w.heap.size + 6 := by rw [hw6]; simp [z5]
  have c1 : X.cell? ⟨w.heap.size, 0, none⟩ = some s1.cap := by
    rw [hX, hw6, hw5, hw4, hw3, hw2, hw1]
    exact cell_old _ (cell_old _ (cell_old _ (cell_old _ (cell_old _ (cell_old _ (cell_new w _ _))))))
  have c2 : X.cell? ⟨w.heap.size + 1, 0, none⟩ = some s2.cap := by
    rw [hX, hw6, hw5, hw4, hw3, hw2, ← z1]
    exact cell_old _ (cell_old _ (cell_old _ (cell_old _ (cell_old _ (cell_new w1 _ _)))))
  have c3 : X.cell? ⟨w.heap.size + 2, 0, none⟩ = some s3.cap := by
    rw [hX, hw6, hw5, hw4, hw3, ← z2]
    exact cell_old _ (cell_old _ (cell_old _ (cell_old _ (cell_new w2 _ _))))
  have c4 : X.cell? ⟨w.heap.size + 3, 0, none⟩ = some s4.cap := by
    rw [hX, hw6, hw5, hw4, ← z3]
    exact cell_old _ (cell_old _ (cell_old _ (cell_new w3 _ _)))
  have c5 : X.cell? ⟨w.heap.size + 4, 0, none⟩ = some s5.cap := by
    rw [hX, hw6, hw5, ← z4]
    exact cell_old _ (cell_old _ (cell_new w4 _ _))
  have c6 : X.cell? ⟨w.heap.size + 5, 0, none⟩ = some s6.cap := by
    rw [hX, hw6, ← z5]
    exact cell_old _ (cell_new w5 _ _)
  have hsz : X.heap.size = w.heap.size + 7 := by rw [hX]; simp [z6]
  refine through_any (some ⟨w.heap.size + 6, 0, none⟩) 6 6 [s1.val w.heap.size, s2.val (w.heap.size + 1), s3.val (w.heap.size + 2), s4.val (w.heap.size + 3), s5.val (w.heap.size + 4), s6.val (w.heap.size + 5)]
    [s1, s2, s3, s4, s5, s6] (by omega) x X ⟨rfl, fun _ => ⟨_, rfl, by rw [hsz]; simp, fun j u hu => ?_⟩⟩ rfl (fun i v hv => ?_)
  · have h0 : Addr.add ⟨w.heap.size + 6, 0, none⟩ j = ⟨w.heap.size + 6, j, none⟩ := by
      unfold Addr.add
      split
      · rename_i h; rw [h]
      · simp
    rw [h0, hX, ← z6]
    simp only [World.cell?, World.alloc, Array.getElem?_push_size]
    simpa using hu
  · match i, hv with
    | 0, hv => exact ⟨s1, rfl, h1, _, (Option.some.inj hv).symm, c1⟩
    | 1, hv => exact ⟨s2, rfl, h2, _, (Option.some.inj hv).symm, c2⟩
    | 2, hv => exact ⟨s3, rfl, h3, _, (Option.some.inj hv).symm, c3⟩
    | 3, hv => exact ⟨s4, rfl, h4, _, (Option.some.inj hv).symm, c4⟩
    | 4, hv => exact ⟨s5, rfl, h5, _, (Option.some.inj hv).symm, c5⟩
    | 5, hv => exact ⟨s6, rfl, h6, _, (Option.some.inj hv).symm, c6⟩
    | i + 6, hv => simp at hv

end Go.Proofs.Ytbaokcigfgfoaaa
