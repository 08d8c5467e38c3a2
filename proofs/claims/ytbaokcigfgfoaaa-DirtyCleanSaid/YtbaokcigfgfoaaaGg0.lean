/- fold.Put. -/
import Derived.Test.YtbaokcigfgfoaaaGf
namespace Go.Proofs.Ytbaokcigfgfoaaa
open Go.RowKit Go.Maps Go.ChangeMaps Go.WideMaps Go.Sort

set_option maxRecDepth 100000 in
set_option maxHeartbeats 1000000 in
theorem fputs_any (A : Option Addr) (n c : Nat) (xs : List Rw) (x : Rw) (hn : n ≤ 100000) (hf : ∀ y ∈ xs, y.t.length ≤ maxLen ∧ y.n ≤ 1000000) (hx : x.t.length ≤ maxLen ∧ x.n ≤ 1000000) (w : World) (h : Recs w w.heap.size A n xs) (hr : Reads w w.heap.size 3 x.A x.n (dps x.l) ∧ (x.A = none → x.c = 0)) :
    Calls Try.prog 17 #[.slice A n c, x.val] w fun e w' => ∃ A' c' zs, e = .returned (.slice A' (fo Rw.k Rw.t (xs ++ [x])).length c') ∧ zs.map Rw.say = (fo Rw.k Rw.t (xs ++ [x])).map Rw.say ∧ StateIn w' w.heap.size A' (fo Rw.k Rw.t (xs ++ [x])).length c' zs ∧ Below w.heap.size w w' := by
  have hl : xs.length = n := h.len
  have e0 : fo Rw.k Rw.t (xs ++ [x]) = put1 Rw.k Rw.t (fo Rw.k Rw.t xs) x := by unfold fo; rw [List.foldl_append]; rfl
  have hlen : (fo Rw.k Rw.t (xs ++ [x])).length ≤ 1000000 := by have := fo_len (k := Rw.k) (t := Rw.t) (xs ++ [x]); rw [List.length_append] at this; simp at this; omega
  have hso : Sound w (fo Rw.k Rw.t (xs ++ [x])) := fun y hy => by
    rcases List.mem_append.1 (fo_mem hy).1 with hy | hy
    · exact ⟨(hf y hy).1, (hf y hy).2, (h.2 y hy).1, (h.2 y hy).2⟩
    · obtain rfl := List.mem_singleton.1 hy
      exact ⟨hx.1, hx.2, hr.1, hr.2⟩
  obtain ⟨b0, hb0⟩ : ∃ b0, b0 = w.alloc (.cells #[.int .i64 x.r.kind, .string (tx x.r.target), .int .u64 x.r.rule, .slice x.A x.n x.c, .int .u64 x.r.out, .int .u64 x.r.time, .string (tx x.r.tag)] 36) := ⟨_, rfl⟩
  have hbb : Below w.heap.size w b0 := by rw [hb0]; exact (Below.refl _ w).alloc (Nat.le_refl _) _
  have hz0 : b0.heap.size = w.heap.size + 1 := by rw [hb0]; simp
  have HFO : Hid (Calls Try.prog 24 #[.slice A n c] b0 fun e w' => e = .returned (.map (some (w.heap.size + 1))) ∧ RMap w' (w.heap.size + 1) n (fo Rw.k Rw.t xs) ∧ Below b0.heap.size b0 w') := by
    have := folded_any A n c xs (by omega) (fun x hx => (hf x hx).1) b0 ((h.below hbb).more hbb.size)
    rwa [hz0] at this ⊢
  have HPU : Hid (∀ W, RMap W (w.heap.size + 1) n (fo Rw.k Rw.t xs) → Calls Try.prog 25 #[.map (some (w.heap.size + 1)), x.val] W fun e w' => e = .returned (.tuple #[]) ∧ RMap w' (w.heap.size + 1) (n + 1) (fo Rw.k Rw.t (xs ++ [x])) ∧ W.grownBy w' (some (w.heap.size + 1))) := fun W hm => by
    rw [e0]
    exact fput_any x _ n _ (by omega) hx.1 W hm
  have HTO : Hid (∀ W, Below w.heap.size w W → RMap W (w.heap.size + 1) (n + 1) (fo Rw.k Rw.t (xs ++ [x])) → Calls Try.prog 26 #[.map (some (w.heap.size + 1))] W fun e w' => ∃ A' c' zs, e = .returned (.slice A' (fo Rw.k Rw.t (xs ++ [x])).length c') ∧ zs.map Rw.say = (fo Rw.k Rw.t (xs ++ [x])).map Rw.say ∧ StateIn w' W.heap.size A' (fo Rw.k Rw.t (xs ++ [x])).length c' zs ∧ Below W.heap.size W w') := fun W hb hm =>
    told_any _ (n + 1) (by omega) _ hlen W (hso.below hb) hm
  have HBB := Lib.hid hbb
  have HZ0 := Lib.hid hz0
  clear hr hso h hf hl hx e0
  generalize fo Rw.k Rw.t (xs ++ [x]) = S at *
  obtain ⟨⟨k, t, u, o, m, gg⟩, A4, n4, c4, l4⟩ := x
  unfold Rw.val rcv rsv at *
  simp only at hb0 HPU ⊢
  have hh := one_new w (.cells #[.int .i64 k, .string (tx t), .int .u64 u, .slice A4 n4 c4, .int .u64 o, .int .u64 m, .string (tx gg)] 36)
  rw [← hb0] at hh
  have HB00 := Lib.hid hb0
  have CELL : Hid (∀ {W : World} {i : Nat} {v : Value}, Below b0.heap.size b0 W → (#[.int .i64 k, .string (tx t), .int .u64 u, .slice A4 n4 c4, .int .u64 o, .int .u64 m, .string (tx gg)] : Array Value)[i]? = some v → W.cell? ⟨w.heap.size, i, none⟩ = some v) := fun {W i v} hb hi =>
    at_cell ((hb.block w.heap.size (by rw [HZ0.out]; omega)).trans hh) hi
  clear hh hbb hz0 hb0
  go_enter Try.func17, Try.ntmps17
  go_wp2_with fail
  rw [← HB00.out]
  refine HFO.out.mono ?_
  rintro e w1 ⟨rfl, hm1, hb1⟩
  have HM1 := Lib.hid hm1
  have HB1 := Lib.hid (HBB.out.trans (hb1.mono HBB.out.size))
  have q0 := CELL.out (i := 0) hb1 rfl
  have q1 := CELL.out (i := 1) hb1 rfl
  have q2 := CELL.out (i := 2) hb1 rfl
  have q3 := CELL.out (i := 3) hb1 rfl
  have q4 := CELL.out (i := 4) hb1 rfl
  have q5 := CELL.out (i := 5) hb1 rfl
  have q6 := CELL.out (i := 6) hb1 rfl
  clear hm1 hb1
  go_wp2_with (first
    | (go_at_call 26; refine (HTO.out _ HB2.out HM2.out).mono ?_; rintro e w3 ⟨A', c', zs, rfl, hsay, hst, hb3⟩; have HSAY := Lib.hid hsay; have HST := Lib.hid hst; have HB3 := Lib.hid (HB2.out.trans (hb3.mono HB2.out.size)); clear hsay hst hb3)
    | (go_at_call 25; refine (HPU.out _ HM1.out).mono ?_; rintro e w2 ⟨rfl, hm2, hg2⟩; have HM2 := Lib.hid hm2; have HB2 := Lib.hid (HB1.out.grown hg2 HB1.out.size (fun j hj => by cases hj; omega)); clear hm2 hg2))
  go_ret
  exact ⟨A', c', zs, rfl, HSAY.out, HST.out.less HB2.out.size, HB3.out⟩

end Go.Proofs.Ytbaokcigfgfoaaa
