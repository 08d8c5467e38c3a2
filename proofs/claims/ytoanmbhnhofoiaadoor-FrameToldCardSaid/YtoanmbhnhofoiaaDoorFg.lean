/- The walk of Run of tephraref06. -/
import Derived.Test.YtoanmbhnhofoiaaDoorFf
namespace Go.Proofs.YtoanmbhnhofoiaaDoor
open Go.RowKit Go.Shelf

theorem info_str : (Tryd.prog.info? 9).map (fun i => (i.zero, i.size, i.bytes)) = some (some (.string { data := #[] }), 1, 16) := by kernel_rfl
theorem info_int : (Tryd.prog.info? 3).map (fun i => (i.zero, i.size, i.bytes)) = some (some (.int .i64 0), 1, 8) := by kernel_rfl

/-- Rows of unlike elements lie in unlike blocks: where one of them grows the other stays. -/
theorem own_unlike {w w' : World} {b1 b2 s1 s2 n1 n2 : Nat} {e1 e2 : TypeId} {v1 v2 : Value} {xs1 xs2 : List Value} (h1 : w.ownsRow b1 e1 s1 v1 n1 xs1) (h2 : w.ownsRow b2 e2 s2 v2 n2 xs2) (he : e1 ≠ e2)
    (hg : w.grownBy w' v1.ownBlock) : w'.ownsRow b2 e2 s2 v2 n2 xs2 := by
  refine own_kept h2 (fun g hg1 hg2 => ?_) hg
  rcases h1.2 with ⟨rfl, _⟩ | ⟨g1, c1, k1, rfl, _, hh1, _⟩
  · simp [Value.ownBlock] at hg1
  rcases h2.2 with ⟨rfl, _⟩ | ⟨g2, c2, k2, rfl, _, hh2, _⟩
  · simp [Value.ownBlock] at hg2
  simp only [Value.ownBlock, Option.some.injEq] at hg1 hg2
  subst hg1
  subst hg2
  rw [hh1] at hh2
  injection hh2 with hh2
  injection hh2 with _ h
  exact he h

theorem own_alloc {w : World} {base n size : Nat} {e : TypeId} {v : Value} {xs : List Value} (h : w.ownsRow base e size v n xs) (o : Obj) : (w.alloc o).ownsRow base e size v n xs :=
  own_below h ((Below.refl _ w).alloc (Nat.le_refl _) o)

/-- What is told: a payload, and the place behind it. -/
def tp (r : List UInt8 × Nat) : Value := sv r.1
def tn (r : List UInt8 × Nat) : Value := .int .i64 (r.2 : Int)

theorem frun_go {k at_ nx : Nat} {p bs : List UInt8} (h : fg at_ bs = (p, nx, 0)) : frun (k + 1) at_ bs = (p, nx) :: frun k nx bs := by
  rw [frun, h]; rfl

/-- At the head of a round of Run. -/
def ZRel (w : World) (bs : List UInt8) (F : List (List UInt8 × Nat)) (at_ l e : Value) (wr : World) : Prop :=
  ∃ (D : List (List UInt8 × Nat)) (a k : Nat), at_ = .int .i64 (a : Int) ∧ a ≤ bs.length ∧ bs.length - a < k ∧ D.length ≤ a ∧ F = D ++ frun k a bs ∧
    wr.ownsRow w.heap.size 9 1 l D.length (D.map tp) ∧ wr.ownsRow w.heap.size 3 1 e D.length (D.map tn) ∧ Below w.heap.size w wr

set_option maxRecDepth 100000 in
set_option maxHeartbeats 1000000 in
theorem rrun_any (bs : List UInt8) (a0 : Nat) (hn : bs.length ≤ 1073741824) (hat : a0 ≤ bs.length) (w : World) (F : List (List UInt8 × Nat)) (hF : F = frun (bs.length + 1) a0 bs) :
    Calls Tryd.prog 18 #[.string (tx bs), .int .i64 (a0 : Int)] w fun e w' => ∃ l en, e = .returned (.tuple #[l, en]) ∧
      w'.ownsRow w.heap.size 9 1 l F.length (F.map tp) ∧ w'.ownsRow w.heap.size 3 1 en F.length (F.map tn) ∧ Below w.heap.size w w' := by
  obtain ⟨is, hs, hs0, hs1, hs2⟩ := info_parts info_str
  obtain ⟨ii, hi, hi0, hi1, hi2⟩ := info_parts info_int
  have HG : Hid (∀ (a : Nat) (W : World), a ≤ bs.length → Calls Tryd.prog 16 #[.string (tx bs), .int .i64 (a : Int)] W fun e w' => e = .returned (rres (fg a bs)) ∧ Below W.heap.size W w') := fun a W h => rfget_any bs a hn h W
  have HF := Lib.hid hF
  have HN := Lib.hid hn
  have HAT := Lib.hid hat
  clear hF hn hat
  generalize tx bs = s at HG
  go_enter Tryd.func18, Tryd.ntmps18
  go_wp2
  go_loopw [1, 6, 7] (fun at_ l e wr => ZRel w bs F at_ l e wr) (fun at_ l e wr => bs.length - (intOf at_).toNat)
  case atStart =>
    refine ⟨[], a0, bs.length + 1, rfl, HAT.out, by omega, by simp, by rw [HF.out]; rfl, own_alloc (own_empty w 9) _, ?_, (((Below.refl _ w).alloc (Nat.le_refl _) _).alloc (by simp) _)⟩
    have h := own_more (base' := w.heap.size) (own_empty (w.alloc (.cells #[] 9)) 3) (by simp)
    rw [World.size_alloc] at h
    exact h
  case round =>
    obtain ⟨D, a, k, rfl, ha, hk, hD, hFD, ho1, ho2, hb⟩ := hrel
    obtain ⟨k, rfl⟩ : ∃ k', k = k' + 1 := ⟨k - 1, by omega⟩
    obtain ⟨p, nx, er, hg⟩ : ∃ p nx er, fg a bs = (p, nx, er) := ⟨_, _, _, rfl⟩
    have hget := HG.out a wr ha
    rw [hg] at hget
    have HGET := Lib.hid hget
    have HHG := Lib.hid hg
    have HFD := Lib.hid hFD
    have HD := Lib.hid hD
    have HK := Lib.hid hk
    have HA := Lib.hid ha
    clear hg hget hFD hD hk ha
    by_cases her : er = 0
    · subst her
      have h4 := fg_ok HHG.out
      have hfit : D.length + 1 ≤ 1073741824 := by have := HN.out; have := HD.out; omega
      have H4 := Lib.hid h4
      clear h4
      go_wp2_with (first
        | (go_at_call 16; refine HGET.out.mono ?_; rintro e w1 ⟨rfl, hb1⟩; unfold rres)
        | (at_builtin; refine wpList_append_own _ rfl (.tmp 24) (.tmp 26) 45 rfl w.heap.size 9 is (.string { data := #[] }) 1 16 Tryd.underlying45 hs hs0 hs1 hs2 rfl (by decide) _ D.length (D.map tp) rfl (own_alloc (own_below ho1 hb1) _) ⟨w1.heap.size, 0, none⟩ 1 1 [sv p] rfl rfl (cell_one_new _ _ _) (by simp [Value.oneCell', sv]) (by unfold maxLen; omega) (by omega) (by have := hb.size; have := hb1.size; simp; omega) ?_; intro l2 w2 ho3 hg2 _)
        | (at_builtin; refine wpList_append_own _ rfl (.tmp 28) (.tmp 30) 42 rfl w.heap.size 3 ii (.int .i64 0) 1 8 Tryd.underlying42 hi hi0 hi1 hi2 rfl (by decide) _ D.length (D.map tn) rfl (own_alloc (own_unlike (own_alloc (own_below ho1 hb1) _) (own_alloc (own_below ho2 hb1) _) (by decide) hg2) _) ⟨w2.heap.size, 0, none⟩ 1 1 [.int .i64 (nx : Int)] rfl rfl (cell_one_new _ _ _) (by simp [Value.oneCell']) (by unfold maxLen; omega) (by omega) (by have := hb.size; have := hb1.size; have := hg2.size; simp at *; omega) ?_; intro e2 w3 ho4 hg3 _))
      have hb2 := ((hb.trans (hb1.mono hb.size)).alloc (by have := hb.size; have := hb1.size; omega) (.cells #[sv p] 9)).grown hg2 (by have := hb.size; have := hb1.size; simp; omega) (own_block ho1)
      have hb3 := (hb2.alloc hb2.size (.cells #[.int .i64 (nx : Int)] 3)).grown hg3 (by have := hb2.size; simp; omega) (own_block ho2)
      refine ⟨⟨D ++ [(p, nx)], nx, k, rfl, H4.out.2.1, by have := H4.out; have := HK.out; omega, by have := H4.out; have := HD.out; simp; omega, by rw [HFD.out, frun_go HHG.out]; simp, ?_, ?_, hb3⟩, by simp [intOf]; have := H4.out; omega⟩
      · have h := own_unlike (own_alloc (own_unlike (own_alloc (own_below ho1 hb1) _) (own_alloc (own_below ho2 hb1) _) (by decide) hg2) _) (own_alloc ho3 _) (by decide) hg3
        simpa [tp, sv] using h
      · simpa [tn] using ho4
    · have hre : ((er : Int) == 0) = false := by rw [beq_eq_false_iff_ne]; omega
      have HE := Lib.hid her
      clear her
      go_wp2_with (go_at_call 16; refine HGET.out.mono ?_; rintro e w1 ⟨rfl, hb1⟩; unfold rres)
      go_ret2
      have hF2 : F = D := by rw [HFD.out, frun_stop (by rw [HHG.out]; exact HE.out), List.append_nil]
      rw [hF2]
      exact ⟨_, _, rfl, own_below ho1 hb1, own_below ho2 hb1, hb.trans (hb1.mono hb.size)⟩

set_option maxRecDepth 100000 in
set_option maxHeartbeats 1000000 in
theorem rrun_bad (bs : List UInt8) (a0 : Int) (h : a0 < 0 ∨ (bs.length : Int) < a0) (w : World) :
    Calls Tryd.prog 18 #[.string (tx bs), .int .i64 a0] w fun e w' => ∃ l en, e = .returned (.tuple #[l, en]) ∧
      w'.ownsRow w.heap.size 9 1 l ([] : List (List UInt8 × Nat)).length (([] : List (List UInt8 × Nat)).map tp) ∧ w'.ownsRow w.heap.size 3 1 en ([] : List (List UInt8 × Nat)).length (([] : List (List UInt8 × Nat)).map tn) ∧ Below w.heap.size w w' := by
  have HG : Hid (∀ W : World, Calls Tryd.prog 16 #[.string (tx bs), .int .i64 a0] W fun e w' => e = .returned (rres ([], 0, 1)) ∧ W = w') := fun W => rfget_bad bs a0 h W
  have h2 := own_more (base' := w.heap.size) (own_empty (w.alloc (.cells #[] 9)) 3) (by simp)
  rw [World.size_alloc] at h2
  have h1 := own_alloc (own_empty w 9) (.cells #[] 3)
  have hb := (((Below.refl _ w).alloc (Nat.le_refl _) (.cells #[] 9)).alloc (by simp) (.cells #[] 3))
  have H1 := Lib.hid h1
  have H2 := Lib.hid h2
  have HB := Lib.hid hb
  clear h h1 h2 hb
  generalize tx bs = s at HG
  go_enter Tryd.func18, Tryd.ntmps18
  go_wp2
  go_loopw [1, 6, 7] (fun at_ l e wr => at_ = .int .i64 a0 ∧ l = .slice (some ⟨w.heap.size, 0, none⟩) 0 0 ∧ e = .slice (some ⟨w.heap.size + 1, 0, none⟩) 0 0 ∧ wr = (w.alloc (.cells #[] 9)).alloc (.cells #[] 3)) (fun at_ l e wr => 0)
  case atStart => exact ⟨rfl, rfl, rfl, rfl⟩
  case round =>
    obtain ⟨rfl, rfl, rfl, rfl⟩ := hrel
    go_wp2_with (go_at_call 16; refine (HG.out _).mono ?_; rintro e w1 ⟨rfl, rfl⟩; unfold rres)
    go_ret2
    exact ⟨_, _, rfl, H1.out, H2.out, HB.out⟩

end Go.Proofs.YtoanmbhnhofoiaaDoor
