/- New, Down, Safe, Read, Fail, Fall. -/
import Derived.Test.YtfgonihpakcbbaaOm
namespace Go.Proofs.Ytfgonihpakcbbaa
open Go.RowKit Go.Maps Go.ChangeMaps Go.WideMaps Go.Sort

set_option maxRecDepth 100000 in
set_option maxHeartbeats 1000000 in
theorem new_any (base : Nat) (w : World) :
    Calls Try.prog 7 #[] w fun e w' => e = .returned (.pointer (some ⟨w.heap.size + 1, 0, none⟩)) ∧ FsBox w' (w.heap.size + 1) w.heap.size false (false, 0) (false, 0) ∧ FilesF w' base w.heap.size 0 (fun _ => none) (fun _ => none) ∧ Below w.heap.size w w' := by
  have hmm := @run_makeMap Try.prog
  have z0 : (w.alloc (.map #[] 0)).heap.size = w.heap.size + 1 := by simp
  have HB : Hid (Below w.heap.size w ((w.alloc (.map #[] 0)).alloc (.cells #[.map (some w.heap.size), .bool false, .bool false, .int .i64 0, .bool false, .int .i64 0] 50))) := ((Below.refl _ _).alloc (Nat.le_refl _) _).alloc (by rw [z0]; omega) _
  have HX := one_new (w.alloc (.map #[] 0)) (.cells #[.map (some w.heap.size), .bool false, .bool false, .int .i64 0, .bool false, .int .i64 0] 50)
  rw [z0] at HX
  have HX1 := Lib.hid HX
  have HM := Lib.hid ((tmap_start w).below ((Below.refl (w.alloc (.map #[] 0)).heap.size (w.alloc (.map #[] 0))).alloc (Nat.le_refl _) (.cells #[.map (some w.heap.size), .bool false, .bool false, .int .i64 0, .bool false, .int .i64 0] 50)))
  clear HX z0
  go_enter Try.func7, Try.ntmps7
  go_wp2
  go_ret
  exact ⟨rfl, HX1.out, ⟨HM.out, fun _ _ => rfl, fun _ _ h => (by cases h), fun _ _ _ _ _ _ _ _ _ _ _ h => (by cases h)⟩, HB.out⟩

set_option maxRecDepth 100000 in
theorem down_any (p b : Nat) (down : Bool) (f g : Bool × Int) (w : World) (h : FsBox w p b down f g) :
    Calls Try.prog 13 #[.pointer (some ⟨p, 0, none⟩)] w fun e w' => e = .returned (.bool down) ∧ w = w' := by
  have c1 := at_cell (i := 1) h rfl
  clear h
  go_enter Try.func13, Try.ntmps13
  go_wp2
  go_ret
  exact ⟨rfl, by first | trivial | rfl⟩

/-- How many of a name's bytes are safe. -/
def safeOf (fl : List UInt8 → Option Fl) (s : List UInt8) : Nat := (flGet fl s).safe
set_option maxRecDepth 100000 in
set_option maxHeartbeats 1000000 in
theorem safe_any (p b N base : Nat) (down : Bool) (f g : Bool × Int) (fl : List UInt8 → Option Fl) (F : List UInt8 → Option Value) (s : List UInt8) (hs : s.length ≤ maxLen) (w : World) (h : FsBox w p b down f g) (hf : FilesF w base b N fl F) :
    Calls Try.prog 15 #[.pointer (some ⟨p, 0, none⟩), .string (tx s)] w fun e w' => e = .returned (.int .i64 (safeOf fl s : Int)) ∧ Below w.heap.size w w' := by
  have c0 := at_cell (i := 0) h rfl
  obtain ⟨A, c, hv, _⟩ := files_get hf p s
  have hlk := hf.1.look hs Try.underlying46 (zeroF w)
  rw [hv] at hlk
  unfold fval at hlk
  unfold safeOf
  generalize (flGet fl s).safe = q at *
  generalize (flGet fl s).body.length = n at *
  have hfd : ∀ W : World, (Instr.field 54 (.agg #[.slice A n c, .int .i64 (q : Int)]) 1).run Try.prog W = .ok (.int .i64 (q : Int)) W := fun _ => by kernel_rfl
  clear h hf hv
  go_enter Try.func15, Try.ntmps15
  go_wp2
  go_ret
  exact ⟨rfl, by first | exact Below.refl _ _ | exact (Below.refl _ _).alloc (Nat.le_refl _) _⟩

set_option maxRecDepth 100000 in
set_option maxHeartbeats 1000000 in
theorem read_none (p b N base : Nat) (down : Bool) (f g : Bool × Int) (fl : List UInt8 → Option Fl) (F : List UInt8 → Option Value) (s : List UInt8) (hs : s.length ≤ maxLen) (hfx : fl s = none) (w : World) (h : FsBox w p b down f g) (hf : FilesF w base b N fl F) :
    Calls Try.prog 14 #[.pointer (some ⟨p, 0, none⟩), .string (tx s)] w fun e w' => e = .returned (.tuple #[.slice none 0 0, .int .i64 6]) ∧ Below w.heap.size w w' := by
  have c0 := at_cell (i := 0) h rfl
  have hlk := hf.1.look2 hs Try.underlying46 (zeroF w)
  rw [hf.2.1 s hfx] at hlk
  simp only [Option.getD_none, Option.isSome_none] at hlk
  clear h hf
  go_enter Try.func14, Try.ntmps14
  go_wp2
  go_ret2
  exact ⟨rfl, (Below.refl _ _).alloc (Nat.le_refl _) _⟩
set_option maxRecDepth 100000 in
set_option maxHeartbeats 1000000 in
theorem read_some (p b N base : Nat) (down : Bool) (f g : Bool × Int) (fl : List UInt8 → Option Fl) (F : List UInt8 → Option Value) (s : List UInt8) (hs : s.length ≤ maxLen) (x : Fl) (hfx : fl s = some x) (hxl : x.body.length ≤ 1073741824) (w : World) (h : FsBox w p b down f g) (hf : FilesF w base b N fl F) :
    Calls Try.prog 14 #[.pointer (some ⟨p, 0, none⟩), .string (tx s)] w fun e w' => (∃ A' c', e = .returned (.tuple #[.slice A' x.body.length c', .int .i64 0]) ∧ (A' = none → c' = 0) ∧ w'.ownsRow w.heap.size 5 1 (.slice A' x.body.length c') x.body.length (x.body.map bv)) ∧ Below w.heap.size w w' := by
  have c0 := at_cell (i := 0) h rfl
  obtain ⟨A, c, hF, hA, ho⟩ := hf.2.2.1 s x hfx
  have hlk := hf.1.look2 hs Try.underlying46 (zeroF w)
  rw [hF] at hlk
  simp only [Option.getD_some, Option.isSome_some] at hlk
  unfold fval at hlk
  have HB1 := Lib.hid ((Below.refl w.heap.size w).alloc (Nat.le_refl _) (.cells #[.slice A x.body.length c, .int .i64 (x.safe : Int)] 54))
  have HCL := Lib.hid (bclone_any A x.body.length c x.body hxl hA (w.alloc (.cells #[.slice A x.body.length c, .int .i64 (x.safe : Int)] 54)) (((Reads.of_own ho).below HB1.out).more HB1.out.size))
  have hnew := one_new w (.cells #[.slice A x.body.length c, .int .i64 (x.safe : Int)] 54)
  have n0 := at_cell (i := 0) hnew rfl
  obtain ⟨n, hn⟩ : ∃ n, n = x.body.length := ⟨_, rfl⟩
  have HNN := Lib.hid hn
  rw [← hn] at hlk HB1 HCL n0 ⊢
  clear h hf hF ho hA hnew hn hxl
  go_enter Try.func14, Try.ntmps14
  go_wp2_with fail
  refine HCL.out.mono ?_
  rintro e w2 ⟨v, rfl, ho2, hb2⟩
  obtain ⟨A2, c2, rfl, hA2⟩ := own_slice ho2
  have HO2 := Lib.hid (own_less ho2 HB1.out.size)
  have HB2 := Lib.hid (HB1.out.trans (hb2.mono HB1.out.size))
  clear ho2 hb2
  go_wp2
  go_ret2
  exact ⟨⟨A2, c2, rfl, hA2, HO2.out⟩, HB2.out⟩

set_option maxRecDepth 100000 in
set_option maxHeartbeats 1000000 in
theorem fail_any (p b : Nat) (down : Bool) (f g : Bool × Int) (n : Int) (w : World) (h : FsBox w p b down f g) :
    Calls Try.prog 17 #[.pointer (some ⟨p, 0, none⟩), .int .i64 n] w fun e w' => e = .returned (.tuple #[]) ∧ FsBox w' p b down (askOf n) g ∧ Turn (fun k => k = p) w w' := by
  obtain ⟨f1, f2⟩ := f
  obtain ⟨g1, g2⟩ := g
  have HX := Lib.hid h
  have HAS := Lib.hid (asked_any n)
  clear h
  go_enter Try.func17, Try.ntmps17
  go_wp2_with fail
  refine (HAS.out _).mono ?_
  rintro e w2 ⟨rfl, hb2⟩
  have HB2 := Lib.hid hb2
  have hx2 := HX.out.below hb2
  unfold FsBox at hx2
  have c0 := at_cell (i := 2) hx2 rfl
  have c1 := at_cell (i := 3) hx2 rfl
  have fz0 : w2.frozen? ⟨p, 2, none⟩ = false := at_frozen hx2
  have fz1 : w2.frozen? ⟨p, 3, none⟩ = false := at_frozen hx2
  have HS1 := Lib.hid (set_grown hx2 (i := 2) (.bool (askOf n).1))
  have HS2 := Lib.hid (set_grown HS1.out.1 (i := 3) (.int .i64 (askOf n).2))
  clear hb2 hx2
  go_wp2
  go_end0
  exact ⟨rfl, HS2.out.1, ((Turn.of_below HB2.out).grown HS1.out.2 (fun i hi _ => (Option.some.inj hi).symm)).grown HS2.out.2 (fun i hi _ => (Option.some.inj hi).symm)⟩

set_option maxRecDepth 100000 in
set_option maxHeartbeats 1000000 in
theorem fall_any (p b : Nat) (down : Bool) (f g : Bool × Int) (n : Int) (w : World) (h : FsBox w p b down f g) :
    Calls Try.prog 16 #[.pointer (some ⟨p, 0, none⟩), .int .i64 n] w fun e w' => e = .returned (.tuple #[]) ∧ FsBox w' p b down f (askOf n) ∧ Turn (fun k => k = p) w w' := by
  obtain ⟨f1, f2⟩ := f
  obtain ⟨g1, g2⟩ := g
  have HX := Lib.hid h
  have HAS := Lib.hid (asked_any n)
  clear h
  go_enter Try.func16, Try.ntmps16
  go_wp2_with fail
  refine (HAS.out _).mono ?_
  rintro e w2 ⟨rfl, hb2⟩
  have HB2 := Lib.hid hb2
  have hx2 := HX.out.below hb2
  unfold FsBox at hx2
  have c0 := at_cell (i := 4) hx2 rfl
  have c1 := at_cell (i := 5) hx2 rfl
  have fz0 : w2.frozen? ⟨p, 4, none⟩ = false := at_frozen hx2
  have fz1 : w2.frozen? ⟨p, 5, none⟩ = false := at_frozen hx2
  have HS1 := Lib.hid (set_grown hx2 (i := 4) (.bool (askOf n).1))
  have HS2 := Lib.hid (set_grown HS1.out.1 (i := 5) (.int .i64 (askOf n).2))
  clear hb2 hx2
  go_wp2
  go_end0
  exact ⟨rfl, HS2.out.1, ((Turn.of_below HB2.out).grown HS1.out.2 (fun i hi _ => (Option.some.inj hi).symm)).grown HS2.out.2 (fun i hi _ => (Option.some.inj hi).symm)⟩

end Go.Proofs.Ytfgonihpakcbbaa
