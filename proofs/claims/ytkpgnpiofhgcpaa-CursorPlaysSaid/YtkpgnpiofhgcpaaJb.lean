/- A cursor in memory; the walks of Fail, Err, At and Left. -/
import Derived.WalkKit
import Derived.Outline
import Derived.RegionTactic
import Derived.OneCell
import Derived.Test.YtkpgnpiofhgcpaaBk
import Derived.Test.YtkpgnpiofhgcpaaH
import Derived.Test.YtkpgnpiofhgcpaaJa
namespace Go.Proofs.Ytkpgnpiofhgcpaa
open Go.RowKit

/-- From w to w' nothing of what was there has turned but block b. -/
structure Only (b : Nat) (w w' : World) : Prop where
  os : w'.os = w.os
  tape : w'.tape = w.tape
  output : w'.output = w.output
  size : w.heap.size ≤ w'.heap.size
  block : ∀ k, k < w.heap.size → k ≠ b → w'.heap[k]? = w.heap[k]?

theorem Only.refl (b : Nat) (w : World) : Only b w w := ⟨rfl, rfl, rfl, Nat.le_refl _, fun _ _ _ => rfl⟩
theorem Only.trans {b : Nat} {x y z : World} (h : Only b x y) (k : Only b y z) : Only b x z :=
  ⟨k.os.trans h.os, k.tape.trans h.tape, k.output.trans h.output, Nat.le_trans h.size k.size, fun i hi hn => (k.block i (Nat.lt_of_lt_of_le hi h.size) hn).trans (h.block i hi hn)⟩
theorem Only.of_below {b : Nat} {w w' : World} (h : Below w.heap.size w w') : Only b w w' := ⟨h.os, h.tape, h.output, h.size, fun k hk _ => h.block k hk⟩
theorem Only.setCell {b i : Nat} {w : World} (u : Value) : Only b w (w.setCell ⟨b, i, none⟩ u) :=
  ⟨rfl, rfl, rfl, by simp [World.setCell], fun _ _ hn => Below.heap_setCell _ _ _ _ hn⟩
theorem Only.below {b B : Nat} {w w' : World} (h : Only b w w') (hB : B ≤ b) (hw : B ≤ w.heap.size) : Below B w w' :=
  ⟨h.os, h.tape, h.output, h.size, fun k hk => h.block k (by omega) (by omega)⟩
/-- A block of the call's own that was made on the way is of no account. -/
theorem Only.fresh {b : Nat} {w w1 w2 : World} (h : Below w.heap.size w w1) (hb : w.heap.size ≤ b) (k : Only b w1 w2) : Below w.heap.size w w2 :=
  h.trans (k.below hb h.size)

theorem field_cell {w : World} {b i : Nat} {cs : Array Value} {t : TypeId} {u : Value} (h : w.heap[b]? = some (.cells cs t (0, 0))) (hi : cs[i]? = some u) : w.cell? ⟨b, i, none⟩ = some u := by
  simp [World.cell?, h, hi]
theorem field_free {w : World} {b i : Nat} {cs : Array Value} {t : TypeId} (h : w.heap[b]? = some (.cells cs t (0, 0))) : w.frozen? ⟨b, i, none⟩ = false := by
  simp [World.frozen?, h]

def cuCells (A : Option Addr) (n cap : Nat) (c : Cu) : Array Value := #[.slice A n cap, .int .i64 (c.at_ : Int), .int .i64 c.e]

/-- A cursor lies in block b, its bytes below block B. -/
structure CurIn (w : World) (B b : Nat) (c : Cu) : Prop where
  ok : c.ok
  room : c.bs.length ≤ 1000000
  le : B ≤ b
  lies : ∃ A n cap, n ≤ cap ∧ Reads w B 1 A n (c.bs.map bv) ∧ w.heap[b]? = some (.cells (cuCells A n cap c) 54 (0, 0))

theorem CurIn.lt {w : World} {B b : Nat} {c : Cu} (h : CurIn w B b c) : b < w.heap.size := by
  obtain ⟨A, n, cap, _, _, h1⟩ := h.lies
  exact lt_of_block h1
theorem CurIn.below {w w' : World} {B b D : Nat} {c : Cu} (h : CurIn w B b c) (hb : Below D w w') (hD : b < D) : CurIn w' B b c := by
  obtain ⟨A, n, cap, h0, h1, h2⟩ := h.lies
  exact ⟨h.ok, h.room, h.le, A, n, cap, h0, h1.below (hb.mono (by have := h.le; omega)), (hb.block b hD).trans h2⟩
/-- Another block of the call's own turns: the cursor stays. -/
theorem CurIn.only {w w' : World} {B b d : Nat} {c : Cu} (h : CurIn w B b c) (hb : Only d w w') (hd : B ≤ d) (hn : b ≠ d) : CurIn w' B b c := by
  have hlt := h.lt
  obtain ⟨A, n, cap, h0, h1, h2⟩ := h.lies
  exact ⟨h.ok, h.room, h.le, A, n, cap, h0, h1.below (hb.below hd (by have := h.le; omega)), (hb.block b hlt hn).trans h2⟩

theorem CurIn.cells {w : World} {B b : Nat} {c : Cu} (h : CurIn w B b c) : ∃ A n cap, n ≤ cap ∧ c.bs.length = n ∧ Reads w B 1 A n (c.bs.map bv) ∧ w.cell? ⟨b, 0, none⟩ = some (.slice A n cap) ∧
    w.cell? ⟨b, 1, none⟩ = some (.int .i64 (c.at_ : Int)) ∧ w.cell? ⟨b, 2, none⟩ = some (.int .i64 c.e) ∧ w.frozen? ⟨b, 1, none⟩ = false ∧ w.frozen? ⟨b, 2, none⟩ = false := by
  obtain ⟨A, n, cap, h0, h1, h2⟩ := h.lies
  exact ⟨A, n, cap, h0, by have := h1.1; simpa using this, h1, field_cell h2 rfl, field_cell h2 rfl, field_cell h2 rfl, field_free h2, field_free h2⟩

theorem CurIn.setE {w : World} {B b : Nat} {c : Cu} (h : CurIn w B b c) (e : Int) : CurIn (w.setCell ⟨b, 2, none⟩ (.int .i64 e)) B b { c with e := e } := by
  obtain ⟨A, n, cap, h0, h1, h2⟩ := h.lies
  exact ⟨h.ok, h.room, h.le, A, n, cap, h0, h1.setCell (p := ⟨b, 2, none⟩) h.le _, heap_setCell_same _ _ 2 _ _ _ h2⟩
theorem CurIn.setAt {w : World} {B b : Nat} {c : Cu} (h : CurIn w B b c) (at_ : Nat) (hat : at_ ≤ c.bs.length) : CurIn (w.setCell ⟨b, 1, none⟩ (.int .i64 (at_ : Int))) B b { c with at_ := at_ } := by
  obtain ⟨A, n, cap, h0, h1, h2⟩ := h.lies
  exact ⟨hat, h.room, h.le, A, n, cap, h0, h1.setCell (p := ⟨b, 1, none⟩) h.le _, heap_setCell_same _ _ 1 _ _ _ h2⟩

theorem fail_any (B b : Nat) (c : Cu) (e0 : Int) (w : World) (h : CurIn w B b c) :
    Calls Try.prog 22 #[.pointer (some ⟨b, 0, none⟩), .int .i64 e0] w fun e w' => e = .returned (.tuple #[]) ∧ CurIn w' B b (c.fail e0) ∧ Only b w w' := by
  obtain ⟨A, n, cap, _, _, _, _, _, f2, _, z2⟩ := h.cells
  have hs := h.setE e0
  have ho := Only.setCell (b := b) (i := 2) (w := w) (.int .i64 e0)
  have H := Lib.hid h
  have HS := Lib.hid hs
  have HO := Lib.hid ho
  clear hs ho h
  by_cases h0 : c.e = 0
  · have hf : c.fail e0 = { c with e := e0 } := by rw [Cu.fail, if_pos h0]
    rw [hf]
    rw [h0] at f2
    clear hf h0
    go_enter Try.func22, Try.ntmps22
    go_wp2
    go_end0
    exact ⟨rfl, HS.out, HO.out⟩
  · have hf : c.fail e0 = c := by rw [Cu.fail, if_neg h0]
    rw [hf]
    clear hf
    generalize c.e = x at f2 h0
    go_enter Try.func22, Try.ntmps22
    go_wp2
    go_end0
    exact ⟨rfl, H.out, Only.refl _ _⟩

theorem err_any (B b : Nat) (c : Cu) (w : World) (h : CurIn w B b c) :
    Calls Try.prog 11 #[.pointer (some ⟨b, 0, none⟩)] w fun e w' => e = .returned (.int .i64 c.e) ∧ w = w' := by
  obtain ⟨A, n, cap, _, _, _, _, _, f2, _, _⟩ := h.cells
  generalize c.e = x at f2 ⊢
  clear h
  go_enter Try.func11, Try.ntmps11
  go_wp2
  go_ret
  exact ⟨rfl, rfl⟩

theorem at_any (B b : Nat) (c : Cu) (w : World) (h : CurIn w B b c) :
    Calls Try.prog 10 #[.pointer (some ⟨b, 0, none⟩)] w fun e w' => e = .returned (.int .i64 (c.at_ : Int)) ∧ w = w' := by
  obtain ⟨A, n, cap, _, _, _, _, f1, _, _, _⟩ := h.cells
  generalize (c.at_ : Int) = x at f1 ⊢
  clear h
  go_enter Try.func10, Try.ntmps10
  go_wp2
  go_ret
  exact ⟨rfl, rfl⟩

set_option maxRecDepth 100000 in
theorem left_any (B b : Nat) (c : Cu) (w : World) (h : CurIn w B b c) :
    Calls Try.prog 17 #[.pointer (some ⟨b, 0, none⟩)] w fun e w' => e = .returned (.int .i64 ((c.bs.length - c.at_ : Nat) : Int)) ∧ Below w.heap.size w w' := by
  have hok := h.ok
  have hrm := h.room
  have hlt := h.lt
  obtain ⟨A, n, cap, _, hl, _, f0, f1, _, _, _⟩ := h.cells
  unfold Cu.ok at hok
  rw [hl] at hrm hok ⊢
  generalize c.at_ = x at f1 hok ⊢
  have k : ((n - x : Nat) : Int) = (n : Int) - (x : Int) := by omega
  rw [k]
  have HC0 : Hid (∀ w', Below w.heap.size w w' → w'.cell? ⟨b, 0, none⟩ = some (.slice A n cap)) := fun w' hb => (hb.cell (p := ⟨b, 0, none⟩) hlt).trans f0
  have HC1 : Hid (∀ w', Below w.heap.size w w' → w'.cell? ⟨b, 1, none⟩ = some (.int .i64 (x : Int))) := fun w' hb => (hb.cell (p := ⟨b, 1, none⟩) hlt).trans f1
  clear h hl k f0 f1 hlt
  go_enter Try.func17, Try.ntmps17
  go_wp2
  refine wp_region_held (S := fun W => Below w.heap.size w W) (by kernel_rfl) ?_
  have hS : Below w.heap.size w w.drew := (Below.refl _ w).drew
  refine h_take 0 (.pointer (some ⟨b, 0, none⟩)) rfl (by kernel_rfl) (by kernel_rfl) (by kernel_rfl) (fun _ _ _ h => h) (by kernel_rfl) hS (fun _ _ => by kernel_rfl) ?_
  refine h_take 1 (.pointer (some ⟨b, 0, none⟩)) rfl (by kernel_rfl) (by kernel_rfl) (by kernel_rfl) (fun _ _ _ h => h) (by kernel_rfl) hS (by intro w' hb; go_simp) ?_
  refine h_take 2 (.pointer (some ⟨b, 0, none⟩)) rfl (by kernel_rfl) (by kernel_rfl) (by kernel_rfl) (fun _ _ _ h => h) (by kernel_rfl) hS (by intro w' hb; go_simp) ?_
  refine h_take 3 (.slice A n cap) rfl (by kernel_rfl) (by kernel_rfl) (by kernel_rfl) (fun _ _ _ h => h) (by kernel_rfl) hS (by intro w' hb; have c0 := HC0.out w' hb; go_simp) ?_
  refine h_take 4 (.int .i64 (n : Int)) rfl (by kernel_rfl) (by kernel_rfl) (by kernel_rfl) (fun _ _ _ h => h) (by kernel_rfl) hS (by intro w' hb; go_simp) ?_
  refine h_take 5 (.pointer (some ⟨b, 0, none⟩)) rfl (by kernel_rfl) (by kernel_rfl) (by kernel_rfl) (fun _ _ _ h => h) (by kernel_rfl) hS (fun _ _ => by kernel_rfl) ?_
  refine h_take 6 (.pointer (some ⟨b, 0, none⟩)) rfl (by kernel_rfl) (by kernel_rfl) (by kernel_rfl) (fun _ _ _ h => h) (by kernel_rfl) hS (by intro w' hb; go_simp) ?_
  refine h_take 7 (.pointer (some ⟨b, 1, none⟩)) rfl (by kernel_rfl) (by kernel_rfl) (by kernel_rfl) (fun _ _ _ h => h) (by kernel_rfl) hS (by intro w' hb; go_simp) ?_
  refine h_take 8 (.int .i64 (x : Int)) rfl (by kernel_rfl) (by kernel_rfl) (by kernel_rfl) (fun _ _ _ h => h) (by kernel_rfl) hS (by intro w' hb; have c1 := HC1.out w' hb; go_simp) ?_
  refine h_take 9 (.int .i64 ((n : Int) - (x : Int))) rfl (by kernel_rfl) (by kernel_rfl) (by kernel_rfl) (fun _ _ _ h => h) (by kernel_rfl) hS (by intro w' hb; have kw : IntKind.i64.wrap ((n : Int) - (x : Int)) = (n : Int) - (x : Int) := (by rw [IntKind.wrap_i64]; omega); go_simp) ?_
  refine h_take 10 (.int .i64 ((n : Int) - (x : Int))) rfl (by kernel_rfl) (by kernel_rfl) (by kernel_rfl) (fun _ _ _ h => h) (by kernel_rfl) hS (fun _ _ => by kernel_rfl) ?_
  refine wpAnyH_done (by kernel_rfl) ?_ _
  go_simp
  go_wp2
  go_ret
  exact ⟨rfl, hS⟩

end Go.Proofs.Ytkpgnpiofhgcpaa
