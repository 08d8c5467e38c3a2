/- The walks of Bytes and Read of tephraref03, and of the example. -/
import Derived.Test.YtbbkbpclhohglaaDoorCd
import Derived.Lib.SlBytesConst
namespace Go.Proofs.YtbbkbpclhohglaaDoor
open Go.RowKit

/-- A row of bytes that was just laid. -/
theorem reads_lit (W : World) (e : TypeId) (bs : List UInt8) (fr : Nat × Nat) : Reads (W.alloc (.cells (bs.map bv).toArray e fr)) (W.heap.size + 1) 1 (some ⟨W.heap.size, 0, none⟩) bs.length (bs.map bv) :=
  ⟨by simp, fun _ => ⟨_, rfl, by simp, fun j u hu => by
    have h0 : Addr.add ⟨W.heap.size, 0, none⟩ j = ⟨W.heap.size, j, none⟩ := by
      unfold Addr.add
      split
      · rename_i h; rw [h]
      · simp
    rw [h0]
    simp only [World.cell?, World.alloc, Array.getElem?_push_size]
    simpa using hu⟩⟩

set_option maxRecDepth 100000 in
set_option maxHeartbeats 400000 in
theorem refbytes_any (s : W32) (w : World) : Calls Tryd.prog 13 #[wv s] w fun e w' => e = .returned (.string (tx (lb s))) ∧ Below w.heap.size w w' := by
  have hv : wv s = .int .u32 (s.toNat : Int) := rfl
  obtain ⟨a, ha⟩ : ∃ a, a = s.toNat := ⟨_, rfl⟩
  have ha32 : a < 4294967296 := by rw [ha]; exact s.isLt
  obtain ⟨b0, h0⟩ : ∃ b0, b0 = a / 2 ^ (8 * 0) % 256 := ⟨_, rfl⟩
  obtain ⟨b1, h1⟩ : ∃ b1, b1 = a / 2 ^ (8 * 1) % 256 := ⟨_, rfl⟩
  obtain ⟨b2, h2⟩ : ∃ b2, b2 = a / 2 ^ (8 * 2) % 256 := ⟨_, rfl⟩
  obtain ⟨b3, h3⟩ : ∃ b3, b3 = a / 2 ^ (8 * 3) % 256 := ⟨_, rfl⟩
  have hm : (lb s).map bv = [.int .u8 (b0 : Int), .int .u8 (b1 : Int), .int .u8 (b2 : Int), .int .u8 (b3 : Int)] := by
    rw [lb, List.map_cons, List.map_cons, List.map_cons, List.map_cons, nth_val, nth_val, nth_val, nth_val, h0, h1, h2, h3, ha]
    rfl
  have k0 : IntKind.u8.wrap ((a : Int) % 256) = (b0 : Int) := by rw [IntKind.wrap_u8']; omega
  have k1 : IntKind.u8.wrap ((a : Int) / 256 % 256) = (b1 : Int) := by rw [IntKind.wrap_u8']; omega
  have k2 : IntKind.u8.wrap ((a : Int) / 65536 % 256) = (b2 : Int) := by rw [IntKind.wrap_u8']; omega
  have k3 : IntKind.u8.wrap ((a : Int) / 16777216) = (b3 : Int) := by rw [IntKind.wrap_u8']; omega
  have hcv := conv_reads (P := Tryd.prog) (src := 24) (dst := 9) (c := 4) Tryd.underlying24 Tryd.underlying5 Tryd.underlying9 (reads_lit w 5 (lb s) (0, 0))
  rw [hm] at hcv
  have hcv2 : (convert 24 9 (.slice (some ⟨w.heap.size, 0, none⟩) 4 4)).run Tryd.prog (w.alloc (.cells #[.int .u8 (b0 : Int), .int .u8 (b1 : Int), .int .u8 (b2 : Int), .int .u8 (b3 : Int)] 5)) = .ok (.string (tx (lb s))) (w.alloc (.cells #[.int .u8 (b0 : Int), .int .u8 (b1 : Int), .int .u8 (b2 : Int), .int .u8 (b3 : Int)] 5)) := hcv
  generalize tx (lb s) = t at hcv2 ⊢
  rw [hv, ← ha]
  clear hv ha h0 h1 h2 h3 hm hcv
  go_enter Tryd.func13, Tryd.ntmps13
  go_wp2
  go_ret
  exact ⟨rfl, (Below.refl _ _).alloc (Nat.le_refl _) _⟩

set_option maxRecDepth 100000 in
set_option maxHeartbeats 400000 in
theorem refread_bad (bs : List UInt8) (at_ : Int) (hn : bs.length ≤ 1073741824) (h : at_ < 0 ∨ (bs.length : Int) - 4 < at_) (w : World) :
    Calls Tryd.prog 11 #[.string (tx bs), .int .i64 at_] w fun e w' => e = .returned (.tuple #[.int .u32 0, .bool false]) ∧ w = w' := by
  have hsz : (tx bs).size = bs.length := tx_size bs
  obtain ⟨n, hn0⟩ : ∃ n, n = bs.length := ⟨_, rfl⟩
  rw [← hn0] at hsz hn h
  clear hn0
  generalize tx bs = s at hsz ⊢
  by_cases h0 : at_ < 0
  · clear h
    go_enter Tryd.func11, Tryd.ntmps11
    go_wp2
    go_ret2
    exact ⟨rfl, rfl⟩
  · have h1 : (n : Int) - 4 < at_ := by omega
    clear h
    go_enter Tryd.func11, Tryd.ntmps11
    go_wp2
    go_ret2
    exact ⟨rfl, rfl⟩

theorem Laid.below {w w' : World} (h : Laid w) (hb : Below w.heap.size w w') : Laid w' := fun i hi => by
  have h1 := h i hi
  have h2 : 0 < w.heap.size := by
    rcases Nat.lt_or_ge 0 w.heap.size with hlt | hge
    · exact hlt
    · rw [World.cell?, Array.getElem?_eq_none hge] at h1
      cases h1
  exact (hb.cell (p := ⟨0, i, none⟩) h2).trans h1

theorem PRow.below {w w' : World} {B : Nat} {v : Value} {bs : List UInt8} (h : PRow w B v bs) (hb : Below B w w') : PRow w' B v bs := by
  obtain ⟨A, n, c, rfl, h1, h2, hr⟩ := h
  exact ⟨A, n, c, rfl, h1, h2, hr.below hb⟩
theorem PRow.more {w : World} {B B' : Nat} {v : Value} {bs : List UInt8} (h : PRow w B v bs) (hB : B ≤ B') : PRow w B' v bs := by
  obtain ⟨A, n, c, rfl, h1, h2, hr⟩ := h
  exact ⟨A, n, c, rfl, h1, h2, hr.more hB⟩

/-- The sum of one part, in a slice of parts that was just laid. -/
theorem sum_one (W : World) (v : Value) (bs : List UInt8) (hl : Laid W) (hr : PRow W W.heap.size v bs) :
    Calls Tryd.prog 8 #[.slice (some ⟨W.heap.size, 0, none⟩) 1 1] (W.alloc (.cells #[v] 24)) fun e w' => e = .returned (wv (crc bs)) ∧ W.alloc (.cells #[v] 24) = w' := by
  have hb : Below W.heap.size W (W.alloc (.cells #[v] 24)) := (Below.refl _ W).alloc (Nat.le_refl _) _
  have h := sum_any (some ⟨W.heap.size, 0, none⟩) 1 1 [v] [bs] (by omega) (W.alloc (.cells #[v] 24)) (hl.below hb)
    ⟨rfl, fun _ => ⟨_, rfl, by simp, fun j u hu => by
      cases j with
      | zero =>
        have hu' : v = u := by simpa using hu
        subst hu'
        simp [Addr.add]
      | succ j => simp at hu⟩⟩
    ⟨rfl, fun i u hu => by
      cases i with
      | zero =>
        have hu' : v = u := by simpa using hu
        subst hu'
        exact ⟨bs, rfl, (hr.below hb).more (by simp)⟩
      | succ i => simp at hu⟩
  simpa using h

theorem ex_sum : crc [49, 50, 51, 52, 53, 54, 55, 56, 57] = 0xcbf43926#32 := by decide +kernel
theorem ex_val : wv 0xcbf43926#32 = .int .u32 3421780262 := by kernel_rfl
theorem ex_cells : (([49, 50, 51, 52, 53, 54, 55, 56, 57] : List UInt8).map bv).toArray = #[.int .u8 49, .int .u8 50, .int .u8 51, .int .u8 52, .int .u8 53, .int .u8 54, .int .u8 55, .int .u8 56, .int .u8 57] := by kernel_rfl

theorem ex_call (w : World) (hl : Laid w) (W : World) (hW : W = (w.alloc (.cells #[.int .u8 49, .int .u8 50, .int .u8 51, .int .u8 52, .int .u8 53, .int .u8 54, .int .u8 55, .int .u8 56, .int .u8 57] 5 (9, 10))).alloc (.cells #[.slice (some ⟨w.heap.size, 0, none⟩) 9 9] 24)) :
    Calls Tryd.prog 8 #[.slice (some ⟨w.heap.size + 1, 0, none⟩) 1 1] W fun e w' => e = .returned (.int .u32 3421780262) ∧ W = w' := by
  rw [← ex_val, ← ex_sum]
  rw [← ex_cells] at hW
  subst hW
  have h := sum_one (w.alloc (.cells (([49, 50, 51, 52, 53, 54, 55, 56, 57] : List UInt8).map bv).toArray 5 (9, 10))) (.slice (some ⟨w.heap.size, 0, none⟩) 9 9) [49, 50, 51, 52, 53, 54, 55, 56, 57] (hl.below ((Below.refl _ w).alloc (Nat.le_refl _) _)) ⟨_, 9, 9, rfl, by omega, by omega, (reads_lit w 5 [49, 50, 51, 52, 53, 54, 55, 56, 57] (9, 10)).more (by simp)⟩
  have e : (w.alloc (.cells (([49, 50, 51, 52, 53, 54, 55, 56, 57] : List UInt8).map bv).toArray 5 (9, 10))).heap.size = w.heap.size + 1 := by simp
  rw [e] at h
  exact h

set_option maxRecDepth 100000 in
set_option maxHeartbeats 400000 in
theorem fixed_any (w : World) (hl : Laid w) : Calls Tryd.prog 7 #[] w fun e w' => e = .returned (.bool true) ∧ Below w.heap.size w w' := by
  have kc := fun (w : World) (C : Array Value) (n c : Nat) => Lib.run_convert_bytes_const (P := Tryd.prog) w 24 5 C n c Tryd.underlying24 Tryd.underlying5
  have HSUM := Lib.hid (ex_call w hl)
  have HB : Hid (∀ o o', Below w.heap.size w ((w.alloc o).alloc o')) := fun o o' => ((Below.refl _ w).alloc (Nat.le_refl _) o).alloc (by simp) o'
  clear hl
  go_enter Tryd.func7, Tryd.ntmps7
  go_wp2_with (go_at_call 8; refine (HSUM.out _ rfl).mono ?_; rintro e w' ⟨rfl, rfl⟩)
  go_ret
  exact ⟨rfl, HB.out _ _⟩
end Go.Proofs.YtbbkbpclhohglaaDoor
