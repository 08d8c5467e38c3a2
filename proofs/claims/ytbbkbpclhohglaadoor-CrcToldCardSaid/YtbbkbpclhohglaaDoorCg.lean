/- The walk of Read of tephraref03, where four bytes stand. -/
import Derived.Test.YtbbkbpclhohglaaDoorCe
namespace Go.Proofs.YtbbkbpclhohglaaDoor
open Go.RowKit

theorem le4_four (x0 x1 x2 x3 : UInt8) : (le4 [x0, x1, x2, x3]).toNat = x0.toNat + 256 * x1.toNat + 65536 * x2.toNat + 16777216 * x3.toNat := by
  rw [le4_cons _ _ (by simp), le4_cons _ _ (by simp), le4_cons _ _ (by simp), le4_cons _ _ (by simp)]
  simp [le4]
  omega

theorem wrap_small (k j : Nat) (hk : k ≤ 1073741824) (hj : j ≤ 3) : IntKind.i64.wrap ((k : Int) + (j : Int)) = (k : Int) + (j : Int) := by
  simp [IntKind.wrap, IntKind.bits, IntKind.signed]
  omega

set_option maxRecDepth 100000 in
set_option maxHeartbeats 1000000 in
theorem refread_ok (bs : List UInt8) (k : Nat) (hn : bs.length ≤ 1073741824) (hk : k + 4 ≤ bs.length) (w : World) :
    Calls Tryd.prog 11 #[.string (tx bs), .int .i64 (k : Int)] w fun e w' => e = .returned (.tuple #[wv (le4 ((bs.drop k).take 4)), .bool true]) ∧ Below w.heap.size w w' := by
  obtain ⟨s, hs⟩ : ∃ s, s = tx bs := ⟨_, rfl⟩
  have hsz : s.size = bs.length := by rw [hs, tx_size]
  rw [← hs]
  have hn' : s.size ≤ 1073741824 := by omega
  have hk' : k + 4 ≤ s.size := by omega
  obtain ⟨x0, hx0, hd0⟩ := drop_at hs k (by omega)
  obtain ⟨x1, hx1, hd1⟩ := drop_at hs (k + 1) (by omega)
  obtain ⟨x2, hx2, hd2⟩ := drop_at hs (k + 2) (by omega)
  obtain ⟨x3, hx3, hd3⟩ := drop_at hs (k + 3) (by omega)
  have hq : (bs.drop k).take 4 = [x0, x1, x2, x3] := by rw [hd0, hd1, hd2, hd3]; rfl
  obtain ⟨b0, hb0⟩ : ∃ b, x0.toNat = b := ⟨_, rfl⟩
  obtain ⟨b1, hb1⟩ : ∃ b, x1.toNat = b := ⟨_, rfl⟩
  obtain ⟨b2, hb2⟩ : ∃ b, x2.toNat = b := ⟨_, rfl⟩
  obtain ⟨b3, hb3⟩ : ∃ b, x3.toNat = b := ⟨_, rfl⟩
  have p0 : k < s.size := by omega
  have p1 : k + 1 < s.size := by omega
  have p2 : k + 2 < s.size := by omega
  have p3 : k + 3 < s.size := by omega
  have i0 : (s[k]'p0).toNat = b0 := by rw [← hx0, hb0]
  have i1 : (s[k + 1]'p1).toNat = b1 := by rw [← hx1, hb1]
  have i2 : (s[k + 2]'p2).toNat = b2 := by rw [← hx2, hb2]
  have i3 : (s[k + 3]'p3).toNat = b3 := by rw [← hx3, hb3]
  have l0 : b0 < 256 := by rw [← hb0]; exact x0.toNat_lt
  have l1 : b1 < 256 := by rw [← hb1]; exact x1.toNat_lt
  have l2 : b2 < 256 := by rw [← hb2]; exact x2.toNat_lt
  have l3 : b3 < 256 := by rw [← hb3]; exact x3.toNat_lt
  obtain ⟨c1, hc1⟩ : ∃ c, c = 256 * b1 := ⟨_, rfl⟩
  obtain ⟨c2, hc2⟩ : ∃ c, c = 65536 * b2 := ⟨_, rfl⟩
  obtain ⟨c3, hc3⟩ : ∃ c, c = 16777216 * b3 := ⟨_, rfl⟩
  obtain ⟨d1, hd1'⟩ : ∃ d, d = b0 + c1 := ⟨_, rfl⟩
  obtain ⟨d2, hd2'⟩ : ∃ d, d = d1 + c2 := ⟨_, rfl⟩
  obtain ⟨d3, hd3'⟩ : ∃ d, d = d2 + c3 := ⟨_, rfl⟩
  have hval : wv (le4 ((bs.drop k).take 4)) = .int .u32 (d3 : Int) := by
    rw [hq, wv, le4_four, hb0, hb1, hb2, hb3]
    congr 2
    omega
  have w0 : IntKind.u32.wrap (b0 : Int) = (b0 : Int) := by rw [IntKind.wrap_u32']; omega
  have w1 : IntKind.u32.wrap (b1 : Int) = (b1 : Int) := by rw [IntKind.wrap_u32']; omega
  have w2 : IntKind.u32.wrap (b2 : Int) = (b2 : Int) := by rw [IntKind.wrap_u32']; omega
  have w3 : IntKind.u32.wrap (b3 : Int) = (b3 : Int) := by rw [IntKind.wrap_u32']; omega
  have m1 : IntKind.u32.wrap (256 * (b1 : Int)) = (c1 : Int) := by rw [IntKind.wrap_u32']; omega
  have m2 : IntKind.u32.wrap (65536 * (b2 : Int)) = (c2 : Int) := by rw [IntKind.wrap_u32']; omega
  have m3 : IntKind.u32.wrap (16777216 * (b3 : Int)) = (c3 : Int) := by rw [IntKind.wrap_u32']; omega
  have a1 : IntKind.u32.wrap ((b0 : Int) + (c1 : Int)) = (d1 : Int) := by rw [IntKind.wrap_u32']; omega
  have a2 : IntKind.u32.wrap ((d1 : Int) + (c2 : Int)) = (d2 : Int) := by rw [IntKind.wrap_u32']; omega
  have a3 : IntKind.u32.wrap ((d2 : Int) + (c3 : Int)) = (d3 : Int) := by rw [IntKind.wrap_u32']; omega
  have HVAL := Lib.hid hval
  clear hs hsz hn hk hx0 hx1 hx2 hx3 hd0 hd1 hd2 hd3 hq hb0 hb1 hb2 hb3 hc1 hc2 hc3 hd1' hd2' hd3' hval l0 l1 l2 l3
  have HM := Lib.hid (And.intro w0 (And.intro w1 (And.intro w2 (And.intro w3 (And.intro m1 (And.intro m2 (And.intro m3 (And.intro a1 (And.intro a2 a3)))))))))
  clear w0 w1 w2 w3 m1 m2 m3 a1 a2 a3
  go_enter Tryd.func11, Tryd.ntmps11
  go_wp2
  have hS : Below w.heap.size w w.drew := (Below.refl _ w).drew
  obtain ⟨w0, w1, w2, w3, m1, m2, m3, a1, a2, a3⟩ := HM.out
  refine wp_region_held (S := fun W => Below w.heap.size w W) (by kernel_rfl) ?_
  refine h_take 0 (.string s) rfl (by kernel_rfl) (by kernel_rfl) (by kernel_rfl) (fun _ _ _ h => h) (by kernel_rfl) hS (fun _ _ => by kernel_rfl) ?_
  refine h_take 1 (.int .i64 (k : Int)) rfl (by kernel_rfl) (by kernel_rfl) (by kernel_rfl) (fun _ _ _ h => h) (by kernel_rfl) hS (fun _ _ => by kernel_rfl) ?_
  refine h_take 2 (.int .u8 (b0 : Int)) rfl (by kernel_rfl) (by kernel_rfl) (by kernel_rfl) (fun _ _ _ h => h) (by kernel_rfl) hS (by intro w' hb; go_simp) ?_
  refine h_take 3 (.int .u32 (b0 : Int)) rfl (by kernel_rfl) (by kernel_rfl) (by kernel_rfl) (fun _ _ _ h => h) (by kernel_rfl) hS (by intro w' hb; go_simp) ?_
  refine h_take 4 (.string s) rfl (by kernel_rfl) (by kernel_rfl) (by kernel_rfl) (fun _ _ _ h => h) (by kernel_rfl) hS (fun _ _ => by kernel_rfl) ?_
  refine h_take 5 (.int .i64 (k : Int)) rfl (by kernel_rfl) (by kernel_rfl) (by kernel_rfl) (fun _ _ _ h => h) (by kernel_rfl) hS (fun _ _ => by kernel_rfl) ?_
  refine h_take 6 (.int .i64 ((k : Int) + 1)) rfl (by kernel_rfl) (by kernel_rfl) (by kernel_rfl) (fun _ _ _ h => h) (by kernel_rfl) hS (by intro w' hb; have h := wrap_small k 1 (by omega) (by omega); go_simp; exact h) ?_
  refine h_take 7 (.int .u8 (b1 : Int)) rfl (by kernel_rfl) (by kernel_rfl) (by kernel_rfl) (fun _ _ _ h => h) (by kernel_rfl) hS (by intro w' hb; have e : ((k : Int) + 1).toNat = k + 1 := (by omega); go_simp; intro h; exact absurd (h (by omega)) (by omega)) ?_
  refine h_take 8 (.int .u32 (b1 : Int)) rfl (by kernel_rfl) (by kernel_rfl) (by kernel_rfl) (fun _ _ _ h => h) (by kernel_rfl) hS (by intro w' hb; go_simp) ?_
  refine h_take 9 (.int .u32 (c1 : Int)) rfl (by kernel_rfl) (by kernel_rfl) (by kernel_rfl) (fun _ _ _ h => h) (by kernel_rfl) hS (by intro w' hb; go_simp) ?_
  refine h_take 10 (.int .u32 (d1 : Int)) rfl (by kernel_rfl) (by kernel_rfl) (by kernel_rfl) (fun _ _ _ h => h) (by kernel_rfl) hS (by intro w' hb; go_simp) ?_
  refine h_take 11 (.string s) rfl (by kernel_rfl) (by kernel_rfl) (by kernel_rfl) (fun _ _ _ h => h) (by kernel_rfl) hS (fun _ _ => by kernel_rfl) ?_
  refine h_take 12 (.int .i64 (k : Int)) rfl (by kernel_rfl) (by kernel_rfl) (by kernel_rfl) (fun _ _ _ h => h) (by kernel_rfl) hS (fun _ _ => by kernel_rfl) ?_
  refine h_take 13 (.int .i64 ((k : Int) + 2)) rfl (by kernel_rfl) (by kernel_rfl) (by kernel_rfl) (fun _ _ _ h => h) (by kernel_rfl) hS (by intro w' hb; have h := wrap_small k 2 (by omega) (by omega); go_simp; exact h) ?_
  refine h_take 14 (.int .u8 (b2 : Int)) rfl (by kernel_rfl) (by kernel_rfl) (by kernel_rfl) (fun _ _ _ h => h) (by kernel_rfl) hS (by intro w' hb; have e : ((k : Int) + 2).toNat = k + 2 := (by omega); go_simp; intro h; exact absurd (h (by omega)) (by omega)) ?_
  refine h_take 15 (.int .u32 (b2 : Int)) rfl (by kernel_rfl) (by kernel_rfl) (by kernel_rfl) (fun _ _ _ h => h) (by kernel_rfl) hS (by intro w' hb; go_simp) ?_
  refine h_take 16 (.int .u32 (c2 : Int)) rfl (by kernel_rfl) (by kernel_rfl) (by kernel_rfl) (fun _ _ _ h => h) (by kernel_rfl) hS (by intro w' hb; go_simp) ?_
  refine h_take 17 (.int .u32 (d2 : Int)) rfl (by kernel_rfl) (by kernel_rfl) (by kernel_rfl) (fun _ _ _ h => h) (by kernel_rfl) hS (by intro w' hb; go_simp) ?_
  refine h_take 18 (.string s) rfl (by kernel_rfl) (by kernel_rfl) (by kernel_rfl) (fun _ _ _ h => h) (by kernel_rfl) hS (fun _ _ => by kernel_rfl) ?_
  refine h_take 19 (.int .i64 (k : Int)) rfl (by kernel_rfl) (by kernel_rfl) (by kernel_rfl) (fun _ _ _ h => h) (by kernel_rfl) hS (fun _ _ => by kernel_rfl) ?_
  refine h_take 20 (.int .i64 ((k : Int) + 3)) rfl (by kernel_rfl) (by kernel_rfl) (by kernel_rfl) (fun _ _ _ h => h) (by kernel_rfl) hS (by intro w' hb; have h := wrap_small k 3 (by omega) (by omega); go_simp; exact h) ?_
  refine h_take 21 (.int .u8 (b3 : Int)) rfl (by kernel_rfl) (by kernel_rfl) (by kernel_rfl) (fun _ _ _ h => h) (by kernel_rfl) hS (by intro w' hb; have e : ((k : Int) + 3).toNat = k + 3 := (by omega); go_simp; intro h; exact absurd (h (by omega)) (by omega)) ?_
  refine h_take 22 (.int .u32 (b3 : Int)) rfl (by kernel_rfl) (by kernel_rfl) (by kernel_rfl) (fun _ _ _ h => h) (by kernel_rfl) hS (by intro w' hb; go_simp) ?_
  refine h_take 23 (.int .u32 (c3 : Int)) rfl (by kernel_rfl) (by kernel_rfl) (by kernel_rfl) (fun _ _ _ h => h) (by kernel_rfl) hS (by intro w' hb; go_simp) ?_
  refine h_take 24 (.int .u32 (d3 : Int)) rfl (by kernel_rfl) (by kernel_rfl) (by kernel_rfl) (fun _ _ _ h => h) (by kernel_rfl) hS (by intro w' hb; go_simp) ?_
  refine h_take 25 (.int .u32 (d3 : Int)) rfl (by kernel_rfl) (by kernel_rfl) (by kernel_rfl) (fun _ _ _ h => h) (by kernel_rfl) hS (fun _ _ => by kernel_rfl) ?_
  refine h_take 26 (.bool true) rfl (by kernel_rfl) (by kernel_rfl) (by kernel_rfl) (fun _ _ _ h => h) (by kernel_rfl) hS (fun _ _ => by kernel_rfl) ?_
  refine wpAnyH_done (by kernel_rfl) ?_ _
  go_simp
  go_wp2
  go_ret2
  exact ⟨by rw [HVAL.out]; rfl, hS⟩

end Go.Proofs.YtbbkbpclhohglaaDoor
