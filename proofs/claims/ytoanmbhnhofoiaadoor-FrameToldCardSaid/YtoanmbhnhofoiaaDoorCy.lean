/- The walk of Bytes of tephraref03. -/
import Derived.Test.YtoanmbhnhofoiaaDoorCd
import Derived.Test.YtoanmbhnhofoiaaDoorCs
namespace Go.Proofs.YtoanmbhnhofoiaaDoor
open Go.RowKit

set_option maxRecDepth 100000 in
set_option maxHeartbeats 400000 in
theorem refbytes_any (s : W32) (w : World) : Calls Tryd.prog 24 #[wv s] w fun e w' => e = .returned (.string (tx (lb s))) ∧ Below w.heap.size w w' := by
  have hv : wv s = .int .u32 (s.toNat : Int) := rfl
  obtain ⟨a, ha⟩ : ∃ a, a = s.toNat := ⟨_, rfl⟩
  have ha32 : a < 4294967296 := by rw [ha]; exact s.isLt
  obtain ⟨b0, h0⟩ : ∃ b0, b0 = a / 2 ^ (8 * 0) % 256 := ⟨_, rfl⟩
  obtain ⟨b1, h1⟩ : ∃ b1, b1 = a / 2 ^ (8 * 1) % 256 := ⟨_, rfl⟩
  obtain ⟨b2, h2⟩ : ∃ b2, b2 = a / 2 ^ (8 * 2) % 256 := ⟨_, rfl⟩
  obtain ⟨b3, h3⟩ : ∃ b3, b3 = a / 2 ^ (8 * 3) % 256 := ⟨_, rfl⟩
  have hm : (lb s).map bv = [.int .u8 (b0 : Int), .int .u8 (b1 : Int), .int .u8 (b2 : Int), .int .u8 (b3 : Int)] := by
    rw [lb, List.map_cons, List.map_cons, List.map_cons, List.map_cons, nth_val, nth_val, nth_val, nth_val, h0, h1, h2, h3, ha]
    rfl
  have k0 : IntKind.u8.wrap ((a : Int) % 256) = (b0 : Int) := by rw [IntKind.wrap_u8']; omega
  have k1 : IntKind.u8.wrap ((a : Int) / 256 % 256) = (b1 : Int) := by rw [IntKind.wrap_u8']; omega
  have k2 : IntKind.u8.wrap ((a : Int) / 65536 % 256) = (b2 : Int) := by rw [IntKind.wrap_u8']; omega
  have k3 : IntKind.u8.wrap ((a : Int) / 16777216) = (b3 : Int) := by rw [IntKind.wrap_u8']; omega
  have hcv := conv_reads (P := Tryd.prog) (src := 22) (dst := 9) (c := 4) Tryd.underlying22 Tryd.underlying5 Tryd.underlying9 (reads_lit w 5 (lb s) (0, 0))
  rw [hm] at hcv
  have hcv2 : (convert 22 9 (.slice (some ⟨w.heap.size, 0, none⟩) 4 4)).run Tryd.prog (w.alloc (.cells #[.int .u8 (b0 : Int), .int .u8 (b1 : Int), .int .u8 (b2 : Int), .int .u8 (b3 : Int)] 5)) = .ok (.string (tx (lb s))) (w.alloc (.cells #[.int .u8 (b0 : Int), .int .u8 (b1 : Int), .int .u8 (b2 : Int), .int .u8 (b3 : Int)] 5)) := hcv
  generalize tx (lb s) = t at hcv2 ⊢
  rw [hv, ← ha]
  clear hv ha h0 h1 h2 h3 hm hcv
  go_enter Tryd.func24, Tryd.ntmps24
  go_wp2
  go_ret
  exact ⟨rfl, (Below.refl _ _).alloc (Nat.le_refl _) _⟩

end Go.Proofs.YtoanmbhnhofoiaaDoor
