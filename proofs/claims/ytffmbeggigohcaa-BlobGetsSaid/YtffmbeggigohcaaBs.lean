/- The walk of BlobGets: it returns true at any bytes, any place and any most. -/
import Derived.Test.YtffmbeggigohcaaBe
import Derived.Test.YtffmbeggigohcaaBf
import Derived.Test.YtffmbeggigohcaaH
namespace Go.Proofs.Ytffmbeggigohcaa
open Go.RowKit Go.Shelf

set_option maxRecDepth 100000 in
set_option maxHeartbeats 400000 in
theorem gets_long (A : Option Addr) (n c : Nat) (at_ most : Int) (h : 300 < n) (w : World) :
    Calls Try.prog 4 #[.slice A n c, .int .i64 at_, .int .i64 most] w fun e w' => e = .returned (.bool true) ∧ Below w.heap.size w w' := by
  go_enter Try.func4, Try.ntmps4
  go_wp2_with (go_at_call 7; refine (fixed_any _).mono ?_; rintro e w3 ⟨rfl, hb3⟩)
  go_ret
  exact ⟨rfl, hb3⟩

set_option maxRecDepth 100000 in
set_option maxHeartbeats 400000 in
theorem gets_err1 (A : Option Addr) (n c : Nat) (at_ most : Int) (bs : List UInt8) (hn : n ≤ 300) (w : World) (hr : Reads w w.heap.size 1 A n (bs.map bv))
    (h9 : Calls Try.prog 9 #[.slice A n c, .int .i64 at_, .int .i64 most] w fun e w' => e = .returned (.tuple #[.string (tx []), .int .i64 0, .int .i64 1]) ∧ w = w')
    (h11 : Calls Try.prog 11 #[.string (tx bs), .int .i64 at_, .int .i64 most] w fun e w' => e = .returned (.tuple #[.string (tx []), .int .i64 0, .int .i64 1]) ∧ w = w') :
    Calls Try.prog 4 #[.slice A n c, .int .i64 at_, .int .i64 most] w fun e w' => e = .returned (.bool true) ∧ Below w.heap.size w w' := by
  have hcv := conv_reads (P := Try.prog) (src := 22) (dst := 9) (c := c) Try.underlying22 Try.underlying5 Try.underlying9 hr
  have H9 := Lib.hid h9
  have H11 := Lib.hid h11
  clear h9 h11
  go_enter Try.func4, Try.ntmps4
  go_wp2_with (first
    | (go_at_call 9; refine (H9.out).mono ?_; rintro e w' ⟨rfl, rfl⟩)
    | (go_at_call 11; refine (H11.out).mono ?_; rintro e w' ⟨rfl, rfl⟩))
  refine wp_region_held (S := fun W => Below w.heap.size w W) (by kernel_rfl) ?_
  refine h_one 0 rfl (by kernel_rfl) (by kernel_rfl) (fun K hK => ?_)
  go_simp
  refine (fixed_any _).mono ?_
  rintro e w3 ⟨rfl, hb3⟩
  have hS : Below w.heap.size w w3 := (Below.refl _ w).drew.trans hb3
  refine hK _ _ hS ?_
  clear hK K
  refine h_take 1 (.bool true) rfl (by kernel_rfl) (by kernel_rfl) (by kernel_rfl) (fun _ _ _ h => h) (by kernel_rfl) hS (fun _ _ => by kernel_rfl) ?_
  refine h_take 2 (.int .i64 1) rfl (by kernel_rfl) (by kernel_rfl) (by kernel_rfl) (fun _ _ _ h => h) (by kernel_rfl) hS (fun _ _ => by kernel_rfl) ?_
  refine h_take 3 (.bool true) rfl (by kernel_rfl) (by kernel_rfl) (by kernel_rfl) (fun _ _ _ h => h) (by kernel_rfl) hS (fun _ _ => by kernel_rfl) ?_
  refine h_take 4 (.bool true) rfl (by kernel_rfl) (by kernel_rfl) (by kernel_rfl) (fun _ _ _ h => h) (by kernel_rfl) hS (fun _ _ => by kernel_rfl) ?_
  refine h_skip 5 rfl (by kernel_rfl) (by kernel_rfl) (by kernel_rfl) (fun _ _ _ h => h) (by kernel_rfl) hS ?_
  refine h_skip 6 rfl (by kernel_rfl) (by kernel_rfl) (by kernel_rfl) (fun _ _ _ h => h) (by kernel_rfl) hS ?_
  refine h_skip 7 rfl (by kernel_rfl) (by kernel_rfl) (by kernel_rfl) (fun _ _ _ h => h) (by kernel_rfl) hS ?_
  refine h_skip 8 rfl (by kernel_rfl) (by kernel_rfl) (by kernel_rfl) (fun _ _ _ h => h) (by kernel_rfl) hS ?_
  refine h_skip 9 rfl (by kernel_rfl) (by kernel_rfl) (by kernel_rfl) (fun _ _ _ h => h) (by kernel_rfl) hS ?_
  refine h_skip 10 rfl (by kernel_rfl) (by kernel_rfl) (by kernel_rfl) (fun _ _ _ h => h) (by kernel_rfl) hS ?_
  refine h_skip 11 rfl (by kernel_rfl) (by kernel_rfl) (by kernel_rfl) (fun _ _ _ h => h) (by kernel_rfl) hS ?_
  refine h_skip 12 rfl (by kernel_rfl) (by kernel_rfl) (by kernel_rfl) (fun _ _ _ h => h) (by kernel_rfl) hS ?_
  refine h_skip 13 rfl (by kernel_rfl) (by kernel_rfl) (by kernel_rfl) (fun _ _ _ h => h) (by kernel_rfl) hS ?_
  refine h_take 14 (.bool true) rfl (by kernel_rfl) (by kernel_rfl) (by kernel_rfl) (fun _ _ _ h => h) (by kernel_rfl) hS (fun _ _ => by kernel_rfl) ?_
  refine h_take 15 (.bool true) rfl (by kernel_rfl) (by kernel_rfl) (by kernel_rfl) (fun _ _ _ h => h) (by kernel_rfl) hS (fun _ _ => by kernel_rfl) ?_
  refine h_take 16 (.bool true) rfl (by kernel_rfl) (by kernel_rfl) (by kernel_rfl) (fun _ _ _ h => h) (by kernel_rfl) hS (fun _ _ => by kernel_rfl) ?_
  refine wpAnyH_done (by kernel_rfl) ?_ _
  go_simp
  go_wp2
  go_ret
  exact ⟨rfl, hS⟩

set_option maxRecDepth 100000 in
set_option maxHeartbeats 400000 in
theorem gets_err2 (A : Option Addr) (n c : Nat) (at_ most : Int) (bs : List UInt8) (hn : n ≤ 300) (w : World) (hr : Reads w w.heap.size 1 A n (bs.map bv))
    (h9 : Calls Try.prog 9 #[.slice A n c, .int .i64 at_, .int .i64 most] w fun e w' => e = .returned (.tuple #[.string (tx []), .int .i64 0, .int .i64 2]) ∧ w = w')
    (h11 : Calls Try.prog 11 #[.string (tx bs), .int .i64 at_, .int .i64 most] w fun e w' => e = .returned (.tuple #[.string (tx []), .int .i64 0, .int .i64 2]) ∧ w = w') :
    Calls Try.prog 4 #[.slice A n c, .int .i64 at_, .int .i64 most] w fun e w' => e = .returned (.bool true) ∧ Below w.heap.size w w' := by
  have hcv := conv_reads (P := Try.prog) (src := 22) (dst := 9) (c := c) Try.underlying22 Try.underlying5 Try.underlying9 hr
  have H9 := Lib.hid h9
  have H11 := Lib.hid h11
  clear h9 h11
  go_enter Try.func4, Try.ntmps4
  go_wp2_with (first
    | (go_at_call 9; refine (H9.out).mono ?_; rintro e w' ⟨rfl, rfl⟩)
    | (go_at_call 11; refine (H11.out).mono ?_; rintro e w' ⟨rfl, rfl⟩))
  refine wp_region_held (S := fun W => Below w.heap.size w W) (by kernel_rfl) ?_
  refine h_one 0 rfl (by kernel_rfl) (by kernel_rfl) (fun K hK => ?_)
  go_simp
  refine (fixed_any _).mono ?_
  rintro e w3 ⟨rfl, hb3⟩
  have hS : Below w.heap.size w w3 := (Below.refl _ w).drew.trans hb3
  refine hK _ _ hS ?_
  clear hK K
  refine h_take 1 (.bool true) rfl (by kernel_rfl) (by kernel_rfl) (by kernel_rfl) (fun _ _ _ h => h) (by kernel_rfl) hS (fun _ _ => by kernel_rfl) ?_
  refine h_take 2 (.int .i64 2) rfl (by kernel_rfl) (by kernel_rfl) (by kernel_rfl) (fun _ _ _ h => h) (by kernel_rfl) hS (fun _ _ => by kernel_rfl) ?_
  refine h_take 3 (.bool true) rfl (by kernel_rfl) (by kernel_rfl) (by kernel_rfl) (fun _ _ _ h => h) (by kernel_rfl) hS (fun _ _ => by kernel_rfl) ?_
  refine h_take 4 (.bool true) rfl (by kernel_rfl) (by kernel_rfl) (by kernel_rfl) (fun _ _ _ h => h) (by kernel_rfl) hS (fun _ _ => by kernel_rfl) ?_
  refine h_skip 5 rfl (by kernel_rfl) (by kernel_rfl) (by kernel_rfl) (fun _ _ _ h => h) (by kernel_rfl) hS ?_
  refine h_skip 6 rfl (by kernel_rfl) (by kernel_rfl) (by kernel_rfl) (fun _ _ _ h => h) (by kernel_rfl) hS ?_
  refine h_skip 7 rfl (by kernel_rfl) (by kernel_rfl) (by kernel_rfl) (fun _ _ _ h => h) (by kernel_rfl) hS ?_
  refine h_skip 8 rfl (by kernel_rfl) (by kernel_rfl) (by kernel_rfl) (fun _ _ _ h => h) (by kernel_rfl) hS ?_
  refine h_skip 9 rfl (by kernel_rfl) (by kernel_rfl) (by kernel_rfl) (fun _ _ _ h => h) (by kernel_rfl) hS ?_
  refine h_skip 10 rfl (by kernel_rfl) (by kernel_rfl) (by kernel_rfl) (fun _ _ _ h => h) (by kernel_rfl) hS ?_
  refine h_skip 11 rfl (by kernel_rfl) (by kernel_rfl) (by kernel_rfl) (fun _ _ _ h => h) (by kernel_rfl) hS ?_
  refine h_skip 12 rfl (by kernel_rfl) (by kernel_rfl) (by kernel_rfl) (fun _ _ _ h => h) (by kernel_rfl) hS ?_
  refine h_skip 13 rfl (by kernel_rfl) (by kernel_rfl) (by kernel_rfl) (fun _ _ _ h => h) (by kernel_rfl) hS ?_
  refine h_take 14 (.bool true) rfl (by kernel_rfl) (by kernel_rfl) (by kernel_rfl) (fun _ _ _ h => h) (by kernel_rfl) hS (fun _ _ => by kernel_rfl) ?_
  refine h_take 15 (.bool true) rfl (by kernel_rfl) (by kernel_rfl) (by kernel_rfl) (fun _ _ _ h => h) (by kernel_rfl) hS (fun _ _ => by kernel_rfl) ?_
  refine h_take 16 (.bool true) rfl (by kernel_rfl) (by kernel_rfl) (by kernel_rfl) (fun _ _ _ h => h) (by kernel_rfl) hS (fun _ _ => by kernel_rfl) ?_
  refine wpAnyH_done (by kernel_rfl) ?_ _
  go_simp
  go_wp2
  go_ret
  exact ⟨rfl, hS⟩

set_option maxRecDepth 100000 in
set_option maxHeartbeats 400000 in
theorem gets_err3 (A : Option Addr) (n c : Nat) (at_ most : Int) (bs : List UInt8) (hn : n ≤ 300) (w : World) (hr : Reads w w.heap.size 1 A n (bs.map bv))
    (h9 : Calls Try.prog 9 #[.slice A n c, .int .i64 at_, .int .i64 most] w fun e w' => e = .returned (.tuple #[.string (tx []), .int .i64 0, .int .i64 3]) ∧ w = w')
    (h11 : Calls Try.prog 11 #[.string (tx bs), .int .i64 at_, .int .i64 most] w fun e w' => e = .returned (.tuple #[.string (tx []), .int .i64 0, .int .i64 3]) ∧ w = w') :
    Calls Try.prog 4 #[.slice A n c, .int .i64 at_, .int .i64 most] w fun e w' => e = .returned (.bool true) ∧ Below w.heap.size w w' := by
  have hcv := conv_reads (P := Try.prog) (src := 22) (dst := 9) (c := c) Try.underlying22 Try.underlying5 Try.underlying9 hr
  have H9 := Lib.hid h9
  have H11 := Lib.hid h11
  clear h9 h11
  go_enter Try.func4, Try.ntmps4
  go_wp2_with (first
    | (go_at_call 9; refine (H9.out).mono ?_; rintro e w' ⟨rfl, rfl⟩)
    | (go_at_call 11; refine (H11.out).mono ?_; rintro e w' ⟨rfl, rfl⟩))
  refine wp_region_held (S := fun W => Below w.heap.size w W) (by kernel_rfl) ?_
  refine h_one 0 rfl (by kernel_rfl) (by kernel_rfl) (fun K hK => ?_)
  go_simp
  refine (fixed_any _).mono ?_
  rintro e w3 ⟨rfl, hb3⟩
  have hS : Below w.heap.size w w3 := (Below.refl _ w).drew.trans hb3
  refine hK _ _ hS ?_
  clear hK K
  refine h_take 1 (.bool true) rfl (by kernel_rfl) (by kernel_rfl) (by kernel_rfl) (fun _ _ _ h => h) (by kernel_rfl) hS (fun _ _ => by kernel_rfl) ?_
  refine h_take 2 (.int .i64 3) rfl (by kernel_rfl) (by kernel_rfl) (by kernel_rfl) (fun _ _ _ h => h) (by kernel_rfl) hS (fun _ _ => by kernel_rfl) ?_
  refine h_take 3 (.bool true) rfl (by kernel_rfl) (by kernel_rfl) (by kernel_rfl) (fun _ _ _ h => h) (by kernel_rfl) hS (fun _ _ => by kernel_rfl) ?_
  refine h_take 4 (.bool true) rfl (by kernel_rfl) (by kernel_rfl) (by kernel_rfl) (fun _ _ _ h => h) (by kernel_rfl) hS (fun _ _ => by kernel_rfl) ?_
  refine h_skip 5 rfl (by kernel_rfl) (by kernel_rfl) (by kernel_rfl) (fun _ _ _ h => h) (by kernel_rfl) hS ?_
  refine h_skip 6 rfl (by kernel_rfl) (by kernel_rfl) (by kernel_rfl) (fun _ _ _ h => h) (by kernel_rfl) hS ?_
  refine h_skip 7 rfl (by kernel_rfl) (by kernel_rfl) (by kernel_rfl) (fun _ _ _ h => h) (by kernel_rfl) hS ?_
  refine h_skip 8 rfl (by kernel_rfl) (by kernel_rfl) (by kernel_rfl) (fun _ _ _ h => h) (by kernel_rfl) hS ?_
  refine h_skip 9 rfl (by kernel_rfl) (by kernel_rfl) (by kernel_rfl) (fun _ _ _ h => h) (by kernel_rfl) hS ?_
  refine h_skip 10 rfl (by kernel_rfl) (by kernel_rfl) (by kernel_rfl) (fun _ _ _ h => h) (by kernel_rfl) hS ?_
  refine h_skip 11 rfl (by kernel_rfl) (by kernel_rfl) (by kernel_rfl) (fun _ _ _ h => h) (by kernel_rfl) hS ?_
  refine h_skip 12 rfl (by kernel_rfl) (by kernel_rfl) (by kernel_rfl) (fun _ _ _ h => h) (by kernel_rfl) hS ?_
  refine h_skip 13 rfl (by kernel_rfl) (by kernel_rfl) (by kernel_rfl) (fun _ _ _ h => h) (by kernel_rfl) hS ?_
  refine h_take 14 (.bool true) rfl (by kernel_rfl) (by kernel_rfl) (by kernel_rfl) (fun _ _ _ h => h) (by kernel_rfl) hS (fun _ _ => by kernel_rfl) ?_
  refine h_take 15 (.bool true) rfl (by kernel_rfl) (by kernel_rfl) (by kernel_rfl) (fun _ _ _ h => h) (by kernel_rfl) hS (fun _ _ => by kernel_rfl) ?_
  refine h_take 16 (.bool true) rfl (by kernel_rfl) (by kernel_rfl) (by kernel_rfl) (fun _ _ _ h => h) (by kernel_rfl) hS (fun _ _ => by kernel_rfl) ?_
  refine wpAnyH_done (by kernel_rfl) ?_ _
  go_simp
  go_wp2
  go_ret
  exact ⟨rfl, hS⟩

set_option maxRecDepth 100000 in
set_option maxHeartbeats 400000 in
theorem gets_err5 (A : Option Addr) (n c : Nat) (at_ most : Int) (bs : List UInt8) (hn : n ≤ 300) (w : World) (hr : Reads w w.heap.size 1 A n (bs.map bv))
    (h9 : Calls Try.prog 9 #[.slice A n c, .int .i64 at_, .int .i64 most] w fun e w' => e = .returned (.tuple #[.string (tx []), .int .i64 0, .int .i64 5]) ∧ w = w')
    (h11 : Calls Try.prog 11 #[.string (tx bs), .int .i64 at_, .int .i64 most] w fun e w' => e = .returned (.tuple #[.string (tx []), .int .i64 0, .int .i64 5]) ∧ w = w') :
    Calls Try.prog 4 #[.slice A n c, .int .i64 at_, .int .i64 most] w fun e w' => e = .returned (.bool true) ∧ Below w.heap.size w w' := by
  have hcv := conv_reads (P := Try.prog) (src := 22) (dst := 9) (c := c) Try.underlying22 Try.underlying5 Try.underlying9 hr
  have H9 := Lib.hid h9
  have H11 := Lib.hid h11
  clear h9 h11
  go_enter Try.func4, Try.ntmps4
  go_wp2_with (first
    | (go_at_call 9; refine (H9.out).mono ?_; rintro e w' ⟨rfl, rfl⟩)
    | (go_at_call 11; refine (H11.out).mono ?_; rintro e w' ⟨rfl, rfl⟩))
  refine wp_region_held (S := fun W => Below w.heap.size w W) (by kernel_rfl) ?_
  refine h_one 0 rfl (by kernel_rfl) (by kernel_rfl) (fun K hK => ?_)
  go_simp
  refine (fixed_any _).mono ?_
  rintro e w3 ⟨rfl, hb3⟩
  have hS : Below w.heap.size w w3 := (Below.refl _ w).drew.trans hb3
  refine hK _ _ hS ?_
  clear hK K
  refine h_take 1 (.bool true) rfl (by kernel_rfl) (by kernel_rfl) (by kernel_rfl) (fun _ _ _ h => h) (by kernel_rfl) hS (fun _ _ => by kernel_rfl) ?_
  refine h_take 2 (.int .i64 5) rfl (by kernel_rfl) (by kernel_rfl) (by kernel_rfl) (fun _ _ _ h => h) (by kernel_rfl) hS (fun _ _ => by kernel_rfl) ?_
  refine h_take 3 (.bool true) rfl (by kernel_rfl) (by kernel_rfl) (by kernel_rfl) (fun _ _ _ h => h) (by kernel_rfl) hS (fun _ _ => by kernel_rfl) ?_
  refine h_take 4 (.bool true) rfl (by kernel_rfl) (by kernel_rfl) (by kernel_rfl) (fun _ _ _ h => h) (by kernel_rfl) hS (fun _ _ => by kernel_rfl) ?_
  refine h_skip 5 rfl (by kernel_rfl) (by kernel_rfl) (by kernel_rfl) (fun _ _ _ h => h) (by kernel_rfl) hS ?_
  refine h_skip 6 rfl (by kernel_rfl) (by kernel_rfl) (by kernel_rfl) (fun _ _ _ h => h) (by kernel_rfl) hS ?_
  refine h_skip 7 rfl (by kernel_rfl) (by kernel_rfl) (by kernel_rfl) (fun _ _ _ h => h) (by kernel_rfl) hS ?_
  refine h_skip 8 rfl (by kernel_rfl) (by kernel_rfl) (by kernel_rfl) (fun _ _ _ h => h) (by kernel_rfl) hS ?_
  refine h_skip 9 rfl (by kernel_rfl) (by kernel_rfl) (by kernel_rfl) (fun _ _ _ h => h) (by kernel_rfl) hS ?_
  refine h_skip 10 rfl (by kernel_rfl) (by kernel_rfl) (by kernel_rfl) (fun _ _ _ h => h) (by kernel_rfl) hS ?_
  refine h_skip 11 rfl (by kernel_rfl) (by kernel_rfl) (by kernel_rfl) (fun _ _ _ h => h) (by kernel_rfl) hS ?_
  refine h_skip 12 rfl (by kernel_rfl) (by kernel_rfl) (by kernel_rfl) (fun _ _ _ h => h) (by kernel_rfl) hS ?_
  refine h_skip 13 rfl (by kernel_rfl) (by kernel_rfl) (by kernel_rfl) (fun _ _ _ h => h) (by kernel_rfl) hS ?_
  refine h_take 14 (.bool true) rfl (by kernel_rfl) (by kernel_rfl) (by kernel_rfl) (fun _ _ _ h => h) (by kernel_rfl) hS (fun _ _ => by kernel_rfl) ?_
  refine h_take 15 (.bool true) rfl (by kernel_rfl) (by kernel_rfl) (by kernel_rfl) (fun _ _ _ h => h) (by kernel_rfl) hS (fun _ _ => by kernel_rfl) ?_
  refine h_take 16 (.bool true) rfl (by kernel_rfl) (by kernel_rfl) (by kernel_rfl) (fun _ _ _ h => h) (by kernel_rfl) hS (fun _ _ => by kernel_rfl) ?_
  refine wpAnyH_done (by kernel_rfl) ?_ _
  go_simp
  go_wp2
  go_ret
  exact ⟨rfl, hS⟩

set_option maxRecDepth 100000 in
set_option maxHeartbeats 1000000 in
theorem gets_ok (A : Option Addr) (n c at_ nx : Nat) (most : Int) (bs t : List UInt8) (hn : n ≤ 300) (hc : n ≤ c) (h1 : at_ < nx) (h2 : nx ≤ n) (hv : blob t = (bs.drop at_).take (nx - at_)) (w : World) (hr : Reads w w.heap.size 1 A n (bs.map bv))
    (h9 : Calls Try.prog 9 #[.slice A n c, .int .i64 (at_ : Int), .int .i64 most] w fun e w' => e = .returned (.tuple #[.string (tx t), .int .i64 (nx : Int), .int .i64 0]) ∧ w = w')
    (h11 : Calls Try.prog 11 #[.string (tx bs), .int .i64 (at_ : Int), .int .i64 most] w fun e w' => e = .returned (.tuple #[.string (tx t), .int .i64 (nx : Int), .int .i64 0]) ∧ w = w') :
    Calls Try.prog 4 #[.slice A n c, .int .i64 (at_ : Int), .int .i64 most] w fun e w' => e = .returned (.bool true) ∧ Below w.heap.size w w' := by
  have hcv := conv_reads (P := Try.prog) (src := 22) (dst := 9) (c := c) Try.underlying22 Try.underlying5 Try.underlying9 hr
  have hbl : (blob t).length ≤ 300 := by
    rw [hv, List.length_take]; omega
  have H9 := Lib.hid h9
  have H11 := Lib.hid h11
  have HV := Lib.hid hv
  have HBL := Lib.hid hbl
  clear h9 h11 hv hbl
  go_enter Try.func4, Try.ntmps4
  go_wp2_with (first
    | (go_at_call 9; refine (H9.out).mono ?_; rintro e w' ⟨rfl, rfl⟩)
    | (go_at_call 11; refine (H11.out).mono ?_; rintro e w' ⟨rfl, rfl⟩))
  refine wp_region_held (S := fun W => Below w.heap.size w W) (by kernel_rfl) ?_
  refine h_one 0 rfl (by kernel_rfl) (by kernel_rfl) (fun K hK => ?_)
  go_simp
  refine (fixed_any _).mono ?_
  rintro e w3 ⟨rfl, hb3⟩
  have hS : Below w.heap.size w w3 := (Below.refl _ w).drew.trans hb3
  refine hK _ _ hS ?_
  clear hK K
  refine h_take 1 (.bool true) rfl (by kernel_rfl) (by kernel_rfl) (by kernel_rfl) (fun _ _ _ h => h) (by kernel_rfl) hS (fun _ _ => by kernel_rfl) ?_
  refine h_take 2 (.int .i64 0) rfl (by kernel_rfl) (by kernel_rfl) (by kernel_rfl) (fun _ _ _ h => h) (by kernel_rfl) hS (fun _ _ => by kernel_rfl) ?_
  refine h_take 3 (.bool false) rfl (by kernel_rfl) (by kernel_rfl) (by kernel_rfl) (fun _ _ _ h => h) (by kernel_rfl) hS (fun _ _ => by kernel_rfl) ?_
  refine h_take 4 (.bool false) rfl (by kernel_rfl) (by kernel_rfl) (by kernel_rfl) (fun _ _ _ h => h) (by kernel_rfl) hS (fun _ _ => by kernel_rfl) ?_
  refine h_take 5 (.string (tx t)) rfl (by kernel_rfl) (by kernel_rfl) (by kernel_rfl) (fun _ _ _ h => h) (by kernel_rfl) hS (fun _ _ => by kernel_rfl) ?_
  refine h_take 8 (.slice A n c) rfl (by kernel_rfl) (by kernel_rfl) (by kernel_rfl) (fun _ _ _ h => h) (by kernel_rfl) hS (fun _ _ => by kernel_rfl) ?_
  refine h_take 9 (.int .i64 (at_ : Int)) rfl (by kernel_rfl) (by kernel_rfl) (by kernel_rfl) (fun _ _ _ h => h) (by kernel_rfl) hS (fun _ _ => by kernel_rfl) ?_
  refine h_take 10 (.int .i64 (nx : Int)) rfl (by kernel_rfl) (by kernel_rfl) (by kernel_rfl) (fun _ _ _ h => h) (by kernel_rfl) hS (fun _ _ => by kernel_rfl) ?_
  have hcat : ¬ c = at_ := by omega
  have hle : nx ≤ c := by omega
  refine h_take 11 (.slice (A.map (fun x => x.add at_)) (nx - at_) (c - at_)) rfl (by kernel_rfl) (by kernel_rfl) (by kernel_rfl) (fun _ _ _ h => h) (by kernel_rfl) hS (?hy11) ?_
  case hy11 =>
    intro w' _
    go_simp
    intro h
    omega
  have hcvS : ∀ w', Below w.heap.size w w' → (convert 22 9 (.slice (A.map (fun x => x.add at_)) (nx - at_) (c - at_))).run Try.prog w' = .ok (.string (tx (blob t))) w' := by
    intro w' hb
    have h1 := (hr.below hb).cut (cap := c) (k := at_) (by omega) hc
    rw [if_neg hcat, Nat.mul_one, ← List.map_drop] at h1
    have h2 := h1.take (k := nx - at_) (by omega)
    rw [← List.map_take, ← HV.out] at h2
    exact conv_reads Try.underlying22 Try.underlying5 Try.underlying9 h2
  refine h_take 12 (.string (tx (blob t))) rfl (by kernel_rfl) (by kernel_rfl) (by kernel_rfl) (fun _ _ _ h => h) (by kernel_rfl) hS (?hy12) ?_
  case hy12 =>
    intro w' hb
    have hcv1 := hcvS w' hb
    go_simp
  refine h_one 6 rfl (by kernel_rfl) (by kernel_rfl) (fun K hK => ?_)
  go_simp
  refine (bput_nil t (by have := HBL.out; omega) _).mono ?_
  rintro e w4 ⟨v, rfl, ho, hb4⟩
  obtain ⟨A4, c4, rfl, _, hr4⟩ := own_reads ho
  have hS4 : Below w.heap.size w w4 := hS.trans (hb4.mono hS.size)
  refine hK _ _ hS4 ?_
  clear hK K
  have hcv4 := conv_reads (P := Try.prog) (src := 22) (dst := 9) (c := c4) Try.underlying22 Try.underlying5 Try.underlying9 hr4
  refine h_one 7 rfl (by kernel_rfl) (by kernel_rfl) (fun K hK => ?_)
  go_simp
  refine hK _ _ hS4 ?_
  clear hK K
  have htl := tx_toList
  refine h_take 13 (.bool true) rfl (by kernel_rfl) (by kernel_rfl) (by kernel_rfl) (fun _ _ _ h => h) (by kernel_rfl) hS4 (by intro w' _; go_simp) ?_
  refine h_take 14 (.bool true) rfl (by kernel_rfl) (by kernel_rfl) (by kernel_rfl) (fun _ _ _ h => h) (by kernel_rfl) hS4 (fun _ _ => by kernel_rfl) ?_
  refine h_take 15 (.bool true) rfl (by kernel_rfl) (by kernel_rfl) (by kernel_rfl) (fun _ _ _ h => h) (by kernel_rfl) hS4 (fun _ _ => by kernel_rfl) ?_
  refine h_take 16 (.bool true) rfl (by kernel_rfl) (by kernel_rfl) (by kernel_rfl) (fun _ _ _ h => h) (by kernel_rfl) hS4 (fun _ _ => by kernel_rfl) ?_
  refine wpAnyH_done (by kernel_rfl) ?_ _
  go_simp
  go_wp2
  go_ret
  exact ⟨rfl, hS4⟩

/-- **BlobGets answers true, at any bytes, any place and any most.** -/
theorem gets_any (A : Option Addr) (n c : Nat) (at_ most : Int) (bs : List UInt8) (hc : n ≤ c) (hmost : most < 9223372036854775808) (w : World) (hr : Reads w w.heap.size 1 A n (bs.map bv)) :
    Calls Try.prog 4 #[.slice A n c, .int .i64 at_, .int .i64 most] w fun e w' => e = .returned (.bool true) ∧ Below w.heap.size w w' := by
  have hl : bs.length = n := by have := hr.1; simpa using this
  by_cases hlong : 300 < n
  · exact gets_long A n c at_ most hlong w
  by_cases hbad : at_ < 0 ∨ (n : Int) < at_
  · exact gets_err1 A n c at_ most bs (by omega) w hr (bget_bad A n c at_ most hbad w) (rbget_bad bs at_ most (by rw [hl]; exact hbad) w)
  obtain ⟨k, rfl⟩ : ∃ k : Nat, at_ = (k : Int) := ⟨at_.toNat, by omega⟩
  have h9 := bget_any A n c k most w.heap.size bs hc (by omega) hmost (by omega) w hr
  have h11 := rbget_any k most bs (by omega) hmost (by omega) w
  rcases bg_five (most := most) (at_ := k) (bs := bs) with h | h | h | ⟨t, nx, h⟩
  · rw [h] at h9 h11
    exact gets_err2 A n c k most bs (by omega) w hr h9 h11
  · rw [h] at h9 h11
    exact gets_err3 A n c k most bs (by omega) w hr h9 h11
  · rw [h] at h9 h11
    exact gets_err5 A n c k most bs (by omega) w hr h9 h11
  · obtain ⟨h1, h2, hv⟩ := bg_one h
    rw [h] at h9 h11
    exact gets_ok A n c k nx most bs t (by omega) hc h1 (by omega) hv w hr h9 h11

end Go.Proofs.Ytffmbeggigohcaa
