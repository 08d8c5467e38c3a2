/- The law's do, kind by kind. -/
import Derived.Test.YtfgonihpakcbbaaProg
import Derived.Test.YtfgonihpakcbbaaMw
import Derived.Test.YtfgonihpakcbbaaS
namespace Go.Proofs.Ytfgonihpakcbbaa
open Go.RowKit
set_option maxRecDepth 100000

set_option maxHeartbeats 1000000 in
theorem do_0 (p : Nat) (nm to : List UInt8) (A : Option Addr) (k c : Nat) (z : Int) (K : Option Addr) (kn kc : Nat) (w : World) (Q : Int → World → Prop)
    (H : Calls Try.prog 19 #[.pointer (some ⟨p, 0, none⟩), .string (tx nm), .slice A k c] (w.alloc (.cells #[.int .i64 0, .string (tx nm), .string (tx to), .slice A k c, .int .i64 z, .slice K kn kc] 30)) fun e w' => ∃ e0, e = .returned (.int .i64 e0) ∧ Q e0 w') :
    Calls Try.prog 8 #[.pointer (some ⟨p, 0, none⟩), .agg #[.int .i64 0, .string (tx nm), .string (tx to), .slice A k c, .int .i64 z, .slice K kn kc]] w fun e w' => ∃ e0, e = .returned (.int .i64 e0) ∧ Q e0 w' := by
  have hnew := one_new w (.cells #[.int .i64 0, .string (tx nm), .string (tx to), .slice A k c, .int .i64 z, .slice K kn kc] 30)
  have n0 := at_cell (i := 0) hnew rfl
  have n1 := at_cell (i := 1) hnew rfl
  have n2 := at_cell (i := 2) hnew rfl
  have n3 := at_cell (i := 3) hnew rfl
  have n4 := at_cell (i := 4) hnew rfl
  have n5 := at_cell (i := 5) hnew rfl
  have HH := Lib.hid H
  clear H hnew
  go_enter Try.func8, Try.ntmps8
  go_wp2_with fail
  refine HH.out.mono ?_
  rintro e w2 ⟨e0, rfl, hq⟩
  have HQ := Lib.hid hq
  clear hq
  go_wp2
  go_ret
  exact ⟨e0, rfl, HQ.out⟩
set_option maxHeartbeats 1000000 in
theorem do_1 (p : Nat) (nm to : List UInt8) (A : Option Addr) (k c : Nat) (z : Int) (K : Option Addr) (kn kc : Nat) (w : World) (Q : Int → World → Prop)
    (H : Calls Try.prog 21 #[.pointer (some ⟨p, 0, none⟩), .string (tx nm), .int .i64 z] (w.alloc (.cells #[.int .i64 1, .string (tx nm), .string (tx to), .slice A k c, .int .i64 z, .slice K kn kc] 30)) fun e w' => ∃ e0, e = .returned (.int .i64 e0) ∧ Q e0 w') :
    Calls Try.prog 8 #[.pointer (some ⟨p, 0, none⟩), .agg #[.int .i64 1, .string (tx nm), .string (tx to), .slice A k c, .int .i64 z, .slice K kn kc]] w fun e w' => ∃ e0, e = .returned (.int .i64 e0) ∧ Q e0 w' := by
  have hnew := one_new w (.cells #[.int .i64 1, .string (tx nm), .string (tx to), .slice A k c, .int .i64 z, .slice K kn kc] 30)
  have n0 := at_cell (i := 0) hnew rfl
  have n1 := at_cell (i := 1) hnew rfl
  have n2 := at_cell (i := 2) hnew rfl
  have n3 := at_cell (i := 3) hnew rfl
  have n4 := at_cell (i := 4) hnew rfl
  have n5 := at_cell (i := 5) hnew rfl
  have HH := Lib.hid H
  clear H hnew
  go_enter Try.func8, Try.ntmps8
  go_wp2_with fail
  refine HH.out.mono ?_
  rintro e w2 ⟨e0, rfl, hq⟩
  have HQ := Lib.hid hq
  clear hq
  go_wp2
  go_ret
  exact ⟨e0, rfl, HQ.out⟩
set_option maxHeartbeats 1000000 in
theorem do_2 (p : Nat) (nm to : List UInt8) (A : Option Addr) (k c : Nat) (z : Int) (K : Option Addr) (kn kc : Nat) (w : World) (Q : Int → World → Prop)
    (H : Calls Try.prog 20 #[.pointer (some ⟨p, 0, none⟩), .string (tx nm)] (w.alloc (.cells #[.int .i64 2, .string (tx nm), .string (tx to), .slice A k c, .int .i64 z, .slice K kn kc] 30)) fun e w' => ∃ e0, e = .returned (.int .i64 e0) ∧ Q e0 w') :
    Calls Try.prog 8 #[.pointer (some ⟨p, 0, none⟩), .agg #[.int .i64 2, .string (tx nm), .string (tx to), .slice A k c, .int .i64 z, .slice K kn kc]] w fun e w' => ∃ e0, e = .returned (.int .i64 e0) ∧ Q e0 w' := by
  have hnew := one_new w (.cells #[.int .i64 2, .string (tx nm), .string (tx to), .slice A k c, .int .i64 z, .slice K kn kc] 30)
  have n0 := at_cell (i := 0) hnew rfl
  have n1 := at_cell (i := 1) hnew rfl
  have n2 := at_cell (i := 2) hnew rfl
  have n3 := at_cell (i := 3) hnew rfl
  have n4 := at_cell (i := 4) hnew rfl
  have n5 := at_cell (i := 5) hnew rfl
  have HH := Lib.hid H
  clear H hnew
  go_enter Try.func8, Try.ntmps8
  go_wp2_with fail
  refine HH.out.mono ?_
  rintro e w2 ⟨e0, rfl, hq⟩
  have HQ := Lib.hid hq
  clear hq
  go_wp2
  go_ret
  exact ⟨e0, rfl, HQ.out⟩
set_option maxHeartbeats 1000000 in
theorem do_3 (p : Nat) (nm to : List UInt8) (A : Option Addr) (k c : Nat) (z : Int) (K : Option Addr) (kn kc : Nat) (w : World) (Q : Int → World → Prop)
    (H : Calls Try.prog 22 #[.pointer (some ⟨p, 0, none⟩), .string (tx nm), .string (tx to)] (w.alloc (.cells #[.int .i64 3, .string (tx nm), .string (tx to), .slice A k c, .int .i64 z, .slice K kn kc] 30)) fun e w' => ∃ e0, e = .returned (.int .i64 e0) ∧ Q e0 w') :
    Calls Try.prog 8 #[.pointer (some ⟨p, 0, none⟩), .agg #[.int .i64 3, .string (tx nm), .string (tx to), .slice A k c, .int .i64 z, .slice K kn kc]] w fun e w' => ∃ e0, e = .returned (.int .i64 e0) ∧ Q e0 w' := by
  have hnew := one_new w (.cells #[.int .i64 3, .string (tx nm), .string (tx to), .slice A k c, .int .i64 z, .slice K kn kc] 30)
  have n0 := at_cell (i := 0) hnew rfl
  have n1 := at_cell (i := 1) hnew rfl
  have n2 := at_cell (i := 2) hnew rfl
  have n3 := at_cell (i := 3) hnew rfl
  have n4 := at_cell (i := 4) hnew rfl
  have n5 := at_cell (i := 5) hnew rfl
  have HH := Lib.hid H
  clear H hnew
  go_enter Try.func8, Try.ntmps8
  go_wp2_with fail
  refine HH.out.mono ?_
  rintro e w2 ⟨e0, rfl, hq⟩
  have HQ := Lib.hid hq
  clear hq
  go_wp2
  go_ret
  exact ⟨e0, rfl, HQ.out⟩
set_option maxHeartbeats 1000000 in
theorem do_4 (p : Nat) (nm to : List UInt8) (A : Option Addr) (k c : Nat) (z : Int) (K : Option Addr) (kn kc : Nat) (w : World) (Q : Int → World → Prop)
    (H : Calls Try.prog 23 #[.pointer (some ⟨p, 0, none⟩), .string (tx nm)] (w.alloc (.cells #[.int .i64 4, .string (tx nm), .string (tx to), .slice A k c, .int .i64 z, .slice K kn kc] 30)) fun e w' => ∃ e0, e = .returned (.int .i64 e0) ∧ Q e0 w') :
    Calls Try.prog 8 #[.pointer (some ⟨p, 0, none⟩), .agg #[.int .i64 4, .string (tx nm), .string (tx to), .slice A k c, .int .i64 z, .slice K kn kc]] w fun e w' => ∃ e0, e = .returned (.int .i64 e0) ∧ Q e0 w' := by
  have hnew := one_new w (.cells #[.int .i64 4, .string (tx nm), .string (tx to), .slice A k c, .int .i64 z, .slice K kn kc] 30)
  have n0 := at_cell (i := 0) hnew rfl
  have n1 := at_cell (i := 1) hnew rfl
  have n2 := at_cell (i := 2) hnew rfl
  have n3 := at_cell (i := 3) hnew rfl
  have n4 := at_cell (i := 4) hnew rfl
  have n5 := at_cell (i := 5) hnew rfl
  have HH := Lib.hid H
  clear H hnew
  go_enter Try.func8, Try.ntmps8
  go_wp2_with fail
  refine HH.out.mono ?_
  rintro e w2 ⟨e0, rfl, hq⟩
  have HQ := Lib.hid hq
  clear hq
  go_wp2
  go_ret
  exact ⟨e0, rfl, HQ.out⟩
set_option maxHeartbeats 1000000 in
theorem do_5 (p : Nat) (nm to : List UInt8) (A : Option Addr) (k c : Nat) (z : Int) (K : Option Addr) (kn kc : Nat) (w : World) (Q : Int → World → Prop)
    (H : Calls Try.prog 17 #[.pointer (some ⟨p, 0, none⟩), .int .i64 z] (w.alloc (.cells #[.int .i64 5, .string (tx nm), .string (tx to), .slice A k c, .int .i64 z, .slice K kn kc] 30)) fun e w' => e = .returned (.tuple #[]) ∧ Q 0 w') :
    Calls Try.prog 8 #[.pointer (some ⟨p, 0, none⟩), .agg #[.int .i64 5, .string (tx nm), .string (tx to), .slice A k c, .int .i64 z, .slice K kn kc]] w fun e w' => ∃ e0, e = .returned (.int .i64 e0) ∧ Q e0 w' := by
  have hnew := one_new w (.cells #[.int .i64 5, .string (tx nm), .string (tx to), .slice A k c, .int .i64 z, .slice K kn kc] 30)
  have n0 := at_cell (i := 0) hnew rfl
  have n1 := at_cell (i := 1) hnew rfl
  have n2 := at_cell (i := 2) hnew rfl
  have n3 := at_cell (i := 3) hnew rfl
  have n4 := at_cell (i := 4) hnew rfl
  have n5 := at_cell (i := 5) hnew rfl
  have HH := Lib.hid H
  clear H hnew
  go_enter Try.func8, Try.ntmps8
  go_wp2_with fail
  refine HH.out.mono ?_
  rintro e w2 ⟨rfl, hq⟩
  have HQ := Lib.hid hq
  clear hq
  go_wp2
  go_ret
  exact ⟨0, rfl, HQ.out⟩
set_option maxHeartbeats 1000000 in
theorem do_6 (p : Nat) (nm to : List UInt8) (A : Option Addr) (k c : Nat) (z : Int) (K : Option Addr) (kn kc : Nat) (w : World) (Q : Int → World → Prop)
    (H : Calls Try.prog 16 #[.pointer (some ⟨p, 0, none⟩), .int .i64 z] (w.alloc (.cells #[.int .i64 6, .string (tx nm), .string (tx to), .slice A k c, .int .i64 z, .slice K kn kc] 30)) fun e w' => e = .returned (.tuple #[]) ∧ Q 0 w') :
    Calls Try.prog 8 #[.pointer (some ⟨p, 0, none⟩), .agg #[.int .i64 6, .string (tx nm), .string (tx to), .slice A k c, .int .i64 z, .slice K kn kc]] w fun e w' => ∃ e0, e = .returned (.int .i64 e0) ∧ Q e0 w' := by
  have hnew := one_new w (.cells #[.int .i64 6, .string (tx nm), .string (tx to), .slice A k c, .int .i64 z, .slice K kn kc] 30)
  have n0 := at_cell (i := 0) hnew rfl
  have n1 := at_cell (i := 1) hnew rfl
  have n2 := at_cell (i := 2) hnew rfl
  have n3 := at_cell (i := 3) hnew rfl
  have n4 := at_cell (i := 4) hnew rfl
  have n5 := at_cell (i := 5) hnew rfl
  have HH := Lib.hid H
  clear H hnew
  go_enter Try.func8, Try.ntmps8
  go_wp2_with fail
  refine HH.out.mono ?_
  rintro e w2 ⟨rfl, hq⟩
  have HQ := Lib.hid hq
  clear hq
  go_wp2
  go_ret
  exact ⟨0, rfl, HQ.out⟩
set_option maxHeartbeats 1000000 in
theorem do_7 (p : Nat) (nm to : List UInt8) (A : Option Addr) (k c : Nat) (z : Int) (K : Option Addr) (kn kc : Nat) (w : World) (Q : Int → World → Prop)
    (H : Calls Try.prog 10 #[.pointer (some ⟨p, 0, none⟩), .slice K kn kc] (w.alloc (.cells #[.int .i64 7, .string (tx nm), .string (tx to), .slice A k c, .int .i64 z, .slice K kn kc] 30)) fun e w' => e = .returned (.tuple #[]) ∧ Q 0 w') :
    Calls Try.prog 8 #[.pointer (some ⟨p, 0, none⟩), .agg #[.int .i64 7, .string (tx nm), .string (tx to), .slice A k c, .int .i64 z, .slice K kn kc]] w fun e w' => ∃ e0, e = .returned (.int .i64 e0) ∧ Q e0 w' := by
  have hnew := one_new w (.cells #[.int .i64 7, .string (tx nm), .string (tx to), .slice A k c, .int .i64 z, .slice K kn kc] 30)
  have n0 := at_cell (i := 0) hnew rfl
  have n1 := at_cell (i := 1) hnew rfl
  have n2 := at_cell (i := 2) hnew rfl
  have n3 := at_cell (i := 3) hnew rfl
  have n4 := at_cell (i := 4) hnew rfl
  have n5 := at_cell (i := 5) hnew rfl
  have HH := Lib.hid H
  clear H hnew
  go_enter Try.func8, Try.ntmps8
  go_wp2_with fail
  refine HH.out.mono ?_
  rintro e w2 ⟨rfl, hq⟩
  have HQ := Lib.hid hq
  clear hq
  go_wp2
  go_ret
  exact ⟨0, rfl, HQ.out⟩
set_option maxHeartbeats 1000000 in
theorem do_no (kd : Int) (hk : ∀ j : Int, 0 ≤ j → j ≤ 7 → kd ≠ j) (p : Nat) (nm to : List UInt8) (A : Option Addr) (k c : Nat) (z : Int) (K : Option Addr) (kn kc : Nat) (w : World) (Q : Int → World → Prop) (H : Q 0 (w.alloc (.cells #[.int .i64 kd, .string (tx nm), .string (tx to), .slice A k c, .int .i64 z, .slice K kn kc] 30))) :
    Calls Try.prog 8 #[.pointer (some ⟨p, 0, none⟩), .agg #[.int .i64 kd, .string (tx nm), .string (tx to), .slice A k c, .int .i64 z, .slice K kn kc]] w fun e w' => ∃ e0, e = .returned (.int .i64 e0) ∧ Q e0 w' := by
  have d0 : ¬ kd = 0 := hk 0 (by omega) (by omega)
  have d1 : ¬ kd = 1 := hk 1 (by omega) (by omega)
  have d2 : ¬ kd = 2 := hk 2 (by omega) (by omega)
  have d3 : ¬ kd = 3 := hk 3 (by omega) (by omega)
  have d4 : ¬ kd = 4 := hk 4 (by omega) (by omega)
  have d5 : ¬ kd = 5 := hk 5 (by omega) (by omega)
  have d6 : ¬ kd = 6 := hk 6 (by omega) (by omega)
  have d7 : ¬ kd = 7 := hk 7 (by omega) (by omega)
  have hnew := one_new w (.cells #[.int .i64 kd, .string (tx nm), .string (tx to), .slice A k c, .int .i64 z, .slice K kn kc] 30)
  have n0 := at_cell (i := 0) hnew rfl
  have n1 := at_cell (i := 1) hnew rfl
  have n2 := at_cell (i := 2) hnew rfl
  have n3 := at_cell (i := 3) hnew rfl
  have n4 := at_cell (i := 4) hnew rfl
  have n5 := at_cell (i := 5) hnew rfl
  have HH := Lib.hid H
  clear H hnew hk
  go_enter Try.func8, Try.ntmps8
  go_wp2_with fail
  go_ret
  exact ⟨0, rfl, HH.out⟩

end Go.Proofs.Ytfgonihpakcbbaa
