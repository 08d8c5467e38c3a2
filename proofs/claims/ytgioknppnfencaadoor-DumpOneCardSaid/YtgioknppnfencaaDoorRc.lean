/- The document's Same, and record's: two records that are unlike outside their deps. -/
import Derived.Test.YtgioknppnfencaaDoorRc0
namespace Go.Proofs.YtgioknppnfencaaDoor
open Go.RowKit

set_option maxRecDepth 100000 in
set_option maxHeartbeats 400000 in
theorem rsn_kind (kind1 kind2 : Int) (target1 target2 : List UInt8) (rule1 rule2 : Int) (out1 out2 : Int) (time1 time2 : Int) (tag1 tag2 : List UInt8) (n1 n2 : Nat) (A B : Option Addr) (c d : Nat) (h : kind1 ≠ kind2) (w : World) :
    Calls Tryd.prog 25 #[.agg #[.int .i64 kind1, .string (tx target1), .int .u64 rule1, .slice A n1 c, .int .u64 out1, .int .u64 time1, .string (tx tag1)], .agg #[.int .i64 kind2, .string (tx target2), .int .u64 rule2, .slice B n2 d, .int .u64 out2, .int .u64 time2, .string (tx tag2)]] w fun e w' => e = .returned (.bool false) ∧ Below w.heap.size w w' := by
  have HB := Lib.hid (((Below.refl w.heap.size w).alloc (Nat.le_refl _) (.cells #[.int .i64 kind1, .string (tx target1), .int .u64 rule1, .slice A n1 c, .int .u64 out1, .int .u64 time1, .string (tx tag1)] 35)).alloc (by simp) (.cells #[.int .i64 kind2, .string (tx target2), .int .u64 rule2, .slice B n2 d, .int .u64 out2, .int .u64 time2, .string (tx tag2)] 35))
  have hu1 : (kind1 != kind2) = true := by rw [bne_iff_ne]; exact h
  have hu2 : decide (kind1 = kind2) = false := decide_eq_false h
  have hu3 : (kind1 == kind2) = false := by rw [beq_eq_false_iff_ne]; exact h
  clear h
  go_enter Tryd.func25, Tryd.ntmps25
  go_wp2
  go_ret
  exact ⟨rfl, HB.out⟩

set_option maxRecDepth 100000 in
set_option maxHeartbeats 400000 in
theorem rsn_target (kind : Int) (target1 target2 : List UInt8) (rule1 rule2 : Int) (out1 out2 : Int) (time1 time2 : Int) (tag1 tag2 : List UInt8) (n1 n2 : Nat) (A B : Option Addr) (c d : Nat) (h : target1 ≠ target2) (w : World) :
    Calls Tryd.prog 25 #[.agg #[.int .i64 kind, .string (tx target1), .int .u64 rule1, .slice A n1 c, .int .u64 out1, .int .u64 time1, .string (tx tag1)], .agg #[.int .i64 kind, .string (tx target2), .int .u64 rule2, .slice B n2 d, .int .u64 out2, .int .u64 time2, .string (tx tag2)]] w fun e w' => e = .returned (.bool false) ∧ Below w.heap.size w w' := by
  have HB := Lib.hid (((Below.refl w.heap.size w).alloc (Nat.le_refl _) (.cells #[.int .i64 kind, .string (tx target1), .int .u64 rule1, .slice A n1 c, .int .u64 out1, .int .u64 time1, .string (tx tag1)] 35)).alloc (by simp) (.cells #[.int .i64 kind, .string (tx target2), .int .u64 rule2, .slice B n2 d, .int .u64 out2, .int .u64 time2, .string (tx tag2)] 35))
  have hu := tx_unlike h
  clear h
  go_enter Tryd.func25, Tryd.ntmps25
  go_wp2
  go_ret
  exact ⟨rfl, HB.out⟩

set_option maxRecDepth 100000 in
set_option maxHeartbeats 400000 in
theorem rsn_rule (kind : Int) (target : List UInt8) (rule1 rule2 : Int) (out1 out2 : Int) (time1 time2 : Int) (tag1 tag2 : List UInt8) (n1 n2 : Nat) (A B : Option Addr) (c d : Nat) (h : rule1 ≠ rule2) (w : World) :
    Calls Tryd.prog 25 #[.agg #[.int .i64 kind, .string (tx target), .int .u64 rule1, .slice A n1 c, .int .u64 out1, .int .u64 time1, .string (tx tag1)], .agg #[.int .i64 kind, .string (tx target), .int .u64 rule2, .slice B n2 d, .int .u64 out2, .int .u64 time2, .string (tx tag2)]] w fun e w' => e = .returned (.bool false) ∧ Below w.heap.size w w' := by
  have HB := Lib.hid (((Below.refl w.heap.size w).alloc (Nat.le_refl _) (.cells #[.int .i64 kind, .string (tx target), .int .u64 rule1, .slice A n1 c, .int .u64 out1, .int .u64 time1, .string (tx tag1)] 35)).alloc (by simp) (.cells #[.int .i64 kind, .string (tx target), .int .u64 rule2, .slice B n2 d, .int .u64 out2, .int .u64 time2, .string (tx tag2)] 35))
  have hu1 : (rule1 != rule2) = true := by rw [bne_iff_ne]; exact h
  have hu2 : decide (rule1 = rule2) = false := decide_eq_false h
  have hu3 : (rule1 == rule2) = false := by rw [beq_eq_false_iff_ne]; exact h
  have hl1 := tx_like target
  clear h
  go_enter Tryd.func25, Tryd.ntmps25
  go_wp2
  go_ret
  exact ⟨rfl, HB.out⟩

set_option maxRecDepth 100000 in
set_option maxHeartbeats 400000 in
theorem rsn_out (kind : Int) (target : List UInt8) (rule : Int) (out1 out2 : Int) (time1 time2 : Int) (tag1 tag2 : List UInt8) (n1 n2 : Nat) (A B : Option Addr) (c d : Nat) (h : out1 ≠ out2) (w : World) :
    Calls Tryd.prog 25 #[.agg #[.int .i64 kind, .string (tx target), .int .u64 rule, .slice A n1 c, .int .u64 out1, .int .u64 time1, .string (tx tag1)], .agg #[.int .i64 kind, .string (tx target), .int .u64 rule, .slice B n2 d, .int .u64 out2, .int .u64 time2, .string (tx tag2)]] w fun e w' => e = .returned (.bool false) ∧ Below w.heap.size w w' := by
  have HB := Lib.hid (((Below.refl w.heap.size w).alloc (Nat.le_refl _) (.cells #[.int .i64 kind, .string (tx target), .int .u64 rule, .slice A n1 c, .int .u64 out1, .int .u64 time1, .string (tx tag1)] 35)).alloc (by simp) (.cells #[.int .i64 kind, .string (tx target), .int .u64 rule, .slice B n2 d, .int .u64 out2, .int .u64 time2, .string (tx tag2)] 35))
  have hu1 : (out1 != out2) = true := by rw [bne_iff_ne]; exact h
  have hu2 : decide (out1 = out2) = false := decide_eq_false h
  have hu3 : (out1 == out2) = false := by rw [beq_eq_false_iff_ne]; exact h
  have hl1 := tx_like target
  clear h
  go_enter Tryd.func25, Tryd.ntmps25
  go_wp2
  go_ret
  exact ⟨rfl, HB.out⟩

set_option maxRecDepth 100000 in
set_option maxHeartbeats 400000 in
theorem rsn_time (kind : Int) (target : List UInt8) (rule : Int) (out : Int) (time1 time2 : Int) (tag1 tag2 : List UInt8) (n1 n2 : Nat) (A B : Option Addr) (c d : Nat) (h : time1 ≠ time2) (w : World) :
    Calls Tryd.prog 25 #[.agg #[.int .i64 kind, .string (tx target), .int .u64 rule, .slice A n1 c, .int .u64 out, .int .u64 time1, .string (tx tag1)], .agg #[.int .i64 kind, .string (tx target), .int .u64 rule, .slice B n2 d, .int .u64 out, .int .u64 time2, .string (tx tag2)]] w fun e w' => e = .returned (.bool false) ∧ Below w.heap.size w w' := by
  have HB := Lib.hid (((Below.refl w.heap.size w).alloc (Nat.le_refl _) (.cells #[.int .i64 kind, .string (tx target), .int .u64 rule, .slice A n1 c, .int .u64 out, .int .u64 time1, .string (tx tag1)] 35)).alloc (by simp) (.cells #[.int .i64 kind, .string (tx target), .int .u64 rule, .slice B n2 d, .int .u64 out, .int .u64 time2, .string (tx tag2)] 35))
  have hu1 : (time1 != time2) = true := by rw [bne_iff_ne]; exact h
  have hu2 : decide (time1 = time2) = false := decide_eq_false h
  have hu3 : (time1 == time2) = false := by rw [beq_eq_false_iff_ne]; exact h
  have hl1 := tx_like target
  clear h
  go_enter Tryd.func25, Tryd.ntmps25
  go_wp2
  go_ret
  exact ⟨rfl, HB.out⟩

set_option maxRecDepth 100000 in
set_option maxHeartbeats 400000 in
theorem rsn_tag (kind : Int) (target : List UInt8) (rule : Int) (out : Int) (time : Int) (tag1 tag2 : List UInt8) (n1 n2 : Nat) (A B : Option Addr) (c d : Nat) (h : tag1 ≠ tag2) (w : World) :
    Calls Tryd.prog 25 #[.agg #[.int .i64 kind, .string (tx target), .int .u64 rule, .slice A n1 c, .int .u64 out, .int .u64 time, .string (tx tag1)], .agg #[.int .i64 kind, .string (tx target), .int .u64 rule, .slice B n2 d, .int .u64 out, .int .u64 time, .string (tx tag2)]] w fun e w' => e = .returned (.bool false) ∧ Below w.heap.size w w' := by
  have HB := Lib.hid (((Below.refl w.heap.size w).alloc (Nat.le_refl _) (.cells #[.int .i64 kind, .string (tx target), .int .u64 rule, .slice A n1 c, .int .u64 out, .int .u64 time, .string (tx tag1)] 35)).alloc (by simp) (.cells #[.int .i64 kind, .string (tx target), .int .u64 rule, .slice B n2 d, .int .u64 out, .int .u64 time, .string (tx tag2)] 35))
  have hu := tx_unlike h
  have hl1 := tx_like target
  clear h
  go_enter Tryd.func25, Tryd.ntmps25
  go_wp2
  go_ret
  exact ⟨rfl, HB.out⟩

set_option maxRecDepth 100000 in
set_option maxHeartbeats 400000 in
theorem rsn_n (kind : Int) (target : List UInt8) (rule : Int) (out : Int) (time : Int) (tag : List UInt8) (n1 n2 : Nat) (A B : Option Addr) (c d : Nat) (h : n1 ≠ n2) (w : World) :
    Calls Tryd.prog 25 #[.agg #[.int .i64 kind, .string (tx target), .int .u64 rule, .slice A n1 c, .int .u64 out, .int .u64 time, .string (tx tag)], .agg #[.int .i64 kind, .string (tx target), .int .u64 rule, .slice B n2 d, .int .u64 out, .int .u64 time, .string (tx tag)]] w fun e w' => e = .returned (.bool false) ∧ Below w.heap.size w w' := by
  have HB := Lib.hid (((Below.refl w.heap.size w).alloc (Nat.le_refl _) (.cells #[.int .i64 kind, .string (tx target), .int .u64 rule, .slice A n1 c, .int .u64 out, .int .u64 time, .string (tx tag)] 35)).alloc (by simp) (.cells #[.int .i64 kind, .string (tx target), .int .u64 rule, .slice B n2 d, .int .u64 out, .int .u64 time, .string (tx tag)] 35))
  have hu0 : (n1 : Int) ≠ (n2 : Int) := by omega
  have hu1 : ((n1 : Int) != (n2 : Int)) = true := by rw [bne_iff_ne]; exact hu0
  have hu3 : ((n1 : Int) == (n2 : Int)) = false := by rw [beq_eq_false_iff_ne]; exact hu0
  have hl1 := tx_like target
  have hl5 := tx_like tag
  clear h
  go_enter Tryd.func25, Tryd.ntmps25
  go_wp2
  go_ret
  exact ⟨rfl, HB.out⟩

end Go.Proofs.YtgioknppnfencaaDoor
