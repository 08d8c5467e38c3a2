/- What Put and Get refuse; the example. -/
import Derived.Test.YtfdncdejjlcgpaaUi
import Derived.Test.YtfdncdejjlcgpaaRx
namespace Go.Proofs.Ytfdncdejjlcgpaa
open Go.RowKit

set_option maxRecDepth 100000 in
set_option maxHeartbeats 1000000 in
theorem put_low (ver : Int) (hv : ver < 1) (t : Option Addr) (n c : Nat) (r : Rc) (A : Option Addr) (w : World) :
    Calls Try.prog 11 #[.int .i64 ver, .pointer t, .agg #[.int .i64 r.kind, .string (tx r.target), .int .u64 r.rule, .slice A n c, .int .u64 r.out, .int .u64 r.time, .string (tx r.tag)]] w fun e w' => e = .returned (.tuple #[.slice none 0 0, .int .i64 11]) ∧ Below w.heap.size w w' := by
  have h0 := one_new w (.cells #[.int .i64 r.kind, .string (tx r.target), .int .u64 r.rule, .slice A n c, .int .u64 r.out, .int .u64 r.time, .string (tx r.tag)] 26)
  have HB0 := Lib.hid ((Below.refl w.heap.size w).alloc (Nat.le_refl _) (.cells #[.int .i64 r.kind, .string (tx r.target), .int .u64 r.rule, .slice A n c, .int .u64 r.out, .int .u64 r.time, .string (tx r.tag)] 26))
  have q0 := at_cell (i := 0) h0 rfl
  have q1 := at_cell (i := 1) h0 rfl
  have q2 := at_cell (i := 2) h0 rfl
  have q3 := at_cell (i := 3) h0 rfl
  have q4 := at_cell (i := 4) h0 rfl
  have q5 := at_cell (i := 5) h0 rfl
  have q6 := at_cell (i := 6) h0 rfl
  clear h0
  have d1 : decide (ver < 1) = true := decide_eq_true hv
  clear hv
  go_enter Try.func11, Try.ntmps11
  go_wp2
  go_ret2
  exact ⟨rfl, HB0.out⟩

set_option maxRecDepth 100000 in
set_option maxHeartbeats 1000000 in
theorem put_high (ver : Int) (hv : 1 ≤ ver ∧ 3 < ver) (t : Option Addr) (n c : Nat) (r : Rc) (A : Option Addr) (w : World) :
    Calls Try.prog 11 #[.int .i64 ver, .pointer t, .agg #[.int .i64 r.kind, .string (tx r.target), .int .u64 r.rule, .slice A n c, .int .u64 r.out, .int .u64 r.time, .string (tx r.tag)]] w fun e w' => e = .returned (.tuple #[.slice none 0 0, .int .i64 11]) ∧ Below w.heap.size w w' := by
  have h0 := one_new w (.cells #[.int .i64 r.kind, .string (tx r.target), .int .u64 r.rule, .slice A n c, .int .u64 r.out, .int .u64 r.time, .string (tx r.tag)] 26)
  have HB0 := Lib.hid ((Below.refl w.heap.size w).alloc (Nat.le_refl _) (.cells #[.int .i64 r.kind, .string (tx r.target), .int .u64 r.rule, .slice A n c, .int .u64 r.out, .int .u64 r.time, .string (tx r.tag)] 26))
  have q0 := at_cell (i := 0) h0 rfl
  have q1 := at_cell (i := 1) h0 rfl
  have q2 := at_cell (i := 2) h0 rfl
  have q3 := at_cell (i := 3) h0 rfl
  have q4 := at_cell (i := 4) h0 rfl
  have q5 := at_cell (i := 5) h0 rfl
  have q6 := at_cell (i := 6) h0 rfl
  clear h0
  have d1 : decide (ver < 1) = false := decide_eq_false (by omega)
  have d2 : decide (ver > 3) = true := decide_eq_true (by omega)
  clear hv
  go_enter Try.func11, Try.ntmps11
  go_wp2
  go_ret2
  exact ⟨rfl, HB0.out⟩

set_option maxRecDepth 100000 in
set_option maxHeartbeats 1000000 in
theorem put_tnil (ver : Int) (hv : 1 ≤ ver ∧ ver ≤ 3) (n c : Nat) (r : Rc) (A : Option Addr) (w : World) :
    Calls Try.prog 11 #[.int .i64 ver, .pointer none, .agg #[.int .i64 r.kind, .string (tx r.target), .int .u64 r.rule, .slice A n c, .int .u64 r.out, .int .u64 r.time, .string (tx r.tag)]] w fun e w' => e = .returned (.tuple #[.slice none 0 0, .int .i64 1]) ∧ Below w.heap.size w w' := by
  have h0 := one_new w (.cells #[.int .i64 r.kind, .string (tx r.target), .int .u64 r.rule, .slice A n c, .int .u64 r.out, .int .u64 r.time, .string (tx r.tag)] 26)
  have HB0 := Lib.hid ((Below.refl w.heap.size w).alloc (Nat.le_refl _) (.cells #[.int .i64 r.kind, .string (tx r.target), .int .u64 r.rule, .slice A n c, .int .u64 r.out, .int .u64 r.time, .string (tx r.tag)] 26))
  have q0 := at_cell (i := 0) h0 rfl
  have q1 := at_cell (i := 1) h0 rfl
  have q2 := at_cell (i := 2) h0 rfl
  have q3 := at_cell (i := 3) h0 rfl
  have q4 := at_cell (i := 4) h0 rfl
  have q5 := at_cell (i := 5) h0 rfl
  have q6 := at_cell (i := 6) h0 rfl
  clear h0
  have d1 : decide (ver < 1) = false := decide_eq_false (by omega)
  have d2 : decide (ver > 3) = false := decide_eq_false (by omega)
  clear hv
  go_enter Try.func11, Try.ntmps11
  go_wp2
  go_ret2
  exact ⟨rfl, HB0.out⟩

set_option maxRecDepth 100000 in
set_option maxHeartbeats 1000000 in
theorem put_arg (ver : Int) (hv : 1 ≤ ver ∧ ver ≤ 3) (bt : Nat) (n c : Nat) (r : Rc) (A : Option Addr) (w : World) (HM : Hid (∀ W, Below w.heap.size w W → Calls Try.prog 22 #[.int .i64 ver, .agg #[.int .i64 r.kind, .string (tx r.target), .int .u64 r.rule, .slice A n c, .int .u64 r.out, .int .u64 r.time, .string (tx r.tag)]] W fun e w' => e = .returned (.bool false) ∧ Below W.heap.size W w')) :
    Calls Try.prog 11 #[.int .i64 ver, .pointer (some ⟨bt, 0, none⟩), .agg #[.int .i64 r.kind, .string (tx r.target), .int .u64 r.rule, .slice A n c, .int .u64 r.out, .int .u64 r.time, .string (tx r.tag)]] w fun e w' => e = .returned (.tuple #[.slice none 0 0, .int .i64 1]) ∧ Below w.heap.size w w' := by
  have h0 := one_new w (.cells #[.int .i64 r.kind, .string (tx r.target), .int .u64 r.rule, .slice A n c, .int .u64 r.out, .int .u64 r.time, .string (tx r.tag)] 26)
  have HB0 := Lib.hid ((Below.refl w.heap.size w).alloc (Nat.le_refl _) (.cells #[.int .i64 r.kind, .string (tx r.target), .int .u64 r.rule, .slice A n c, .int .u64 r.out, .int .u64 r.time, .string (tx r.tag)] 26))
  have q0 := at_cell (i := 0) h0 rfl
  have q1 := at_cell (i := 1) h0 rfl
  have q2 := at_cell (i := 2) h0 rfl
  have q3 := at_cell (i := 3) h0 rfl
  have q4 := at_cell (i := 4) h0 rfl
  have q5 := at_cell (i := 5) h0 rfl
  have q6 := at_cell (i := 6) h0 rfl
  clear h0
  have d1 : decide (ver < 1) = false := decide_eq_false (by omega)
  have d2 : decide (ver > 3) = false := decide_eq_false (by omega)
  clear hv
  go_enter Try.func11, Try.ntmps11
  go_wp2_with (go_at_call 22; refine (HM.out _ HB0.out).mono ?_; rintro e w5 ⟨rfl, hb5⟩; have HB5 := Lib.hid (HB0.out.trans (hb5.mono HB0.out.size)); clear hb5)
  go_ret2
  exact ⟨rfl, HB5.out⟩

theorem put_way (ver : Int) (hv : ¬ (1 ≤ ver ∧ ver ≤ 3)) (t : Option Addr) (n c : Nat) (r : Rc) (A : Option Addr) (w : World) :
    Calls Try.prog 11 #[.int .i64 ver, .pointer t, .agg #[.int .i64 r.kind, .string (tx r.target), .int .u64 r.rule, .slice A n c, .int .u64 r.out, .int .u64 r.time, .string (tx r.tag)]] w fun e w' => e = .returned (.tuple #[.slice none 0 0, .int .i64 11]) ∧ Below w.heap.size w w' := by
  by_cases h : ver < 1
  · exact put_low ver h t n c r A w
  · exact put_high ver (by omega) t n c r A w

theorem results_cell_two {P : Program} {fn : Func} {u u2 p : Tmp} {ty : TypeId} (h : fn.results = #[.cell p ty, .tmp u, .tmp u2]) (tmps : Array Value) (w : World) (g : Nat) (t : TypeId) (cs : Array Value) (fr : Nat × Nat) (d : TypeDesc)
    (hp : tmps.getD p undef = .pointer (some ⟨g, 0, none⟩)) (hg : w.heap[g]? = some (.cells cs t fr))
    (hu : P.underlying ty = some d) (hd : (match d with | .struct _ | .array _ _ => true | _ => false) = true) (hi : (P.info? ty).map (·.size) = some cs.size) :
    (results fn tmps).run P w = .ok (.tuple #[.agg cs, tmps.getD u undef, tmps.getD u2 undef]) w := by
  have hp' : tmps[p]?.getD undef = .pointer (some ⟨g, 0, none⟩) := by simpa using hp
  simp [results, h, hp', asAddr, run_loadVar_row w g t ty cs fr d hg hu hd hi]

set_option maxRecDepth 100000 in
set_option maxHeartbeats 1000000 in
theorem get_low (ver : Int) (hv : ver < 1) (t : Option Addr) (A : Option Addr) (n c : Nat) (at_ : Int) (w : World) :
    Calls Try.prog 17 #[.int .i64 ver, .pointer t, .slice A n c, .int .i64 at_] w fun e w' => e = .returned (.tuple #[.agg #[.int .i64 0, .string { data := #[] }, .int .u64 0, .slice none 0 0, .int .u64 0, .int .u64 0, .string { data := #[] }], .int .i64 0, .int .i64 11]) ∧ Below w.heap.size w w' := by
  have h0 := one_new w (.cells #[.int .i64 0, .string { data := #[] }, .int .u64 0, .slice none 0 0, .int .u64 0, .int .u64 0, .string { data := #[] }] 26)
  have HA0 := Lib.hid h0
  have HB0 := Lib.hid ((Below.refl w.heap.size w).alloc (Nat.le_refl _) (.cells #[.int .i64 0, .string { data := #[] }, .int .u64 0, .slice none 0 0, .int .u64 0, .int .u64 0, .string { data := #[] }] 26))
  have q0 := at_cell (i := 0) h0 rfl
  have y0 := at_frozen (i := 0) h0
  have q1 := at_cell (i := 1) h0 rfl
  have y1 := at_frozen (i := 1) h0
  have q2 := at_cell (i := 2) h0 rfl
  have y2 := at_frozen (i := 2) h0
  have q3 := at_cell (i := 3) h0 rfl
  have y3 := at_frozen (i := 3) h0
  have q4 := at_cell (i := 4) h0 rfl
  have y4 := at_frozen (i := 4) h0
  have q5 := at_cell (i := 5) h0 rfl
  have y5 := at_frozen (i := 5) h0
  have q6 := at_cell (i := 6) h0 rfl
  have y6 := at_frozen (i := 6) h0
  clear h0
  have d1 : decide (ver < 1) = true := decide_eq_true hv
  clear hv
  go_enter Try.func17, Try.ntmps17
  go_wp2
  refine bodyPost_ret (results_cell_two rfl _ _ _ _ _ _ _ rfl HA0.out Try.underlying26 rfl (by kernel_rfl)) rfl ?_
  exact ⟨rfl, HB0.out⟩

set_option maxRecDepth 100000 in
set_option maxHeartbeats 1000000 in
theorem get_high (ver : Int) (hv : 1 ≤ ver ∧ 3 < ver) (t : Option Addr) (A : Option Addr) (n c : Nat) (at_ : Int) (w : World) :
    Calls Try.prog 17 #[.int .i64 ver, .pointer t, .slice A n c, .int .i64 at_] w fun e w' => e = .returned (.tuple #[.agg #[.int .i64 0, .string { data := #[] }, .int .u64 0, .slice none 0 0, .int .u64 0, .int .u64 0, .string { data := #[] }], .int .i64 0, .int .i64 11]) ∧ Below w.heap.size w w' := by
  have h0 := one_new w (.cells #[.int .i64 0, .string { data := #[] }, .int .u64 0, .slice none 0 0, .int .u64 0, .int .u64 0, .string { data := #[] }] 26)
  have HA0 := Lib.hid h0
  have HB0 := Lib.hid ((Below.refl w.heap.size w).alloc (Nat.le_refl _) (.cells #[.int .i64 0, .string { data := #[] }, .int .u64 0, .slice none 0 0, .int .u64 0, .int .u64 0, .string { data := #[] }] 26))
  have q0 := at_cell (i := 0) h0 rfl
  have y0 := at_frozen (i := 0) h0
  have q1 := at_cell (i := 1) h0 rfl
  have y1 := at_frozen (i := 1) h0
  have q2 := at_cell (i := 2) h0 rfl
  have y2 := at_frozen (i := 2) h0
  have q3 := at_cell (i := 3) h0 rfl
  have y3 := at_frozen (i := 3) h0
  have q4 := at_cell (i := 4) h0 rfl
  have y4 := at_frozen (i := 4) h0
  have q5 := at_cell (i := 5) h0 rfl
  have y5 := at_frozen (i := 5) h0
  have q6 := at_cell (i := 6) h0 rfl
  have y6 := at_frozen (i := 6) h0
  clear h0
  have d1 : decide (ver < 1) = false := decide_eq_false (by omega)
  have d2 : decide (ver > 3) = true := decide_eq_true (by omega)
  clear hv
  go_enter Try.func17, Try.ntmps17
  go_wp2
  refine bodyPost_ret (results_cell_two rfl _ _ _ _ _ _ _ rfl HA0.out Try.underlying26 rfl (by kernel_rfl)) rfl ?_
  exact ⟨rfl, HB0.out⟩

set_option maxRecDepth 100000 in
set_option maxHeartbeats 1000000 in
theorem get_tnil (ver : Int) (hv : 1 ≤ ver ∧ ver ≤ 3) (A : Option Addr) (n c : Nat) (at_ : Int) (w : World) :
    Calls Try.prog 17 #[.int .i64 ver, .pointer none, .slice A n c, .int .i64 at_] w fun e w' => e = .returned (.tuple #[.agg #[.int .i64 0, .string { data := #[] }, .int .u64 0, .slice none 0 0, .int .u64 0, .int .u64 0, .string { data := #[] }], .int .i64 0, .int .i64 1]) ∧ Below w.heap.size w w' := by
  have h0 := one_new w (.cells #[.int .i64 0, .string { data := #[] }, .int .u64 0, .slice none 0 0, .int .u64 0, .int .u64 0, .string { data := #[] }] 26)
  have HA0 := Lib.hid h0
  have HB0 := Lib.hid ((Below.refl w.heap.size w).alloc (Nat.le_refl _) (.cells #[.int .i64 0, .string { data := #[] }, .int .u64 0, .slice none 0 0, .int .u64 0, .int .u64 0, .string { data := #[] }] 26))
  have q0 := at_cell (i := 0) h0 rfl
  have y0 := at_frozen (i := 0) h0
  have q1 := at_cell (i := 1) h0 rfl
  have y1 := at_frozen (i := 1) h0
  have q2 := at_cell (i := 2) h0 rfl
  have y2 := at_frozen (i := 2) h0
  have q3 := at_cell (i := 3) h0 rfl
  have y3 := at_frozen (i := 3) h0
  have q4 := at_cell (i := 4) h0 rfl
  have y4 := at_frozen (i := 4) h0
  have q5 := at_cell (i := 5) h0 rfl
  have y5 := at_frozen (i := 5) h0
  have q6 := at_cell (i := 6) h0 rfl
  have y6 := at_frozen (i := 6) h0
  clear h0
  have d1 : decide (ver < 1) = false := decide_eq_false (by omega)
  have d2 : decide (ver > 3) = false := decide_eq_false (by omega)
  clear hv
  go_enter Try.func17, Try.ntmps17
  go_wp2
  refine bodyPost_ret (results_cell_two rfl _ _ _ _ _ _ _ rfl HA0.out Try.underlying26 rfl (by kernel_rfl)) rfl ?_
  exact ⟨rfl, HB0.out⟩

theorem get_way (ver : Int) (hv : ¬ (1 ≤ ver ∧ ver ≤ 3)) (t : Option Addr) (A : Option Addr) (n c : Nat) (at_ : Int) (w : World) :
    Calls Try.prog 17 #[.int .i64 ver, .pointer t, .slice A n c, .int .i64 at_] w fun e w' => e = .returned (.tuple #[.agg #[.int .i64 0, .string { data := #[] }, .int .u64 0, .slice none 0 0, .int .u64 0, .int .u64 0, .string { data := #[] }], .int .i64 0, .int .i64 11]) ∧ Below w.heap.size w w' := by
  by_cases h : ver < 1
  · exact get_low ver h t A n c at_ w
  · exact get_high ver (by omega) t A n c at_ w

/-- The chapter's record. -/
def exR : Rc := ⟨2, [97], 0, 0, 0, []⟩
theorem ex_may {v : Int} (h : 1 ≤ v ∧ v ≤ 3) : MayP v exR [] := ⟨h.1, h.2, by decide, .inr ⟨rfl, rfl, rfl⟩⟩
theorem ex_fits : Fits exR [] := ⟨by unfold maxLen; simp [exR], by simp [exR], by simp⟩
theorem ex_nums : Nums exR [] := ⟨by simp [exR], by simp [exR], by simp [exR], by simp⟩
theorem ex_names : rnames exR [] = [[97]] := by simp [rnames, exR, names, tnew, tput]
theorem ex_one : payL 1 [] exR [] = [[2, 1, 97]] := by
  have h1 : vb 1 = [1] := by rw [vb_lt (by omega)]; rfl
  simp [payL, freT, payB, exR, nmB, blob, h1]
theorem ex_two : payL 2 [] exR [] = [[0, 97], [2, 0]] := by
  have h1 : vb 0 = [0] := by rw [vb_lt (by omega)]; rfl
  have h2 : tnum [[97]] [97] = 0 := by simp [tnum]
  simp [payL, freT, tabT, ex_names, freshL, tput, payB, nmB]
  simp [exR, h2, h1]
theorem ex_tab : tabT 1 [] exR [] = [] := by simp [tabT]

set_option maxRecDepth 100000 in
set_option maxHeartbeats 2000000 in
theorem sfixed_any (w : World) : Calls Try.prog 9 #[] w fun e w' => e = .returned (.bool true) ∧ Below w.heap.size w w' := by
  have h0 := one_new w (.cells #[.int .i64 2, .string { data := #[97] }, .int .u64 0, .slice none 0 0, .int .u64 0, .int .u64 0, .string { data := #[] }] 26)
  have hz : (w.alloc (.cells #[.int .i64 2, .string { data := #[97] }, .int .u64 0, .slice none 0 0, .int .u64 0, .int .u64 0, .string { data := #[] }] 26)).heap.size = w.heap.size + 1 := by simp
  have HB0 := Lib.hid ((Below.refl w.heap.size w).alloc (Nat.le_refl _) (.cells #[.int .i64 2, .string { data := #[97] }, .int .u64 0, .slice none 0 0, .int .u64 0, .int .u64 0, .string { data := #[] }] 26))
  have HA0 := Lib.hid h0
  have HZ := Lib.hid hz
  have hnew := New_any none 0 0 0 [] (by omega) (by simp) (w.alloc (.cells #[.int .i64 2, .string { data := #[97] }, .int .u64 0, .slice none 0 0, .int .u64 0, .int .u64 0, .string { data := #[] }] 26)) (Nat.zero_le _) Reads.none_
  simp only [hz] at hnew
  have HNEW := Lib.hid hnew
  clear hnew
  have HPUT : Hid (∀ (v : Int) (hv : 1 ≤ v ∧ v ≤ 3) (S : Nat → Prop) (bt N : Nat) (tl : List (List UInt8)) (W : World), tl.length ≤ 1000000000 → N ≤ 1000000000 → Tab W S bt N tl → Calls Try.prog 11 #[.int .i64 v, .pointer (some ⟨bt, 0, none⟩), .agg #[.int .i64 2, .string { data := #[97] }, .int .u64 0, .slice none 0 0, .int .u64 0, .int .u64 0, .string { data := #[] }]] W fun e w' => PutPost S bt N (tabT v tl exR []) (payL v tl exR []) W e w') := fun v hv S bt N tl W h1 h2 h3 => put_ok S bt N 0 0 v tl exR none [] (ex_may hv) ex_fits ex_nums h1 h2 W h3 (by simp) Reads.none_
  have q0 := at_cell (i := 0) h0 rfl
  have q1 := at_cell (i := 1) h0 rfl
  have q2 := at_cell (i := 2) h0 rfl
  have q3 := at_cell (i := 3) h0 rfl
  have q4 := at_cell (i := 4) h0 rfl
  have q5 := at_cell (i := 5) h0 rfl
  have q6 := at_cell (i := 6) h0 rfl
  clear h0 hz
  go_enter Try.func9, Try.ntmps9
  go_wp2_with (first
    | (go_at_call 14; have hk := HB8.out.size; refine (texts_same A8 (some ⟨w8.heap.size, 0, none⟩) 2 c8 2 w8.heap.size (w8.heap.size + 1) [[0, 97], [2, 0]] (by omega) _ (by simp) (by simp) (HR8.out.alloc (Nat.le_refl _) _) (reads_tsv w8 9 [[0, 97], [2, 0]])).mono ?_; rintro e w9 ⟨rfl, hb9⟩; have HB9 := Lib.hid ((HB8.out.alloc HB8.out.size (.cells #[.string { data := #[0, 97] }, .string { data := #[2, 0] }] 9)).trans (hb9.mono (HB8.out.alloc HB8.out.size (.cells #[.string { data := #[0, 97] }, .string { data := #[2, 0] }] 9)).size)); clear hb9)
    | (go_at_call 15; have hk := HB7.out.size; refine (strings_any A4 2 c4 [[0, 97], [2, 0]] (by omega) _ HP4.out).mono ?_; rintro e w8 ⟨A8, c8, rfl, hr8, hb8⟩; have HR8 := Lib.hid hr8; have HB8 := Lib.hid (HB7.out.trans (hb8.mono HB7.out.size)); clear hr8 hb8)
    | (go_at_call 14; have hk := HB6.out.size; refine (texts_same A6 (some ⟨w6.heap.size, 0, none⟩) 1 c6 1 w6.heap.size (w6.heap.size + 1) [[2, 1, 97]] (by omega) _ (by simp) (by simp) (HR6.out.alloc (Nat.le_refl _) _) (reads_tsv w6 9 [[2, 1, 97]])).mono ?_; rintro e w7 ⟨rfl, hb7⟩; have HB7 := Lib.hid ((HB6.out.alloc HB6.out.size (.cells #[.string { data := #[2, 1, 97] }] 9)).trans (hb7.mono (HB6.out.alloc HB6.out.size (.cells #[.string { data := #[2, 1, 97] }] 9)).size)); have h56 : Below w5.heap.size w5 w7 := (HB56.out.alloc HB56.out.size (.cells #[.string { data := #[2, 1, 97] }] 9)).trans (hb7.mono (HB56.out.alloc HB56.out.size (.cells #[.string { data := #[2, 1, 97] }] 9)).size); have HP4 := Lib.hid ((HP45.out.below h56).more h56.size); clear hb7 h56)
    | (go_at_call 15; have hk := HB5.out.size; refine (strings_any A3 1 c3 [[2, 1, 97]] (by omega) _ HP35.out).mono ?_; rintro e w6 ⟨A6, c6, rfl, hr6, hb6⟩; have HR6 := Lib.hid hr6; have HB6 := Lib.hid (HB5.out.trans (hb6.mono HB5.out.size)); have HB56 := Lib.hid hb6; clear hr6 hb6)
    | (go_at_call 11; have hk := HB3.out.size; refine (HPUT.out 2 (by omega) S3 _ _ _ _ (by simp) (by omega) HT3.out).mono ?_; rintro e w5 ⟨v5, S5, rfl, ht5, hs5, hr5, htu5⟩; rw [ex_two] at hr5; obtain ⟨A4, c4, rfl, hc4, hp4⟩ := Pls.of_rows hr5; obtain ⟨vs, hvs⟩ := HR3.out; obtain ⟨A3, c3, e3, hc3, hp3⟩ := Pls.of_rows ⟨vs, hvs.turn htu5 (fun _ _ h => h)⟩; obtain rfl := e3; have HB5 : Hid (Below w.heap.size w w5) := (HB3.out.trans (htu5.below (fun k hk => (HS3.out k hk)) HB3.out.size)); have HP35 := Lib.hid hp3; have HP45 := Lib.hid hp4; clear ht5 hs5 hr5 htu5 hp3 hp4)
    | (go_at_call 11; have hk := HB2.out.size; refine (HPUT.out 1 (by omega) _ _ _ _ _ (by simp [tnew]) (by omega) HT2.out).mono ?_; rintro e w3 ⟨v3, S3, rfl, ht3, hs3, hr3, htu3⟩; rw [show tnew [] = [] from rfl, ex_one] at hr3; rw [show tnew [] = [] from rfl, ex_tab] at ht3; have HT3 := Lib.hid ht3; have HR3 := Lib.hid hr3; have HS3 : Hid (∀ k, S3 k → w.heap.size ≤ k) := (fun k hk => by rcases (hs3 k hk).2 with h | h; omega; have := HB2.out.size; omega); have HB3 : Hid (Below w.heap.size w w3) := (HB2.out.trans (htu3.below (fun k hk => by omega) HB2.out.size)); have hh3 := (htu3.2.2.2.2 w.heap.size HLT2.out (by omega)).trans HH2.out; have j0 := at_cell (i := 0) hh3 rfl; have j1 := at_cell (i := 1) hh3 rfl; have j2 := at_cell (i := 2) hh3 rfl; have j3 := at_cell (i := 3) hh3 rfl; have j4 := at_cell (i := 4) hh3 rfl; have j5 := at_cell (i := 5) hh3 rfl; have j6 := at_cell (i := 6) hh3 rfl; clear ht3 hs3 hr3 htu3 hh3)
    | (go_at_call 10; refine HNEW.out.mono ?_; rintro e w2 ⟨rfl, ht2, hb2⟩; have HT2 := Lib.hid ht2; have HB2 := Lib.hid (HB0.out.trans (hb2.mono (by omega))); have HLT2 : Hid (w.heap.size < w2.heap.size) := (by have h1 := hb2.size; rw [HZ.out] at h1; exact h1); have hh2 := (hb2.block w.heap.size (by omega)).trans HA0.out; have HH2 := Lib.hid hh2; have p0 := at_cell (i := 0) hh2 rfl; have p1 := at_cell (i := 1) hh2 rfl; have p2 := at_cell (i := 2) hh2 rfl; have p3 := at_cell (i := 3) hh2 rfl; have p4 := at_cell (i := 4) hh2 rfl; have p5 := at_cell (i := 5) hh2 rfl; have p6 := at_cell (i := 6) hh2 rfl; clear ht2 hb2 hh2))
  go_ret
  exact ⟨rfl, HB9.out⟩

end Go.Proofs.Ytfdncdejjlcgpaa
