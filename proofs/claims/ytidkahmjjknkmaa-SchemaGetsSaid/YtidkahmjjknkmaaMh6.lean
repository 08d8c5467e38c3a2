/- Texts of one proof, one behind the other. -/
import Derived.Laws.EntriesVeiled
import Derived.Test.YtidkahmjjknkmaaMh5
import Derived.Test.YtidkahmjjknkmaaMh3
import Derived.Test.YtidkahmjjknkmaaMh4

/- schema.written. -/
namespace Go.Proofs.Ytidkahmjjknkmaa
open Go.RowKit

/-- What the fields lay, up to one of them. -/
def flat (fl : List (Nat × List UInt8)) : List UInt8 := fl.flatMap Prod.snd
theorem flat_take {fl : List (Nat × List UInt8)} {i : Nat} {x : Nat × List UInt8} (h : fl[i]? = some x) : flat (fl.take (i + 1)) = flat (fl.take i) ++ x.2 := by
  unfold flat
  rw [List.take_add_one, h, List.flatMap_append]; simp
theorem flat_len {fl : List (Nat × List UInt8)} (h : ∀ x ∈ fl, x.2.length ≤ 1000000) : (flat fl).length ≤ 1000000 * fl.length := by
  unfold flat
  induction fl with
  | nil => simp
  | cons a fl ih =>
    have h1 := h a (by simp)
    have h2 := ih (fun x hx => h x (by simp [hx]))
    simp only [List.flatMap_cons, List.length_append, List.length_cons]
    omega

def WrRel (S : Nat → Prop) (bw : Nat) (ver : Int) (bt : Nat) (kb : UInt8) (fl : List (Nat × List UInt8)) (w5 : World) (idx : Value) (wr : World) : Prop :=
  ∃ i : Nat, i ≤ fl.length ∧ idx = .int .i64 (i : Int) ∧ Wr wr S bw ver bt (kb :: flat (fl.take i)) ∧ Turn S w5 wr

set_option maxRecDepth 100000 in
set_option maxHeartbeats 4000000 in
theorem written_core (T : Nat → Prop) (bt N n c : Nat) (ver : Int) (tl : List (List UInt8)) (r : Rc) (A : Option Addr) (l : List Dp) (kb : UInt8) (hk : r.kind = (kb.toNat : Int)) (hk2 : kb.toNat ≤ 2) (fl : List (Nat × List UInt8)) (hfl : fl.length ≤ 6) (hsz : ∀ x ∈ fl, x.2.length ≤ 1000000)
    (hnm : ∀ x ∈ fl, x.1 = 46 ∨ x.1 = 47 ∨ x.1 = 48 ∨ x.1 = 49 ∨ x.1 = 50 ∨ x.1 = 51) (w : World) (hT : Tab w T bt N tl) (hr : Reads w w.heap.size 3 A n (dps l))
    (HOF : Hid (∀ W, Calls Try.prog 52 #[.agg #[.func (.func 46) #[.pointer (some ⟨w.heap.size + 1 + 1, 0, none⟩)] #[], .func (.func 47) #[.pointer (some ⟨w.heap.size + 1 + 1, 0, none⟩)] #[], .func (.func 48) #[.pointer (some ⟨w.heap.size + 1 + 1, 0, none⟩)] #[], .func (.func 49) #[.pointer (some ⟨w.heap.size + 1 + 1, 0, none⟩)] #[], .func (.func 50) #[.pointer (some ⟨w.heap.size + 1 + 1, 0, none⟩)] #[], .func (.func 51) #[.pointer (some ⟨w.heap.size + 1 + 1, 0, none⟩)] #[]], .int .i64 ver, .int .i64 r.kind] W fun e w' => ∃ v, e = .returned v ∧ w'.ownsRow (W.heap.size + 1) 87 1 v fl.length (fl.map fun x => .func (.func x.1) #[.pointer (some ⟨w.heap.size + 1 + 1, 0, none⟩)] #[]) ∧ Below W.heap.size W w'))
    (HLAY : Hid (∀ x ∈ fl, ∀ (S T : Nat → Prop) (B : Nat), Lays x.1 S (w.heap.size + 1 + 1) ver bt w.heap.size (fun W => Env W S T bt N tl w.heap.size r A n c l B) x.2)) :
    Calls Try.prog 23 #[.int .i64 ver, .pointer (some ⟨bt, 0, none⟩), .agg #[.int .i64 r.kind, .string (tx r.target), .int .u64 r.rule, .slice A n c, .int .u64 r.out, .int .u64 r.time, .string (tx r.tag)]] w fun e w' => ∃ v, e = .returned v ∧ w'.ownsRow w.heap.size 5 1 v (kb :: flat fl).length ((kb :: flat fl).map bv) ∧ Below w.heap.size w w' := by
  have hz1 : (w.alloc (.cells #[.int .i64 r.kind, .string (tx r.target), .int .u64 r.rule, .slice A n c, .int .u64 r.out, .int .u64 r.time, .string (tx r.tag)] 26)).heap.size = w.heap.size + 1 := by simp
  have hz2 : ((w.alloc (.cells #[.int .i64 r.kind, .string (tx r.target), .int .u64 r.rule, .slice A n c, .int .u64 r.out, .int .u64 r.time, .string (tx r.tag)] 26)).alloc (.cells #[.int .u8 r.kind] 5)).heap.size = w.heap.size + 1 + 1 := by simp
  have hz3 : (((w.alloc (.cells #[.int .i64 r.kind, .string (tx r.target), .int .u64 r.rule, .slice A n c, .int .u64 r.out, .int .u64 r.time, .string (tx r.tag)] 26)).alloc (.cells #[.int .u8 r.kind] 5)).alloc (.cells #[.int .i64 ver, .pointer (some ⟨bt, 0, none⟩), .slice (some ⟨w.heap.size + 1, 0, none⟩) 1 1] 86)).heap.size = w.heap.size + 1 + 1 + 1 := by simp
  have hz4 : ((((w.alloc (.cells #[.int .i64 r.kind, .string (tx r.target), .int .u64 r.rule, .slice A n c, .int .u64 r.out, .int .u64 r.time, .string (tx r.tag)] 26)).alloc (.cells #[.int .u8 r.kind] 5)).alloc (.cells #[.int .i64 ver, .pointer (some ⟨bt, 0, none⟩), .slice (some ⟨w.heap.size + 1, 0, none⟩) 1 1] 86)).alloc (.cells #[.func (.func 46) #[.pointer (some ⟨w.heap.size + 1 + 1, 0, none⟩)] #[], .func (.func 47) #[.pointer (some ⟨w.heap.size + 1 + 1, 0, none⟩)] #[], .func (.func 48) #[.pointer (some ⟨w.heap.size + 1 + 1, 0, none⟩)] #[], .func (.func 49) #[.pointer (some ⟨w.heap.size + 1 + 1, 0, none⟩)] #[], .func (.func 50) #[.pointer (some ⟨w.heap.size + 1 + 1, 0, none⟩)] #[], .func (.func 51) #[.pointer (some ⟨w.heap.size + 1 + 1, 0, none⟩)] #[]] 89)).heap.size = w.heap.size + 1 + 1 + 1 + 1 := by simp
  have h1 : ((((w.alloc (.cells #[.int .i64 r.kind, .string (tx r.target), .int .u64 r.rule, .slice A n c, .int .u64 r.out, .int .u64 r.time, .string (tx r.tag)] 26)).alloc (.cells #[.int .u8 r.kind] 5)).alloc (.cells #[.int .i64 ver, .pointer (some ⟨bt, 0, none⟩), .slice (some ⟨w.heap.size + 1, 0, none⟩) 1 1] 86)).alloc (.cells #[.func (.func 46) #[.pointer (some ⟨w.heap.size + 1 + 1, 0, none⟩)] #[], .func (.func 47) #[.pointer (some ⟨w.heap.size + 1 + 1, 0, none⟩)] #[], .func (.func 48) #[.pointer (some ⟨w.heap.size + 1 + 1, 0, none⟩)] #[], .func (.func 49) #[.pointer (some ⟨w.heap.size + 1 + 1, 0, none⟩)] #[], .func (.func 50) #[.pointer (some ⟨w.heap.size + 1 + 1, 0, none⟩)] #[], .func (.func 51) #[.pointer (some ⟨w.heap.size + 1 + 1, 0, none⟩)] #[]] 89)).heap[w.heap.size]? = some (.cells #[.int .i64 r.kind, .string (tx r.target), .int .u64 r.rule, .slice A n c, .int .u64 r.out, .int .u64 r.time, .string (tx r.tag)] 26 (0, 0)) := (Below.heap_alloc _ _ _ (by rw [hz3]; omega)).trans ((Below.heap_alloc _ _ _ (by rw [hz2]; omega)).trans ((Below.heap_alloc _ _ _ (by rw [hz1]; omega)).trans (one_new w _)))
  have h2 : ((((w.alloc (.cells #[.int .i64 r.kind, .string (tx r.target), .int .u64 r.rule, .slice A n c, .int .u64 r.out, .int .u64 r.time, .string (tx r.tag)] 26)).alloc (.cells #[.int .u8 r.kind] 5)).alloc (.cells #[.int .i64 ver, .pointer (some ⟨bt, 0, none⟩), .slice (some ⟨w.heap.size + 1, 0, none⟩) 1 1] 86)).alloc (.cells #[.func (.func 46) #[.pointer (some ⟨w.heap.size + 1 + 1, 0, none⟩)] #[], .func (.func 47) #[.pointer (some ⟨w.heap.size + 1 + 1, 0, none⟩)] #[], .func (.func 48) #[.pointer (some ⟨w.heap.size + 1 + 1, 0, none⟩)] #[], .func (.func 49) #[.pointer (some ⟨w.heap.size + 1 + 1, 0, none⟩)] #[], .func (.func 50) #[.pointer (some ⟨w.heap.size + 1 + 1, 0, none⟩)] #[], .func (.func 51) #[.pointer (some ⟨w.heap.size + 1 + 1, 0, none⟩)] #[]] 89)).heap[w.heap.size + 1]? = some (.cells #[.int .u8 r.kind] 5 (0, 0)) := (Below.heap_alloc _ _ _ (by rw [hz3]; omega)).trans ((Below.heap_alloc _ _ _ (by rw [hz2]; omega)).trans (by have h := one_new (w.alloc (.cells #[.int .i64 r.kind, .string (tx r.target), .int .u64 r.rule, .slice A n c, .int .u64 r.out, .int .u64 r.time, .string (tx r.tag)] 26)) (.cells #[.int .u8 r.kind] 5); rw [hz1] at h; exact h))
  have h3 : ((((w.alloc (.cells #[.int .i64 r.kind, .string (tx r.target), .int .u64 r.rule, .slice A n c, .int .u64 r.out, .int .u64 r.time, .string (tx r.tag)] 26)).alloc (.cells #[.int .u8 r.kind] 5)).alloc (.cells #[.int .i64 ver, .pointer (some ⟨bt, 0, none⟩), .slice (some ⟨w.heap.size + 1, 0, none⟩) 1 1] 86)).alloc (.cells #[.func (.func 46) #[.pointer (some ⟨w.heap.size + 1 + 1, 0, none⟩)] #[], .func (.func 47) #[.pointer (some ⟨w.heap.size + 1 + 1, 0, none⟩)] #[], .func (.func 48) #[.pointer (some ⟨w.heap.size + 1 + 1, 0, none⟩)] #[], .func (.func 49) #[.pointer (some ⟨w.heap.size + 1 + 1, 0, none⟩)] #[], .func (.func 50) #[.pointer (some ⟨w.heap.size + 1 + 1, 0, none⟩)] #[], .func (.func 51) #[.pointer (some ⟨w.heap.size + 1 + 1, 0, none⟩)] #[]] 89)).heap[w.heap.size + 1 + 1]? = some (.cells #[.int .i64 ver, .pointer (some ⟨bt, 0, none⟩), .slice (some ⟨w.heap.size + 1, 0, none⟩) 1 1] 86 (0, 0)) := (Below.heap_alloc _ _ _ (by rw [hz3]; omega)).trans (by have h := one_new ((w.alloc (.cells #[.int .i64 r.kind, .string (tx r.target), .int .u64 r.rule, .slice A n c, .int .u64 r.out, .int .u64 r.time, .string (tx r.tag)] 26)).alloc (.cells #[.int .u8 r.kind] 5)) (.cells #[.int .i64 ver, .pointer (some ⟨bt, 0, none⟩), .slice (some ⟨w.heap.size + 1, 0, none⟩) 1 1] 86); rw [hz2] at h; exact h)
  have h4 : ((((w.alloc (.cells #[.int .i64 r.kind, .string (tx r.target), .int .u64 r.rule, .slice A n c, .int .u64 r.out, .int .u64 r.time, .string (tx r.tag)] 26)).alloc (.cells #[.int .u8 r.kind] 5)).alloc (.cells #[.int .i64 ver, .pointer (some ⟨bt, 0, none⟩), .slice (some ⟨w.heap.size + 1, 0, none⟩) 1 1] 86)).alloc (.cells #[.func (.func 46) #[.pointer (some ⟨w.heap.size + 1 + 1, 0, none⟩)] #[], .func (.func 47) #[.pointer (some ⟨w.heap.size + 1 + 1, 0, none⟩)] #[], .func (.func 48) #[.pointer (some ⟨w.heap.size + 1 + 1, 0, none⟩)] #[], .func (.func 49) #[.pointer (some ⟨w.heap.size + 1 + 1, 0, none⟩)] #[], .func (.func 50) #[.pointer (some ⟨w.heap.size + 1 + 1, 0, none⟩)] #[], .func (.func 51) #[.pointer (some ⟨w.heap.size + 1 + 1, 0, none⟩)] #[]] 89)).heap[w.heap.size + 1 + 1 + 1]? = some (.cells #[.func (.func 46) #[.pointer (some ⟨w.heap.size + 1 + 1, 0, none⟩)] #[], .func (.func 47) #[.pointer (some ⟨w.heap.size + 1 + 1, 0, none⟩)] #[], .func (.func 48) #[.pointer (some ⟨w.heap.size + 1 + 1, 0, none⟩)] #[], .func (.func 49) #[.pointer (some ⟨w.heap.size + 1 + 1, 0, none⟩)] #[], .func (.func 50) #[.pointer (some ⟨w.heap.size + 1 + 1, 0, none⟩)] #[], .func (.func 51) #[.pointer (some ⟨w.heap.size + 1 + 1, 0, none⟩)] #[]] 89 (0, 0)) := by have h := one_new (((w.alloc (.cells #[.int .i64 r.kind, .string (tx r.target), .int .u64 r.rule, .slice A n c, .int .u64 r.out, .int .u64 r.time, .string (tx r.tag)] 26)).alloc (.cells #[.int .u8 r.kind] 5)).alloc (.cells #[.int .i64 ver, .pointer (some ⟨bt, 0, none⟩), .slice (some ⟨w.heap.size + 1, 0, none⟩) 1 1] 86)) (.cells #[.func (.func 46) #[.pointer (some ⟨w.heap.size + 1 + 1, 0, none⟩)] #[], .func (.func 47) #[.pointer (some ⟨w.heap.size + 1 + 1, 0, none⟩)] #[], .func (.func 48) #[.pointer (some ⟨w.heap.size + 1 + 1, 0, none⟩)] #[], .func (.func 49) #[.pointer (some ⟨w.heap.size + 1 + 1, 0, none⟩)] #[], .func (.func 50) #[.pointer (some ⟨w.heap.size + 1 + 1, 0, none⟩)] #[], .func (.func 51) #[.pointer (some ⟨w.heap.size + 1 + 1, 0, none⟩)] #[]] 89); rw [hz3] at h; exact h
  have hb4 : Below w.heap.size w ((((w.alloc (.cells #[.int .i64 r.kind, .string (tx r.target), .int .u64 r.rule, .slice A n c, .int .u64 r.out, .int .u64 r.time, .string (tx r.tag)] 26)).alloc (.cells #[.int .u8 r.kind] 5)).alloc (.cells #[.int .i64 ver, .pointer (some ⟨bt, 0, none⟩), .slice (some ⟨w.heap.size + 1, 0, none⟩) 1 1] 86)).alloc (.cells #[.func (.func 46) #[.pointer (some ⟨w.heap.size + 1 + 1, 0, none⟩)] #[], .func (.func 47) #[.pointer (some ⟨w.heap.size + 1 + 1, 0, none⟩)] #[], .func (.func 48) #[.pointer (some ⟨w.heap.size + 1 + 1, 0, none⟩)] #[], .func (.func 49) #[.pointer (some ⟨w.heap.size + 1 + 1, 0, none⟩)] #[], .func (.func 50) #[.pointer (some ⟨w.heap.size + 1 + 1, 0, none⟩)] #[], .func (.func 51) #[.pointer (some ⟨w.heap.size + 1 + 1, 0, none⟩)] #[]] 89)) := ((((Below.refl _ w).alloc (Nat.le_refl _) (.cells #[.int .i64 r.kind, .string (tx r.target), .int .u64 r.rule, .slice A n c, .int .u64 r.out, .int .u64 r.time, .string (tx r.tag)] 26)).alloc (by rw [hz1]; omega) (.cells #[.int .u8 r.kind] 5)).alloc (by rw [hz2]; omega) (.cells #[.int .i64 ver, .pointer (some ⟨bt, 0, none⟩), .slice (some ⟨w.heap.size + 1, 0, none⟩) 1 1] 86)).alloc (by rw [hz3]; omega) (.cells #[.func (.func 46) #[.pointer (some ⟨w.heap.size + 1 + 1, 0, none⟩)] #[], .func (.func 47) #[.pointer (some ⟨w.heap.size + 1 + 1, 0, none⟩)] #[], .func (.func 48) #[.pointer (some ⟨w.heap.size + 1 + 1, 0, none⟩)] #[], .func (.func 49) #[.pointer (some ⟨w.heap.size + 1 + 1, 0, none⟩)] #[], .func (.func 50) #[.pointer (some ⟨w.heap.size + 1 + 1, 0, none⟩)] #[], .func (.func 51) #[.pointer (some ⟨w.heap.size + 1 + 1, 0, none⟩)] #[]] 89)
  have q0 := at_cell (i := 0) h1 rfl
  have p0 := at_cell (i := 0) h4 rfl
  have p1 := at_cell (i := 1) h4 rfl
  have p2 := at_cell (i := 2) h4 rfl
  have p3 := at_cell (i := 3) h4 rfl
  have p4 := at_cell (i := 4) h4 rfl
  have p5 := at_cell (i := 5) h4 rfl
  have hn4 : ((((w.alloc (.cells #[.int .i64 r.kind, .string (tx r.target), .int .u64 r.rule, .slice A n c, .int .u64 r.out, .int .u64 r.time, .string (tx r.tag)] 26)).alloc (.cells #[.int .u8 r.kind] 5)).alloc (.cells #[.int .i64 ver, .pointer (some ⟨bt, 0, none⟩), .slice (some ⟨w.heap.size + 1, 0, none⟩) 1 1] 86)).alloc (.cells #[.nilFunc, .nilFunc, .nilFunc, .nilFunc, .nilFunc, .nilFunc] 89)).heap[w.heap.size + 1 + 1 + 1]? = some (.cells #[.nilFunc, .nilFunc, .nilFunc, .nilFunc, .nilFunc, .nilFunc] 89 (0, 0)) := by have h := one_new (((w.alloc (.cells #[.int .i64 r.kind, .string (tx r.target), .int .u64 r.rule, .slice A n c, .int .u64 r.out, .int .u64 r.time, .string (tx r.tag)] 26)).alloc (.cells #[.int .u8 r.kind] 5)).alloc (.cells #[.int .i64 ver, .pointer (some ⟨bt, 0, none⟩), .slice (some ⟨w.heap.size + 1, 0, none⟩) 1 1] 86)) (.cells #[.nilFunc, .nilFunc, .nilFunc, .nilFunc, .nilFunc, .nilFunc] 89); rw [hz3] at h; exact h
  have f0 := at_cell (i := 0) hn4 rfl
  have y0 := at_frozen (i := 0) hn4
  have f1 := at_cell (i := 1) hn4 rfl
  have y1 := at_frozen (i := 1) hn4
  have f2 := at_cell (i := 2) hn4 rfl
  have y2 := at_frozen (i := 2) hn4
  have f3 := at_cell (i := 3) hn4 rfl
  have y3 := at_frozen (i := 3) hn4
  have f4 := at_cell (i := 4) hn4 rfl
  have y4 := at_frozen (i := 4) hn4
  have f5 := at_cell (i := 5) hn4 rfl
  have y5 := at_frozen (i := 5) hn4
  have q00 := at_cell (i := 0) (one_new w (.cells #[.int .i64 r.kind, .string (tx r.target), .int .u64 r.rule, .slice A n c, .int .u64 r.out, .int .u64 r.time, .string (tx r.tag)] 26)) rfl
  have H1 := Lib.hid h1
  have H2 := Lib.hid h2
  have H3 := Lib.hid h3
  have HB4 := Lib.hid hb4
  have HZ4 := Lib.hid hz4
  have HT := Lib.hid hT
  have HR := Lib.hid hr
  have HNM := Lib.hid hnm
  have HSIZ := Lib.hid hsz
  have HK := Lib.hid hk
  have hkr : 0 ≤ r.kind ∧ r.kind ≤ 2 := by omega
  obtain ⟨m, hm⟩ : ∃ m, m = fl.length := ⟨_, rfl⟩
  have HM := Lib.hid hm
  rw [← hm] at HOF hfl
  clear hz1 hz2 hz3 hz4 h1 h2 h3 h4 hn4 hb4 hT hr hnm hsz hk hk2 hm
  go_enter Try.func23, Try.ntmps23
  go_wp2_with (go_at_call 52; refine (HOF.out _).mono ?_; rintro e w5 ⟨v5, rfl, ho5, hb5⟩; obtain ⟨A5, c5, rfl, hc5⟩ := own_slice ho5; have HO5 := Lib.hid ho5; have HB5 := Lib.hid hb5; have HRD5 := Lib.hid (Reads.of_own ho5); clear ho5 hb5)
  have hz5 : Hid (w.heap.size + 1 + 1 + 1 + 1 ≤ w5.heap.size) := by have h1 := HB5.out.size; rw [HZ4.out] at h1; exact h1
  obtain ⟨S, hS⟩ : ∃ S : Nat → Prop, S = fun k => k = w.heap.size + 1 ∨ k = w.heap.size + 1 + 1 ∨ w5.heap.size ≤ k := ⟨_, rfl⟩
  have hblk : ∀ k, k < w.heap.size + 1 + 1 + 1 + 1 → w5.heap[k]? = ((((w.alloc (.cells #[.int .i64 r.kind, .string (tx r.target), .int .u64 r.rule, .slice A n c, .int .u64 r.out, .int .u64 r.time, .string (tx r.tag)] 26)).alloc (.cells #[.int .u8 r.kind] 5)).alloc (.cells #[.int .i64 ver, .pointer (some ⟨bt, 0, none⟩), .slice (some ⟨w.heap.size + 1, 0, none⟩) 1 1] 86)).alloc (.cells #[.func (.func 46) #[.pointer (some ⟨w.heap.size + 1 + 1, 0, none⟩)] #[], .func (.func 47) #[.pointer (some ⟨w.heap.size + 1 + 1, 0, none⟩)] #[], .func (.func 48) #[.pointer (some ⟨w.heap.size + 1 + 1, 0, none⟩)] #[], .func (.func 49) #[.pointer (some ⟨w.heap.size + 1 + 1, 0, none⟩)] #[], .func (.func 50) #[.pointer (some ⟨w.heap.size + 1 + 1, 0, none⟩)] #[], .func (.func 51) #[.pointer (some ⟨w.heap.size + 1 + 1, 0, none⟩)] #[]] 89)).heap[k]? := fun k hk => HB5.out.block k (by rw [HZ4.out]; exact hk)
  have HWR5 : Hid (Wr w5 S (w.heap.size + 1 + 1) ver bt [kb]) := by
    refine ⟨by rw [hS]; exact .inr (.inl rfl), .slice (some ⟨w.heap.size + 1, 0, none⟩) 1 1, (hblk _ (by omega)).trans H3.out, ?_, fun k hk => ?_⟩
    · refine ownsRow_of_block (cap := 1) (cs := [bv kb]) (Nat.zero_le _) ((hblk _ (by omega)).trans (H2.out.trans ?_)) (Nat.le_refl _) (by unfold maxLen; omega) rfl rfl
      rw [HK.out]
      rfl
    · rw [hS]
      left
      simpa [Value.ownBlock] using hk.symm
  have HENV : Hid (Env w5 S (fun k => T k ∧ k < w.heap.size) bt N tl w.heap.size r A n c l w.heap.size) := {
    tab := (HT.out.wide (fun k h1 h2 => ⟨h1, h2⟩)).keep (fun k hk _ => (HB4.out.trans (HB5.out.mono HB4.out.size)).block k hk.2)
    own := (hblk _ (by omega)).trans H1.out
    deps := HR.out.below (HB4.out.trans (HB5.out.mono HB4.out.size))
    apart := fun k hk => by have := hz5.out; rw [hS]; omega
    ner := by have := hz5.out; rw [hS]; omega
    up := fun k hk => by have := hz5.out; rw [hS] at hk; omega
    new := fun k hk => by rw [hS]; exact .inr (.inr hk)
    hB := by have := hz5.out; omega }
  have HBLK5 : Hid (∀ g, (Value.slice A5 m c5).ownBlock = some g → g < w5.heap.size ∧ ¬ S g) := fun g hg => ⟨own_lt HO5.out g hg, by have h1 := own_block HO5.out g hg; have h2 := own_lt HO5.out g hg; rw [HZ4.out] at h1; rw [hS]; omega⟩
  have HUP : Hid (∀ k, S k → w.heap.size ≤ k) := HENV.out.up
  clear f0 y0 f1 y1 f2 y2 f3 y3 f4 y4 f5 y5 hS hblk HOF p0 p1 p2 p3 p4 p5 q0 q00
  go_loopw [38] (fun idx wr => WrRel S (w.heap.size + 1 + 1) ver bt kb fl w5 idx wr) (fun idx wr => m - (intOf idx).toNat)
  case atStart => exact ⟨0, by omega, rfl, HWR5.out, Turn.refl _ _⟩
  case round =>
    obtain ⟨i, hi, rfl, hwr, htr⟩ := hrel
    rw [← HM.out] at hi
    have HTR := Lib.hid htr
    have HWR := Lib.hid hwr
    by_cases hlt : i < m
    · obtain ⟨x, hx⟩ : ∃ x, fl[i]? = some x := ⟨_, List.getElem?_eq_getElem (by rw [← HM.out]; exact hlt)⟩
      have hmem := List.mem_of_getElem? hx
      have hownr : wr.ownsRow ((((((w.alloc (.cells #[.int .i64 r.kind, .string (tx r.target), .int .u64 r.rule, .slice A n c, .int .u64 r.out, .int .u64 r.time, .string (tx r.tag)] 26)).alloc (.cells #[.int .u8 r.kind] 5)).alloc (.cells #[.int .i64 ver, .pointer (some ⟨bt, 0, none⟩), .slice (some ⟨w.heap.size + 1, 0, none⟩) 1 1] 86)).alloc (.cells #[.func (.func 46) #[.pointer (some ⟨w.heap.size + 1 + 1, 0, none⟩)] #[], .func (.func 47) #[.pointer (some ⟨w.heap.size + 1 + 1, 0, none⟩)] #[], .func (.func 48) #[.pointer (some ⟨w.heap.size + 1 + 1, 0, none⟩)] #[], .func (.func 49) #[.pointer (some ⟨w.heap.size + 1 + 1, 0, none⟩)] #[], .func (.func 50) #[.pointer (some ⟨w.heap.size + 1 + 1, 0, none⟩)] #[], .func (.func 51) #[.pointer (some ⟨w.heap.size + 1 + 1, 0, none⟩)] #[]] 89))).heap.size + 1) 87 1 (.slice A5 m c5) m (fl.map fun x => .func (.func x.1) #[.pointer (some ⟨w.heap.size + 1 + 1, 0, none⟩)] #[]) := own_heap HO5.out (fun g hg => htr.2.2.2.2 g (HBLK5.out g hg).1 (HBLK5.out g hg).2)
      obtain ⟨ad, rfl, _, hcx⟩ := (Reads.of_own hownr).2 (by omega)
      have k0 := hcx i (.func (.func x.1) #[.pointer (some ⟨w.heap.size + 1 + 1, 0, none⟩)] #[]) (by rw [List.getElem?_map, hx]; rfl)
      have HTAKE := Lib.hid (flat_take hx)
      have hlen := flat_len (fl := fl.take i) (fun y hy => HSIZ.out y (List.mem_of_mem_take hy))
      have HCALL := Lib.hid (HLAY.out x hmem S (fun k => T k ∧ k < w.heap.size) w.heap.size wr _ (HENV.out.turn htr) (by simp only [List.length_cons]; have h1 : (fl.take i).length ≤ 6 := (by rw [List.length_take]; omega); omega) hwr)
      have hnum := HNM.out x hmem
      have hi0 : (0 : Int) ≤ (i : Int) := by omega
      have hi1 : (i : Int) < (m : Int) := by omega
      obtain ⟨xn, xf⟩ := x
      simp only at k0 HTAKE HCALL hnum
      clear hx hmem hownr hcx hlen hwr htr
      rcases hnum with rfl | rfl | rfl | rfl | rfl | rfl
      · go_wp2_with (go_at_call 46; refine HCALL.out.mono ?_; rintro e w7 ⟨rfl, hw7, ht7⟩; have HW7 := Lib.hid hw7; have HT7 := Lib.hid (HTR.out.trans ht7 (fun _ _ h => h)); clear hw7 ht7)
        exact ⟨⟨i + 1, by rw [← HM.out]; omega, by go_num, by rw [HTAKE.out]; simpa using HW7.out, HT7.out⟩, by simp [intOf]; omega⟩
      · go_wp2_with (go_at_call 47; refine HCALL.out.mono ?_; rintro e w7 ⟨rfl, hw7, ht7⟩; have HW7 := Lib.hid hw7; have HT7 := Lib.hid (HTR.out.trans ht7 (fun _ _ h => h)); clear hw7 ht7)
        exact ⟨⟨i + 1, by rw [← HM.out]; omega, by go_num, by rw [HTAKE.out]; simpa using HW7.out, HT7.out⟩, by simp [intOf]; omega⟩
      · go_wp2_with (go_at_call 48; refine HCALL.out.mono ?_; rintro e w7 ⟨rfl, hw7, ht7⟩; have HW7 := Lib.hid hw7; have HT7 := Lib.hid (HTR.out.trans ht7 (fun _ _ h => h)); clear hw7 ht7)
        exact ⟨⟨i + 1, by rw [← HM.out]; omega, by go_num, by rw [HTAKE.out]; simpa using HW7.out, HT7.out⟩, by simp [intOf]; omega⟩
      · go_wp2_with (go_at_call 49; refine HCALL.out.mono ?_; rintro e w7 ⟨rfl, hw7, ht7⟩; have HW7 := Lib.hid hw7; have HT7 := Lib.hid (HTR.out.trans ht7 (fun _ _ h => h)); clear hw7 ht7)
        exact ⟨⟨i + 1, by rw [← HM.out]; omega, by go_num, by rw [HTAKE.out]; simpa using HW7.out, HT7.out⟩, by simp [intOf]; omega⟩
      · go_wp2_with (go_at_call 50; refine HCALL.out.mono ?_; rintro e w7 ⟨rfl, hw7, ht7⟩; have HW7 := Lib.hid hw7; have HT7 := Lib.hid (HTR.out.trans ht7 (fun _ _ h => h)); clear hw7 ht7)
        exact ⟨⟨i + 1, by rw [← HM.out]; omega, by go_num, by rw [HTAKE.out]; simpa using HW7.out, HT7.out⟩, by simp [intOf]; omega⟩
      · go_wp2_with (go_at_call 51; refine HCALL.out.mono ?_; rintro e w7 ⟨rfl, hw7, ht7⟩; have HW7 := Lib.hid hw7; have HT7 := Lib.hid (HTR.out.trans ht7 (fun _ _ h => h)); clear hw7 ht7)
        exact ⟨⟨i + 1, by rw [← HM.out]; omega, by go_num, by rw [HTAKE.out]; simpa using HW7.out, HT7.out⟩, by simp [intOf]; omega⟩
    · obtain rfl : i = m := by omega
      rw [HM.out, List.take_length] at hwr
      obtain ⟨hSb, va, hh, hown, hs⟩ := hwr
      have z2 := at_cell (i := 2) hh rfl
      have HOWN := Lib.hid (own_from (base := w.heap.size) hown (fun k hk => HUP.out k (hs k hk)))
      have HBW := Lib.hid ((HB4.out.trans (HB5.out.mono HB4.out.size)).trans (htr.below HUP.out (by have := hz5.out; omega)))
      clear hSb hh hown hs htr
      go_wp2
      go_ret
      exact ⟨_, rfl, HOWN.out, HBW.out⟩

end Go.Proofs.Ytidkahmjjknkmaa

/- Great: is a record more than is gone through? And the example. -/
namespace Go.Proofs.Ytidkahmjjknkmaa
open Go.RowKit

def small (r : Rc) (l : List Dp) : Prop := (∀ d ∈ l, d.name.length ≤ 300) ∧ l.length ≤ 60 ∧ r.target.length ≤ 300 ∧ r.tag.length ≤ 300

set_option maxRecDepth 100000 in
set_option maxHeartbeats 1000000 in
theorem great_any (r : Rc) (A : Option Addr) (n c : Nat) (l : List Dp) (w : World) (hn : n ≤ maxLen) (hfit : ∀ d ∈ l, d.name.length ≤ maxLen) (ht : r.target.length ≤ maxLen) (hg : r.tag.length ≤ maxLen) (h : Reads w w.heap.size 3 A n (dps l)) :
    Calls Try.prog 7 #[rcv r A n c] w fun e w' => ∃ q : Bool, (q = false → small r l) ∧ e = .returned (.bool q) ∧ Below w.heap.size w w' := by
  have HL : Hid (l.length = n) := by have := h.1; rw [dps_len] at this; show _ = _; omega
  have H1 := Lib.hid h
  have HF := Lib.hid hfit
  have hm : Hid (maxLen = 9223372036854775807 ∨ True) := .inr trivial
  have hbx := Lib.hid ((Below.refl w.heap.size w).alloc (Nat.le_refl _) (.cells #[.int .i64 r.kind, .string (tx r.target), .int .u64 r.rule, .slice A n c, .int .u64 r.out, .int .u64 r.time, .string (tx r.tag)] 26))
  have hnb : Hid ((w.alloc (.cells #[.int .i64 r.kind, .string (tx r.target), .int .u64 r.rule, .slice A n c, .int .u64 r.out, .int .u64 r.time, .string (tx r.tag)] 26)).heap[w.heap.size]? = some (.cells #[.int .i64 r.kind, .string (tx r.target), .int .u64 r.rule, .slice A n c, .int .u64 r.out, .int .u64 r.time, .string (tx r.tag)] 26 (0, 0))) := by show (w.heap.push _)[w.heap.size]? = _; exact Array.getElem?_push_size
  unfold rcv rsv
  have hs1 := tx_size0 r.target
  have hs2 := tx_size0 r.tag
  unfold maxLen at hn ht hg
  clear h hfit
  go_enter Try.func7, Try.ntmps7
  go_wp2
  go_loopw [8] (fun idx wr => ∃ i : Nat, i ≤ n ∧ idx = .int .i64 (i : Int) ∧ (∀ d ∈ l.take i, d.name.length ≤ 300) ∧ Below w.heap.size w wr ∧ wr.heap[w.heap.size]? = some (.cells #[.int .i64 r.kind, .string (tx r.target), .int .u64 r.rule, .slice A n c, .int .u64 r.out, .int .u64 r.time, .string (tx r.tag)] 26 (0, 0))) (fun idx wr => n - (intOf idx).toNat)
  case atStart => exact ⟨0, by omega, rfl, by simp, hbx.out, hnb.out⟩
  case round =>
    obtain ⟨i, hi, rfl, hsm, hb, hbl⟩ := hrel
    have HSM := Lib.hid hsm
    have q1 := at_cell (i := 1) hbl rfl
    have q3 := at_cell (i := 3) hbl rfl
    have q6 := at_cell (i := 6) hbl rfl
    clear hsm
    by_cases hlt : i < n
    · obtain ⟨x, hx⟩ : ∃ x, l[i]? = some x := ⟨_, List.getElem?_eq_getElem (by rw [HL.out]; exact hlt)⟩
      obtain ⟨ad, rfl, _, hcx⟩ := (H1.out.below hb).2 (by omega)
      obtain ⟨x0, x1, x2⟩ := dps_at l i x hx
      have k0 := hcx _ _ x0
      have k1 := hcx _ _ x1
      have k2 := hcx _ _ x2
      rw [add_one] at k1
      rw [add_two] at k2
      have hxl := HF.out x (List.mem_of_getElem? hx)
      obtain ⟨xn, xh, xo⟩ := x
      simp only at k0 k1 k2 hxl
      have hs3 := tx_size0 xn
      obtain ⟨m, hm⟩ : ∃ m, m = xn.length := ⟨_, rfl⟩
      rw [← hm] at hs3 hxl
      unfold rsv at k0
      unfold maxLen at hxl
      have HX : Hid (m ≤ 300 → ∀ d ∈ l.take (i + 1), d.name.length ≤ 300) := fun hle d hd => by
        rw [List.take_add_one, hx, List.mem_append] at hd
        rcases hd with hd | hd
        · exact HSM.out d hd
        · simp at hd; subst hd; exact hm ▸ hle
      have HBR := Lib.hid hb
      have HBL := Lib.hid hbl
      have hi0 : (0 : Int) ≤ (i : Int) := by omega
      have hi1 : (i : Int) < (n : Int) := by omega
      have HBN := Lib.hid (hb.alloc hb.size (.cells #[.string (tx xn), .int .u64 xh, .bool xo] 55))
      have HBLN := Lib.hid ((Below.heap_alloc wr (.cells #[.string (tx xn), .int .u64 xh, .bool xo] 55) w.heap.size (by
        rcases Nat.lt_or_ge w.heap.size wr.heap.size with h | h
        · exact h
        · rw [Array.getElem?_eq_none h] at hbl; cases hbl)).trans hbl)
      clear hcx x0 x1 x2 hx hb hbl hm
      by_cases h300 : m ≤ 300
      · have hd1 : decide ((m : Int) > 300) = false := by rw [decide_eq_false_iff_not]; omega
        go_wp2
        exact ⟨⟨i + 1, by omega, by go_num, HX.out h300, HBN.out, HBLN.out⟩, by simp [intOf]; omega⟩
      · have hd1 : decide ((m : Int) > 300) = true := by rw [decide_eq_true_iff]; omega
        go_wp2
        go_ret
        exact ⟨true, by simp, rfl, HBN.out⟩
    · obtain rfl : i = n := by omega
      have HBR := Lib.hid hb
      rw [List.take_of_length_le (by rw [HL.out]; omega)] at HSM
      clear hb hbl
      by_cases hA : i ≤ 60 ∧ r.target.length ≤ 300 ∧ r.tag.length ≤ 300
      · have HQ : Hid (small r l) := ⟨HSM.out, by rw [HL.out]; exact hA.1, hA.2⟩
        obtain ⟨g1, g2, g3⟩ := hA
        go_wp2
        go_ret
        exact ⟨false, fun _ => HQ.out, by first | rfl | (congr 2; simp; omega), HBR.out⟩
      · by_cases g1 : i ≤ 60
        · by_cases g2 : r.target.length ≤ 300
          · have g3 : 300 < r.tag.length := by omega
            clear hA
            go_wp2
            go_ret
            first | exact .inr ⟨by first | rfl | (congr 2; simp; omega), HBR.out⟩ | exact ⟨true, by simp, by first | rfl | (congr 2; simp; omega), HBR.out⟩
          · clear hA
            go_wp2
            go_ret
            first | exact .inr ⟨by first | rfl | (congr 2; simp; omega), HBR.out⟩ | exact ⟨true, by simp, by first | rfl | (congr 2; simp; omega), HBR.out⟩
        · clear hA
          go_wp2
          go_ret
          first | exact .inr ⟨by first | rfl | (congr 2; simp; omega), HBR.out⟩ | exact ⟨true, by simp, by first | rfl | (congr 2; simp; omega), HBR.out⟩

end Go.Proofs.Ytidkahmjjknkmaa

/- The walk of New. -/
namespace Go.Proofs.Ytidkahmjjknkmaa
open Go.RowKit Go.Maps Go.ChangeMaps Go.WideMaps

/-- Texts, each once. -/
def tnew (ts : List (List UInt8)) : List (List UInt8) := ts.foldl tput []
theorem tnew_snoc (ts : List (List UInt8)) (s : List UInt8) : tnew (ts ++ [s]) = tput (tnew ts) s := by simp [tnew]
theorem tput_len (l : List (List UInt8)) (s : List UInt8) : (tput l s).length ≤ l.length + 1 := by
  unfold tput; split <;> simp
theorem tfold_len : ∀ (ts l : List (List UInt8)), (ts.foldl tput l).length ≤ l.length + ts.length
  | [], l => by simp
  | s :: ts, l => by
    have h1 := tfold_len ts (tput l s)
    have h2 := tput_len l s
    simp only [List.foldl_cons, List.length_cons]
    omega
theorem tnew_len (ts : List (List UInt8)) : (tnew ts).length ≤ ts.length := by
  have := tfold_len ts []
  simpa [tnew] using this

/-- An empty table. -/
theorem tab_empty (w : World) : Tab (w.alloc (.cells #[.slice none 0 0, .map none] 60)) (fun k => w.heap.size ≤ k) w.heap.size 0 [] := by
  refine ⟨none, 0, none, ?_, Nat.le_refl _, World.ownsRow_nil _ _ _ _, fun g hg => by simp [Value.ownBlock] at hg, .inl ⟨rfl, rfl⟩, List.nodup_nil, by simp⟩
  show (w.heap.push _)[w.heap.size]? = _
  simp

def NwRel (ts : List (List UInt8)) (w : World) (idx : Value) (wr : World) : Prop :=
  ∃ i : Nat, i ≤ ts.length ∧ idx = .int .i64 (i : Int) ∧ Tab wr (fun k => w.heap.size ≤ k) w.heap.size i (tnew (ts.take i)) ∧ Below w.heap.size w wr

set_option maxRecDepth 100000 in
set_option maxHeartbeats 1000000 in
theorem New_any (L : Option Addr) (m d n0 : Nat) (ts : List (List UInt8)) (hm : m ≤ 1000000) (hts : ∀ s ∈ ts, s.length ≤ maxLen) (w : World) (hn0 : n0 ≤ w.heap.size) (hr : Reads w n0 1 L m (ts.map tsv)) :
    Calls Try.prog 9 #[.slice L m d] w fun e w' => e = .returned (.pointer (some ⟨w.heap.size, 0, none⟩)) ∧ Tab w' (fun k => w.heap.size ≤ k) w.heap.size m (tnew ts) ∧ Below w.heap.size w w' := by
  have hml : ts.length = m := by have := hr.1; simpa using this
  have HML := Lib.hid hml
  have HTS := Lib.hid hts
  have HR := Lib.hid (hr.more hn0)
  have HT0 := Lib.hid (tab_empty w)
  have HB0 : Hid (Below w.heap.size w (w.alloc (.cells #[.slice none 0 0, .map none] 60))) := (Below.refl _ w).alloc (Nat.le_refl _) _
  clear hml hts hr
  go_enter Try.func9, Try.ntmps9
  go_wp2
  go_loopw [10] (fun idx wr => NwRel ts w idx wr) (fun idx wr => m - (intOf idx).toNat)
  case atStart => exact ⟨0, by omega, rfl, HT0.out, HB0.out⟩
  case round =>
    obtain ⟨i, hi, rfl, ht, hb⟩ := hrel
    rw [HML.out] at hi
    by_cases hlt : i < m
    · obtain ⟨ad, u, rfl, _, hu, hcell⟩ := (HR.out.below hb).at_ hlt
      obtain ⟨s, hs⟩ : ∃ s, ts[i]? = some s := ⟨_, List.getElem?_eq_getElem (by rw [HML.out]; exact hlt)⟩
      obtain rfl : u = tsv s := by rw [List.getElem?_map, hs] at hu; simpa using hu.symm
      have htk : ts.take (i + 1) = ts.take i ++ [s] := by rw [List.take_add_one, hs]; rfl
      have hln : (tnew (ts.take i)).length ≤ i := by have := tnew_len (ts.take i); rw [List.length_take] at this; omega
      have hid := ID_any _ w.heap.size i (tnew (ts.take i)) s (HTS.out s (List.mem_of_getElem? hs)) (by omega) (by omega) wr ht
      rw [← tnew_snoc, ← htk] at hid
      have HID := Lib.hid hid
      have HB := Lib.hid hb
      unfold tsv at hcell HID
      clear hu hs htk hln hid ht hb
      go_wp2_with (go_at_call 20; refine HID.out.mono ?_; rintro e w1 ⟨rfl, ht1, htu1⟩)
      have hsz := HB.out.size
      exact ⟨⟨i + 1, by rw [HML.out]; omega, by go_num, ht1.wide (fun k hk _ => by rcases hk with hk | hk <;> omega), HB.out.trans (htu1.below (fun k hk => hk) hsz)⟩, by simp [intOf]; omega⟩
    · obtain rfl : i = m := by omega
      have hall : ts.take i = ts := List.take_of_length_le (by rw [HML.out]; omega)
      rw [hall] at ht
      go_wp2
      go_ret
      exact ⟨rfl, ht, hb⟩

end Go.Proofs.Ytidkahmjjknkmaa
