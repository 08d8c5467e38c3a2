/- schema.written. -/
import Derived.Laws.EntriesVeiled
import Derived.Test.YtfdncdejjlcgpaaUd
namespace Go.Proofs.Ytfdncdejjlcgpaa
open Go.RowKit

theorem own_from {w : World} {base n size : Nat} {e : TypeId} {v : Value} {xs : List Value} (h : w.ownsRow 0 e size v n xs) (hb : ∀ k, v.ownBlock = some k → base ≤ k) : w.ownsRow base e size v n xs := by
  obtain ⟨h1, h2 | ⟨g, cap, cur, rfl, h3, h4⟩⟩ := h
  · exact ⟨h1, .inl h2⟩
  · exact ⟨h1, .inr ⟨g, cap, cur, rfl, hb g rfl, h4⟩⟩

/-- What the fields lay, up to one of them. -/
def flat (fl : List (Nat × List UInt8)) : List UInt8 := fl.flatMap Prod.snd
theorem flat_take {fl : List (Nat × List UInt8)} {i : Nat} {x : Nat × List UInt8} (h : fl[i]? = some x) : flat (fl.take (i + 1)) = flat (fl.take i) ++ x.2 := by
  unfold flat
  rw [List.take_add_one, h, List.flatMap_append]; simp
theorem flat_len {fl : List (Nat × List UInt8)} (h : ∀ x ∈ fl, x.2.length ≤ 1000000) : (flat fl).length ≤ 1000000 * fl.length := by
  unfold flat
  induction fl with
  | nil => simp
  | cons a fl ih =>
    have h1 := h a (by simp)
    have h2 := ih (fun x hx => h x (by simp [hx]))
    simp only [List.flatMap_cons, List.length_append, List.length_cons]
    omega

def WrRel (S : Nat → Prop) (bw : Nat) (ver : Int) (bt : Nat) (kb : UInt8) (fl : List (Nat × List UInt8)) (w5 : World) (idx : Value) (wr : World) : Prop :=
  ∃ i : Nat, i ≤ fl.length ∧ idx = .int .i64 (i : Int) ∧ Wr wr S bw ver bt (kb :: flat (fl.take i)) ∧ Turn S w5 wr

set_option maxRecDepth 100000 in
set_option maxHeartbeats 4000000 in
theorem written_core (T : Nat → Prop) (bt N n c : Nat) (ver : Int) (tl : List (List UInt8)) (r : Rc) (A : Option Addr) (l : List Dp) (kb : UInt8) (hk : r.kind = (kb.toNat : Int)) (hk2 : kb.toNat ≤ 2) (fl : List (Nat × List UInt8)) (hfl : fl.length ≤ 6) (hsz : ∀ x ∈ fl, x.2.length ≤ 1000000)
    (hnm : ∀ x ∈ fl, x.1 = 47 ∨ x.1 = 48 ∨ x.1 = 49 ∨ x.1 = 50 ∨ x.1 = 51 ∨ x.1 = 52) (w : World) (hT : Tab w T bt N tl) (hr : Reads w w.heap.size 3 A n (dps l))
    (HOF : Hid (∀ W, Calls Try.prog 53 #[.agg #[.func (.func 47) #[.pointer (some ⟨w.heap.size + 1 + 1, 0, none⟩)] #[], .func (.func 48) #[.pointer (some ⟨w.heap.size + 1 + 1, 0, none⟩)] #[], .func (.func 49) #[.pointer (some ⟨w.heap.size + 1 + 1, 0, none⟩)] #[], .func (.func 50) #[.pointer (some ⟨w.heap.size + 1 + 1, 0, none⟩)] #[], .func (.func 51) #[.pointer (some ⟨w.heap.size + 1 + 1, 0, none⟩)] #[], .func (.func 52) #[.pointer (some ⟨w.heap.size + 1 + 1, 0, none⟩)] #[]], .int .i64 ver, .int .i64 r.kind] W fun e w' => ∃ v, e = .returned v ∧ w'.ownsRow (W.heap.size + 1) 88 1 v fl.length (fl.map fun x => .func (.func x.1) #[.pointer (some ⟨w.heap.size + 1 + 1, 0, none⟩)] #[]) ∧ Below W.heap.size W w'))
    (HLAY : Hid (∀ x ∈ fl, ∀ (S T : Nat → Prop) (B : Nat), Lays x.1 S (w.heap.size + 1 + 1) ver bt w.heap.size (fun W => Env W S T bt N tl w.heap.size r A n c l B) x.2)) :
    Calls Try.prog 24 #[.int .i64 ver, .pointer (some ⟨bt, 0, none⟩), .agg #[.int .i64 r.kind, .string (tx r.target), .int .u64 r.rule, .slice A n c, .int .u64 r.out, .int .u64 r.time, .string (tx r.tag)]] w fun e w' => ∃ v, e = .returned v ∧ w'.ownsRow w.heap.size 5 1 v (kb :: flat fl).length ((kb :: flat fl).map bv) ∧ Below w.heap.size w w' := by
  have hz1 : (w.alloc (.cells #[.int .i64 r.kind, .string (tx r.target), .int .u64 r.rule, .slice A n c, .int .u64 r.out, .int .u64 r.time, .string (tx r.tag)] 26)).heap.size = w.heap.size + 1 := by simp
  have hz2 : ((w.alloc (.cells #[.int .i64 r.kind, .string (tx r.target), .int .u64 r.rule, .slice A n c, .int .u64 r.out, .int .u64 r.time, .string (tx r.tag)] 26)).alloc (.cells #[.int .u8 r.kind] 5)).heap.size = w.heap.size + 1 + 1 := by simp
  have hz3 : (((w.alloc (.cells #[.int .i64 r.kind, .string (tx r.target), .int .u64 r.rule, .slice A n c, .int .u64 r.out, .int .u64 r.time, .string (tx r.tag)] 26)).alloc (.cells #[.int .u8 r.kind] 5)).alloc (.cells #[.int .i64 ver, .pointer (some ⟨bt, 0, none⟩), .slice (some ⟨w.heap.size + 1, 0, none⟩) 1 1] 87)).heap.size = w.heap.size + 1 + 1 + 1 := by simp
  have hz4 : ((((w.alloc (.cells #[.int .i64 r.kind, .string (tx r.target), .int .u64 r.rule, .slice A n c, .int .u64 r.out, .int .u64 r.time, .string (tx r.tag)] 26)).alloc (.cells #[.int .u8 r.kind] 5)).alloc (.cells #[.int .i64 ver, .pointer (some ⟨bt, 0, none⟩), .slice (some ⟨w.heap.size + 1, 0, none⟩) 1 1] 87)).alloc (.cells #[.func (.func 47) #[.pointer (some ⟨w.heap.size + 1 + 1, 0, none⟩)] #[], .func (.func 48) #[.pointer (some ⟨w.heap.size + 1 + 1, 0, none⟩)] #[], .func (.func 49) #[.pointer (some ⟨w.heap.size + 1 + 1, 0, none⟩)] #[], .func (.func 50) #[.pointer (some ⟨w.heap.size + 1 + 1, 0, none⟩)] #[], .func (.func 51) #[.pointer (some ⟨w.heap.size + 1 + 1, 0, none⟩)] #[], .func (.func 52) #[.pointer (some ⟨w.heap.size + 1 + 1, 0, none⟩)] #[]] 90)).heap.size = w.heap.size + 1 + 1 + 1 + 1 := by simp
  have h1 : ((((w.alloc (.cells #[.int .i64 r.kind, .string (tx r.target), .int .u64 r.rule, .slice A n c, .int .u64 r.out, .int .u64 r.time, .string (tx r.tag)] 26)).alloc (.cells #[.int .u8 r.kind] 5)).alloc (.cells #[.int .i64 ver, .pointer (some ⟨bt, 0, none⟩), .slice (some ⟨w.heap.size + 1, 0, none⟩) 1 1] 87)).alloc (.cells #[.func (.func 47) #[.pointer (some ⟨w.heap.size + 1 + 1, 0, none⟩)] #[], .func (.func 48) #[.pointer (some ⟨w.heap.size + 1 + 1, 0, none⟩)] #[], .func (.func 49) #[.pointer (some ⟨w.heap.size + 1 + 1, 0, none⟩)] #[], .func (.func 50) #[.pointer (some ⟨w.heap.size + 1 + 1, 0, none⟩)] #[], .func (.func 51) #[.pointer (some ⟨w.heap.size + 1 + 1, 0, none⟩)] #[], .func (.func 52) #[.pointer (some ⟨w.heap.size + 1 + 1, 0, none⟩)] #[]] 90)).heap[w.heap.size]? = some (.cells #[.int .i64 r.kind, .string (tx r.target), .int .u64 r.rule, .slice A n c, .int .u64 r.out, .int .u64 r.time, .string (tx r.tag)] 26 (0, 0)) := (Below.heap_alloc _ _ _ (by rw [hz3]; omega)).trans ((Below.heap_alloc _ _ _ (by rw [hz2]; omega)).trans ((Below.heap_alloc _ _ _ (by rw [hz1]; omega)).trans (one_new w _)))
  have h2 : ((((w.alloc (.cells #[.int .i64 r.kind, .string (tx r.target), .int .u64 r.rule, .slice A n c, .int .u64 r.out, .int .u64 r.time, .string (tx r.tag)] 26)).alloc (.cells #[.int .u8 r.kind] 5)).alloc (.cells #[.int .i64 ver, .pointer (some ⟨bt, 0, none⟩), .slice (some ⟨w.heap.size + 1, 0, none⟩) 1 1] 87)).alloc (.cells #[.func (.func 47) #[.pointer (some ⟨w.heap.size + 1 + 1, 0, none⟩)] #[], .func (.func 48) #[.pointer (some ⟨w.heap.size + 1 + 1, 0, none⟩)] #[], .func (.func 49) #[.pointer (some ⟨w.heap.size + 1 + 1, 0, none⟩)] #[], .func (.func 50) #[.pointer (some ⟨w.heap.size + 1 + 1, 0, none⟩)] #[], .func (.func 51) #[.pointer (some ⟨w.heap.size + 1 + 1, 0, none⟩)] #[], .func (.func 52) #[.pointer (some ⟨w.heap.size + 1 + 1, 0, none⟩)] #[]] 90)).heap[w.heap.size + 1]? = some (.cells #[.int .u8 r.kind] 5 (0, 0)) := (Below.heap_alloc _ _ _ (by rw [hz3]; omega)).trans ((Below.heap_alloc _ _ _ (by rw [hz2]; omega)).trans (by have h := one_new (w.alloc (.cells #[.int .i64 r.kind, .string (tx r.target), .int .u64 r.rule, .slice A n c, .int .u64 r.out, .int .u64 r.time, .string (tx r.tag)] 26)) (.cells #[.int .u8 r.kind] 5); rw [hz1] at h; exact h))
  have h3 : ((((w.alloc (.cells #[.int .i64 r.kind, .string (tx r.target), .int .u64 r.rule, .slice A n c, .int .u64 r.out, .int .u64 r.time, .string (tx r.tag)] 26)).alloc (.cells #[.int .u8 r.kind] 5)).alloc (.cells #[.int .i64 ver, .pointer (some ⟨bt, 0, none⟩), .slice (some ⟨w.heap.size + 1, 0, none⟩) 1 1] 87)).alloc (.cells #[.func (.func 47) #[.pointer (some ⟨w.heap.size + 1 + 1, 0, none⟩)] #[], .func (.func 48) #[.pointer (some ⟨w.heap.size + 1 + 1, 0, none⟩)] #[], .func (.func 49) #[.pointer (some ⟨w.heap.size + 1 + 1, 0, none⟩)] #[], .func (.func 50) #[.pointer (some ⟨w.heap.size + 1 + 1, 0, none⟩)] #[], .func (.func 51) #[.pointer (some ⟨w.heap.size + 1 + 1, 0, none⟩)] #[], .func (.func 52) #[.pointer (some ⟨w.heap.size + 1 + 1, 0, none⟩)] #[]] 90)).heap[w.heap.size + 1 + 1]? = some (.cells #[.int .i64 ver, .pointer (some ⟨bt, 0, none⟩), .slice (some ⟨w.heap.size + 1, 0, none⟩) 1 1] 87 (0, 0)) := (Below.heap_alloc _ _ _ (by rw [hz3]; omega)).trans (by have h := one_new ((w.alloc (.cells #[.int .i64 r.kind, .string (tx r.target), .int .u64 r.rule, .slice A n c, .int .u64 r.out, .int .u64 r.time, .string (tx r.tag)] 26)).alloc (.cells #[.int .u8 r.kind] 5)) (.cells #[.int .i64 ver, .pointer (some ⟨bt, 0, none⟩), .slice (some ⟨w.heap.size + 1, 0, none⟩) 1 1] 87); rw [hz2] at h; exact h)
  have h4 : ((((w.alloc (.cells #[.int .i64 r.kind, .string (tx r.target), .int .u64 r.rule, .slice A n c, .int .u64 r.out, .int .u64 r.time, .string (tx r.tag)] 26)).alloc (.cells #[.int .u8 r.kind] 5)).alloc (.cells #[.int .i64 ver, .pointer (some ⟨bt, 0, none⟩), .slice (some ⟨w.heap.size + 1, 0, none⟩) 1 1] 87)).alloc (.cells #[.func (.func 47) #[.pointer (some ⟨w.heap.size + 1 + 1, 0, none⟩)] #[], .func (.func 48) #[.pointer (some ⟨w.heap.size + 1 + 1, 0, none⟩)] #[], .func (.func 49) #[.pointer (some ⟨w.heap.size + 1 + 1, 0, none⟩)] #[], .func (.func 50) #[.pointer (some ⟨w.heap.size + 1 + 1, 0, none⟩)] #[], .func (.func 51) #[.pointer (some ⟨w.heap.size + 1 + 1, 0, none⟩)] #[], .func (.func 52) #[.pointer (some ⟨w.heap.size + 1 + 1, 0, none⟩)] #[]] 90)).heap[w.heap.size + 1 + 1 + 1]? = some (.cells #[.func (.func 47) #[.pointer (some ⟨w.heap.size + 1 + 1, 0, none⟩)] #[], .func (.func 48) #[.pointer (some ⟨w.heap.size + 1 + 1, 0, none⟩)] #[], .func (.func 49) #[.pointer (some ⟨w.heap.size + 1 + 1, 0, none⟩)] #[], .func (.func 50) #[.pointer (some ⟨w.heap.size + 1 + 1, 0, none⟩)] #[], .func (.func 51) #[.pointer (some ⟨w.heap.size + 1 + 1, 0, none⟩)] #[], .func (.func 52) #[.pointer (some ⟨w.heap.size + 1 + 1, 0, none⟩)] #[]] 90 (0, 0)) := by have h := one_new (((w.alloc (.cells #[.int .i64 r.kind, .string (tx r.target), .int .u64 r.rule, .slice A n c, .int .u64 r.out, .int .u64 r.time, .string (tx r.tag)] 26)).alloc (.cells #[.int .u8 r.kind] 5)).alloc (.cells #[.int .i64 ver, .pointer (some ⟨bt, 0, none⟩), .slice (some ⟨w.heap.size + 1, 0, none⟩) 1 1] 87)) (.cells #[.func (.func 47) #[.pointer (some ⟨w.heap.size + 1 + 1, 0, none⟩)] #[], .func (.func 48) #[.pointer (some ⟨w.heap.size + 1 + 1, 0, none⟩)] #[], .func (.func 49) #[.pointer (some ⟨w.heap.size + 1 + 1, 0, none⟩)] #[], .func (.func 50) #[.pointer (some ⟨w.heap.size + 1 + 1, 0, none⟩)] #[], .func (.func 51) #[.pointer (some ⟨w.heap.size + 1 + 1, 0, none⟩)] #[], .func (.func 52) #[.pointer (some ⟨w.heap.size + 1 + 1, 0, none⟩)] #[]] 90); rw [hz3] at h; exact h
  have hb4 : Below w.heap.size w ((((w.alloc (.cells #[.int .i64 r.kind, .string (tx r.target), .int .u64 r.rule, .slice A n c, .int .u64 r.out, .int .u64 r.time, .string (tx r.tag)] 26)).alloc (.cells #[.int .u8 r.kind] 5)).alloc (.cells #[.int .i64 ver, .pointer (some ⟨bt, 0, none⟩), .slice (some ⟨w.heap.size + 1, 0, none⟩) 1 1] 87)).alloc (.cells #[.func (.func 47) #[.pointer (some ⟨w.heap.size + 1 + 1, 0, none⟩)] #[], .func (.func 48) #[.pointer (some ⟨w.heap.size + 1 + 1, 0, none⟩)] #[], .func (.func 49) #[.pointer (some ⟨w.heap.size + 1 + 1, 0, none⟩)] #[], .func (.func 50) #[.pointer (some ⟨w.heap.size + 1 + 1, 0, none⟩)] #[], .func (.func 51) #[.pointer (some ⟨w.heap.size + 1 + 1, 0, none⟩)] #[], .func (.func 52) #[.pointer (some ⟨w.heap.size + 1 + 1, 0, none⟩)] #[]] 90)) := ((((Below.refl _ w).alloc (Nat.le_refl _) (.cells #[.int .i64 r.kind, .string (tx r.target), .int .u64 r.rule, .slice A n c, .int .u64 r.out, .int .u64 r.time, .string (tx r.tag)] 26)).alloc (by rw [hz1]; omega) (.cells #[.int .u8 r.kind] 5)).alloc (by rw [hz2]; omega) (.cells #[.int .i64 ver, .pointer (some ⟨bt, 0, none⟩), .slice (some ⟨w.heap.size + 1, 0, none⟩) 1 1] 87)).alloc (by rw [hz3]; omega) (.cells #[.func (.func 47) #[.pointer (some ⟨w.heap.size + 1 + 1, 0, none⟩)] #[], .func (.func 48) #[.pointer (some ⟨w.heap.size + 1 + 1, 0, none⟩)] #[], .func (.func 49) #[.pointer (some ⟨w.heap.size + 1 + 1, 0, none⟩)] #[], .func (.func 50) #[.pointer (some ⟨w.heap.size + 1 + 1, 0, none⟩)] #[], .func (.func 51) #[.pointer (some ⟨w.heap.size + 1 + 1, 0, none⟩)] #[], .func (.func 52) #[.pointer (some ⟨w.heap.size + 1 + 1, 0, none⟩)] #[]] 90)
  have q0 := at_cell (i := 0) h1 rfl
  have p0 := at_cell (i := 0) h4 rfl
  have p1 := at_cell (i := 1) h4 rfl
  have p2 := at_cell (i := 2) h4 rfl
  have p3 := at_cell (i := 3) h4 rfl
  have p4 := at_cell (i := 4) h4 rfl
  have p5 := at_cell (i := 5) h4 rfl
  have hn4 : ((((w.alloc (.cells #[.int .i64 r.kind, .string (tx r.target), .int .u64 r.rule, .slice A n c, .int .u64 r.out, .int .u64 r.time, .string (tx r.tag)] 26)).alloc (.cells #[.int .u8 r.kind] 5)).alloc (.cells #[.int .i64 ver, .pointer (some ⟨bt, 0, none⟩), .slice (some ⟨w.heap.size + 1, 0, none⟩) 1 1] 87)).alloc (.cells #[.nilFunc, .nilFunc, .nilFunc, .nilFunc, .nilFunc, .nilFunc] 90)).heap[w.heap.size + 1 + 1 + 1]? = some (.cells #[.nilFunc, .nilFunc, .nilFunc, .nilFunc, .nilFunc, .nilFunc] 90 (0, 0)) := by have h := one_new (((w.alloc (.cells #[.int .i64 r.kind, .string (tx r.target), .int .u64 r.rule, .slice A n c, .int .u64 r.out, .int .u64 r.time, .string (tx r.tag)] 26)).alloc (.cells #[.int .u8 r.kind] 5)).alloc (.cells #[.int .i64 ver, .pointer (some ⟨bt, 0, none⟩), .slice (some ⟨w.heap.size + 1, 0, none⟩) 1 1] 87)) (.cells #[.nilFunc, .nilFunc, .nilFunc, .nilFunc, .nilFunc, .nilFunc] 90); rw [hz3] at h; exact h
  have f0 := at_cell (i := 0) hn4 rfl
  have y0 := at_frozen (i := 0) hn4
  have f1 := at_cell (i := 1) hn4 rfl
  have y1 := at_frozen (i := 1) hn4
  have f2 := at_cell (i := 2) hn4 rfl
  have y2 := at_frozen (i := 2) hn4
  have f3 := at_cell (i := 3) hn4 rfl
  have y3 := at_frozen (i := 3) hn4
  have f4 := at_cell (i := 4) hn4 rfl
  have y4 := at_frozen (i := 4) hn4
  have f5 := at_cell (i := 5) hn4 rfl
  have y5 := at_frozen (i := 5) hn4
  have q00 := at_cell (i := 0) (one_new w (.cells #[.int .i64 r.kind, .string (tx r.target), .int .u64 r.rule, .slice A n c, .int .u64 r.out, .int .u64 r.time, .string (tx r.tag)] 26)) rfl
  have H1 := Lib.hid h1
  have H2 := Lib.hid h2
  have H3 := Lib.hid h3
  have HB4 := Lib.hid hb4
  have HZ4 := Lib.hid hz4
  have HT := Lib.hid hT
  have HR := Lib.hid hr
  have HNM := Lib.hid hnm
  have HSIZ := Lib.hid hsz
  have HK := Lib.hid hk
  have hkr : 0 ≤ r.kind ∧ r.kind ≤ 2 := by omega
  obtain ⟨m, hm⟩ : ∃ m, m = fl.length := ⟨_, rfl⟩
  have HM := Lib.hid hm
  rw [← hm] at HOF hfl
  clear hz1 hz2 hz3 hz4 h1 h2 h3 h4 hn4 hb4 hT hr hnm hsz hk hk2 hm
  go_enter Try.func24, Try.ntmps24
  go_wp2_with (go_at_call 53; refine (HOF.out _).mono ?_; rintro e w5 ⟨v5, rfl, ho5, hb5⟩; obtain ⟨A5, c5, rfl, hc5⟩ := own_slice ho5; have HO5 := Lib.hid ho5; have HB5 := Lib.hid hb5; have HRD5 := Lib.hid (Reads.of_own ho5); clear ho5 hb5)
  have hz5 : Hid (w.heap.size + 1 + 1 + 1 + 1 ≤ w5.heap.size) := by have h1 := HB5.out.size; rw [HZ4.out] at h1; exact h1
  obtain ⟨S, hS⟩ : ∃ S : Nat → Prop, S = fun k => k = w.heap.size + 1 ∨ k = w.heap.size + 1 + 1 ∨ w5.heap.size ≤ k := ⟨_, rfl⟩
  have hblk : ∀ k, k < w.heap.size + 1 + 1 + 1 + 1 → w5.heap[k]? = ((((w.alloc (.cells #[.int .i64 r.kind, .string (tx r.target), .int .u64 r.rule, .slice A n c, .int .u64 r.out, .int .u64 r.time, .string (tx r.tag)] 26)).alloc (.cells #[.int .u8 r.kind] 5)).alloc (.cells #[.int .i64 ver, .pointer (some ⟨bt, 0, none⟩), .slice (some ⟨w.heap.size + 1, 0, none⟩) 1 1] 87)).alloc (.cells #[.func (.func 47) #[.pointer (some ⟨w.heap.size + 1 + 1, 0, none⟩)] #[], .func (.func 48) #[.pointer (some ⟨w.heap.size + 1 + 1, 0, none⟩)] #[], .func (.func 49) #[.pointer (some ⟨w.heap.size + 1 + 1, 0, none⟩)] #[], .func (.func 50) #[.pointer (some ⟨w.heap.size + 1 + 1, 0, none⟩)] #[], .func (.func 51) #[.pointer (some ⟨w.heap.size + 1 + 1, 0, none⟩)] #[], .func (.func 52) #[.pointer (some ⟨w.heap.size + 1 + 1, 0, none⟩)] #[]] 90)).heap[k]? := fun k hk => HB5.out.block k (by rw [HZ4.out]; exact hk)
  have HWR5 : Hid (Wr w5 S (w.heap.size + 1 + 1) ver bt [kb]) := by
    refine ⟨by rw [hS]; exact .inr (.inl rfl), .slice (some ⟨w.heap.size + 1, 0, none⟩) 1 1, (hblk _ (by omega)).trans H3.out, ?_, fun k hk => ?_⟩
    · refine ownsRow_of_block (cap := 1) (cs := [bv kb]) (Nat.zero_le _) ((hblk _ (by omega)).trans (H2.out.trans ?_)) (Nat.le_refl _) (by unfold maxLen; omega) rfl rfl
      rw [HK.out]
      rfl
    · rw [hS]
      left
      simpa [Value.ownBlock] using hk.symm
  have HENV : Hid (Env w5 S (fun k => T k ∧ k < w.heap.size) bt N tl w.heap.size r A n c l w.heap.size) := {
    tab := (HT.out.wide (fun k h1 h2 => ⟨h1, h2⟩)).keep (fun k hk _ => (HB4.out.trans (HB5.out.mono HB4.out.size)).block k hk.2)
    own := (hblk _ (by omega)).trans H1.out
    deps := HR.out.below (HB4.out.trans (HB5.out.mono HB4.out.size))
    apart := fun k hk => by have := hz5.out; rw [hS]; omega
    ner := by have := hz5.out; rw [hS]; omega
    up := fun k hk => by have := hz5.out; rw [hS] at hk; omega
    new := fun k hk => by rw [hS]; exact .inr (.inr hk)
    hB := by have := hz5.out; omega }
  have HBLK5 : Hid (∀ g, (Value.slice A5 m c5).ownBlock = some g → g < w5.heap.size ∧ ¬ S g) := fun g hg => ⟨own_lt HO5.out g hg, by have h1 := own_block HO5.out g hg; have h2 := own_lt HO5.out g hg; rw [HZ4.out] at h1; rw [hS]; omega⟩
  have HUP : Hid (∀ k, S k → w.heap.size ≤ k) := HENV.out.up
  clear f0 y0 f1 y1 f2 y2 f3 y3 f4 y4 f5 y5 hS hblk HOF p0 p1 p2 p3 p4 p5 q0 q00
  go_loopw [38] (fun idx wr => WrRel S (w.heap.size + 1 + 1) ver bt kb fl w5 idx wr) (fun idx wr => m - (intOf idx).toNat)
  case atStart => exact ⟨0, by omega, rfl, HWR5.out, Turn.refl _ _⟩
  case round =>
    obtain ⟨i, hi, rfl, hwr, htr⟩ := hrel
    rw [← HM.out] at hi
    have HTR := Lib.hid htr
    have HWR := Lib.hid hwr
    by_cases hlt : i < m
    · obtain ⟨x, hx⟩ : ∃ x, fl[i]? = some x := ⟨_, List.getElem?_eq_getElem (by rw [← HM.out]; exact hlt)⟩
      have hmem := List.mem_of_getElem? hx
      have hownr : wr.ownsRow ((((((w.alloc (.cells #[.int .i64 r.kind, .string (tx r.target), .int .u64 r.rule, .slice A n c, .int .u64 r.out, .int .u64 r.time, .string (tx r.tag)] 26)).alloc (.cells #[.int .u8 r.kind] 5)).alloc (.cells #[.int .i64 ver, .pointer (some ⟨bt, 0, none⟩), .slice (some ⟨w.heap.size + 1, 0, none⟩) 1 1] 87)).alloc (.cells #[.func (.func 47) #[.pointer (some ⟨w.heap.size + 1 + 1, 0, none⟩)] #[], .func (.func 48) #[.pointer (some ⟨w.heap.size + 1 + 1, 0, none⟩)] #[], .func (.func 49) #[.pointer (some ⟨w.heap.size + 1 + 1, 0, none⟩)] #[], .func (.func 50) #[.pointer (some ⟨w.heap.size + 1 + 1, 0, none⟩)] #[], .func (.func 51) #[.pointer (some ⟨w.heap.size + 1 + 1, 0, none⟩)] #[], .func (.func 52) #[.pointer (some ⟨w.heap.size + 1 + 1, 0, none⟩)] #[]] 90))).heap.size + 1) 88 1 (.slice A5 m c5) m (fl.map fun x => .func (.func x.1) #[.pointer (some ⟨w.heap.size + 1 + 1, 0, none⟩)] #[]) := own_heap HO5.out (fun g hg => htr.2.2.2.2 g (HBLK5.out g hg).1 (HBLK5.out g hg).2)
      obtain ⟨ad, rfl, _, hcx⟩ := (Reads.of_own hownr).2 (by omega)
      have k0 := hcx i (.func (.func x.1) #[.pointer (some ⟨w.heap.size + 1 + 1, 0, none⟩)] #[]) (by rw [List.getElem?_map, hx]; rfl)
      have HTAKE := Lib.hid (flat_take hx)
      have hlen := flat_len (fl := fl.take i) (fun y hy => HSIZ.out y (List.mem_of_mem_take hy))
      have HCALL := Lib.hid (HLAY.out x hmem S (fun k => T k ∧ k < w.heap.size) w.heap.size wr _ (HENV.out.turn htr) (by simp only [List.length_cons]; have h1 : (fl.take i).length ≤ 6 := (by rw [List.length_take]; omega); omega) hwr)
      have hnum := HNM.out x hmem
      have hi0 : (0 : Int) ≤ (i : Int) := by omega
      have hi1 : (i : Int) < (m : Int) := by omega
      obtain ⟨xn, xf⟩ := x
      simp only at k0 HTAKE HCALL hnum
      clear hx hmem hownr hcx hlen hwr htr
      rcases hnum with rfl | rfl | rfl | rfl | rfl | rfl
      · go_wp2_with (go_at_call 47; refine HCALL.out.mono ?_; rintro e w7 ⟨rfl, hw7, ht7⟩; have HW7 := Lib.hid hw7; have HT7 := Lib.hid (HTR.out.trans ht7 (fun _ _ h => h)); clear hw7 ht7)
        exact ⟨⟨i + 1, by rw [← HM.out]; omega, by go_num, by rw [HTAKE.out]; simpa using HW7.out, HT7.out⟩, by simp [intOf]; omega⟩
      · go_wp2_with (go_at_call 48; refine HCALL.out.mono ?_; rintro e w7 ⟨rfl, hw7, ht7⟩; have HW7 := Lib.hid hw7; have HT7 := Lib.hid (HTR.out.trans ht7 (fun _ _ h => h)); clear hw7 ht7)
        exact ⟨⟨i + 1, by rw [← HM.out]; omega, by go_num, by rw [HTAKE.out]; simpa using HW7.out, HT7.out⟩, by simp [intOf]; omega⟩
      · go_wp2_with (go_at_call 49; refine HCALL.out.mono ?_; rintro e w7 ⟨rfl, hw7, ht7⟩; have HW7 := Lib.hid hw7; have HT7 := Lib.hid (HTR.out.trans ht7 (fun _ _ h => h)); clear hw7 ht7)
        exact ⟨⟨i + 1, by rw [← HM.out]; omega, by go_num, by rw [HTAKE.out]; simpa using HW7.out, HT7.out⟩, by simp [intOf]; omega⟩
      · go_wp2_with (go_at_call 50; refine HCALL.out.mono ?_; rintro e w7 ⟨rfl, hw7, ht7⟩; have HW7 := Lib.hid hw7; have HT7 := Lib.hid (HTR.out.trans ht7 (fun _ _ h => h)); clear hw7 ht7)
        exact ⟨⟨i + 1, by rw [← HM.out]; omega, by go_num, by rw [HTAKE.out]; simpa using HW7.out, HT7.out⟩, by simp [intOf]; omega⟩
      · go_wp2_with (go_at_call 51; refine HCALL.out.mono ?_; rintro e w7 ⟨rfl, hw7, ht7⟩; have HW7 := Lib.hid hw7; have HT7 := Lib.hid (HTR.out.trans ht7 (fun _ _ h => h)); clear hw7 ht7)
        exact ⟨⟨i + 1, by rw [← HM.out]; omega, by go_num, by rw [HTAKE.out]; simpa using HW7.out, HT7.out⟩, by simp [intOf]; omega⟩
      · go_wp2_with (go_at_call 52; refine HCALL.out.mono ?_; rintro e w7 ⟨rfl, hw7, ht7⟩; have HW7 := Lib.hid hw7; have HT7 := Lib.hid (HTR.out.trans ht7 (fun _ _ h => h)); clear hw7 ht7)
        exact ⟨⟨i + 1, by rw [← HM.out]; omega, by go_num, by rw [HTAKE.out]; simpa using HW7.out, HT7.out⟩, by simp [intOf]; omega⟩
    · obtain rfl : i = m := by omega
      rw [HM.out, List.take_length] at hwr
      obtain ⟨hSb, va, hh, hown, hs⟩ := hwr
      have z2 := at_cell (i := 2) hh rfl
      have HOWN := Lib.hid (own_from (base := w.heap.size) hown (fun k hk => HUP.out k (hs k hk)))
      have HBW := Lib.hid ((HB4.out.trans (HB5.out.mono HB4.out.size)).trans (htr.below HUP.out (by have := hz5.out; omega)))
      clear hSb hh hown hs htr
      go_wp2
      go_ret
      exact ⟨_, rfl, HOWN.out, HBW.out⟩

end Go.Proofs.Ytfdncdejjlcgpaa
