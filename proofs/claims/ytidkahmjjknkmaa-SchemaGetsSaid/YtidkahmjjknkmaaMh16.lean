/- Texts of one proof, one behind the other. -/
import Derived.Test.YtidkahmjjknkmaaMh14
import Derived.Test.YtidkahmjjknkmaaMh15
import Derived.Test.YtidkahmjjknkmaaMh2
import Derived.Test.YtidkahmjjknkmaaMh12

/- The document's walk: a number, a text of the table, a name. -/
namespace Go.Proofs.Ytidkahmjjknkmaa
open Go.RowKit

theorem results_tc_row {P : Program} {fn : Func} {u p : Tmp} {ty : TypeId} (h : fn.results = #[.tmp u, .cell p ty]) (tmps : Array Value) (w : World) (g : Nat) (t : TypeId) (cs : Array Value) (fr : Nat × Nat) (d : TypeDesc)
    (hp : tmps.getD p undef = .pointer (some ⟨g, 0, none⟩)) (hg : w.heap[g]? = some (.cells cs t fr))
    (hu : P.underlying ty = some d) (hd : (match d with | .struct _ | .array _ _ => true | _ => false) = true) (hi : (P.info? ty).map (·.size) = some cs.size) :
    (results fn tmps).run P w = .ok (.tuple #[tmps.getD u undef, .agg cs]) w := by
  have hp' : tmps[p]?.getD undef = .pointer (some ⟨g, 0, none⟩) := by simpa using hp
  simp [results, h, hp', asAddr, run_loadVar_row w g t ty cs fr d hg hu hd hi]
theorem gr_zero {c : Cu} (h : c.nuR.2.2 ≠ 0) : c.nuR.1 = 0 := by
  unfold Cu.nuR at *
  rcases gr_three (c.bs.drop c.at_) 0 0 with hg | hg | ⟨m, k, hg⟩
  · rw [hg]
  · rw [hg]
  · rw [hg] at h; exact absurd rfl h
theorem bg_none {c : Cu} {m : Int} (h : (c.txR m).2.2 ≠ 0) : (c.txR m).1 = [] := by
  unfold Cu.txR bg at *
  simp only at *
  split
  · rfl
  · split
    · rfl
    · split
      · rfl
      · rename_i a b d
        rw [if_neg a, if_neg b, if_neg d] at h
        exact absurd rfl h
def atV (c : Cu) : Int := if c.e = 0 then (c.at_ : Int) else -1
/-- A walk as a value. -/
def wkV (c : Cu) (T : Option Addr) (n k : Nat) : Value := .agg #[.string (tx c.bs), .int .i64 (atV c), .slice T n k]

set_option maxRecDepth 100000 in
set_option maxHeartbeats 1000000 in
theorem wnum_core (s : ByteArray) (a y z : Int) (v : Nat) (T : Option Addr) (n k : Nat) (w : World) (hg : ∀ W, Calls Try.prog 83 #[.string s, .int .i64 a] W fun e w' => e = .returned (.tuple #[.int .u64 (v : Int), .int .i64 y, .int .i64 z]) ∧ W = w') :
    Calls Try.prog 65 #[.agg #[.string s, .int .i64 a, .slice T n k]] w fun e w' => e = .returned (.tuple #[.int .u64 (v : Int), .agg #[.string s, .int .i64 (if z = 0 then y else -1), .slice T n k]]) ∧ Below w.heap.size w w' := by
  have HG := Lib.hid hg
  clear hg
  by_cases hz : z = 0
  · subst hz
    rw [if_pos rfl]
    go_enter Try.func65, Try.ntmps65
    go_wp2_with fail
    refine (HG.out _).mono ?_
    rintro e w1 ⟨rfl, rfl⟩
    go_wp2
    go_region
    all_goals (try go_wp2)
    go_returns
    exact ⟨rfl, (((Below.refl _ w).alloc (Nat.le_refl _) _).alloc (by simp) _).drew⟩
  · rw [if_neg hz]
    have hz2 : (z != 0) = true := by simpa using hz
    go_enter Try.func65, Try.ntmps65
    go_wp2_with fail
    refine (HG.out _).mono ?_
    rintro e w1 ⟨rfl, rfl⟩
    go_wp2
    go_region
    all_goals (try go_wp2)
    go_returns
    exact ⟨rfl, (((Below.refl _ w).alloc (Nat.le_refl _) _).alloc (by simp) _).drew⟩

theorem atV_fail (c : Cu) (z : Int) (hz : z ≠ 0) : atV (c.fail z) = -1 := by
  unfold atV Cu.fail
  by_cases h : c.e = 0
  · rw [if_pos h, if_neg hz]
  · rw [if_neg h, if_neg h]
theorem wnum_any (c : Cu) (hok : c.ok) (hrm : c.bs.length ≤ 1000000) (T : Option Addr) (n k : Nat) (w : World) :
    Calls Try.prog 65 #[wkV c T n k] w fun e w' => e = .returned (.tuple #[.int .u64 (c.num.1 : Int), wkV c.num.2 T n k]) ∧ Below w.heap.size w w' := by
  unfold wkV
  rw [num_bs]
  by_cases h0 : c.e = 0
  · have ha : atV c = (c.at_ : Int) := if_pos h0
    rw [ha]
    have hg : ∀ W, Calls Try.prog 83 #[.string (tx c.bs), .int .i64 (c.at_ : Int)] W fun e w' => e = .returned (.tuple #[Value.int .u64 ((c.nuR.1 : Nat) : Int), .int .i64 (c.nuR.2.1 : Int), .int .i64 (c.nuR.2.2 : Int)]) ∧ W = w' :=
      fun W => refget_on c.at_ c.bs (by omega) hok W
    by_cases h1 : c.nuR.2.2 = 0
    · have e1 : c.num = (c.nuR.1, { c with at_ := c.nuR.2.1 }) := by simp only [Cu.num, Cu.tk, h0, h1, if_true]
      have h2 := wnum_core (tx c.bs) (c.at_ : Int) _ _ c.nuR.1 T n k w hg
      rw [if_pos (by omega)] at h2
      rw [e1]
      have e2 : atV { c with at_ := c.nuR.2.1 } = (c.nuR.2.1 : Int) := if_pos h0
      rw [e2]
      exact h2
    · have e1 : c.num = (0, { c with e := (c.nuR.2.2 : Int) }) := by simp only [Cu.num, Cu.tk, h0, if_true, if_neg h1]
      have h2 := wnum_core (tx c.bs) (c.at_ : Int) _ _ c.nuR.1 T n k w hg
      rw [if_neg (by omega), show c.nuR.1 = 0 from gr_zero h1] at h2
      rw [e1]
      have e2 : atV { c with e := (c.nuR.2.2 : Int) } = -1 := if_neg (by show ¬ (c.nuR.2.2 : Int) = 0; omega)
      rw [e2]
      exact h2
  · have ha : atV c = -1 := if_neg h0
    have e1 : c.num = (0, c) := Cu.tk_e h0
    rw [e1, ha]
    have h2 := wnum_core (tx c.bs) (-1) _ _ 0 T n k w (fun W => refget_bad (tx c.bs) (-1) (.inl (by omega)) W)
    rw [if_neg (by omega)] at h2
    skip
    exact h2

set_option maxRecDepth 100000 in
set_option maxHeartbeats 1000000 in
theorem wkn_in (s : ByteArray) (a : Int) (n : Nat) (T : Option Addr) (tn tk : Nat) (tl : List (List UInt8)) (hn : n < tl.length) (htn : tn ≤ 1000000) (w : World) (hr : Reads w w.heap.size 1 T tn (tl.map tsv)) :
    Calls Try.prog 68 #[.agg #[.string s, .int .i64 a, .slice T tn tk], .int .u64 (n : Int)] w fun e w' => e = .returned (.tuple #[.string (tx (ttext tl n)), .agg #[.string s, .int .i64 a, .slice T tn tk]]) ∧ Below w.heap.size w w' := by
  have hl : tl.length = tn := by have := hr.1; simpa using this
  have hb1 := (Below.refl w.heap.size w).alloc (Nat.le_refl _) (.cells #[.string s, .int .i64 a, .slice T tn tk] 101)
  have hb2 := hb1.alloc hb1.size (.cells #[.string ⟨#[]⟩, .int .i64 0, .slice none 0 0] 101)
  obtain ⟨ad, u, rfl, hab, hu, hc⟩ := (hr.below hb2).at_ (k := n) (by omega)
  obtain rfl : u = .string (tx (ttext tl n)) := by
    rw [List.getElem?_map, List.getElem?_eq_getElem hn] at hu
    have h1 : ttext tl n = tl[n] := by unfold ttext; rw [List.getElem?_eq_getElem hn]; rfl
    rw [h1]
    exact (Option.some.inj hu).symm
  have hlt : (n : Int) < (tn : Int) := by omega
  have hw1 : IntKind.u64.wrap (tn : Int) = (tn : Int) := by rw [show IntKind.u64.wrap (tn : Int) = (tn : Int) % 18446744073709551616 from rfl]; omega
  have hge : decide ((n : Int) ≥ (tn : Int)) = false := decide_eq_false (by omega)
  clear hr hu hb1 hb2
  go_enter Try.func68, Try.ntmps68
  go_wp2
  go_region
  all_goals (try go_wp2)
  go_returns
  exact ⟨rfl, (((Below.refl _ w).alloc (Nat.le_refl _) _).alloc (by simp) _).drew⟩
set_option maxRecDepth 100000 in
set_option maxHeartbeats 1000000 in
theorem wkn_out (s : ByteArray) (a : Int) (n : Nat) (T : Option Addr) (tn tk : Nat) (hn : tn ≤ n) (htn : tn ≤ 1000000) (w : World) :
    Calls Try.prog 68 #[.agg #[.string s, .int .i64 a, .slice T tn tk], .int .u64 (n : Int)] w fun e w' => e = .returned (.tuple #[.string (tx []), .agg #[.string s, .int .i64 (-1), .slice T tn tk]]) ∧ Below w.heap.size w w' := by
  have hw1 : IntKind.u64.wrap (tn : Int) = (tn : Int) := by rw [show IntKind.u64.wrap (tn : Int) = (tn : Int) % 18446744073709551616 from rfl]; omega
  have hge : decide ((n : Int) ≥ (tn : Int)) = true := decide_eq_true (by omega)
  go_enter Try.func68, Try.ntmps68
  go_wp2
  go_region
  all_goals (try go_wp2)
  go_returns
  exact ⟨rfl, (((Below.refl _ w).alloc (Nat.le_refl _) _).alloc (by simp) _).drew⟩
theorem wkn_any (c : Cu) (n : Nat) (T : Option Addr) (tn tk : Nat) (tl : List (List UInt8)) (htn : tn ≤ 1000000) (w : World) (hr : Reads w w.heap.size 1 T tn (tl.map tsv)) :
    Calls Try.prog 68 #[wkV c T tn tk, .int .u64 (n : Int)] w fun e w' => e = .returned (.tuple #[.string (tx (dKn tl n c).1), wkV (dKn tl n c).2 T tn tk]) ∧ Below w.heap.size w w' := by
  have hl : tl.length = tn := by have := hr.1; simpa using this
  unfold wkV
  rw [kn_bs]
  unfold dKn
  by_cases hn : n < tl.length
  · rw [if_pos hn]
    exact wkn_in _ _ n T tn tk tl hn htn w hr
  · rw [if_neg hn]
    simp only
    rw [atV_fail c 1 (by omega)]
    exact wkn_out _ _ n T tn tk (by omega) htn w

set_option maxRecDepth 100000 in
set_option maxHeartbeats 1000000 in
theorem wnm_one (s : ByteArray) (a y z : Int) (v : ByteArray) (T : Option Addr) (n k : Nat) (w : World) (hg : ∀ W, Calls Try.prog 84 #[.string s, .int .i64 a, .int .i64 64] W fun e w' => e = .returned (.tuple #[.string v, .int .i64 y, .int .i64 z]) ∧ W = w') :
    Calls Try.prog 66 #[.agg #[.string s, .int .i64 a, .slice T n k], .int .i64 1] w fun e w' => e = .returned (.tuple #[.string v, .agg #[.string s, .int .i64 (if z = 0 then y else -1), .slice T n k]]) ∧ Below w.heap.size w w' := by
  have HG := Lib.hid hg
  clear hg
  by_cases hz : z = 0
  · subst hz
    rw [if_pos rfl]
    go_enter Try.func66, Try.ntmps66
    go_wp2_with fail
    refine (HG.out _).mono ?_
    rintro e w1 ⟨rfl, rfl⟩
    go_wp2
    go_region
    all_goals (try go_wp2)
    go_returns
    exact ⟨rfl, (((Below.refl _ w).alloc (Nat.le_refl _) _).alloc (by simp) _).drew⟩
  · rw [if_neg hz]
    have hz2 : (z != 0) = true := by simpa using hz
    go_enter Try.func66, Try.ntmps66
    go_wp2_with fail
    refine (HG.out _).mono ?_
    rintro e w1 ⟨rfl, rfl⟩
    go_wp2
    go_region
    all_goals (try go_wp2)
    go_returns
    exact ⟨rfl, (((Below.refl _ w).alloc (Nat.le_refl _) _).alloc (by simp) _).drew⟩

/-- A walk's box behind a call. -/
theorem wk_set {w : World} {g : Nat} {t : TypeId} {x y z : Value} (h : w.heap[g]? = some (.cells #[x, y, z] t (0, 0))) (a b c : Value) :
    (((w.setCell ⟨g, 0, none⟩ a).setCell ⟨g, 1, none⟩ b).setCell ⟨g, 2, none⟩ c).heap[g]? = some (.cells #[a, b, c] t (0, 0)) := set_same (set_same (set_same h 0 a) 1 b) 2 c
set_option maxRecDepth 100000 in
set_option maxHeartbeats 1000000 in
theorem wnm_two (s : ByteArray) (a a1 a2 ver : Int) (hv : ver ≠ 1) (m : Nat) (v : ByteArray) (T : Option Addr) (n k : Nat) (w : World)
    (hg : ∀ W, Below w.heap.size w W → Calls Try.prog 65 #[.agg #[.string s, .int .i64 a, .slice T n k]] W fun e w' => e = .returned (.tuple #[.int .u64 (m : Int), .agg #[.string s, .int .i64 a1, .slice T n k]]) ∧ Below W.heap.size W w')
    (hk : ∀ W, Below w.heap.size w W → Calls Try.prog 68 #[.agg #[.string s, .int .i64 a1, .slice T n k], .int .u64 (m : Int)] W fun e w' => e = .returned (.tuple #[.string v, .agg #[.string s, .int .i64 a2, .slice T n k]]) ∧ Below W.heap.size W w') :
    Calls Try.prog 66 #[.agg #[.string s, .int .i64 a, .slice T n k], .int .i64 ver] w fun e w' => e = .returned (.tuple #[.string v, .agg #[.string s, .int .i64 a2, .slice T n k]]) ∧ Below w.heap.size w w' := by
  have HG := Lib.hid hg
  have HK := Lib.hid hk
  clear hg hk
  have hb1 := (Below.refl w.heap.size w).alloc (Nat.le_refl _) (.cells #[.string s, .int .i64 a, .slice T n k] 101)
  have hb2 := hb1.alloc hb1.size (.cells #[.string ⟨#[]⟩, .int .i64 0, .slice none 0 0] 101)
  have hz1 : (w.alloc (.cells #[.string s, .int .i64 a, .slice T n k] 101)).heap.size = w.heap.size + 1 := by simp
  have h1 := (Below.heap_alloc (w.alloc (.cells #[.string s, .int .i64 a, .slice T n k] 101)) (.cells #[.string ⟨#[]⟩, .int .i64 0, .slice none 0 0] 101) w.heap.size (by rw [hz1]; omega)).trans (one_new w (.cells #[.string s, .int .i64 a, .slice T n k] 101))
  have h2 := one_new (w.alloc (.cells #[.string s, .int .i64 a, .slice T n k] 101)) (.cells #[.string ⟨#[]⟩, .int .i64 0, .slice none 0 0] 101)
  rw [hz1] at h2
  have HB2 := Lib.hid hb2
  have H1 := Lib.hid h1
  have H2 := Lib.hid h2
  have HS2 : Hid (((w.alloc (.cells #[.string s, .int .i64 a, .slice T n k] 101)).alloc (.cells #[.string ⟨#[]⟩, .int .i64 0, .slice none 0 0] 101)).heap.size = w.heap.size + 2) := (by show _ = _; simp)
  clear hb1 hb2 hz1 h1 h2
  go_enter Try.func66, Try.ntmps66
  go_wp2_with fail
  refine (HG.out _ HB2.out).mono ?_
  rintro e w3 ⟨rfl, hb3⟩
  have hx := (hb3.block w.heap.size (by rw [HS2.out]; omega)).trans H1.out
  have hy := (hb3.block (w.heap.size + 1) (by rw [HS2.out]; omega)).trans H2.out
  have HB3 := Lib.hid (HB2.out.trans (hb3.mono HB2.out.size))
  have HX := Lib.hid hx
  have HY := Lib.hid hy
  have HS3 : Hid (w.heap.size + 2 ≤ w3.heap.size) := (by have := hb3.size; rw [HS2.out] at this; exact this)
  have g0 := at_cell (i := 0) hx rfl
  have g1 := at_cell (i := 1) hx rfl
  have g2 := at_cell (i := 2) hx rfl
  have y0 : w3.frozen? ⟨w.heap.size, 0, none⟩ = false := at_frozen hx
  have y1 : w3.frozen? ⟨w.heap.size, 1, none⟩ = false := at_frozen hx
  have y2 : w3.frozen? ⟨w.heap.size, 2, none⟩ = false := at_frozen hx
  clear hb3 hx hy
  go_wp2_with fail
  have hb4 : Below w.heap.size w (((w3.setCell ⟨w.heap.size, 0, none⟩ (.string s)).setCell ⟨w.heap.size, 1, none⟩ (.int .i64 a1)).setCell ⟨w.heap.size, 2, none⟩ (.slice T n k)) := ((HB3.out.setCell (p := ⟨w.heap.size, 0, none⟩) (Nat.le_refl _) _).setCell (p := ⟨w.heap.size, 1, none⟩) (Nat.le_refl _) _).setCell (p := ⟨w.heap.size, 2, none⟩) (Nat.le_refl _) _
  have hn : w.heap.size + 1 ≠ w.heap.size := by omega
  have hy4 : (((w3.setCell ⟨w.heap.size, 0, none⟩ (.string s)).setCell ⟨w.heap.size, 1, none⟩ (.int .i64 a1)).setCell ⟨w.heap.size, 2, none⟩ (.slice T n k)).heap[w.heap.size + 1]? = some (.cells #[.string ⟨#[]⟩, .int .i64 0, .slice none 0 0] 101) := (Below.heap_setCell _ _ _ _ hn).trans ((Below.heap_setCell _ _ _ _ hn).trans ((Below.heap_setCell _ _ _ _ hn).trans HY.out))
  have hs4 : w.heap.size + 2 ≤ (((w3.setCell ⟨w.heap.size, 0, none⟩ (.string s)).setCell ⟨w.heap.size, 1, none⟩ (.int .i64 a1)).setCell ⟨w.heap.size, 2, none⟩ (.slice T n k)).heap.size := by simpa using HS3.out
  obtain ⟨w4, hw4⟩ : ∃ x, x = ((w3.setCell ⟨w.heap.size, 0, none⟩ (.string s)).setCell ⟨w.heap.size, 1, none⟩ (.int .i64 a1)).setCell ⟨w.heap.size, 2, none⟩ (.slice T n k) := ⟨_, rfl⟩
  rw [← hw4] at hb4 hy4 hs4 ⊢
  refine (HK.out w4 hb4).mono ?_
  rintro e w5 ⟨rfl, hb5⟩
  have hy5 := (hb5.block (w.heap.size + 1) (by omega)).trans hy4
  have HY5 := Lib.hid hy5
  have HB5 := Lib.hid (hb4.trans (hb5.mono hb4.size))
  have f0 := at_cell (i := 0) hy5 rfl
  have f1 := at_cell (i := 1) hy5 rfl
  have f2 := at_cell (i := 2) hy5 rfl
  have z0 : w5.frozen? ⟨w.heap.size + 1, 0, none⟩ = false := at_frozen hy5
  have z1 : w5.frozen? ⟨w.heap.size + 1, 1, none⟩ = false := at_frozen hy5
  have z2 : w5.frozen? ⟨w.heap.size + 1, 2, none⟩ = false := at_frozen hy5
  clear hb4 hy4 hs4 hw4 hb5 hy5 g0 g1 g2 y0 y1 y2 hn
  go_wp2
  (try simp only [Exit.inBlock, Exit.then])
  refine bodyPost_ret (results_tc_row Try.results66 _ _ (w.heap.size + 1) _ _ (0, 0) _ rfl (wk_set HY5.out _ _ _) Try.underlying101 rfl (by kernel_rfl)) rfl ?_
  exact ⟨rfl, ((HB5.out.setCell (p := ⟨w.heap.size + 1, 0, none⟩) (by simp) _).setCell (p := ⟨w.heap.size + 1, 1, none⟩) (by simp) _).setCell (p := ⟨w.heap.size + 1, 2, none⟩) (by simp) _⟩
theorem num_ok {c : Cu} (h : c.ok) : c.num.2.ok := (Cu.num_to h).good
theorem wnm_any (ver : Int) (c : Cu) (hok : c.ok) (hrm : c.bs.length ≤ 1000000) (T : Option Addr) (tn tk : Nat) (tl : List (List UInt8)) (htn : tn ≤ 1000000) (w : World) (hr : Reads w w.heap.size 1 T tn (tl.map tsv)) :
    Calls Try.prog 66 #[wkV c T tn tk, .int .i64 ver] w fun e w' => e = .returned (.tuple #[.string (tx (dNm ver tl c).1), wkV (dNm ver tl c).2 T tn tk]) ∧ Below w.heap.size w w' := by
  unfold dNm
  by_cases hv : ver = 1
  · subst hv
    rw [if_pos rfl]
    unfold wkV
    rw [text_bs]
    by_cases h0 : c.e = 0
    · have ha : atV c = (c.at_ : Int) := if_pos h0
      rw [ha]
      have hg : ∀ W, Calls Try.prog 84 #[.string (tx c.bs), .int .i64 (c.at_ : Int), .int .i64 64] W fun e w' => e = .returned (.tuple #[Value.string (tx (c.txR 64).1), .int .i64 ((c.txR 64).2.1 : Int), .int .i64 ((c.txR 64).2.2 : Int)]) ∧ W = w' :=
        fun W => rbget_any c.at_ 64 c.bs (by omega) (by omega) hok W
      have h2 := wnm_one (tx c.bs) (c.at_ : Int) _ _ (tx (c.txR 64).1) T tn tk w hg
      by_cases h1 : (c.txR 64).2.2 = 0
      · have e1 : c.text 64 = ((c.txR 64).1, { c with at_ := (c.txR 64).2.1 }) := by simp only [Cu.text, Cu.tk, h0, h1, if_true]
        rw [if_pos (by omega)] at h2
        rw [e1]
        have e2 : atV { c with at_ := (c.txR 64).2.1 } = ((c.txR 64).2.1 : Int) := if_pos h0
        rw [e2]
        exact h2
      · have e1 : c.text 64 = ([], { c with e := ((c.txR 64).2.2 : Int) }) := by simp only [Cu.text, Cu.tk, h0, if_true, if_neg h1]
        rw [if_neg (by omega), show (c.txR 64).1 = [] from bg_none h1] at h2
        rw [e1]
        have e2 : atV { c with e := ((c.txR 64).2.2 : Int) } = -1 := if_neg (by show ¬ ((c.txR 64).2.2 : Int) = 0; omega)
        rw [e2]
        exact h2
    · have ha : atV c = -1 := if_neg h0
      have e1 : c.text 64 = ([], c) := Cu.tk_e h0
      rw [e1, ha]
      have h2 := wnm_one (tx c.bs) (-1) _ _ (tx []) T tn tk w (fun W => rbget_bad c.bs (-1) 64 (.inl (by omega)) W)
      rw [if_neg (by simp)] at h2
      skip
      exact h2
  · rw [if_neg hv]
    have hk := fun W (hW : Below w.heap.size w W) => wkn_any c.num.2 c.num.1 T tn tk tl htn W ((hr.below hW).more hW.size)
    have hg := fun W (_ : Below w.heap.size w W) => wnum_any c hok hrm T tn tk W
    unfold wkV at *
    rw [num_bs] at hk hg
    rw [kn_bs] at hk ⊢
    rw [num_bs] at hk ⊢
    exact wnm_two (tx c.bs) (atV c) _ _ ver hv c.num.1 _ T tn tk w hg hk

end Go.Proofs.Ytidkahmjjknkmaa

/- The document's walk: what stands within a round over the deps. -/
namespace Go.Proofs.Ytidkahmjjknkmaa
open Go.RowKit

/-- Behind a step: as far, at least. -/
structure Adv (c d : Cu) : Prop where
  ok : d.ok
  bs : d.bs = c.bs
  on : d.e = 0 → c.e = 0 ∧ c.at_ ≤ d.at_
theorem Adv.refl {c : Cu} (h : c.ok) : Adv c c := ⟨h, rfl, fun h => ⟨h, Nat.le_refl _⟩⟩
theorem Adv.trans {a b c : Cu} (h : Adv a b) (k : Adv b c) : Adv a c := ⟨k.ok, k.bs.trans h.bs, fun e => by
  obtain ⟨h1, h2⟩ := k.on e
  obtain ⟨h3, h4⟩ := h.on h1
  exact ⟨h3, by omega⟩⟩
theorem Adv.of_to {c d : Cu} (h : Cu.To c d) : Adv c d := ⟨h.good, h.bs, fun e => by
  refine ⟨?_, h.le⟩
  rcases Classical.em (c.e = 0) with h1 | h1
  · exact h1
  · have := h.stay h1; rw [this] at e; exact absurd e h1⟩
theorem num_adv {c : Cu} (h : c.ok) : Adv c c.num.2 := .of_to (Cu.num_to h)
theorem num_adv1 {c : Cu} (h : c.ok) (he : c.num.2.e = 0) : c.at_ + 1 ≤ c.num.2.at_ := by
  have h0 := ((num_adv h).on he).1
  have h1 : c.nuR.2.2 = 0 := by
    rcases Classical.em (c.nuR.2.2 = 0) with h1 | h1
    · exact h1
    · have e1 : c.num = (0, { c with e := (c.nuR.2.2 : Int) }) := by simp only [Cu.num, Cu.tk, h0, if_true, if_neg h1]
      rw [e1] at he
      have : (c.nuR.2.2 : Int) = 0 := he
      omega
  have e1 : c.num = (c.nuR.1, { c with at_ := c.nuR.2.1 }) := by simp only [Cu.num, Cu.tk, h0, h1, if_true]
  rw [e1]
  exact (Cu.nuR_in h h1).1
theorem text_adv {c : Cu} (h : c.ok) (m : Int) : Adv c (c.text m).2 := .of_to (Cu.text_to h m)
theorem kn_adv (tl : List (List UInt8)) (n : Nat) {c : Cu} (h : c.ok) : Adv c (dKn tl n c).2 := by
  unfold dKn
  split
  · exact .refl h
  · exact .of_to (Cu.fail_to h 1)
theorem nm_adv (ver : Int) (tl : List (List UInt8)) {c : Cu} (h : c.ok) : Adv c (dNm ver tl c).2 := by
  unfold dNm
  split
  · exact text_adv h 64
  · exact (num_adv h).trans (kn_adv tl _ (num_adv h).ok)
theorem dp_adv (ver : Int) (tl : List (List UInt8)) {c : Cu} (h : c.ok) : Adv c (dDp ver tl c).2 ∧ ((dDp ver tl c).2.e = 0 → c.at_ + 1 ≤ (dDp ver tl c).2.at_) := by
  unfold dDp
  split
  · have h1 := nm_adv ver tl h
    refine ⟨h1.trans (num_adv h1.ok), fun e => ?_⟩
    have h2 := num_adv1 h1.ok e
    have h3 := ((num_adv h1.ok).on e).1
    have h4 := (h1.on h3).2
    simp only at *
    omega
  · have h0 := num_adv h
    have h1 := kn_adv tl (c.num.1 / 2) h0.ok
    refine ⟨(h0.trans h1).trans (num_adv h1.ok), fun e => ?_⟩
    have h2 := num_adv1 h1.ok e
    have h3 := ((num_adv h1.ok).on e).1
    have h4 := ((h0.trans h1).on h3).2
    simp only at *
    omega
theorem ds_adv (ver : Int) (tl : List (List UInt8)) {c : Cu} (h : c.ok) : ∀ i, Adv c (dDs ver tl i ([], c)).2 ∧ ((dDs ver tl i ([], c)).2.e = 0 → i ≤ (dDs ver tl i ([], c)).2.at_ ∧ (dDs ver tl i ([], c)).1.length = i)
  | 0 => ⟨.refl h, fun _ => ⟨Nat.zero_le _, rfl⟩⟩
  | i + 1 => by
    obtain ⟨h1, h2⟩ := ds_adv ver tl h i
    by_cases e0 : (dDs ver tl i ([], c)).2.e = 0
    · have e : dDs ver tl (i + 1) ([], c) = ((dDs ver tl i ([], c)).1 ++ [(dDp ver tl (dDs ver tl i ([], c)).2).1], (dDp ver tl (dDs ver tl i ([], c)).2).2) := if_pos e0
      rw [e]
      obtain ⟨h3, h4⟩ := dp_adv ver tl h1.ok
      refine ⟨h1.trans h3, fun e1 => ?_⟩
      have h5 := h4 e1
      have h6 := h2 e0
      simp only [List.length_append, List.length_singleton]
      omega
    · have e : dDs ver tl (i + 1) ([], c) = dDs ver tl i ([], c) := if_neg e0
      rw [e]
      exact ⟨h1, fun e1 => absurd e1 e0⟩
theorem ds_stuck (ver : Int) (tl : List (List UInt8)) (s : List Dp × Cu) {i : Nat} (he : (dDs ver tl i s).2.e ≠ 0) : ∀ k, dDs ver tl (i + k) s = dDs ver tl i s
  | 0 => rfl
  | k + 1 => by
    have h := ds_stuck ver tl s he k
    show (if (dDs ver tl (i + k) s).2.e = 0 then _ else dDs ver tl (i + k) s) = _
    rw [h, if_neg he]
theorem ds_len (ver : Int) (tl : List (List UInt8)) (s : List Dp × Cu) : ∀ i, (dDs ver tl i s).1.length ≤ s.1.length + i
  | 0 => Nat.le_refl _
  | i + 1 => by
    have h := ds_len ver tl s i
    show (if (dDs ver tl i s).2.e = 0 then ((dDs ver tl i s).1 ++ [(dDp ver tl (dDs ver tl i s).2).1], (dDp ver tl (dDs ver tl i s).2).2) else dDs ver tl i s).1.length ≤ _
    split
    · simp only [List.length_append, List.length_singleton]; omega
    · omega

/-- What stands within a round: the walk's box, the other one, the dep's box, the row. -/
structure DpS (w0 W : World) (base : Nat) (va : Value) (l : List Dp) (b3 b7 db : Nat) (s : ByteArray) (a : Int) (T : Option Addr) (n k : Nat) (nm : ByteArray) (h : Int) (o : Bool) : Prop where
  x3 : W.heap[b3]? = some (.cells #[.string s, .int .i64 a, .slice T n k] 101 (0, 0))
  x7 : W.heap[b7]? = some (.cells #[.string ⟨#[]⟩, .int .i64 0, .slice none 0 0] 101 (0, 0))
  xd : W.heap[db]? = some (.cells #[.string nm, .int .u64 h, .bool o] 55 (0, 0))
  own : W.ownsRow base 55 3 va l.length (dps l)
  b : Below w0.heap.size w0 W
  h3 : w0.heap.size ≤ b3
  hd : w0.heap.size ≤ db
  n37 : b3 ≠ b7
  n3d : b3 ≠ db
  n7d : b7 ≠ db
  o3 : va.ownBlock ≠ some b3
  o7 : va.ownBlock ≠ some b7
  od : va.ownBlock ≠ some db
section
variable {w0 W W' : World} {base : Nat} {va : Value} {l : List Dp} {b3 b7 db : Nat} {s : ByteArray} {a : Int} {T : Option Addr} {n k : Nat} {nm : ByteArray} {h : Int} {o : Bool}
theorem lt_heapw {o : Obj} (h : W.heap[b3]? = some o) : b3 < W.heap.size := (Array.getElem?_eq_some_iff.1 h).1
theorem DpS.call (q : DpS w0 W base va l b3 b7 db s a T n k nm h o) (hb : Below W.heap.size W W') : DpS w0 W' base va l b3 b7 db s a T n k nm h o :=
  ⟨(hb.block b3 (lt_heapw q.x3)).trans q.x3, (hb.block b7 (lt_heapw q.x7)).trans q.x7, (hb.block db (lt_heapw q.xd)).trans q.xd, own_below q.own hb, q.b.trans (hb.mono q.b.size), q.h3, q.hd, q.n37, q.n3d, q.n7d, q.o3, q.o7, q.od⟩
theorem DpS.walk (q : DpS w0 W base va l b3 b7 db s a T n k nm h o) (a' : Int) : DpS w0 (((W.setCell ⟨b3, 0, none⟩ (.string s)).setCell ⟨b3, 1, none⟩ (.int .i64 a')).setCell ⟨b3, 2, none⟩ (.slice T n k)) base va l b3 b7 db s a' T n k nm h o :=
  ⟨wk_set q.x3 _ _ _, (Below.heap_setCell _ _ _ _ q.n37.symm).trans ((Below.heap_setCell _ _ _ _ q.n37.symm).trans ((Below.heap_setCell _ _ _ _ q.n37.symm).trans q.x7)), (Below.heap_setCell _ _ _ _ q.n3d.symm).trans ((Below.heap_setCell _ _ _ _ q.n3d.symm).trans ((Below.heap_setCell _ _ _ _ q.n3d.symm).trans q.xd)),
    ownsRow_setCell_other (ownsRow_setCell_other (ownsRow_setCell_other q.own q.o3 _) q.o3 _) q.o3 _, ((q.b.setCell (p := ⟨b3, 0, none⟩) q.h3 _).setCell (p := ⟨b3, 1, none⟩) q.h3 _).setCell (p := ⟨b3, 2, none⟩) q.h3 _, q.h3, q.hd, q.n37, q.n3d, q.n7d, q.o3, q.o7, q.od⟩
theorem DpS.cell0 (q : DpS w0 W base va l b3 b7 db s a T n k nm h o) (x : ByteArray) : DpS w0 (W.setCell ⟨db, 0, none⟩ (.string x)) base va l b3 b7 db s a T n k x h o :=
  ⟨(Below.heap_setCell _ _ _ _ q.n3d).trans q.x3, (Below.heap_setCell _ _ _ _ q.n7d).trans q.x7, set_same q.xd 0 _, ownsRow_setCell_other q.own q.od _, q.b.setCell (p := ⟨db, 0, none⟩) q.hd _, q.h3, q.hd, q.n37, q.n3d, q.n7d, q.o3, q.o7, q.od⟩
theorem DpS.cell1 (q : DpS w0 W base va l b3 b7 db s a T n k nm h o) (x : Int) : DpS w0 (W.setCell ⟨db, 1, none⟩ (.int .u64 x)) base va l b3 b7 db s a T n k nm x o :=
  ⟨(Below.heap_setCell _ _ _ _ q.n3d).trans q.x3, (Below.heap_setCell _ _ _ _ q.n7d).trans q.x7, set_same q.xd 1 _, ownsRow_setCell_other q.own q.od _, q.b.setCell (p := ⟨db, 1, none⟩) q.hd _, q.h3, q.hd, q.n37, q.n3d, q.n7d, q.o3, q.o7, q.od⟩
theorem DpS.cell2 (q : DpS w0 W base va l b3 b7 db s a T n k nm h o) (x : Bool) : DpS w0 (W.setCell ⟨db, 2, none⟩ (.bool x)) base va l b3 b7 db s a T n k nm h x :=
  ⟨(Below.heap_setCell _ _ _ _ q.n3d).trans q.x3, (Below.heap_setCell _ _ _ _ q.n7d).trans q.x7, set_same q.xd 2 _, ownsRow_setCell_other q.own q.od _, q.b.setCell (p := ⟨db, 2, none⟩) q.hd _, q.h3, q.hd, q.n37, q.n3d, q.n7d, q.o3, q.o7, q.od⟩
end

theorem size_walk : (Try.prog.info? 101).map (·.size) = some 3 := by kernel_rfl
section
variable {w0 w : World} {base : Nat} {va : Value} {l : List Dp} {b3 b7 db : Nat} {s : ByteArray} {a : Int} {T : Option Addr} {n k : Nat} {nm : ByteArray} {h : Int} {o : Bool} {ops : Array Oper} {rest : List Oper} {op : Oper} {ac : Act} {Q : Exit → Act → World → Prop}
theorem wpList_dc0 (q : DpS w0 w base va l b3 b7 db s a T n k nm h o) (hgd : op.guard = none) (x y : Operand) (ho : op.op = .store 9 x y) (hx : ac.eval x = .pointer (some ⟨db, 0, none⟩)) (v : ByteArray) (hy : ac.eval y = .string v)
    (hK : ∀ w', DpS w0 w' base va l b3 b7 db s a T n k v h o → wpList Try.prog ops Q rest (ac.put op.dst undef) w') : wpList Try.prog ops Q (op :: rest) ac w := by
  refine wpList_plain hgd fun K hK' => ?_
  have hc := at_cell (i := 0) q.xd rfl
  have hf : w.frozen? ⟨db, 0, none⟩ = false := at_frozen q.xd
  unfold Oper.wp execOp
  simp only [ho, hx, hy]
  go_simp
  exact hK' _ _ (hK _ (q.cell0 v))
theorem wpList_dc1 (q : DpS w0 w base va l b3 b7 db s a T n k nm h o) (hgd : op.guard = none) (x y : Operand) (ho : op.op = .store 23 x y) (hx : ac.eval x = .pointer (some ⟨db, 1, none⟩)) (v : Int) (hy : ac.eval y = .int .u64 v)
    (hK : ∀ w', DpS w0 w' base va l b3 b7 db s a T n k nm v o → wpList Try.prog ops Q rest (ac.put op.dst undef) w') : wpList Try.prog ops Q (op :: rest) ac w := by
  refine wpList_plain hgd fun K hK' => ?_
  have hc := at_cell (i := 1) q.xd rfl
  have hf : w.frozen? ⟨db, 1, none⟩ = false := at_frozen q.xd
  unfold Oper.wp execOp
  simp only [ho, hx, hy]
  go_simp
  exact hK' _ _ (hK _ (q.cell1 v))
theorem wpList_dc2 (q : DpS w0 w base va l b3 b7 db s a T n k nm h o) (hgd : op.guard = none) (x y : Operand) (ho : op.op = .store 4 x y) (hx : ac.eval x = .pointer (some ⟨db, 2, none⟩)) (v : Bool) (hy : ac.eval y = .bool v)
    (hK : ∀ w', DpS w0 w' base va l b3 b7 db s a T n k nm h v → wpList Try.prog ops Q rest (ac.put op.dst undef) w') : wpList Try.prog ops Q (op :: rest) ac w := by
  refine wpList_plain hgd fun K hK' => ?_
  have hc := at_cell (i := 2) q.xd rfl
  have hf : w.frozen? ⟨db, 2, none⟩ = false := at_frozen q.xd
  unfold Oper.wp execOp
  simp only [ho, hx, hy]
  go_simp
  exact hK' _ _ (hK _ (q.cell2 v))
theorem wpList_dwk (q : DpS w0 w base va l b3 b7 db s a T n k nm h o) (hgd : op.guard = none) (x y : Operand) (ho : op.op = .store 101 x y) (hx : ac.eval x = .pointer (some ⟨b3, 0, none⟩)) (v : Int) (hy : ac.eval y = .agg #[.string s, .int .i64 v, .slice T n k])
    (hK : ∀ w', DpS w0 w' base va l b3 b7 db s v T n k nm h o → wpList Try.prog ops Q rest (ac.put op.dst undef) w') : wpList Try.prog ops Q (op :: rest) ac w := by
  refine wpList_plain hgd fun K hK' => ?_
  have hrow : (storeVar 101 ⟨b3, 0, none⟩ (.agg #[.string s, .int .i64 v, .slice T n k])).run Try.prog w = .ok () (w.setCells b3 0 [.string s, .int .i64 v, .slice T n k]) := by
    have hs := run_storeCells_cells (P := Try.prog) b3 0 [.string s, .int .i64 v, .slice T n k] 0 w (fun j hj => by
        have hj2 : j < 3 := hj
        simp [World.cell?, q.x3]
        omega) (fun j _ => at_frozen q.x3) (by intro v hv; simp at hv; rcases hv with rfl | rfl | rfl <;> rfl)
    have hsz := size_walk
    cases hq : Try.prog.info? 101 with
    | none => simp [hq] at hsz
    | some q9 =>
      have hs4 : q9.size = 3 := by simpa [hq] using hsz
      have hc : (Value.agg #[.string s, .int .i64 v, .slice T n k]).cells.toList = [.string s, .int .i64 v, .slice T n k] := rfl
      have hcs : (Value.agg #[.string s, .int .i64 v, .slice T n k]).cells.size = 3 := rfl
      simp [storeVar, sizeOf, typeInfo, hq, hcs, hs4, hc]
      simpa using hs
  unfold Oper.wp execOp
  simp only [ho, hx, hy, Instr.storeAt, Instr.sureAddr, Sem.run_bind, Sem.run_pure, Result.andThen_ok, hrow]
  exact hK' _ _ (hK _ (q.walk v))
end

end Go.Proofs.Ytidkahmjjknkmaa
