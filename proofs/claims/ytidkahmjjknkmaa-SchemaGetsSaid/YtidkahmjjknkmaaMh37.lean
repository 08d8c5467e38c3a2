/- Texts of one proof, one behind the other. -/
import Derived.Test.YtidkahmjjknkmaaMh36
import Derived.Test.YtidkahmjjknkmaaMh26
import Derived.Test.YtidkahmjjknkmaaMh35
import Derived.Test.YtidkahmjjknkmaaMh10
import Derived.Test.YtidkahmjjknkmaaMh6
import Derived.Test.YtidkahmjjknkmaaMh11

/- SchemaGets where too much is handed in. -/
namespace Go.Proofs.Ytidkahmjjknkmaa
open Go.RowKit

theorem pls_of_rowsz {w : World} {base : Nat} {S : Nat → Prop} {A : Option Addr} {c : Nat} {ps : List (List UInt8)} {vs : List Value} (h : RowsV w base S (.slice A ps.length c) ps vs) : Pls w w.heap.size A ps.length ps := by
  obtain ⟨h1, h2, h3, h4⟩ := h
  refine ⟨vs, Reads.of_own h1, rfl, fun i p hp => ?_⟩
  obtain ⟨v, h5, h6, h7⟩ := h4 i p hp
  obtain ⟨A', c', rfl, _⟩ := own_slice h6
  exact ⟨A', c', h5, Reads.of_own h6⟩

set_option maxRecDepth 100000 in
set_option maxHeartbeats 40000000 in
theorem sgets_few (ver at_ : Int) (L P : Option Addr) (nL cL nP cP : Nat) (ts ps : List (List UInt8)) (hnL : nL ≤ maxLen) (hts : ∀ s ∈ ts, s.length ≤ maxLen) (hnP : nP ≤ maxLen) (hps : ∀ s ∈ ps, s.length ≤ maxLen) (w : World) (hrL : Reads w w.heap.size 1 L nL (ts.map tsv)) (hrP : Reads w w.heap.size 1 P nP (ps.map tsv)) (hf : ¬ fewP ts) :
    Calls Try.prog 4 #[.slice L nL cL, .slice P nP cP, .agg #[.int .i64 ver, .int .i64 at_]] w fun e w' => e = .returned (.bool true) ∧ Below w.heap.size w w' := by
  have hb0 := (Below.refl w.heap.size w).alloc (Nat.le_refl _) (.cells #[.int .i64 ver, .int .i64 at_] 47)
  have hbx := one_new w (.cells #[.int .i64 ver, .int .i64 at_] 47)
  have HBX := Lib.hid hbx
  have HB0 := Lib.hid hb0
  have HFEW := Lib.hid (fun W (hb : Below w.heap.size w W) => few_any L nL cL ts hnL hts W ((hrL.below hb).more hb.size))
  have HFEWP := Lib.hid (fun W (hb : Below w.heap.size w W) => few_any P nP cP ps hnP hps W ((hrP.below hb).more hb.size))
  have HF := Lib.hid hf
  clear hb0 hbx hf hrL hrP hts hps
  go_enter Try.func4, Try.ntmps4
  go_wp2_with fail
  refine (HFEW.out _ HB0.out).mono ?_
  rintro e w3 ⟨he, rfl⟩
  obtain rfl := he.no HF.out
  clear he
  go_wp2_with fail
  refine (sfixed_any _).mono ?_
  rintro e w4 ⟨rfl, hb⟩
  have HB4 := Lib.hid (HB0.out.trans (hb.mono HB0.out.size))
  clear hb
  go_wp2
  go_ret
  exact ⟨rfl, HB4.out⟩

set_option maxRecDepth 100000 in
set_option maxHeartbeats 40000000 in
theorem sgets_fewp (ver at_ : Int) (L P : Option Addr) (nL cL nP cP : Nat) (ts ps : List (List UInt8)) (hnL : nL ≤ maxLen) (hts : ∀ s ∈ ts, s.length ≤ maxLen) (hnP : nP ≤ maxLen) (hps : ∀ s ∈ ps, s.length ≤ maxLen) (w : World) (hrL : Reads w w.heap.size 1 L nL (ts.map tsv)) (hrP : Reads w w.heap.size 1 P nP (ps.map tsv)) (hf : fewP ts) (hg : ¬ fewP ps) :
    Calls Try.prog 4 #[.slice L nL cL, .slice P nP cP, .agg #[.int .i64 ver, .int .i64 at_]] w fun e w' => e = .returned (.bool true) ∧ Below w.heap.size w w' := by
  have hb0 := (Below.refl w.heap.size w).alloc (Nat.le_refl _) (.cells #[.int .i64 ver, .int .i64 at_] 47)
  have hbx := one_new w (.cells #[.int .i64 ver, .int .i64 at_] 47)
  have HBX := Lib.hid hbx
  have HB0 := Lib.hid hb0
  have HFEW := Lib.hid (fun W (hb : Below w.heap.size w W) => few_any L nL cL ts hnL hts W ((hrL.below hb).more hb.size))
  have HFEWP := Lib.hid (fun W (hb : Below w.heap.size w W) => few_any P nP cP ps hnP hps W ((hrP.below hb).more hb.size))
  have HF := Lib.hid hf
  have HG := Lib.hid hg
  clear hb0 hbx hf hg hrL hrP hts hps
  go_enter Try.func4, Try.ntmps4
  go_wp2_with fail
  refine (HFEW.out _ HB0.out).mono ?_
  rintro e w3 ⟨he, rfl⟩
  obtain rfl := he.yes HF.out
  clear he
  go_wp2_with fail
  refine (HFEWP.out _ HB0.out).mono ?_
  rintro e w3 ⟨he, rfl⟩
  obtain rfl := he.no HG.out
  clear he
  go_wp2_with fail
  refine (sfixed_any _).mono ?_
  rintro e w4 ⟨rfl, hb⟩
  have HB4 := Lib.hid (HB0.out.trans (hb.mono HB0.out.size))
  clear hb
  go_wp2
  go_ret
  exact ⟨rfl, HB4.out⟩

set_option maxRecDepth 100000 in
set_option maxHeartbeats 40000000 in
theorem sgets_main (ver at_ : Int) (L P : Option Addr) (nL cL nP cP : Nat) (ts ps : List (List UInt8)) (hnL : nL ≤ maxLen) (hts : ∀ s ∈ ts, s.length ≤ maxLen) (hnP : nP ≤ maxLen) (hps : ∀ s ∈ ps, s.length ≤ maxLen) (w : World) (hrL : Reads w w.heap.size 1 L nL (ts.map tsv)) (hrP : Reads w w.heap.size 1 P nP (ps.map tsv)) (hf : fewP ts) (hg : fewP ps) (r : Rc) (l : List Dp) (nx e9 : Int) (tl9 : List (List UInt8)) (hl : l.length ≤ 1000) (htl9 : tl9.length ≤ 100000) (hcP : nP ≤ cP)
    (HX1 : Hid (UP ver (tnew ts) ps at_ r l nx e9 tl9)) (HX2 : Hid (UD ver (tnew ts) ps at_ r l nx e9 tl9)) (HY : Hid (e9 = 0 → ∃ a j : Nat, at_ = (a : Int) ∧ nx = ((a + j + 1 : Nat) : Int) ∧ a + j + 1 ≤ ps.length ∧ Found ver (tnew ts) ((ps.drop a).take (j + 1)) r l)) :
    Calls Try.prog 4 #[.slice L nL cL, .slice P nP cP, .agg #[.int .i64 ver, .int .i64 at_]] w fun e w' => e = .returned (.bool true) ∧ Below w.heap.size w w' := by
  have hb0 := (Below.refl w.heap.size w).alloc (Nat.le_refl _) (.cells #[.int .i64 ver, .int .i64 at_] 47)
  have hbx := one_new w (.cells #[.int .i64 ver, .int .i64 at_] 47)
  have HBX := Lib.hid hbx
  have HB0 := Lib.hid hb0
  have HFEW := Lib.hid (fun W (hb : Below w.heap.size w W) => few_any L nL cL ts hnL hts W ((hrL.below hb).more hb.size))
  have HFEWP := Lib.hid (fun W (hb : Below w.heap.size w W) => few_any P nP cP ps hnP hps W ((hrP.below hb).more hb.size))
  have HF := Lib.hid hf
  have HG := Lib.hid hg
  have hts2 : ∀ s ∈ ts, s.length ≤ 3000 := hf.1
  have hps2 : ∀ s ∈ ps, s.length ≤ 3000 := hg.1
  have hln : ts.length = nL := by have := hrL.1; simpa using this
  have hlp : ps.length = nP := by have := hrP.1; simpa using this
  have hn40 : nL ≤ 40 := by have := hf.2; omega
  have hp40 : nP ≤ 40 := by have := hg.2; omega
  have HNEW := Lib.hid (fun W (hb : Below w.heap.size w W) => New_any L nL cL W.heap.size ts (by omega) hts W (Nat.le_refl _) ((hrL.below hb).more hb.size))
  have HRNEW := Lib.hid (fun W (hb : Below w.heap.size w W) => rnew_any L nL cL ts (by omega) W ((hrL.below hb).more hb.size))
  have HCP := Lib.hid hcP
  have HLP := Lib.hid hlp
  have HBY := Lib.hid (fun W (hb : Below w.heap.size w W) => bytes_anyT P nP cP ps (by omega) (fun p hp => by have := hps2 p hp; omega) W ((hrP.below hb).more hb.size))
  have HRP := Lib.hid (fun W (hb : Below w.heap.size w W) => (hrP.below hb).more hb.size)
  obtain ⟨tl, htl⟩ : ∃ tl, tl = tnew ts := ⟨_, rfl⟩
  rw [← htl] at HNEW HRNEW HX1 HX2 HY
  have htl40 : tl.length ≤ 40 := by rw [htl]; have := tnew_len ts; omega
  clear hcP hb0 hbx hf hg hrL hrP hts hps hts2 hps2 hln hlp htl
  go_enter Try.func4, Try.ntmps4
  go_wp2_with fail
  refine (HFEW.out _ HB0.out).mono ?_
  rintro e w3 ⟨he, rfl⟩
  obtain rfl := he.yes HF.out
  clear he
  go_wp2_with fail
  refine (HFEWP.out _ HB0.out).mono ?_
  rintro e w3 ⟨he, rfl⟩
  obtain rfl := he.yes HG.out
  clear he
  obtain ⟨w3, hw3⟩ : ∃ w3, w3 = w.alloc (.cells #[.int .i64 ver, .int .i64 at_] 47) := ⟨_, rfl⟩
  rw [← hw3] at HB0 HBX ⊢
  clear hw3
  go_wp2_with fail
  refine (HNEW.out _ HB0.out).mono ?_
  rintro e w4 ⟨rfl, ht4, hb⟩
  have HB4 := Lib.hid (HB0.out.trans (hb.mono HB0.out.size))
  have HX4 := Lib.hid ((hb.block w.heap.size (Array.getElem?_eq_some_iff.1 HBX.out).1).trans HBX.out)
  have HS34 : Hid (w3.heap.size ≤ w4.heap.size) := hb.size
  have HT4 : Hid (Tab w4 (fun k => w3.heap.size ≤ k ∧ k < w4.heap.size) w3.heap.size nL tl) := ht4.wide (fun k h1 h2 => ⟨h1, h2⟩)
  clear ht4 hb
  go_wp2_with fail
  refine (HNEW.out _ HB4.out).mono ?_
  rintro e w5 ⟨rfl, ht5, hb⟩
  have HB5 := Lib.hid (HB4.out.trans (hb.mono HB4.out.size))
  have HX5 := Lib.hid ((hb.block w.heap.size (Array.getElem?_eq_some_iff.1 HX4.out).1).trans HX4.out)
  have HS45 : Hid (w4.heap.size ≤ w5.heap.size) := hb.size
  have HT5 : Hid (Tab w5 (fun k => w3.heap.size ≤ k ∧ k < w4.heap.size) w3.heap.size nL tl) := HT4.out.keep (fun k _ hk => hb.block k hk)
  have HU5 : Hid (Tab w5 (fun k => w4.heap.size ≤ k ∧ k < w5.heap.size) w4.heap.size nL tl) := ht5.wide (fun k h1 h2 => ⟨h1, h2⟩)
  clear ht5 hb
  obtain ⟨bt, hbt⟩ : ∃ bt, bt = w3.heap.size := ⟨_, rfl⟩
  obtain ⟨bu, hbu⟩ : ∃ bu, bu = w4.heap.size := ⟨_, rfl⟩
  obtain ⟨S, hSe⟩ : ∃ S : Nat → Prop, S = fun k => w3.heap.size ≤ k ∧ k < w4.heap.size := ⟨_, rfl⟩
  obtain ⟨U, hUe⟩ : ∃ U : Nat → Prop, U = fun k => w4.heap.size ≤ k ∧ k < w5.heap.size := ⟨_, rfl⟩
  have HSL : Hid (∀ k, S k → w.heap.size < k ∧ k < w5.heap.size) := fun k hk => by
    rw [hSe] at hk
    have h1 := (Array.getElem?_eq_some_iff.1 HBX.out).1
    have h2 := HS45.out
    omega
  have HUL : Hid (∀ k, U k → w.heap.size < k ∧ k < w5.heap.size) := fun k hk => by
    rw [hUe] at hk
    have h1 := (Array.getElem?_eq_some_iff.1 HX4.out).1
    omega
  have HDIS : Hid (∀ k, S k → ¬ U k) := fun k h1 h2 => by
    rw [hSe] at h1
    rw [hUe] at h2
    omega
  rw [← hSe, ← hbt] at HT5
  rw [← hUe, ← hbu] at HU5
  rw [← hbt, ← hbu]
  clear hbt hbu hSe hUe HS34 HS45 HX4 HT4 HBX HB0 HB4 HFEW HFEWP HNEW HF HG
  go_wp2_with fail
  obtain ⟨M, hM⟩ : ∃ M : Act → World → Prop, M = (fun a v => ∃ (b9 : Nat) (A9 : Option Addr) (n9 c9 : Nat) (S9 : Nat → Prop) (N9 : Nat) (v18 v19 v20 v21 v22 v23 v24 v25 v26 v27 v28 v29 v30 v31 v32 v33 v34 v35 v36 v37 v38 v39 v40 v41 v42 v43 v44 v45 v46 v47 v48 : Value), a = ({ tmps := #[.slice L nL cL, .slice P nP cP, .agg #[.int .i64 ver, .int .i64 at_], undef, undef, .pointer (some ⟨w.heap.size, 0, none⟩), .bool false, .pointer (some ⟨bt, 0, none⟩), .pointer (some ⟨bu, 0, none⟩), .pointer (some ⟨b9, 0, none⟩), .int .i64 nx, .int .i64 e9, undef, undef, undef, undef, undef, undef, v18, v19, v20, v21, v22, v23, v24, v25, v26, v27, v28, v29, v30, v31, v32, v33, v34, v35, v36, v37, v38, v39, v40, v41, v42, v43, v44, v45, v46, v47, v48, undef, undef, undef, undef, undef, undef, undef, undef, undef, undef, undef, undef, undef, undef, undef, undef, undef, undef, undef, undef, undef, undef, undef, undef, undef, undef, undef, undef, undef, undef, undef, undef, undef, undef, undef, undef, undef, undef, undef, undef, undef, undef, undef, undef, undef, undef, undef, undef, undef, undef, undef, undef, undef, undef, undef, undef, undef, undef, undef, undef], defers := [] } : Act) ∧ RecBox v w5.heap.size b9 r l A9 n9 c9 ∧ Tab v S9 bt N9 tl9 ∧ (∀ k, S9 k → k < v.heap.size ∧ (S k ∨ w5.heap.size ≤ k)) ∧ Turn S w5 v) := ⟨_, rfl⟩
  have HM := Lib.hid hM
  clear hM
  refine wp_cuts M ?rest6 ?reg6
  case reg6 =>
    refine wp_region_held (S := fun W => Turn S w5 W) (by kernel_rfl) ?_
    have HBD : Hid (Below w5.heap.size w5 w5.drew) := (Below.refl _ _).drew
    have hS : Turn S w5 w5.drew := Turn.of_below HBD.out
    refine h_take 0 (.pointer (some ⟨w.heap.size, 0, none⟩)) rfl (by kernel_rfl) (by kernel_rfl) (by kernel_rfl) (fun _ _ _ h => h) (by kernel_rfl) hS (by intro v hv; go_simp) ?_
    refine h_take 1 (.int .i64 ver) rfl (by kernel_rfl) (by kernel_rfl) (by kernel_rfl) (fun _ _ _ h => h) (by kernel_rfl) hS (by intro v hv; have hxx := (hv.2.2.2.2 w.heap.size (lt_heap6y HX5.out) (fun h => by have := (HSL.out _ h).1; omega)).trans HX5.out; have z0 := at_cell (i := 0) hxx rfl; have z1 := at_cell (i := 1) hxx rfl; go_simp) ?_
    refine h_take 2 (.pointer (some ⟨bt, 0, none⟩)) rfl (by kernel_rfl) (by kernel_rfl) (by kernel_rfl) (fun _ _ _ h => h) (by kernel_rfl) hS (fun _ _ => by kernel_rfl) ?_
    refine h_take 3 (.slice P nP cP) rfl (by kernel_rfl) (by kernel_rfl) (by kernel_rfl) (fun _ _ _ h => h) (by kernel_rfl) hS (fun _ _ => by kernel_rfl) ?_
    refine h_take 5 (.pointer (some ⟨w.heap.size, 1, none⟩)) rfl (by kernel_rfl) (by kernel_rfl) (by kernel_rfl) (fun _ _ _ h => h) (by kernel_rfl) hS (by intro v hv; go_simp) ?_
    refine h_take 6 (.int .i64 at_) rfl (by kernel_rfl) (by kernel_rfl) (by kernel_rfl) (fun _ _ _ h => h) (by kernel_rfl) hS (by intro v hv; have hxx := (hv.2.2.2.2 w.heap.size (lt_heap6y HX5.out) (fun h => by have := (HSL.out _ h).1; omega)).trans HX5.out; have z0 := at_cell (i := 0) hxx rfl; have z1 := at_cell (i := 1) hxx rfl; go_simp) ?_
    clear hS
    (try go_simp)
    refine h_either 4 12 rfl rfl (by kernel_rfl) (by kernel_rfl) (by kernel_rfl) (fun K hK => ?_) (fun K hK => ?_)
    · go_simp
      refine (HBY.out _ (HB5.out.trans (HBD.out.mono HB5.out.size))).mono ?_
      rintro e wb1 ⟨A4, c4, rfl, hA4, hpl, hb⟩
      have HB2 := Lib.hid (HBD.out.trans (hb.mono HBD.out.size))
      have HP3 : Hid (PlsT wb1 wb1.heap.size S A4 nP c4 ps) := hpl S (fun k hk => Nat.lt_of_lt_of_le (HSL.out k hk).2 HBD.out.size)
      have HA4 := Lib.hid hA4
      clear hA4 hpl hb
      refine hK _ _ (Turn.of_below HB2.out) ?_
      clear hK K
      refine h_either 7 12 rfl rfl (by kernel_rfl) (by kernel_rfl) (by kernel_rfl) (fun K hK => ?_) (fun K hK => ?_)
      · go_simp
        refine (HX1.out S bt nL nP c4 A4 wb1 (by omega) (fun k hk => Nat.lt_of_lt_of_le (HSL.out k hk).2 HB2.out.size) (HT5.out.keep (fun k _ hk => HB2.out.block k hk)) HP3.out HA4.out).mono ?_
        rintro e wc4 ⟨A9, n9, c9, S9, rfl, hd9, ⟨N9, hN9, ht9⟩, hs9, htu9⟩
        have HT5 : Hid (Turn S w5 wc4) := (Turn.of_below HB2.out).trans htu9 (fun _ _ h => h)
        have HD6 : Hid (wc4.ownsRow w5.heap.size 55 3 (.slice A9 n9 c9) n9 (dps l)) := own_less hd9 HB2.out.size
        have HTB7 : Hid (Tab wc4 S9 bt N9 tl9) := ht9
        have HSS8 : Hid (∀ k, S9 k → k < wc4.heap.size ∧ (S k ∨ w5.heap.size ≤ k)) := fun k hk => ⟨(hs9 k hk).1, (hs9 k hk).2.imp id (fun h => Nat.le_trans HB2.out.size h)⟩
        clear hd9 hN9 ht9 hs9 htu9
        refine hK _ _ HT5.out ?_
        clear hK K
        refine h_take 8 (.tuple #[.agg #[.int .i64 r.kind, .string (tx r.target), .int .u64 r.rule, .slice A9 n9 c9, .int .u64 r.out, .int .u64 r.time, .string (tx r.tag)], .int .i64 nx, .int .i64 e9]) rfl (by kernel_rfl) (by kernel_rfl) (by kernel_rfl) (fun _ _ _ h => h) (by kernel_rfl) HT5.out (fun _ _ => by kernel_rfl) ?_
        refine h_take 9 (.agg #[.int .i64 r.kind, .string (tx r.target), .int .u64 r.rule, .slice A9 n9 c9, .int .u64 r.out, .int .u64 r.time, .string (tx r.tag)]) rfl (by kernel_rfl) (by kernel_rfl) (by kernel_rfl) (fun _ _ _ h => h) (by kernel_rfl) HT5.out (fun _ _ => by kernel_rfl) ?_
        refine h_take 10 (.int .i64 nx) rfl (by kernel_rfl) (by kernel_rfl) (by kernel_rfl) (fun _ _ _ h => h) (by kernel_rfl) HT5.out (fun _ _ => by kernel_rfl) ?_
        refine h_take 11 (.int .i64 e9) rfl (by kernel_rfl) (by kernel_rfl) (by kernel_rfl) (fun _ _ _ h => h) (by kernel_rfl) HT5.out (fun _ _ => by kernel_rfl) ?_
        refine h_one 12 rfl (by kernel_rfl) (by kernel_rfl) (fun K hK => ?_)
        go_simp
        have hnew := one_new wc4 (.cells #[.int .i64 0, .string ⟨#[]⟩, .int .u64 0, .slice none 0 0, .int .u64 0, .int .u64 0, .string ⟨#[]⟩] 26)
        have HT11 : Hid (Turn S w5 (wc4.alloc (.cells #[.int .i64 0, .string ⟨#[]⟩, .int .u64 0, .slice none 0 0, .int .u64 0, .int .u64 0, .string ⟨#[]⟩] 26))) := HT5.out.trans (Turn.of_below (S := S) ((Below.refl wc4.heap.size wc4).alloc (Nat.le_refl _) (.cells #[.int .i64 0, .string ⟨#[]⟩, .int .u64 0, .slice none 0 0, .int .u64 0, .int .u64 0, .string ⟨#[]⟩] 26))) (fun _ _ h => h)
        have HF12 : Hid ((wc4.alloc (.cells #[.int .i64 0, .string ⟨#[]⟩, .int .u64 0, .slice none 0 0, .int .u64 0, .int .u64 0, .string ⟨#[]⟩] 26)).ownsRow w5.heap.size 55 3 (.slice A9 n9 c9) n9 (dps l)) := World.ownsRow.alloc HD6.out _
        have HF13 : Hid (Tab (wc4.alloc (.cells #[.int .i64 0, .string ⟨#[]⟩, .int .u64 0, .slice none 0 0, .int .u64 0, .int .u64 0, .string ⟨#[]⟩] 26)) S9 bt N9 tl9) := HTB7.out.keep (fun k _ hk => Below.heap_alloc _ _ _ hk)
        have HF14 : Hid (∀ k, S9 k → k < (wc4.alloc (.cells #[.int .i64 0, .string ⟨#[]⟩, .int .u64 0, .slice none 0 0, .int .u64 0, .int .u64 0, .string ⟨#[]⟩] 26)).heap.size ∧ (S k ∨ w5.heap.size ≤ k)) := fun k hk => ⟨Nat.lt_of_lt_of_le (HSS8.out k hk).1 ((Below.refl wc4.heap.size wc4).alloc (Nat.le_refl _) (.cells #[.int .i64 0, .string ⟨#[]⟩, .int .u64 0, .slice none 0 0, .int .u64 0, .int .u64 0, .string ⟨#[]⟩] 26)).size, (HSS8.out k hk).2⟩
        have HZ15 : Hid ((wc4.alloc (.cells #[.int .i64 0, .string ⟨#[]⟩, .int .u64 0, .slice none 0 0, .int .u64 0, .int .u64 0, .string ⟨#[]⟩] 26)).heap[wc4.heap.size]? = some (.cells #[.int .i64 0, .string ⟨#[]⟩, .int .u64 0, .slice none 0 0, .int .u64 0, .int .u64 0, .string ⟨#[]⟩] 26 (0, 0))) := hnew
        have HG16 : Hid (w5.heap.size ≤ wc4.heap.size) := HT5.out.2.2.2.1
        have HN17 : Hid (¬ S9 (wc4.heap.size)) := fun h => Nat.lt_irrefl _ (HSS8.out _ h).1
        clear hnew
        generalize wc4.alloc (.cells #[.int .i64 0, .string ⟨#[]⟩, .int .u64 0, .slice none 0 0, .int .u64 0, .int .u64 0, .string ⟨#[]⟩] 26) = wa9 at *
        refine hK _ _ HT11.out ?_
        clear hK K
        (try go_simp)
        refine h_one 13 rfl (by kernel_rfl) (by kernel_rfl) (fun K hK => ?_)
        refine wp_store_recbox (.tmp 9) (.tmp 46) rfl (wc4.heap.size) _ _ _ _ _ _ _ _ _ _ _ _ _ _ rfl rfl HZ15.out (by simp [Value.oneCell']) ?_
        intro wS hw hg
        have HRB : Hid (RecBox wS w5.heap.size (wc4.heap.size) r l A9 n9 c9) := ⟨hw, HG16.out, grown_own HF12.out hg (own_cells HF12.out HZ15.out (by decide))⟩
        have HTBS : Hid (Tab wS S9 bt N9 tl9) := grown_tab HF13.out hg HN17.out
        have HTS : Hid (Turn S w5 wS) := HT11.out.grown hg (fun i e hi => by have h1 : wc4.heap.size = i := Option.some.inj e; have h2 := HG16.out; omega)
        have HSS : Hid (∀ k, S9 k → k < wS.heap.size ∧ (S k ∨ w5.heap.size ≤ k)) := fun k hk => ⟨Nat.lt_of_lt_of_le (HF14.out k hk).1 hg.size, (HF14.out k hk).2⟩
        clear hw hg
        refine hK _ _ HTS.out ?_
        clear hK K
        refine h_take 14 (.int .i64 nx) rfl (by kernel_rfl) (by kernel_rfl) (by kernel_rfl) (fun _ _ _ h => h) (by kernel_rfl) HTS.out (fun _ _ => by kernel_rfl) ?_
        refine h_take 15 (.int .i64 e9) rfl (by kernel_rfl) (by kernel_rfl) (by kernel_rfl) (fun _ _ _ h => h) (by kernel_rfl) HTS.out (fun _ _ => by kernel_rfl) ?_
        refine wpAnyH_done (by kernel_rfl) ?_ _
        go_simp
        rw [HM.out]
        exact ⟨wc4.heap.size, A9, n9, c9, S9, N9, _, _, _, _, _, _, _, _, _, _, _, _, _, _, _, _, _, _, _, _, _, _, _, _, _, _, _, _, _, _, _, rfl, HRB.out, HTBS.out, HSS.out, HTS.out⟩
      · go_simp
        have hnew := one_new wb1 (.cells #[.int .i64 0, .string ⟨#[]⟩, .int .u64 0, .slice none 0 0, .int .u64 0, .int .u64 0, .string ⟨#[]⟩] 26)
        have HB19 : Hid (Below w5.heap.size w5 (wb1.alloc (.cells #[.int .i64 0, .string ⟨#[]⟩, .int .u64 0, .slice none 0 0, .int .u64 0, .int .u64 0, .string ⟨#[]⟩] 26))) := HB2.out.alloc HB2.out.size (.cells #[.int .i64 0, .string ⟨#[]⟩, .int .u64 0, .slice none 0 0, .int .u64 0, .int .u64 0, .string ⟨#[]⟩] 26)
        have HF21 : Hid (PlsT (wb1.alloc (.cells #[.int .i64 0, .string ⟨#[]⟩, .int .u64 0, .slice none 0 0, .int .u64 0, .int .u64 0, .string ⟨#[]⟩] 26)) (wb1.alloc (.cells #[.int .i64 0, .string ⟨#[]⟩, .int .u64 0, .slice none 0 0, .int .u64 0, .int .u64 0, .string ⟨#[]⟩] 26)).heap.size S A4 nP c4 ps) := PlsT.below HP3.out ((Below.refl wb1.heap.size wb1).alloc (Nat.le_refl _) (.cells #[.int .i64 0, .string ⟨#[]⟩, .int .u64 0, .slice none 0 0, .int .u64 0, .int .u64 0, .string ⟨#[]⟩] 26))
        have HZ22 : Hid ((wb1.alloc (.cells #[.int .i64 0, .string ⟨#[]⟩, .int .u64 0, .slice none 0 0, .int .u64 0, .int .u64 0, .string ⟨#[]⟩] 26)).heap[wb1.heap.size]? = some (.cells #[.int .i64 0, .string ⟨#[]⟩, .int .u64 0, .slice none 0 0, .int .u64 0, .int .u64 0, .string ⟨#[]⟩] 26 (0, 0))) := hnew
        have HG23 : Hid (w5.heap.size ≤ wb1.heap.size) := HB2.out.size
        clear hnew
        generalize wb1.alloc (.cells #[.int .i64 0, .string ⟨#[]⟩, .int .u64 0, .slice none 0 0, .int .u64 0, .int .u64 0, .string ⟨#[]⟩] 26) = wa18 at *
        refine hK _ _ (Turn.of_below HB19.out) ?_
        clear hK K
        refine h_one 7 rfl (by kernel_rfl) (by kernel_rfl) (fun K hK => ?_)
        go_simp
        refine (HX1.out S bt nL nP c4 A4 wa18 (by omega) (fun k hk => Nat.lt_of_lt_of_le (HSL.out k hk).2 HB19.out.size) (HT5.out.keep (fun k _ hk => HB19.out.block k hk)) HF21.out HA4.out).mono ?_
        rintro e wc25 ⟨A9, n9, c9, S9, rfl, hd9, ⟨N9, hN9, ht9⟩, hs9, htu9⟩
        have HT26 : Hid (Turn S w5 wc25) := (Turn.of_below HB19.out).trans htu9 (fun _ _ h => h)
        have HD27 : Hid (wc25.ownsRow w5.heap.size 55 3 (.slice A9 n9 c9) n9 (dps l)) := own_less hd9 HB19.out.size
        have HTB28 : Hid (Tab wc25 S9 bt N9 tl9) := ht9
        have HSS29 : Hid (∀ k, S9 k → k < wc25.heap.size ∧ (S k ∨ w5.heap.size ≤ k)) := fun k hk => ⟨(hs9 k hk).1, (hs9 k hk).2.imp id (fun h => Nat.le_trans HB19.out.size h)⟩
        have HZ30 := Lib.hid ((htu9.2.2.2.2 (wb1.heap.size) (lt_heap6y HZ22.out) (fun h => by have h1 := (HSL.out _ h).2; have h2 := HG23.out; omega)).trans HZ22.out)
        have HN31 : Hid (¬ S9 (wb1.heap.size)) := fun h => (hs9 _ h).2.elim (fun h1 => by have h2 := (HSL.out _ h1).2; have h3 := HG23.out; omega) (fun h1 => by have h2 := lt_heap6y HZ22.out; omega)
        clear hd9 hN9 ht9 hs9 htu9
        refine hK _ _ HT26.out ?_
        clear hK K
        refine h_take 8 (.tuple #[.agg #[.int .i64 r.kind, .string (tx r.target), .int .u64 r.rule, .slice A9 n9 c9, .int .u64 r.out, .int .u64 r.time, .string (tx r.tag)], .int .i64 nx, .int .i64 e9]) rfl (by kernel_rfl) (by kernel_rfl) (by kernel_rfl) (fun _ _ _ h => h) (by kernel_rfl) HT26.out (fun _ _ => by kernel_rfl) ?_
        refine h_take 9 (.agg #[.int .i64 r.kind, .string (tx r.target), .int .u64 r.rule, .slice A9 n9 c9, .int .u64 r.out, .int .u64 r.time, .string (tx r.tag)]) rfl (by kernel_rfl) (by kernel_rfl) (by kernel_rfl) (fun _ _ _ h => h) (by kernel_rfl) HT26.out (fun _ _ => by kernel_rfl) ?_
        refine h_take 10 (.int .i64 nx) rfl (by kernel_rfl) (by kernel_rfl) (by kernel_rfl) (fun _ _ _ h => h) (by kernel_rfl) HT26.out (fun _ _ => by kernel_rfl) ?_
        refine h_take 11 (.int .i64 e9) rfl (by kernel_rfl) (by kernel_rfl) (by kernel_rfl) (fun _ _ _ h => h) (by kernel_rfl) HT26.out (fun _ _ => by kernel_rfl) ?_
        (try go_simp)
        refine h_one 13 rfl (by kernel_rfl) (by kernel_rfl) (fun K hK => ?_)
        refine wp_store_recbox (.tmp 9) (.tmp 46) rfl (wb1.heap.size) _ _ _ _ _ _ _ _ _ _ _ _ _ _ rfl rfl HZ30.out (by simp [Value.oneCell']) ?_
        intro wS hw hg
        have HRB : Hid (RecBox wS w5.heap.size (wb1.heap.size) r l A9 n9 c9) := ⟨hw, HG23.out, grown_own HD27.out hg (own_cells HD27.out HZ30.out (by decide))⟩
        have HTBS : Hid (Tab wS S9 bt N9 tl9) := grown_tab HTB28.out hg HN31.out
        have HTS : Hid (Turn S w5 wS) := HT26.out.grown hg (fun i e hi => by have h1 : wb1.heap.size = i := Option.some.inj e; have h2 := HG23.out; omega)
        have HSS : Hid (∀ k, S9 k → k < wS.heap.size ∧ (S k ∨ w5.heap.size ≤ k)) := fun k hk => ⟨Nat.lt_of_lt_of_le (HSS29.out k hk).1 hg.size, (HSS29.out k hk).2⟩
        clear hw hg
        refine hK _ _ HTS.out ?_
        clear hK K
        refine h_take 14 (.int .i64 nx) rfl (by kernel_rfl) (by kernel_rfl) (by kernel_rfl) (fun _ _ _ h => h) (by kernel_rfl) HTS.out (fun _ _ => by kernel_rfl) ?_
        refine h_take 15 (.int .i64 e9) rfl (by kernel_rfl) (by kernel_rfl) (by kernel_rfl) (fun _ _ _ h => h) (by kernel_rfl) HTS.out (fun _ _ => by kernel_rfl) ?_
        refine wpAnyH_done (by kernel_rfl) ?_ _
        go_simp
        rw [HM.out]
        exact ⟨wb1.heap.size, A9, n9, c9, S9, N9, _, _, _, _, _, _, _, _, _, _, _, _, _, _, _, _, _, _, _, _, _, _, _, _, _, _, _, _, _, _, _, rfl, HRB.out, HTBS.out, HSS.out, HTS.out⟩
    · go_simp
      have hnew := one_new w5 (.cells #[.int .i64 0, .string ⟨#[]⟩, .int .u64 0, .slice none 0 0, .int .u64 0, .int .u64 0, .string ⟨#[]⟩] 26)
      have HB33 : Hid (Below w5.heap.size w5 ((w5.alloc (.cells #[.int .i64 0, .string ⟨#[]⟩, .int .u64 0, .slice none 0 0, .int .u64 0, .int .u64 0, .string ⟨#[]⟩] 26)).drew)) := HBD.out.alloc HBD.out.size (.cells #[.int .i64 0, .string ⟨#[]⟩, .int .u64 0, .slice none 0 0, .int .u64 0, .int .u64 0, .string ⟨#[]⟩] 26)
      have HZ35 : Hid (((w5.alloc (.cells #[.int .i64 0, .string ⟨#[]⟩, .int .u64 0, .slice none 0 0, .int .u64 0, .int .u64 0, .string ⟨#[]⟩] 26)).drew).heap[w5.heap.size]? = some (.cells #[.int .i64 0, .string ⟨#[]⟩, .int .u64 0, .slice none 0 0, .int .u64 0, .int .u64 0, .string ⟨#[]⟩] 26 (0, 0))) := hnew
      have HG36 : Hid (w5.heap.size ≤ w5.heap.size) := HBD.out.size
      clear hnew
      generalize (w5.alloc (.cells #[.int .i64 0, .string ⟨#[]⟩, .int .u64 0, .slice none 0 0, .int .u64 0, .int .u64 0, .string ⟨#[]⟩] 26)).drew = wa32 at *
      refine hK _ _ (Turn.of_below HB33.out) ?_
      clear hK K
      refine h_one 4 rfl (by kernel_rfl) (by kernel_rfl) (fun K hK => ?_)
      go_simp
      refine (HBY.out _ (HB5.out.trans (HB33.out.mono HB5.out.size))).mono ?_
      rintro e wb38 ⟨A4, c4, rfl, hA4, hpl, hb⟩
      have HB39 := Lib.hid (HB33.out.trans (hb.mono HB33.out.size))
      have HP40 : Hid (PlsT wb38 wb38.heap.size S A4 nP c4 ps) := hpl S (fun k hk => Nat.lt_of_lt_of_le (HSL.out k hk).2 HB33.out.size)
      have HA4 := Lib.hid hA4
      have HZ41 := Lib.hid ((hb.block (w5.heap.size) (lt_heap6y HZ35.out)).trans HZ35.out)
      clear hA4 hpl hb
      refine hK _ _ (Turn.of_below HB39.out) ?_
      clear hK K
      refine h_one 7 rfl (by kernel_rfl) (by kernel_rfl) (fun K hK => ?_)
      go_simp
      refine (HX1.out S bt nL nP c4 A4 wb38 (by omega) (fun k hk => Nat.lt_of_lt_of_le (HSL.out k hk).2 HB39.out.size) (HT5.out.keep (fun k _ hk => HB39.out.block k hk)) HP40.out HA4.out).mono ?_
      rintro e wc42 ⟨A9, n9, c9, S9, rfl, hd9, ⟨N9, hN9, ht9⟩, hs9, htu9⟩
      have HT43 : Hid (Turn S w5 wc42) := (Turn.of_below HB39.out).trans htu9 (fun _ _ h => h)
      have HD44 : Hid (wc42.ownsRow w5.heap.size 55 3 (.slice A9 n9 c9) n9 (dps l)) := own_less hd9 HB39.out.size
      have HTB45 : Hid (Tab wc42 S9 bt N9 tl9) := ht9
      have HSS46 : Hid (∀ k, S9 k → k < wc42.heap.size ∧ (S k ∨ w5.heap.size ≤ k)) := fun k hk => ⟨(hs9 k hk).1, (hs9 k hk).2.imp id (fun h => Nat.le_trans HB39.out.size h)⟩
      have HZ47 := Lib.hid ((htu9.2.2.2.2 (w5.heap.size) (lt_heap6y HZ41.out) (fun h => by have h1 := (HSL.out _ h).2; have h2 := HG36.out; omega)).trans HZ41.out)
      have HN48 : Hid (¬ S9 (w5.heap.size)) := fun h => (hs9 _ h).2.elim (fun h1 => by have h2 := (HSL.out _ h1).2; have h3 := HG36.out; omega) (fun h1 => by have h2 := lt_heap6y HZ41.out; omega)
      clear hd9 hN9 ht9 hs9 htu9
      refine hK _ _ HT43.out ?_
      clear hK K
      refine h_take 8 (.tuple #[.agg #[.int .i64 r.kind, .string (tx r.target), .int .u64 r.rule, .slice A9 n9 c9, .int .u64 r.out, .int .u64 r.time, .string (tx r.tag)], .int .i64 nx, .int .i64 e9]) rfl (by kernel_rfl) (by kernel_rfl) (by kernel_rfl) (fun _ _ _ h => h) (by kernel_rfl) HT43.out (fun _ _ => by kernel_rfl) ?_
      refine h_take 9 (.agg #[.int .i64 r.kind, .string (tx r.target), .int .u64 r.rule, .slice A9 n9 c9, .int .u64 r.out, .int .u64 r.time, .string (tx r.tag)]) rfl (by kernel_rfl) (by kernel_rfl) (by kernel_rfl) (fun _ _ _ h => h) (by kernel_rfl) HT43.out (fun _ _ => by kernel_rfl) ?_
      refine h_take 10 (.int .i64 nx) rfl (by kernel_rfl) (by kernel_rfl) (by kernel_rfl) (fun _ _ _ h => h) (by kernel_rfl) HT43.out (fun _ _ => by kernel_rfl) ?_
      refine h_take 11 (.int .i64 e9) rfl (by kernel_rfl) (by kernel_rfl) (by kernel_rfl) (fun _ _ _ h => h) (by kernel_rfl) HT43.out (fun _ _ => by kernel_rfl) ?_
      (try go_simp)
      refine h_one 13 rfl (by kernel_rfl) (by kernel_rfl) (fun K hK => ?_)
      refine wp_store_recbox (.tmp 9) (.tmp 46) rfl (w5.heap.size) _ _ _ _ _ _ _ _ _ _ _ _ _ _ rfl rfl HZ47.out (by simp [Value.oneCell']) ?_
      intro wS hw hg
      have HRB : Hid (RecBox wS w5.heap.size (w5.heap.size) r l A9 n9 c9) := ⟨hw, HG36.out, grown_own HD44.out hg (own_cells HD44.out HZ47.out (by decide))⟩
      have HTBS : Hid (Tab wS S9 bt N9 tl9) := grown_tab HTB45.out hg HN48.out
      have HTS : Hid (Turn S w5 wS) := HT43.out.grown hg (fun i e hi => by have h1 : w5.heap.size = i := Option.some.inj e; have h2 := HG36.out; omega)
      have HSS : Hid (∀ k, S9 k → k < wS.heap.size ∧ (S k ∨ w5.heap.size ≤ k)) := fun k hk => ⟨Nat.lt_of_lt_of_le (HSS46.out k hk).1 hg.size, (HSS46.out k hk).2⟩
      clear hw hg
      refine hK _ _ HTS.out ?_
      clear hK K
      refine h_take 14 (.int .i64 nx) rfl (by kernel_rfl) (by kernel_rfl) (by kernel_rfl) (fun _ _ _ h => h) (by kernel_rfl) HTS.out (fun _ _ => by kernel_rfl) ?_
      refine h_take 15 (.int .i64 e9) rfl (by kernel_rfl) (by kernel_rfl) (by kernel_rfl) (fun _ _ _ h => h) (by kernel_rfl) HTS.out (fun _ _ => by kernel_rfl) ?_
      refine wpAnyH_done (by kernel_rfl) ?_ _
      go_simp
      rw [HM.out]
      exact ⟨w5.heap.size, A9, n9, c9, S9, N9, _, _, _, _, _, _, _, _, _, _, _, _, _, _, _, _, _, _, _, _, _, _, _, _, _, _, _, _, _, _, _, rfl, HRB.out, HTBS.out, HSS.out, HTS.out⟩
  intro a6 w6 hv6
  rw [HM.out] at hv6
  obtain ⟨b9, A9, n9, c9, S9, N9, v18, v19, v20, v21, v22, v23, v24, v25, v26, v27, v28, v29, v30, v31, v32, v33, v34, v35, v36, v37, v38, v39, v40, v41, v42, v43, v44, v45, v46, v47, v48, rfl, hrb, htb, hss, htu⟩ := hv6
  have HB6 := Lib.hid (HB5.out.trans (htu.below (fun k hk => Nat.le_of_lt (HSL.out k hk).1) HB5.out.size))
  have HX6 := Lib.hid ((htu.2.2.2.2 w.heap.size (lt_heap6y HX5.out) (fun h => by have := (HSL.out _ h).1; omega)).trans HX5.out)
  have HU6 : Hid (Tab w6 U bu nL tl) := HU5.out.turn htu (fun k h1 _ h2 => HDIS.out k h2 h1)
  have HRB := Lib.hid hrb
  have HTB := Lib.hid htb
  have HSS := Lib.hid hss
  have H56 : Hid (w5.heap.size ≤ w6.heap.size) := htu.2.2.2.1
  clear hrb htb hss htu HM HX1
  go_wp2_with fail
  obtain ⟨M, hM⟩ : ∃ M : Act → World → Prop, M = (fun a v => ∃ (b12 : Nat) (A2 : Option Addr) (c2 : Nat) (L2 : Option Addr) (c2b : Nat) (v18 v19 v20 v21 v22 v23 v24 v25 v26 v27 v28 v29 v30 v31 v32 v33 v34 v35 v36 v37 v38 v39 v40 v41 v42 v43 v44 v45 v46 v47 v48 v49 v50 v51 v52 v53 v54 v55 v56 v57 v58 v59 v60 v61 : Value), a = ({ tmps := #[.slice L nL cL, .slice P nP cP, .agg #[.int .i64 ver, .int .i64 at_], undef, undef, .pointer (some ⟨w.heap.size, 0, none⟩), .bool false, .pointer (some ⟨bt, 0, none⟩), .pointer (some ⟨bu, 0, none⟩), .pointer (some ⟨b9, 0, none⟩), .int .i64 nx, .int .i64 e9, .pointer (some ⟨b12, 0, none⟩), .int .i64 nx, .slice L2 tl9.length c2b, .int .i64 e9, undef, undef, v18, v19, v20, v21, v22, v23, v24, v25, v26, v27, v28, v29, v30, v31, v32, v33, v34, v35, v36, v37, v38, v39, v40, v41, v42, v43, v44, v45, v46, v47, v48, v49, v50, v51, v52, v53, v54, v55, v56, v57, v58, v59, v60, v61, undef, undef, undef, undef, undef, undef, undef, undef, undef, undef, undef, undef, undef, undef, undef, undef, undef, undef, undef, undef, undef, undef, undef, undef, undef, undef, undef, undef, undef, undef, undef, undef, undef, undef, undef, undef, undef, undef, undef, undef, undef, undef, undef, undef, undef, undef, undef], defers := [] } : Act) ∧ RecBox v w6.heap.size b12 r l A2 l.length c2 ∧ v.ownsRow w6.heap.size 9 1 (.slice L2 tl9.length c2b) tl9.length (tl9.map tsv) ∧ Below w6.heap.size w6 v) := ⟨_, rfl⟩
  have HM2 := Lib.hid hM
  clear hM
  refine wp_cuts M ?rest7 ?reg7
  case reg7 =>
    refine wp_region_held (S := fun W => Below w6.heap.size w6 W) (by kernel_rfl) ?_
    have HBD2 : Hid (Below w6.heap.size w6 w6.drew) := (Below.refl _ _).drew
    have hS : Below w6.heap.size w6 w6.drew := HBD2.out
    refine h_take 0 (.pointer (some ⟨w.heap.size, 0, none⟩)) rfl (by kernel_rfl) (by kernel_rfl) (by kernel_rfl) (fun _ _ _ h => h) (by kernel_rfl) hS (by intro v hv; go_simp) ?_
    refine h_take 1 (.int .i64 ver) rfl (by kernel_rfl) (by kernel_rfl) (by kernel_rfl) (fun _ _ _ h => h) (by kernel_rfl) hS (by intro v hv; have hxx := (hv.block w.heap.size (Array.getElem?_eq_some_iff.1 HX6.out).1).trans HX6.out; have z0 := at_cell (i := 0) hxx rfl; have z1 := at_cell (i := 1) hxx rfl; go_simp) ?_
    refine h_take 2 (.slice L nL cL) rfl (by kernel_rfl) (by kernel_rfl) (by kernel_rfl) (fun _ _ _ h => h) (by kernel_rfl) hS (fun _ _ => by kernel_rfl) ?_
    refine h_take 4 (.slice P nP cP) rfl (by kernel_rfl) (by kernel_rfl) (by kernel_rfl) (fun _ _ _ h => h) (by kernel_rfl) hS (fun _ _ => by kernel_rfl) ?_
    refine h_take 5 (.pointer (some ⟨w.heap.size, 1, none⟩)) rfl (by kernel_rfl) (by kernel_rfl) (by kernel_rfl) (fun _ _ _ h => h) (by kernel_rfl) hS (by intro v hv; go_simp) ?_
    refine h_take 6 (.int .i64 at_) rfl (by kernel_rfl) (by kernel_rfl) (by kernel_rfl) (fun _ _ _ h => h) (by kernel_rfl) hS (by intro v hv; have hxx := (hv.block w.heap.size (Array.getElem?_eq_some_iff.1 HX6.out).1).trans HX6.out; have z0 := at_cell (i := 0) hxx rfl; have z1 := at_cell (i := 1) hxx rfl; go_simp) ?_
    clear hS
    (try go_simp)
    refine h_either 3 13 rfl rfl (by kernel_rfl) (by kernel_rfl) (by kernel_rfl) (fun K hK => ?_) (fun K hK => ?_)
    · go_simp
      refine (HRNEW.out _ (HB6.out.trans (HBD2.out.mono HB6.out.size))).mono ?_
      rintro e wb49 ⟨v7, rfl, ho7, hb⟩
      have HB50 := Lib.hid (HBD2.out.trans (hb.mono HBD2.out.size))
      obtain ⟨L7, c7, rfl, _⟩ := own_slice ho7
      have HO51 : Hid (wb49.ownsRow w6.heap.size 9 1 (.slice L7 tl.length c7) tl.length (tl.map tsv)) := own_less ho7 HBD2.out.size
      clear ho7 hb
      refine hK _ _ HB50.out ?_
      clear hK K
      refine h_either 7 13 rfl rfl (by kernel_rfl) (by kernel_rfl) (by kernel_rfl) (fun K hK => ?_) (fun K hK => ?_)
      · go_simp
        refine (HX2.out L7 P c7 nP cP w6.heap.size wb49 HB50.out.size HO51.out (HRP.out _ (HB6.out.trans (HB50.out.mono HB6.out.size)))).mono ?_
        rintro e wc52 ⟨A2, c2, v2, rfl, hd2, ho2, hb⟩
        have HB53 := Lib.hid (HB50.out.trans (hb.mono HB50.out.size))
        obtain ⟨L2, c2b, rfl, _⟩ := own_slice ho2
        have HD54 : Hid (wc52.ownsRow w6.heap.size 55 3 (.slice A2 l.length c2) l.length (dps l)) := own_less hd2 HB50.out.size
        have HO55 : Hid (wc52.ownsRow w6.heap.size 9 1 (.slice L2 tl9.length c2b) tl9.length (tl9.map tsv)) := ho2
        clear hd2 ho2 hb
        refine hK _ _ HB53.out ?_
        clear hK K
        refine h_take 8 (.tuple #[.agg #[.int .i64 r.kind, .string (tx r.target), .int .u64 r.rule, .slice A2 l.length c2, .int .u64 r.out, .int .u64 r.time, .string (tx r.tag)], .int .i64 nx, .slice L2 tl9.length c2b, .int .i64 e9]) rfl (by kernel_rfl) (by kernel_rfl) (by kernel_rfl) (fun _ _ _ h => h) (by kernel_rfl) HB53.out (fun _ _ => by kernel_rfl) ?_
        refine h_take 9 (.agg #[.int .i64 r.kind, .string (tx r.target), .int .u64 r.rule, .slice A2 l.length c2, .int .u64 r.out, .int .u64 r.time, .string (tx r.tag)]) rfl (by kernel_rfl) (by kernel_rfl) (by kernel_rfl) (fun _ _ _ h => h) (by kernel_rfl) HB53.out (fun _ _ => by kernel_rfl) ?_
        refine h_take 10 (.int .i64 nx) rfl (by kernel_rfl) (by kernel_rfl) (by kernel_rfl) (fun _ _ _ h => h) (by kernel_rfl) HB53.out (fun _ _ => by kernel_rfl) ?_
        refine h_take 11 (.slice L2 tl9.length c2b) rfl (by kernel_rfl) (by kernel_rfl) (by kernel_rfl) (fun _ _ _ h => h) (by kernel_rfl) HB53.out (fun _ _ => by kernel_rfl) ?_
        refine h_take 12 (.int .i64 e9) rfl (by kernel_rfl) (by kernel_rfl) (by kernel_rfl) (fun _ _ _ h => h) (by kernel_rfl) HB53.out (fun _ _ => by kernel_rfl) ?_
        refine h_one 13 rfl (by kernel_rfl) (by kernel_rfl) (fun K hK => ?_)
        go_simp
        have hnew := one_new wc52 (.cells #[.int .i64 0, .string ⟨#[]⟩, .int .u64 0, .slice none 0 0, .int .u64 0, .int .u64 0, .string ⟨#[]⟩] 26)
        have HB57 : Hid (Below w6.heap.size w6 (wc52.alloc (.cells #[.int .i64 0, .string ⟨#[]⟩, .int .u64 0, .slice none 0 0, .int .u64 0, .int .u64 0, .string ⟨#[]⟩] 26))) := HB53.out.alloc HB53.out.size (.cells #[.int .i64 0, .string ⟨#[]⟩, .int .u64 0, .slice none 0 0, .int .u64 0, .int .u64 0, .string ⟨#[]⟩] 26)
        have HF59 : Hid ((wc52.alloc (.cells #[.int .i64 0, .string ⟨#[]⟩, .int .u64 0, .slice none 0 0, .int .u64 0, .int .u64 0, .string ⟨#[]⟩] 26)).ownsRow w6.heap.size 55 3 (.slice A2 l.length c2) l.length (dps l)) := World.ownsRow.alloc HD54.out _
        have HF60 : Hid ((wc52.alloc (.cells #[.int .i64 0, .string ⟨#[]⟩, .int .u64 0, .slice none 0 0, .int .u64 0, .int .u64 0, .string ⟨#[]⟩] 26)).ownsRow w6.heap.size 9 1 (.slice L2 tl9.length c2b) tl9.length (tl9.map tsv)) := World.ownsRow.alloc HO55.out _
        have HZ61 : Hid ((wc52.alloc (.cells #[.int .i64 0, .string ⟨#[]⟩, .int .u64 0, .slice none 0 0, .int .u64 0, .int .u64 0, .string ⟨#[]⟩] 26)).heap[wc52.heap.size]? = some (.cells #[.int .i64 0, .string ⟨#[]⟩, .int .u64 0, .slice none 0 0, .int .u64 0, .int .u64 0, .string ⟨#[]⟩] 26 (0, 0))) := hnew
        have HG62 : Hid (w6.heap.size ≤ wc52.heap.size) := HB53.out.size
        clear hnew
        generalize wc52.alloc (.cells #[.int .i64 0, .string ⟨#[]⟩, .int .u64 0, .slice none 0 0, .int .u64 0, .int .u64 0, .string ⟨#[]⟩] 26) = wa56 at *
        refine hK _ _ HB57.out ?_
        clear hK K
        (try go_simp)
        refine h_one 14 rfl (by kernel_rfl) (by kernel_rfl) (fun K hK => ?_)
        refine wp_store_recbox (.tmp 12) (.tmp 58) rfl (wc52.heap.size) _ _ _ _ _ _ _ _ _ _ _ _ _ _ rfl rfl HZ61.out (by simp [Value.oneCell']) ?_
        intro wS hw hg
        have HRB2 : Hid (RecBox wS w6.heap.size (wc52.heap.size) r l A2 l.length c2) := ⟨hw, HG62.out, grown_own HF59.out hg (own_cells HF59.out HZ61.out (by decide))⟩
        have HOW2 : Hid (wS.ownsRow w6.heap.size 9 1 (.slice L2 tl9.length c2b) tl9.length (tl9.map tsv)) := grown_own HF60.out hg (own_cells HF60.out HZ61.out (by decide))
        have HBS : Hid (Below w6.heap.size w6 wS) := HB57.out.grown hg HB57.out.size (fun i e => by have h1 : wc52.heap.size = i := Option.some.inj e; have h2 := HG62.out; omega)
        clear hw hg
        refine hK _ _ HBS.out ?_
        clear hK K
        refine h_take 15 (.int .i64 nx) rfl (by kernel_rfl) (by kernel_rfl) (by kernel_rfl) (fun _ _ _ h => h) (by kernel_rfl) HBS.out (fun _ _ => by kernel_rfl) ?_
        refine h_take 16 (.slice L2 tl9.length c2b) rfl (by kernel_rfl) (by kernel_rfl) (by kernel_rfl) (fun _ _ _ h => h) (by kernel_rfl) HBS.out (fun _ _ => by kernel_rfl) ?_
        refine h_take 17 (.int .i64 e9) rfl (by kernel_rfl) (by kernel_rfl) (by kernel_rfl) (fun _ _ _ h => h) (by kernel_rfl) HBS.out (fun _ _ => by kernel_rfl) ?_
        refine wpAnyH_done (by kernel_rfl) ?_ _
        go_simp
        rw [HM2.out]
        exact ⟨wc52.heap.size, A2, c2, L2, c2b, _, _, _, _, _, _, _, _, _, _, _, _, _, _, _, _, _, _, _, _, _, _, _, _, _, _, _, _, _, _, _, _, _, _, _, _, _, _, _, _, _, _, _, _, rfl, HRB2.out, HOW2.out, HBS.out⟩
      · go_simp
        have hnew := one_new wb49 (.cells #[.int .i64 0, .string ⟨#[]⟩, .int .u64 0, .slice none 0 0, .int .u64 0, .int .u64 0, .string ⟨#[]⟩] 26)
        have HB65 : Hid (Below w6.heap.size w6 (wb49.alloc (.cells #[.int .i64 0, .string ⟨#[]⟩, .int .u64 0, .slice none 0 0, .int .u64 0, .int .u64 0, .string ⟨#[]⟩] 26))) := HB50.out.alloc HB50.out.size (.cells #[.int .i64 0, .string ⟨#[]⟩, .int .u64 0, .slice none 0 0, .int .u64 0, .int .u64 0, .string ⟨#[]⟩] 26)
        have HF67 : Hid ((wb49.alloc (.cells #[.int .i64 0, .string ⟨#[]⟩, .int .u64 0, .slice none 0 0, .int .u64 0, .int .u64 0, .string ⟨#[]⟩] 26)).ownsRow w6.heap.size 9 1 (.slice L7 tl.length c7) tl.length (tl.map tsv)) := World.ownsRow.alloc HO51.out _
        have HZ68 : Hid ((wb49.alloc (.cells #[.int .i64 0, .string ⟨#[]⟩, .int .u64 0, .slice none 0 0, .int .u64 0, .int .u64 0, .string ⟨#[]⟩] 26)).heap[wb49.heap.size]? = some (.cells #[.int .i64 0, .string ⟨#[]⟩, .int .u64 0, .slice none 0 0, .int .u64 0, .int .u64 0, .string ⟨#[]⟩] 26 (0, 0))) := hnew
        have HG69 : Hid (w6.heap.size ≤ wb49.heap.size) := HB50.out.size
        clear hnew
        generalize wb49.alloc (.cells #[.int .i64 0, .string ⟨#[]⟩, .int .u64 0, .slice none 0 0, .int .u64 0, .int .u64 0, .string ⟨#[]⟩] 26) = wa64 at *
        refine hK _ _ HB65.out ?_
        clear hK K
        refine h_one 7 rfl (by kernel_rfl) (by kernel_rfl) (fun K hK => ?_)
        go_simp
        refine (HX2.out L7 P c7 nP cP w6.heap.size wa64 HB65.out.size HF67.out (HRP.out _ (HB6.out.trans (HB65.out.mono HB6.out.size)))).mono ?_
        rintro e wc71 ⟨A2, c2, v2, rfl, hd2, ho2, hb⟩
        have HB72 := Lib.hid (HB65.out.trans (hb.mono HB65.out.size))
        obtain ⟨L2, c2b, rfl, _⟩ := own_slice ho2
        have HD73 : Hid (wc71.ownsRow w6.heap.size 55 3 (.slice A2 l.length c2) l.length (dps l)) := own_less hd2 HB65.out.size
        have HO74 : Hid (wc71.ownsRow w6.heap.size 9 1 (.slice L2 tl9.length c2b) tl9.length (tl9.map tsv)) := ho2
        have HZ75 := Lib.hid ((hb.block (wb49.heap.size) (lt_heap6y HZ68.out)).trans HZ68.out)
        clear hd2 ho2 hb
        refine hK _ _ HB72.out ?_
        clear hK K
        refine h_take 8 (.tuple #[.agg #[.int .i64 r.kind, .string (tx r.target), .int .u64 r.rule, .slice A2 l.length c2, .int .u64 r.out, .int .u64 r.time, .string (tx r.tag)], .int .i64 nx, .slice L2 tl9.length c2b, .int .i64 e9]) rfl (by kernel_rfl) (by kernel_rfl) (by kernel_rfl) (fun _ _ _ h => h) (by kernel_rfl) HB72.out (fun _ _ => by kernel_rfl) ?_
        refine h_take 9 (.agg #[.int .i64 r.kind, .string (tx r.target), .int .u64 r.rule, .slice A2 l.length c2, .int .u64 r.out, .int .u64 r.time, .string (tx r.tag)]) rfl (by kernel_rfl) (by kernel_rfl) (by kernel_rfl) (fun _ _ _ h => h) (by kernel_rfl) HB72.out (fun _ _ => by kernel_rfl) ?_
        refine h_take 10 (.int .i64 nx) rfl (by kernel_rfl) (by kernel_rfl) (by kernel_rfl) (fun _ _ _ h => h) (by kernel_rfl) HB72.out (fun _ _ => by kernel_rfl) ?_
        refine h_take 11 (.slice L2 tl9.length c2b) rfl (by kernel_rfl) (by kernel_rfl) (by kernel_rfl) (fun _ _ _ h => h) (by kernel_rfl) HB72.out (fun _ _ => by kernel_rfl) ?_
        refine h_take 12 (.int .i64 e9) rfl (by kernel_rfl) (by kernel_rfl) (by kernel_rfl) (fun _ _ _ h => h) (by kernel_rfl) HB72.out (fun _ _ => by kernel_rfl) ?_
        (try go_simp)
        refine h_one 14 rfl (by kernel_rfl) (by kernel_rfl) (fun K hK => ?_)
        refine wp_store_recbox (.tmp 12) (.tmp 58) rfl (wb49.heap.size) _ _ _ _ _ _ _ _ _ _ _ _ _ _ rfl rfl HZ75.out (by simp [Value.oneCell']) ?_
        intro wS hw hg
        have HRB2 : Hid (RecBox wS w6.heap.size (wb49.heap.size) r l A2 l.length c2) := ⟨hw, HG69.out, grown_own HD73.out hg (own_cells HD73.out HZ75.out (by decide))⟩
        have HOW2 : Hid (wS.ownsRow w6.heap.size 9 1 (.slice L2 tl9.length c2b) tl9.length (tl9.map tsv)) := grown_own HO74.out hg (own_cells HO74.out HZ75.out (by decide))
        have HBS : Hid (Below w6.heap.size w6 wS) := HB72.out.grown hg HB72.out.size (fun i e => by have h1 : wb49.heap.size = i := Option.some.inj e; have h2 := HG69.out; omega)
        clear hw hg
        refine hK _ _ HBS.out ?_
        clear hK K
        refine h_take 15 (.int .i64 nx) rfl (by kernel_rfl) (by kernel_rfl) (by kernel_rfl) (fun _ _ _ h => h) (by kernel_rfl) HBS.out (fun _ _ => by kernel_rfl) ?_
        refine h_take 16 (.slice L2 tl9.length c2b) rfl (by kernel_rfl) (by kernel_rfl) (by kernel_rfl) (fun _ _ _ h => h) (by kernel_rfl) HBS.out (fun _ _ => by kernel_rfl) ?_
        refine h_take 17 (.int .i64 e9) rfl (by kernel_rfl) (by kernel_rfl) (by kernel_rfl) (fun _ _ _ h => h) (by kernel_rfl) HBS.out (fun _ _ => by kernel_rfl) ?_
        refine wpAnyH_done (by kernel_rfl) ?_ _
        go_simp
        rw [HM2.out]
        exact ⟨wb49.heap.size, A2, c2, L2, c2b, _, _, _, _, _, _, _, _, _, _, _, _, _, _, _, _, _, _, _, _, _, _, _, _, _, _, _, _, _, _, _, _, _, _, _, _, _, _, _, _, _, _, _, _, rfl, HRB2.out, HOW2.out, HBS.out⟩
    · go_simp
      have hnew := one_new w6 (.cells #[.int .i64 0, .string ⟨#[]⟩, .int .u64 0, .slice none 0 0, .int .u64 0, .int .u64 0, .string ⟨#[]⟩] 26)
      have HB77 : Hid (Below w6.heap.size w6 ((w6.alloc (.cells #[.int .i64 0, .string ⟨#[]⟩, .int .u64 0, .slice none 0 0, .int .u64 0, .int .u64 0, .string ⟨#[]⟩] 26)).drew)) := HBD2.out.alloc HBD2.out.size (.cells #[.int .i64 0, .string ⟨#[]⟩, .int .u64 0, .slice none 0 0, .int .u64 0, .int .u64 0, .string ⟨#[]⟩] 26)
      have HZ79 : Hid (((w6.alloc (.cells #[.int .i64 0, .string ⟨#[]⟩, .int .u64 0, .slice none 0 0, .int .u64 0, .int .u64 0, .string ⟨#[]⟩] 26)).drew).heap[w6.heap.size]? = some (.cells #[.int .i64 0, .string ⟨#[]⟩, .int .u64 0, .slice none 0 0, .int .u64 0, .int .u64 0, .string ⟨#[]⟩] 26 (0, 0))) := hnew
      have HG80 : Hid (w6.heap.size ≤ w6.heap.size) := HBD2.out.size
      clear hnew
      generalize (w6.alloc (.cells #[.int .i64 0, .string ⟨#[]⟩, .int .u64 0, .slice none 0 0, .int .u64 0, .int .u64 0, .string ⟨#[]⟩] 26)).drew = wa76 at *
      refine hK _ _ HB77.out ?_
      clear hK K
      refine h_one 3 rfl (by kernel_rfl) (by kernel_rfl) (fun K hK => ?_)
      go_simp
      refine (HRNEW.out _ (HB6.out.trans (HB77.out.mono HB6.out.size))).mono ?_
      rintro e wb82 ⟨v7, rfl, ho7, hb⟩
      have HB83 := Lib.hid (HB77.out.trans (hb.mono HB77.out.size))
      obtain ⟨L7, c7, rfl, _⟩ := own_slice ho7
      have HO84 : Hid (wb82.ownsRow w6.heap.size 9 1 (.slice L7 tl.length c7) tl.length (tl.map tsv)) := own_less ho7 HB77.out.size
      have HZ85 := Lib.hid ((hb.block (w6.heap.size) (lt_heap6y HZ79.out)).trans HZ79.out)
      clear ho7 hb
      refine hK _ _ HB83.out ?_
      clear hK K
      refine h_one 7 rfl (by kernel_rfl) (by kernel_rfl) (fun K hK => ?_)
      go_simp
      refine (HX2.out L7 P c7 nP cP w6.heap.size wb82 HB83.out.size HO84.out (HRP.out _ (HB6.out.trans (HB83.out.mono HB6.out.size)))).mono ?_
      rintro e wc86 ⟨A2, c2, v2, rfl, hd2, ho2, hb⟩
      have HB87 := Lib.hid (HB83.out.trans (hb.mono HB83.out.size))
      obtain ⟨L2, c2b, rfl, _⟩ := own_slice ho2
      have HD88 : Hid (wc86.ownsRow w6.heap.size 55 3 (.slice A2 l.length c2) l.length (dps l)) := own_less hd2 HB83.out.size
      have HO89 : Hid (wc86.ownsRow w6.heap.size 9 1 (.slice L2 tl9.length c2b) tl9.length (tl9.map tsv)) := ho2
      have HZ90 := Lib.hid ((hb.block (w6.heap.size) (lt_heap6y HZ85.out)).trans HZ85.out)
      clear hd2 ho2 hb
      refine hK _ _ HB87.out ?_
      clear hK K
      refine h_take 8 (.tuple #[.agg #[.int .i64 r.kind, .string (tx r.target), .int .u64 r.rule, .slice A2 l.length c2, .int .u64 r.out, .int .u64 r.time, .string (tx r.tag)], .int .i64 nx, .slice L2 tl9.length c2b, .int .i64 e9]) rfl (by kernel_rfl) (by kernel_rfl) (by kernel_rfl) (fun _ _ _ h => h) (by kernel_rfl) HB87.out (fun _ _ => by kernel_rfl) ?_
      refine h_take 9 (.agg #[.int .i64 r.kind, .string (tx r.target), .int .u64 r.rule, .slice A2 l.length c2, .int .u64 r.out, .int .u64 r.time, .string (tx r.tag)]) rfl (by kernel_rfl) (by kernel_rfl) (by kernel_rfl) (fun _ _ _ h => h) (by kernel_rfl) HB87.out (fun _ _ => by kernel_rfl) ?_
      refine h_take 10 (.int .i64 nx) rfl (by kernel_rfl) (by kernel_rfl) (by kernel_rfl) (fun _ _ _ h => h) (by kernel_rfl) HB87.out (fun _ _ => by kernel_rfl) ?_
      refine h_take 11 (.slice L2 tl9.length c2b) rfl (by kernel_rfl) (by kernel_rfl) (by kernel_rfl) (fun _ _ _ h => h) (by kernel_rfl) HB87.out (fun _ _ => by kernel_rfl) ?_
      refine h_take 12 (.int .i64 e9) rfl (by kernel_rfl) (by kernel_rfl) (by kernel_rfl) (fun _ _ _ h => h) (by kernel_rfl) HB87.out (fun _ _ => by kernel_rfl) ?_
      (try go_simp)
      refine h_one 14 rfl (by kernel_rfl) (by kernel_rfl) (fun K hK => ?_)
      refine wp_store_recbox (.tmp 12) (.tmp 58) rfl (w6.heap.size) _ _ _ _ _ _ _ _ _ _ _ _ _ _ rfl rfl HZ90.out (by simp [Value.oneCell']) ?_
      intro wS hw hg
      have HRB2 : Hid (RecBox wS w6.heap.size (w6.heap.size) r l A2 l.length c2) := ⟨hw, HG80.out, grown_own HD88.out hg (own_cells HD88.out HZ90.out (by decide))⟩
      have HOW2 : Hid (wS.ownsRow w6.heap.size 9 1 (.slice L2 tl9.length c2b) tl9.length (tl9.map tsv)) := grown_own HO89.out hg (own_cells HO89.out HZ90.out (by decide))
      have HBS : Hid (Below w6.heap.size w6 wS) := HB87.out.grown hg HB87.out.size (fun i e => by have h1 : w6.heap.size = i := Option.some.inj e; have h2 := HG80.out; omega)
      clear hw hg
      refine hK _ _ HBS.out ?_
      clear hK K
      refine h_take 15 (.int .i64 nx) rfl (by kernel_rfl) (by kernel_rfl) (by kernel_rfl) (fun _ _ _ h => h) (by kernel_rfl) HBS.out (fun _ _ => by kernel_rfl) ?_
      refine h_take 16 (.slice L2 tl9.length c2b) rfl (by kernel_rfl) (by kernel_rfl) (by kernel_rfl) (fun _ _ _ h => h) (by kernel_rfl) HBS.out (fun _ _ => by kernel_rfl) ?_
      refine h_take 17 (.int .i64 e9) rfl (by kernel_rfl) (by kernel_rfl) (by kernel_rfl) (fun _ _ _ h => h) (by kernel_rfl) HBS.out (fun _ _ => by kernel_rfl) ?_
      refine wpAnyH_done (by kernel_rfl) ?_ _
      go_simp
      rw [HM2.out]
      exact ⟨w6.heap.size, A2, c2, L2, c2b, _, _, _, _, _, _, _, _, _, _, _, _, _, _, _, _, _, _, _, _, _, _, _, _, _, _, _, _, _, _, _, _, _, _, _, _, _, _, _, _, _, _, _, _, rfl, HRB2.out, HOW2.out, HBS.out⟩
  intro a8 w8 hv8
  rw [HM2.out] at hv8
  obtain ⟨b12, A2, c2, L2, c2b, v18, v19, v20, v21, v22, v23, v24, v25, v26, v27, v28, v29, v30, v31, v32, v33, v34, v35, v36, v37, v38, v39, v40, v41, v42, v43, v44, v45, v46, v47, v48, v49, v50, v51, v52, v53, v54, v55, v56, v57, v58, v59, v60, v61, rfl, hrb, how, hb⟩ := hv8
  have HB8 := Lib.hid (HB6.out.trans (hb.mono HB6.out.size))
  have HX8 := Lib.hid ((hb.block w.heap.size (lt_heap6y HX6.out)).trans HX6.out)
  have HU8 : Hid (Tab w8 U bu nL tl) := HU6.out.keep (fun k _ hk => hb.block k hk)
  have HTB8 : Hid (Tab w8 S9 bt N9 tl9) := HTB.out.keep (fun k _ hk => hb.block k hk)
  have HR9 := Lib.hid (HRB.out.below hb)
  have HR12 := Lib.hid hrb
  have HOW := Lib.hid how
  have hn9 : n9 = l.length := by have h1 := HRB.out.2.2.1; rw [dps_len] at h1; omega
  subst hn9
  have H58 : Hid (w5.heap.size ≤ w8.heap.size) := Nat.le_trans H56.out hb.size
  clear hrb how hb HM2 HX2
  have h9 := HR9.out.1
  have h12 := HR12.out.1
  have p0 := at_cell (i := 0) h9 rfl
  have p1 := at_cell (i := 1) h9 rfl
  have p2 := at_cell (i := 2) h9 rfl
  have p3 := at_cell (i := 3) h9 rfl
  have p4 := at_cell (i := 4) h9 rfl
  have p5 := at_cell (i := 5) h9 rfl
  have p6 := at_cell (i := 6) h9 rfl
  have r0 := at_cell (i := 0) h12 rfl
  have r1 := at_cell (i := 1) h12 rfl
  have r2 := at_cell (i := 2) h12 rfl
  have r3 := at_cell (i := 3) h12 rfl
  have r4 := at_cell (i := 4) h12 rfl
  have r5 := at_cell (i := 5) h12 rfl
  have r6 := at_cell (i := 6) h12 rfl
  clear h9 h12
  have HSAME := Lib.hid (rsame_any r r A9 A2 l.length l.length c9 c2 l l (by omega) w8 (Reads.of_own HR9.out.2.2) (Reads.of_own HR12.out.2.2))
  unfold rcv rsv at HSAME
  go_wp2_with fail
  refine HSAME.out.mono ?_
  rintro e w10 ⟨qq, hqq, rfl, hb⟩
  obtain rfl : qq = true := by simpa using hqq
  have HB10 := Lib.hid hb
  clear hb hqq HSAME
  clear p0 p1 p2 p3 p4 p5 p6 r0 r1 r2 r3 r4 r5 r6
  go_wp2_with fail
  refine (alltexts_any S9 bt N9 tl9 (by omega) w10 (HTB8.out.keep (fun k _ hk => HB10.out.block k hk))).mono ?_
  rintro e w11 ⟨A11, c11, rfl, hr11, hb⟩
  have HB11 := Lib.hid (HB10.out.trans (hb.mono HB10.out.size))
  have HR11 := Lib.hid hr11
  clear hb hr11
  go_wp2_with fail
  refine (texts_same A11 L2 tl9.length c11 c2b w11.heap.size w11.heap.size tl9 (by omega) w11 (Nat.le_refl _) (Nat.le_refl _) HR11.out (Reads.of_own (own_below HOW.out HB11.out))).mono ?_
  rintro e w12 ⟨rfl, hb⟩
  have HB12 := Lib.hid (HB11.out.trans (hb.mono HB11.out.size))
  have HBW := Lib.hid (HB8.out.trans (HB12.out.mono HB8.out.size))
  clear hb
  by_cases he0 : e9 = 0
  · subst he0
    obtain ⟨a, j, hat, hnx, haj, hF⟩ := HY.out rfl
    subst hat
    obtain ⟨nz, hnz⟩ : ∃ nz : Nat, nz = a + j + 1 := ⟨_, rfl⟩
    rw [← hnz] at hnx
    subst hnx
    have HNZ := Lib.hid hnz
    obtain ⟨hm, hnu, hfit, hpay⟩ := hF
    have hjn : nz ≤ nP := by have := HLP.out; omega
    have hanz : a ≤ nz := by omega
    have haltn : a < nP := by omega
    obtain ⟨ad, u0, rfl, _, _, _⟩ := (HRP.out w (Below.refl _ _)).at_ (k := a) (by omega)
    have HX12b := Lib.hid ((HB12.out.block w.heap.size (lt_heap6y HX8.out)).trans HX8.out)
    have HU12 : Hid (Tab w12 U bu nL tl) := HU8.out.keep (fun k _ hk => HB12.out.block k hk)
    have HR12b := Lib.hid (HR9.out.below HB12.out)
    have hlen : (payL ver tl r l).length = j + 1 := by rw [hpay, List.length_take, List.length_drop]; omega
    have HPAY := Lib.hid hpay
    have HLEN := Lib.hid hlen
    have HPUT := Lib.hid (put_ok U bu nL l.length c9 ver tl r A9 l hm hfit hnu (by omega) (by omega) w12 HU12.out (fun ad2 e _ h2 => by
        subst e
        have h3 := own_block HR12b.out.2.2 ad2.block rfl
        have h4 := (HUL.out _ h2).2
        omega) (Reads.of_own HR12b.out.2.2))
    have h9 := HR12b.out.1
    have hxx := HX12b.out
    have z0 := at_cell (i := 0) hxx rfl
    have p0 := at_cell (i := 0) h9 rfl
    have p1 := at_cell (i := 1) h9 rfl
    have p2 := at_cell (i := 2) h9 rfl
    have p3 := at_cell (i := 3) h9 rfl
    have p4 := at_cell (i := 4) h9 rfl
    have p5 := at_cell (i := 5) h9 rfl
    have p6 := at_cell (i := 6) h9 rfl
    clear h9 hxx hm hnu hfit hpay hlen hnz
    go_wp2_with fail
    refine HPUT.out.mono ?_
    rintro e w13 ⟨va, S13, rfl, ht13, hs13, ⟨us, hv13⟩, htu13⟩
    obtain ⟨Al, cl, rfl, hAl⟩ := own_slice hv13.1
    have HB13 := Lib.hid (HBW.out.trans (htu13.below (fun k hk => Nat.le_of_lt (HUL.out k hk).1) HBW.out.size))
    have HX13 := Lib.hid ((htu13.2.2.2.2 w.heap.size (lt_heap6y HX12b.out) (fun h => by have := (HUL.out _ h).1; omega)).trans HX12b.out)
    have HV13 := Lib.hid hv13
    rw [HLEN.out]
    clear hv13 ht13 hs13 htu13 hAl HPUT z0 p0 p1 p2 p3 p4 p5 p6
    go_wp2_with fail
    have hcP : nP ≤ cP := HCP.out
    have hsl : ∀ W : World, (Instr.sliceAt 22 (.slice (some ad) nP cP) (some (.int .i64 (a : Int))) (some (.int .i64 (nz : Int))) none).run Try.prog W = .ok (.slice (some (ad.add a)) (nz - a) (cP - a)) W := fun W => by
      have e1 : (0 : Int) ≤ (a : Int) := by omega
      have e2 : (a : Int) ≤ (nz : Int) := by omega
      have e3 : (nz : Int) ≤ (cP : Int) := by omega
      have e5 : ¬ cP = a := by omega
      go_simp
    refine wp_region_held (S := fun W => Below w13.heap.size w13 W) (by kernel_rfl) ?_
    refine h_one 0 rfl (by kernel_rfl) (by kernel_rfl) (fun K hK => ?_)
    go_simp
    refine (sfixed_any _).mono ?_
    rintro e w14 ⟨rfl, hb⟩
    have HB14 : Hid (Below w13.heap.size w13 w14) := ((Below.refl w13.heap.size w13).drew).trans hb
    have hS := HB14.out
    refine hK _ _ hS ?_
    clear hK K hb
    refine h_take 1 (.bool true) rfl (by kernel_rfl) (by kernel_rfl) (by kernel_rfl) (fun _ _ _ h => h) (by kernel_rfl) hS (fun _ _ => by kernel_rfl) ?_
    refine h_take 2 (.int .i64 0) rfl (by kernel_rfl) (by kernel_rfl) (by kernel_rfl) (fun _ _ _ h => h) (by kernel_rfl) hS (fun _ _ => by kernel_rfl) ?_
    refine h_take 3 (.bool true) rfl (by kernel_rfl) (by kernel_rfl) (by kernel_rfl) (fun _ _ _ h => h) (by kernel_rfl) hS (by intro v hv; go_simp) ?_
    refine h_take 4 (.bool true) rfl (by kernel_rfl) (by kernel_rfl) (by kernel_rfl) (fun _ _ _ h => h) (by kernel_rfl) hS (fun _ _ => by kernel_rfl) ?_
    refine h_take 5 (.bool true) rfl (by kernel_rfl) (by kernel_rfl) (by kernel_rfl) (fun _ _ _ h => h) (by kernel_rfl) hS (fun _ _ => by kernel_rfl) ?_
    refine h_take 6 (.slice Al (j + 1) cl) rfl (by kernel_rfl) (by kernel_rfl) (by kernel_rfl) (fun _ _ _ h => h) (by kernel_rfl) hS (fun _ _ => by kernel_rfl) ?_
    refine h_take 8 (.slice (some ad) nP cP) rfl (by kernel_rfl) (by kernel_rfl) (by kernel_rfl) (fun _ _ _ h => h) (by kernel_rfl) hS (fun _ _ => by kernel_rfl) ?_
    refine h_take 9 (.pointer (some ⟨w.heap.size, 1, none⟩)) rfl (by kernel_rfl) (by kernel_rfl) (by kernel_rfl) (fun _ _ _ h => h) (by kernel_rfl) hS (by intro v hv; go_simp) ?_
    refine h_take 10 (.int .i64 (a : Int)) rfl (by kernel_rfl) (by kernel_rfl) (by kernel_rfl) (fun _ _ _ h => h) (by kernel_rfl) hS (by intro v hv; have hxx := (hv.block w.heap.size (lt_heap6y HX13.out)).trans HX13.out; have z0 := at_cell (i := 0) hxx rfl; have z1 := at_cell (i := 1) hxx rfl; go_simp) ?_
    refine h_take 11 (.int .i64 (nz : Int)) rfl (by kernel_rfl) (by kernel_rfl) (by kernel_rfl) (fun _ _ _ h => h) (by kernel_rfl) hS (fun _ _ => by kernel_rfl) ?_
    refine h_take 12 (.slice (some (ad.add a)) (nz - a) (cP - a)) rfl (by kernel_rfl) (by kernel_rfl) (by kernel_rfl) (fun _ _ _ h => h) (by kernel_rfl) hS (by intro v hv; have h1 := hsl v; go_simp) ?_
    refine h_one 7 rfl (by kernel_rfl) (by kernel_rfl) (fun K hK => ?_)
    go_simp
    refine (strings_any Al (j + 1) cl (payL ver tl r l) (by have := HNZ.out; omega) w14 (by
        have h1 := pls_of_rowsz (HV13.out.below HB14.out)
        rw [HLEN.out] at h1
        exact h1)).mono ?_
    rintro e w15 ⟨A15, c15, rfl, hr15, hb⟩
    have HR15 := Lib.hid hr15
    have HB15 : Hid (Below w13.heap.size w13 w15) := HB14.out.trans (hb.mono HB14.out.size)
    refine hK _ _ HB15.out ?_
    clear hK K hb hr15
    refine h_one 13 rfl (by kernel_rfl) (by kernel_rfl) (fun K hK => ?_)
    go_simp
    have HSUB : Hid (Reads w15 w15.heap.size 1 (some (ad.add a)) (j + 1) ((payL ver tl r l).map tsv)) := by
      have h1 := HRP.out w15 (HB13.out.trans (HB15.out.mono HB13.out.size))
      have h2 := (h1.cut (k := a) (cap := cP) (by omega) hcP).take (k := j + 1) (by have := HNZ.out; omega)
      rw [Nat.mul_one, if_neg (by omega)] at h2
      rw [HPAY.out, List.map_take, List.map_drop]
      exact h2
    rw [show nz - a = j + 1 by have := HNZ.out; omega]
    refine (texts_same A15 (some (ad.add a)) (j + 1) c15 (cP - a) w15.heap.size w15.heap.size (payL ver tl r l) (by have := HNZ.out; omega) w15 (Nat.le_refl _) (Nat.le_refl _) HR15.out HSUB.out).mono ?_
    rintro e w16 ⟨rfl, hb⟩
    have HB16 : Hid (Below w13.heap.size w13 w16) := HB15.out.trans (hb.mono HB15.out.size)
    refine hK _ _ HB16.out ?_
    clear hK K hb
    refine h_take 14 (.bool true) rfl (by kernel_rfl) (by kernel_rfl) (by kernel_rfl) (fun _ _ _ h => h) (by kernel_rfl) HB16.out (fun _ _ => by kernel_rfl) ?_
    refine h_take 15 (.bool true) rfl (by kernel_rfl) (by kernel_rfl) (by kernel_rfl) (fun _ _ _ h => h) (by kernel_rfl) HB16.out (fun _ _ => by kernel_rfl) ?_
    refine wpAnyH_done (by kernel_rfl) ?_ _
    go_simp
    go_wp2
    go_ret
    exact ⟨rfl, HB13.out.trans (HB16.out.mono HB13.out.size)⟩
  · have he1 : (e9 == 0) = false := by simpa using he0
    have he2 : (e9 != 0) = true := by rw [bne, he1]; rfl
    go_wp2_with fail
    refine (sfixed_any _).mono ?_
    rintro e w13 ⟨rfl, hb⟩
    have HB13 := Lib.hid (HBW.out.trans (hb.mono HBW.out.size))
    clear hb
    go_wp2
    go_ret
    exact ⟨rfl, HB13.out⟩

end Go.Proofs.Ytidkahmjjknkmaa
