/- graph.placed, graph.least. -/
import Derived.Test.YtcfmpajdhbcimaaXf
import Derived.Test.YtcfmpajdhbcimaaXq
import Derived.Sort.Walk0
namespace Go.Proofs.Ytcfmpajdhbcimaa
open Go.RowKit Go.Sort

/-- What nodes are gone through with: no text too long, not too many deps. -/
def NOk (xs : List Nw) : Prop := ∀ x ∈ xs, NFits x.d ∧ x.n ≤ 1000000
/-- Has a map those names alone? -/
def Has (f : List UInt8 → Option Value) (S : List (List UInt8)) : Prop := ∀ u, (f u).isSome = true ↔ u ∈ S
theorem Has.none : Has (fun _ => none) [] := fun u => by simp
theorem Has.put {f : List UInt8 → Option Value} {S : List (List UInt8)} (h : Has f S) (s : List UInt8) (v : Value) : Has (fput f s v) (S ++ [s]) := fun u => by
  unfold fput
  by_cases e : u = s
  · subst e; simp
  · simp [e, h u]
theorem names_take {xs : List Nw} {i : Nat} {x : Nw} (hx : xs[i]? = some x) : ((nds xs).take (i + 1)).map Nd.name = ((nds xs).take i).map Nd.name ++ [x.d.name] := by
  rw [List.take_add_one, nds_at hx, List.map_append]
  rfl
theorem tx_less (a b : List UInt8) : Op.bytesLess (tx a).toList (tx b).toList = decide (a < b) := by rw [bytesLess_eq, tx_toList, tx_toList]

theorem nodup_at {l : List Nd} (h : (l.map Nd.name).Nodup) : ∀ {i k : Nat} {x y : Nd}, l[i]? = some x → l[k]? = some y → x.name = y.name → i = k := by
  induction l with
  | nil => intro i k x y h1; cases h1
  | cons a l ih =>
    have h2 := List.nodup_cons.1 (show (a.name :: l.map Nd.name).Nodup from h)
    clear h
    intro i k x y h3 h4 e
    match i, k with
    | 0, 0 => rfl
    | 0, k + 1 =>
      obtain rfl : a = x := Option.some.inj h3
      exact absurd (List.mem_map.2 ⟨y, List.mem_of_getElem? (show l[k]? = some y from h4), e.symm⟩) h2.1
    | i + 1, 0 =>
      obtain rfl : a = y := Option.some.inj h4
      exact absurd (List.mem_map.2 ⟨x, List.mem_of_getElem? (show l[i]? = some x from h3), e⟩) h2.1
    | i + 1, k + 1 => rw [ih h2.2 h3 h4 e]

def PlPost (xs : List Nw) (n : Nat) (w : World) (e : Ending) (w' : World) : Prop :=
  Below w.heap.size w w' ∧ ((64 < n ∧ e = .returned (.tuple #[.map none, .int .i64 5])) ∨ (n ≤ 64 ∧ errN (nds xs) n ≠ 0 ∧ e = .returned (.tuple #[.map none, .int .i64 (errN (nds xs) n)])) ∨
    (n ≤ 64 ∧ errN (nds xs) n = 0 ∧ ∃ b N f, e = .returned (.tuple #[.map (some b), .int .i64 0]) ∧ TMap w' b N f ∧ Has f ((nds xs).map Nd.name)))

set_option maxRecDepth 100000 in
set_option maxHeartbeats 4000000 in
theorem placed_any (A : Option Addr) (n c : Nat) (xs : List Nw) (hn : n ≤ 1000000) (hok : NOk xs) (w : World) (h : Nodes w w.heap.size A n xs) :
    Calls Try.prog 16 #[.slice A n c] w fun e w' => PlPost xs n w e w' := by
  have HL : Hid (xs.length = n) := h.len
  have HLD : Hid ((nds xs).length = n) := by show _ = _; rw [nds_len]; exact h.len
  have HNS := Lib.hid h
  have HF := Lib.hid hok
  have HT0 := Lib.hid (tmap_start w)
  have HB0 := Lib.hid ((Below.refl w.heap.size w).alloc (Nat.le_refl _) (.map #[] 0))
  have hmm := @run_makeMap Try.prog
  clear h hok
  by_cases h64 : n ≤ 64
  · have d64 : decide ((n : Int) > 64) = false := decide_eq_false (by omega)
    go_enter Try.func16, Try.ntmps16
    go_wp2
    go_loopw [16] (fun idx wr => ∃ i : Nat, i ≤ n ∧ idx = .int .i64 (i : Int) ∧ errN (nds xs) i = 0 ∧ (∃ f, TMap wr w.heap.size i f ∧ Has f (((nds xs).take i).map Nd.name)) ∧ Below w.heap.size w wr) (fun idx _ => n - (intOf idx).toNat)
    case atStart => exact ⟨0, by omega, rfl, rfl, ⟨_, HT0.out, by simpa using Has.none⟩, HB0.out⟩
    case round =>
      obtain ⟨i, hi, rfl, her, ⟨f, ht, hhas⟩, hb⟩ := hrel
      have HB := Lib.hid hb
      have HER := Lib.hid her
      have HHAS := Lib.hid hhas
      by_cases hlt : i < n
      · obtain ⟨x, hx⟩ : ∃ x, xs[i]? = some x := ⟨_, List.getElem?_eq_getElem (by rw [HL.out]; exact hlt)⟩
        have hnr := (HNS.out.below hb)
        obtain ⟨ad, rfl, hab, k0, k1, k2, k3⟩ := nodes_cells hnr.1 i x hx
        have hmx := List.mem_of_getElem? hx
        have hfx := HF.out x hmx
        have hin := Reads.more (hnr.2 x hmx) hb.size
        have hxd := nds_at hx
        have HES := Lib.hid (err_step hxd her)
        have HNT := Lib.hid (names_take hx)
        have HTO : Hid (errN (nds xs) (i + 1) ≠ 0 → errN (nds xs) n = errN (nds xs) (i + 1)) := fun h1 => by
          have h2 := err_to h1 (by rw [HLD.out]; omega)
          rw [HLD.out] at h2
          exact h2
        obtain ⟨⟨nm, sc, ru, ds⟩, xA, xn, xc⟩ := x
        simp only at k0 k1 k2 k3 hfx hin HES HNT
        have hnew := one_new wr (.cells #[.string (tx nm), .bool sc, .int .u64 ru, .slice xA xn xc] 36)
        have p0 := at_cell (i := 0) hnew rfl
        have p1 := at_cell (i := 1) hnew rfl
        have p2 := at_cell (i := 2) hnew rfl
        have p3 := at_cell (i := 3) hnew rfl
        have hb2 := hb.alloc hb.size (.cells #[.string (tx nm), .bool sc, .int .u64 ru, .slice xA xn xc] 36)
        have ht2 := ht.below ((Below.refl wr.heap.size wr).alloc (Nat.le_refl _) (.cells #[.string (tx nm), .bool sc, .int .u64 ru, .slice xA xn xc] 36))
        have hlk := ht2.look2 hfx.1.1 Try.underlying31 (zeroI (wr.alloc (.cells #[.string (tx nm), .bool sc, .int .u64 ru, .slice xA xn xc] 36)))
        have HB2 := Lib.hid hb2
        have HT2 := Lib.hid ht2
        have HNM := Lib.hid hfx.1.1
        have HNEW := Lib.hid hnew
        have HAL := Lib.hid (alone_any ⟨⟨nm, sc, ru, ds⟩, xA, xn, xc⟩ hfx.1 hfx.2 (wr.alloc (.cells #[.string (tx nm), .bool sc, .int .u64 ru, .slice xA xn xc] 36)) (Reads.more (Reads.below hin ((Below.refl wr.heap.size wr).alloc (Nat.le_refl _) (.cells #[.string (tx nm), .bool sc, .int .u64 ru, .slice xA xn xc] 36))) (by simp)))
        unfold Nw.val at HAL
        simp only at HAL
        generalize (f nm).getD (Value.int .i64 0) = g at hlk
        have hi0 : (0 : Int) ≤ (i : Int) := by omega
        have hi1 : (i : Int) < (n : Int) := by omega
        have hsome := hhas nm
        cases hq : (f nm).isSome with
        | true =>
          have HE1 : Hid (errN (nds xs) (i + 1) = 1) := HES.out.trans (if_pos (hsome.1 hq))
          rw [hq] at hlk
          clear hx hmx hfx hin hxd hnr hnew hb hb2 ht ht2 hhas her hq hsome
          go_wp2
          go_ret2
          exact ⟨HB2.out, .inr (.inl ⟨h64, by rw [HTO.out (by rw [HE1.out]; decide), HE1.out]; decide, by rw [HTO.out (by rw [HE1.out]; decide), HE1.out]; rfl⟩)⟩
        | false =>
          have HE1 : Hid (errN (nds xs) (i + 1) = aloneE ⟨nm, sc, ru, ds⟩) := HES.out.trans (if_neg (fun h => by rw [hsome.2 h] at hq; cases hq))
          rw [hq] at hlk
          have hi9 : i < 1000000 := by omega
          clear hx hmx hfx hin hxd hnr hnew hb hb2 ht ht2 hhas her hq hsome
          by_cases h0 : aloneE ⟨nm, sc, ru, ds⟩ = 0
          · have H00 := Lib.hid h0
            rw [h0] at HAL HE1
            clear h0
            go_wp2_with (first
              | (at_mapUpdate; refine wpList_tput _ rfl _ _ _ 31 rfl 3 Try.underlying31 w.heap.size i _ rfl HT3.out (by unfold maxLen; omega) nm _ rfl rfl HNM.out ?_; intro w4 ht4 hg4; have HT4 := Lib.hid ht4; have HB4 := Lib.hid (HB3.out.grown hg4 HB3.out.size (fun j hj => by cases hj; exact Nat.le_refl _)); clear ht4 hg4)
              | (go_at_call 23; refine HAL.out.mono ?_; rintro e w3 ⟨rfl, hb3⟩; have HB3 := Lib.hid (HB2.out.trans (hb3.mono HB2.out.size)); have HT3 := Lib.hid (HT2.out.below hb3); have r0 := at_cell (i := 0) ((hb3.block wr.heap.size (by simp)).trans HNEW.out) rfl; clear hb3))
            exact ⟨⟨i + 1, by omega, by go_num, HE1.out, ⟨_, HT4.out, by rw [HNT.out]; exact HHAS.out.put nm _⟩, HB4.out⟩, by simp [intOf]; omega⟩
          · have H00 := Lib.hid h0
            have hne : (aloneE ⟨nm, sc, ru, ds⟩ != 0) = true := by rw [bne_iff_ne]; exact h0
            clear h0
            obtain ⟨z, hz⟩ : ∃ z, z = aloneE ⟨nm, sc, ru, ds⟩ := ⟨_, rfl⟩
            rw [← hz] at HAL HE1 H00 hne
            clear hz
            go_wp2_with (go_at_call 23; refine HAL.out.mono ?_; rintro e w3 ⟨rfl, hb3⟩; have HB3 := Lib.hid (HB2.out.trans (hb3.mono HB2.out.size)); clear hb3)
            go_ret2
            exact ⟨HB3.out, .inr (.inl ⟨h64, by rw [HTO.out (by rw [HE1.out]; exact H00.out), HE1.out]; exact H00.out, by rw [HTO.out (by rw [HE1.out]; exact H00.out), HE1.out]; rfl⟩)⟩
      · obtain rfl : i = n := by omega
        have HT := Lib.hid ht
        rw [List.take_of_length_le (by rw [HLD.out]; omega)] at HHAS
        clear ht hhas hb her
        go_wp2
        go_ret2
        exact ⟨HB.out, .inr (.inr ⟨h64, HER.out, _, _, _, rfl, HT.out, HHAS.out⟩)⟩
  · have d64 : decide ((n : Int) > 64) = true := decide_eq_true (by omega)
    go_enter Try.func16, Try.ntmps16
    go_wp2
    go_ret2
    exact ⟨Below.refl _ _, .inl ⟨by omega, rfl⟩⟩

/-- The two answers of least. -/
def LsV (o : Option Nat) (v4 v5 : Value) : Prop := (o = none ∧ v4 = .int .i64 0 ∧ v5 = .bool false) ∨ ∃ k : Nat, o = some k ∧ v4 = .int .i64 (k : Int) ∧ v5 = .bool true

set_option maxRecDepth 100000 in
set_option maxHeartbeats 4000000 in
theorem least_any (A : Option Addr) (n c : Nat) (xs : List Nw) (b N : Nat) (f : List UInt8 → Option Value) (S : List (List UInt8)) (hn : n ≤ 1000000) (hok : NOk xs) (hnd : ((nds xs).map Nd.name).Nodup) (hhas : Has f S) (w : World) (h : Nodes w w.heap.size A n xs) (ht : TMap w b N f) :
    Calls Try.prog 24 #[.slice A n c, .map (some b)] w fun e w' => (∃ v4 v5, LsV (lstN (nds xs) S n) v4 v5 ∧ e = .returned (.tuple #[v4, v5])) ∧ Below w.heap.size w w' := by
  have HL : Hid (xs.length = n) := h.len
  have HLD : Hid ((nds xs).length = n) := by show _ = _; rw [nds_len]; exact h.len
  have HNS := Lib.hid h
  have HF := Lib.hid hok
  have HT := Lib.hid ht
  have HHAS := Lib.hid hhas
  have HND := Lib.hid hnd
  clear h hok ht hhas hnd
  go_enter Try.func24, Try.ntmps24
  go_wp2
  go_loopw [12, 4, 5] (fun idx v4 v5 wr => ∃ i : Nat, i ≤ n ∧ idx = .int .i64 (i : Int) ∧ LsV (lstN (nds xs) S i) v4 v5 ∧ Below w.heap.size w wr) (fun idx _ _ _ => n - (intOf idx).toNat)
  case atStart => exact ⟨0, by omega, rfl, .inl ⟨rfl, rfl, rfl⟩, Below.refl _ _⟩
  case round =>
    obtain ⟨i, hi, rfl, hls, hb⟩ := hrel
    by_cases hlt : i < n
    · obtain ⟨x, hx⟩ : ∃ x, xs[i]? = some x := ⟨_, List.getElem?_eq_getElem (by rw [HL.out]; exact hlt)⟩
      have hnr := (HNS.out.below hb)
      obtain ⟨ad, rfl, hab, k0, k1, k2, k3⟩ := nodes_cells hnr.1 i x hx
      have hmx := List.mem_of_getElem? hx
      have hfx := HF.out x hmx
      have hin := Reads.more (hnr.2 x hmx) hb.size
      have hxd := nds_at hx
      have HXD := Lib.hid hxd
      obtain ⟨⟨nm, sc, ru, ds⟩, xA, xn, xc⟩ := x
      simp only at k0 k1 k2 k3 hfx hin HXD
      have hnew := one_new wr (.cells #[.string (tx nm), .bool sc, .int .u64 ru, .slice xA xn xc] 36)
      have p0 := at_cell (i := 0) hnew rfl
      have p1 := at_cell (i := 1) hnew rfl
      have p2 := at_cell (i := 2) hnew rfl
      have p3 := at_cell (i := 3) hnew rfl
      have hb2 := hb.alloc hb.size (.cells #[.string (tx nm), .bool sc, .int .u64 ru, .slice xA xn xc] 36)
      have HB2 := Lib.hid hb2
      have ht2 := HT.out.below ((Below.refl w.heap.size w).trans hb2)
      have hlk := ht2.look2 hfx.1.1 Try.underlying31 (zeroI (wr.alloc (.cells #[.string (tx nm), .bool sc, .int .u64 ru, .slice xA xn xc] 36)))
      have HAI := Lib.hid (fun (q : Nat) => allin_any b N f xA xn xc ds hfx.2 hfx.1.2 ((wr.alloc (.cells #[.string (tx nm), .bool sc, .int .u64 ru, .slice xA xn xc] 36)).drewN q) (ht2.below (below_drewN _ _ q)) (Reads.more (Reads.below hin (((Below.refl wr.heap.size wr).alloc (Nat.le_refl _) (.cells #[.string (tx nm), .bool sc, .int .u64 ru, .slice xA xn xc] 36)).trans (below_drewN _ _ q))) (by rw [show ((wr.alloc (.cells #[.string (tx nm), .bool sc, .int .u64 ru, .slice xA xn xc] 36)).drewN q).heap.size = (wr.alloc (.cells #[.string (tx nm), .bool sc, .int .u64 ru, .slice xA xn xc] 36)).heap.size from rfl]; simp)))
      generalize (f nm).getD (Value.int .i64 0) = g at hlk
      have hi0 : (0 : Int) ≤ (i : Int) := by omega
      have hi1 : (i : Int) < (n : Int) := by omega
      have hsome := HHAS.out nm
      cases hq : (f nm).isSome with
      | true =>
        have HNR : Hid (¬ Ready S ⟨nm, sc, ru, ds⟩) := fun h => h.1 (hsome.1 hq)
        have HSK := Lib.hid (lst_skip HXD.out HNR.out)
        rw [hq] at hlk
        rcases hls with ⟨ho, rfl, rfl⟩ | ⟨k, ho, rfl, rfl⟩
        · have HO := Lib.hid ho
          clear ho hq
          clear hx hmx hfx hin hxd hnr hnew hb hb2 ht2 hsome
          go_wp2
          go_quiet (fail)
          go_wp2
          exact ⟨⟨i + 1, by omega, by go_num, by rw [HSK.out]; exact .inl ⟨HO.out, rfl, rfl⟩, HB2.out.trans (below_drewN _ _ _)⟩, by simp [intOf]; omega⟩
        · have HO := Lib.hid ho
          clear ho hq
          clear hx hmx hfx hin hxd hnr hnew hb hb2 ht2 hsome
          go_wp2
          go_quiet (fail)
          go_wp2
          exact ⟨⟨i + 1, by omega, by go_num, by rw [HSK.out]; exact .inr ⟨k, HO.out, rfl, rfl⟩, HB2.out.trans (below_drewN _ _ _)⟩, by simp [intOf]; omega⟩
      | false =>
        have HNI : Hid (nm ∉ S) := fun h => by rw [hsome.2 h] at hq; cases hq
        rw [hq] at hlk
        rcases hls with ⟨ho, rfl, rfl⟩ | ⟨k, ho, rfl, rfl⟩
        · have HO := Lib.hid ho
          by_cases hall : ∀ d ∈ ds, (f d).isSome = true
          · have HALL := Lib.hid hall
            have HRD : Hid (Ready S ⟨nm, sc, ru, ds⟩) := ⟨HNI.out, fun d hd => (HHAS.out d).1 (HALL.out d hd)⟩
            have HFI := Lib.hid (lst_first HXD.out HRD.out HO.out)
            clear ho hq hall
            clear hx hmx hfx hin hxd hnr hnew hb hb2 ht2 hsome
            go_wp2
            go_quiet (fail)
            go_wp2_with (go_at_call 17; refine (HAI.out _).mono ?_; rintro e w3 ⟨he, rfl⟩; obtain rfl := he.yes HALL.out)
            exact ⟨⟨i + 1, by omega, by go_num, by rw [HFI.out]; exact .inr ⟨i, rfl, rfl, rfl⟩, HB2.out.trans (below_drewN _ _ _)⟩, by simp [intOf]; omega⟩
          · have HALL := Lib.hid hall
            have HNR : Hid (¬ Ready S ⟨nm, sc, ru, ds⟩) := fun h => HALL.out (fun d hd => (HHAS.out d).2 (h.2 d hd))
            have HSK := Lib.hid (lst_skip HXD.out HNR.out)
            clear ho hq hall
            clear hx hmx hfx hin hxd hnr hnew hb hb2 ht2 hsome
            go_wp2
            go_quiet (fail)
            go_wp2_with (go_at_call 17; refine (HAI.out _).mono ?_; rintro e w3 ⟨he, rfl⟩; obtain rfl := he.no HALL.out)
            exact ⟨⟨i + 1, by omega, by go_num, by rw [HSK.out]; exact .inl ⟨HO.out, rfl, rfl⟩, HB2.out.trans (below_drewN _ _ _)⟩, by simp [intOf]; omega⟩
        · have HO := Lib.hid ho
          obtain ⟨y, hy, hky, hry, _⟩ := lst_some ho
          have hkn : k < n := by omega
          obtain ⟨yw, hyw⟩ : ∃ yw, xs[k]? = some yw := ⟨_, List.getElem?_eq_getElem (by rw [HL.out]; exact hkn)⟩
          have hyd : yw.d = y := by have h1 := nds_at hyw; rw [hy] at h1; exact (Option.some.inj h1).symm
          obtain ⟨ad2, e2, _, j0, _⟩ := nodes_cells hnr.1 k yw hyw
          obtain rfl : ad = ad2 := by injection e2
          have j1 : (wr.alloc (.cells #[.string (tx nm), .bool sc, .int .u64 ru, .slice xA xn xc] 36)).cell? (ad.add (k * 4)) = some (.string (tx y.name)) := by
            rw [← hyd]
            exact (World.cell?_alloc_lt wr _ _ (by rw [block_of_add]; have := hb.size; omega)).trans j0
          have HY := Lib.hid hy
          have hne : nm ≠ y.name := fun e => by
            exact absurd (nodup_at HND.out hy HXD.out e.symm) (by omega)
          obtain ⟨ynm, ysc, yru, yds⟩ := y
          simp only at j1 hne
          have hl1 := tx_less nm ynm
          have hl2 : ((tx nm).toList == (tx ynm).toList) = false := by rw [tx_toList, tx_toList]; exact beq_eq_false_iff_ne.2 hne
          have hk0 : (0 : Int) ≤ (k : Int) := by omega
          have hk1 : (k : Int) < (n : Int) := by omega
          by_cases hgt : ynm < nm
          · rw [decide_eq_false (lx_asymm hgt)] at hl1
            have HKE := Lib.hid (lst_keep HXD.out HO.out HY.out (lx_asymm hgt))
            clear ho hq hy hky hry hyw hyd j0 e2 hgt hne
            clear hx hmx hfx hin hxd hnr hnew hb hb2 ht2 hsome
            go_wp2
            go_quiet (fail)
            go_wp2
            exact ⟨⟨i + 1, by omega, by go_num, by rw [HKE.out]; exact .inr ⟨k, rfl, rfl, rfl⟩, HB2.out.trans (below_drewN _ _ _)⟩, by simp [intOf]; omega⟩
          · have hlt2 : nm < ynm := by
              rcases lx_tri nm ynm with h | h | h
              · exact h
              · exact absurd h hne
              · exact absurd h hgt
            rw [decide_eq_true hlt2] at hl1
            have HLT2 := Lib.hid hlt2
            by_cases hall : ∀ d ∈ ds, (f d).isSome = true
            · have HALL := Lib.hid hall
              have HRD : Hid (Ready S ⟨nm, sc, ru, ds⟩) := ⟨HNI.out, fun d hd => (HHAS.out d).1 (HALL.out d hd)⟩
              have HFI := Lib.hid (lst_less HXD.out HRD.out HO.out HY.out HLT2.out)
              clear ho hq hall hy hky hry hyw hyd j0 e2 hgt hne hlt2
              clear hx hmx hfx hin hxd hnr hnew hb hb2 ht2 hsome
              go_wp2
              go_quiet (fail)
              go_wp2_with (go_at_call 17; refine (HAI.out _).mono ?_; rintro e w3 ⟨he, rfl⟩; obtain rfl := he.yes HALL.out)
              exact ⟨⟨i + 1, by omega, by go_num, by rw [HFI.out]; exact .inr ⟨i, rfl, rfl, rfl⟩, HB2.out.trans (below_drewN _ _ _)⟩, by simp [intOf]; omega⟩
            · have HALL := Lib.hid hall
              have HNR : Hid (¬ Ready S ⟨nm, sc, ru, ds⟩) := fun h => HALL.out (fun d hd => (HHAS.out d).2 (h.2 d hd))
              have HSK := Lib.hid (lst_skip HXD.out HNR.out)
              clear ho hq hall hy hky hry hyw hyd j0 e2 hgt hne hlt2
              clear hx hmx hfx hin hxd hnr hnew hb hb2 ht2 hsome
              go_wp2
              go_quiet (fail)
              go_wp2_with (go_at_call 17; refine (HAI.out _).mono ?_; rintro e w3 ⟨he, rfl⟩; obtain rfl := he.no HALL.out)
              exact ⟨⟨i + 1, by omega, by go_num, by rw [HSK.out]; exact .inr ⟨k, HO.out, rfl, rfl⟩, HB2.out.trans (below_drewN _ _ _)⟩, by simp [intOf]; omega⟩
    · obtain rfl : i = n := by omega
      have HLS := Lib.hid hls
      have HB := Lib.hid hb
      clear hls hb
      go_wp2
      go_ret2
      exact ⟨⟨_, _, HLS.out, rfl⟩, HB.out⟩

end Go.Proofs.Ytcfmpajdhbcimaa
