/- GraphCycle. -/
import Derived.Test.YtpjmkinloldmjaaXx
import Derived.Test.YtpjmkinloldmjaaXu
import Derived.Test.YtpjmkinloldmjaaXn
import Derived.Test.YtpjmkinloldmjaaXm
namespace Go.Proofs.Ytpjmkinloldmjaa
open Go.RowKit Go.Sort

/-- Places in an order, by names. -/
def atF (P : List (List UInt8)) (i : Nat) : List UInt8 → Option Value := fun s => if s ∈ P.take i then some (.int .i64 (P.idxOf s : Nat)) else none
theorem atF_step {P : List (List UInt8)} (hn : P.Nodup) {i : Nat} {a : List UInt8} (h : P[i]? = some a) (u : List UInt8) : fput (atF P i) a (.int .i64 (i : Int)) u = atF P (i + 1) u := by
  unfold fput atF
  rw [List.take_add_one, h]
  by_cases e : u = a
  · subst e
    rw [if_pos rfl, if_pos (by simp), idx_at hn h]
  · rw [if_neg e]
    have : u ∈ P.take i ++ (some a).toList ↔ u ∈ P.take i := by simp [e]
    simp only [this]
theorem atF_get {P : List (List UInt8)} {n : Nat} {s : List UInt8} {z : Value} (h : s ∈ P) (hn : P.length ≤ n) : (atF P n s).getD z = .int .i64 (P.idxOf s : Nat) := by
  unfold atF
  rw [List.take_of_length_le hn, if_pos h]
  rfl
theorem free_iff {b : Bool} {P : Prop} (h : Hid (FreeIs b P)) : b = true ↔ P := h.out
theorem order_badz (A : Option Addr) (n c : Nat) (xs : List Nw) (hn : n ≤ 1000000) (hok : NOk xs) (hc : chk (nds xs) ≠ 0) (w : World) (h : Nodes w w.heap.size A n xs) :
    Calls Try.prog 9 #[.slice A n c] w fun e w' => e = .returned (.tuple #[.slice none 0 0, .int .i64 (chk (nds xs))]) ∧ Below w.heap.size w w' :=
  Calls.mono (order_any A n c xs hn hok w h) (fun e w' ⟨⟨v, he, hv⟩, hb2⟩ => by
    rcases hv with ⟨_, h1⟩ | ⟨h0, _⟩
    · subst h1
      exact ⟨he, hb2⟩
    · exact absurd h0 hc)

set_option maxRecDepth 100000 in
set_option maxHeartbeats 4000000 in
theorem gcycle_any (A : Option Addr) (n c : Nat) (xs : List Nw) (hnc : n ≤ c) (hcm : c ≤ maxLen) (w : World) (hg : ∀ x ∈ xs, NGood w x) (h : Nodes w w.heap.size A n xs) :
    Calls Try.prog 6 #[.slice A n c] w fun e w' => e = .returned (.bool true) ∧ Below w.heap.size w w' := by
  have HL : Hid (xs.length = n) := h.len
  have HLD : Hid ((nds xs).length = n) := by show _ = _; rw [nds_len]; exact h.len
  have HG := Lib.hid (ggreat_any A n c xs (by omega) (fun x hx => ⟨(hg x hx).1, by have := (hg x hx).2.1; have := (hg x hx).2.2.1; omega⟩) w h)
  by_cases gs : GSm (nds xs)
  · have GS := Lib.hid gs
    have hn80 : n ≤ 80 := by rw [← HLD.out]; exact gs.2
    have HN80 : Hid (n ≤ 80) := hn80
    have HNS := Lib.hid h
    have hok : ∀ x ∈ xs, NFits x.d ∧ x.n ≤ 1000 := fun x hx => ⟨(hg x hx).1, by
      have h1 := (gs.1 x.d (List.mem_map.2 ⟨x, hx, rfl⟩)).1
      rw [(h.2 x hx).len] at h1
      omega⟩
    have hok2 : NOk xs := fun x hx => ⟨(hok x hx).1, by have := (hok x hx).2; omega⟩
    have HF := Lib.hid hok
    have HAB := Lib.hid (fun (W : World) (hb : Below w.heap.size w W) (s : List UInt8) (hs : s.length ≤ maxLen) => above_any A n c xs s hs (by omega) hok W ((h.below hb).more hb.size))
    by_cases hc0 : chk (nds xs) = 0
    · have HC0 := Lib.hid hc0
      have HOR := Lib.hid (fun (W : World) (hb : Below w.heap.size w W) => order_ok A n c xs (by omega) hok2 hc0 W ((h.below hb).more hb.size))
      have hmm := @run_makeMap Try.prog
      clear hok hok2 hg h gs hc0
      go_enter Try.func6, Try.ntmps6
      go_wp2_with (first
        | (go_at_call 9; refine (HOR.out _ HB2.out).mono ?_; rintro e w3 ⟨⟨A5, c5, rfl, hr3⟩, hb3⟩; have HR3 := Lib.hid hr3; have HB3 := Lib.hid (HB2.out.trans (hb3.mono HB2.out.size)); clear hr3 hb3)
        | (go_at_call 7; refine HG.out.mono ?_; rintro e w2 ⟨he, hb2⟩; obtain rfl := he.no (fun h => h GS.out); have HB2 := Lib.hid hb2; clear hb2))
      have HT0 := Lib.hid (tmap_start w3)
      have HA3 := Lib.hid ((Below.refl w3.heap.size w3).alloc (Nat.le_refl _) (.map #[] 0))
      go_loopw [24] (fun idx wr => ∃ i : Nat, i ≤ n ∧ idx = .int .i64 (i : Int) ∧ TMap wr w3.heap.size i (atF (nmO (nds xs)) i) ∧ Below w3.heap.size w3 wr) (fun idx _ => n - (intOf idx).toNat)
      case atStart => exact ⟨0, by omega, rfl, HT0.out.same (fun u => by simp [atF]), HA3.out⟩
      case round =>
        obtain ⟨i, hi, rfl, htm, hb⟩ := hrel
        have HTM0 := Lib.hid htm
        have HBR0 := Lib.hid hb
        by_cases hlt : i < n
        · obtain ⟨j, hj⟩ : ∃ j, (ord (nds xs))[i]? = some j := ⟨_, List.getElem?_eq_getElem (by rw [(chk_ok.1 HC0.out).2.2.2.2, HLD.out]; exact hlt)⟩
          have hjn : j < n := by rw [← HLD.out]; exact (ord_good (nds xs) _).1 j (List.mem_of_getElem? hj)
          obtain ⟨x, hx⟩ : ∃ x, xs[j]? = some x := ⟨_, List.getElem?_eq_getElem (by rw [HL.out]; exact hjn)⟩
          have HAT := Lib.hid (nmO_at hj (nds_at hx))
          have HXL := Lib.hid (HF.out x (List.mem_of_getElem? hx)).1.1
          have hbw := HB3.out.trans (hb.mono HB3.out.size)
          obtain ⟨ad, rfl, hab, k0, _, _, _⟩ := nodes_cells (HNS.out.below hbw).1 j x hx
          obtain ⟨a5, sv, rfl, hxb, hsv, hsc⟩ := (HR3.out.below hb).at_ hlt
          obtain rfl : sv = .int .i64 (j : Int) := by unfold ivs at hsv; rw [List.getElem?_map, hj] at hsv; simpa using hsv.symm
          obtain ⟨⟨nm, sc, ru, ds⟩, xA, xn, xc⟩ := x
          simp only at k0 HAT HXL
          have hj0 : ¬ (j : Int) < 0 := by omega
          have hj1 : ¬ (j : Int) ≥ (n : Int) := by omega
          have hj2 : (0 : Int) ≤ (j : Int) := by omega
          have hj3 : (j : Int) < (n : Int) := by omega
          have hi0 : (0 : Int) ≤ (i : Int) := by omega
          have hi1 : (i : Int) < (n : Int) := by omega
          have HI : Hid (i < n) := hlt
          clear hj hjn hx hbw hsv htm hb hlt
          go_wp2_with (at_mapUpdate; refine wpList_tput _ rfl _ _ _ 43 rfl 3 Try.underlying43 w3.heap.size i _ rfl HTM0.out (by unfold maxLen; omega) nm (.int .i64 (i : Int)) rfl rfl HXL.out ?_; intro w4 ht4 hg4; have HT4 := Lib.hid (ht4.same (atF_step (nmO_nodup _) HAT.out)); have HB4 := Lib.hid (HBR0.out.grown hg4 HBR0.out.size (fun j hj => by cases hj; exact Nat.le_refl _)); clear ht4 hg4)
          exact ⟨⟨i + 1, HI.out, by go_num, HT4.out, HB4.out⟩, by have := HI.out; simp [intOf]; omega⟩
        · obtain rfl : i = n := by omega
          obtain ⟨w4, hw4⟩ : ∃ x, x = wr := ⟨_, rfl⟩
          subst hw4
          have HTM := HTM0
          have HB3 := Lib.hid (HB3.out.trans (hb.mono HB3.out.size))
          clear htm hb hlt hi HTM0 HBR0
          have hn80 : i ≤ 80 := HN80.out
          obtain ⟨n, hn⟩ : ∃ n, n = i := ⟨_, rfl⟩
          subst hn
          go_wp2
          go_loopw [47, 8] (fun v47 v8 wr => ∃ i : Nat, i ≤ n ∧ v47 = .int .i64 (i : Int) ∧ v8 = .bool false ∧ Below w4.heap.size w4 wr) (fun v47 _ _ => n - (intOf v47).toNat)
          case atStart => exact ⟨0, by omega, rfl, rfl, Below.refl _ _⟩
          case round =>
            obtain ⟨i, hi, rfl, rfl, hb⟩ := hrel
            by_cases hlt : i < n
            · obtain ⟨x, hx⟩ : ∃ x, xs[i]? = some x := ⟨_, List.getElem?_eq_getElem (by rw [HL.out]; exact hlt)⟩
              have HBW := Lib.hid (HB3.out.trans (hb.mono HB3.out.size))
              obtain ⟨ad, rfl, hab, k0, k1, k2, k3⟩ := nodes_cells (HNS.out.below HBW.out).1 i x hx
              have hmx := List.mem_of_getElem? hx
              have HXL := Lib.hid (HF.out x hmx).1.1
              have HXM : Hid (x.d ∈ nds xs) := List.mem_map.2 ⟨x, hmx, rfl⟩
              have HXT : Hid ((nds xs).take (i + 1) = (nds xs).take i ++ [x.d]) := by show _ = _; rw [List.take_add_one, nds_at hx]; rfl
              have hi0 : (0 : Int) ≤ (i : Int) := by omega
              have hi1 : (i : Int) < (n : Int) := by omega
              have HI : Hid (i < n) := hlt
              have HBR := Lib.hid hb
              clear hmx hx hlt
              obtain ⟨⟨nm, sc, ru, ds⟩, xA, xn, xc⟩ := x
              simp only at k0 k1 k2 k3 HXL HXM HXT
              have HNEW := Lib.hid (one_new wr (.cells #[.string (tx nm), .bool sc, .int .u64 ru, .slice xA xn xc] 40))
              have hal : Below wr.heap.size wr (wr.alloc (.cells #[.string (tx nm), .bool sc, .int .u64 ru, .slice xA xn xc] 40)) := (Below.refl _ _).alloc (Nat.le_refl _) _
              have HB5 := Lib.hid (HBW.out.trans (hal.mono HBW.out.size))
              have HBR5 := Lib.hid (HBR.out.trans (hal.mono HBR.out.size))
              have HSB : Hid (wr.heap.size < (wr.alloc (.cells #[.string (tx nm), .bool sc, .int .u64 ru, .slice xA xn xc] 40)).heap.size) := by show _ < _; simp
              have p0 := at_cell (i := 0) HNEW.out rfl
              have HAB5 := Lib.hid (HAB.out _ HB5.out nm HXL.out)
              clear hal hb
              go_wp2_with (go_at_call 15; refine HAB5.out.mono ?_; rintro e w6 ⟨⟨o6, A6, c6, hi6, rfl, _, ho6⟩, hb6⟩; have HI6 := Lib.hid hi6; have HR6 := Lib.hid (Reads.of_own ho6); have HB6 := Lib.hid (HB5.out.trans (hb6.mono HB5.out.size)); have HBR6 := Lib.hid (HBR5.out.trans (hb6.mono HBR5.out.size)); have HBX := Lib.hid ((hb6.block wr.heap.size HSB.out).trans HNEW.out); clear hi6 ho6 hb6)
              obtain ⟨m6, hm6⟩ : ∃ m6, m6 = o6.length := ⟨_, rfl⟩
              rw [← hm6] at HR6 ⊢
              have HM6 := Lib.hid hm6
              have hm80 : m6 ≤ 1000 := by have := isAbv_len HI6.out; rw [HLD.out] at this; omega
              have q0 := at_cell (i := 0) HBX.out rfl
              clear hm6 k0 k1 k2 k3
              go_loopw [56, 8] (fun v56 v8 w7 => ∃ k : Nat, k ≤ m6 ∧ v56 = .int .i64 (k : Int) ∧ v8 = .bool false ∧ w6 = w7) (fun v56 _ _ => m6 - (intOf v56).toNat)
              case atStart => exact ⟨0, by omega, rfl, rfl, rfl⟩
              case round =>
                obtain ⟨k, hk, rfl, rfl, rfl⟩ := hrel
                by_cases hk2 : k < m6
                · obtain ⟨u, hu⟩ : ∃ u, o6[k]? = some u := ⟨_, List.getElem?_eq_getElem (by rw [← HM6.out]; exact hk2)⟩
                  obtain ⟨a6, sv, rfl, hxb, hsv, hsc⟩ := HR6.out.at_ hk2
                  obtain rfl : sv = tsv u := by rw [List.getElem?_map, hu] at hsv; simpa using hsv.symm
                  unfold tsv at hsc
                  have hrch := (HI6.out.2 u).1 (List.mem_of_getElem? hu)
                  have HTU : Hid (o6.take (k + 1) = o6.take k ++ [u]) := by show _ = _; rw [List.take_add_one, hu]; rfl
                  have hj0 : (0 : Int) ≤ (k : Int) := by omega
                  have hj1 : (k : Int) < (m6 : Int) := by omega
                  have HK2 : Hid (k < m6) := hk2
                  have hpos := rch_pos HC0.out hrch
                  have hne : u ≠ nm := fun e => by rw [e] at hpos; exact Nat.lt_irrefl _ hpos
                  have hun := nmO_all HC0.out (rch_name hrch)
                  have hnn := nmO_all HC0.out (List.mem_map.2 ⟨_, HXM.out, rfl⟩)
                  have hul : u.length ≤ maxLen := by
                    obtain ⟨x, hx, e⟩ := List.mem_map.1 (rch_name hrch)
                    obtain ⟨y, hy, rfl⟩ := List.mem_map.1 hx
                    rw [← e]; exact (HF.out y hy).1.1
                  have htm := HTM.out.below HBR6.out
                  have hl1 := htm.look hul Try.underlying43 (zeroI w6)
                  have hl2 := htm.look HXL.out Try.underlying43 (zeroI w6)
                  rw [atF_get hun (by rw [nmO_len HC0.out, HLD.out]; exact Nat.le_refl _)] at hl1
                  rw [atF_get hnn (by rw [nmO_len HC0.out, HLD.out]; exact Nat.le_refl _)] at hl2
                  simp only at hnn hpos hl2
                  generalize (nmO (nds xs)).idxOf u = pu at hpos hl1
                  generalize (nmO (nds xs)).idxOf nm = pn at hpos hl2
                  have hle : ¬ (pu : Int) ≤ (pn : Int) := by omega
                  have hle2 : ¬ pu ≤ pn := by omega
                  have he : ((tx u).toList == (tx nm).toList) = false := by
                    rw [beq_eq_false_iff_ne]
                    intro e2
                    exact hne (by simpa [tx] using e2)
                  clear hu hsv hrch hpos hne hun hnn hul htm hk2
                  go_wp2
                  exact ⟨⟨k + 1, HK2.out, by go_num, rfl, by first | trivial | rfl⟩, by have := HK2.out; simp [intOf]; omega⟩
                · obtain rfl : k = m6 := by omega
                  have hi2 : i < n := HI.out
                  go_wp2
                  exact ⟨⟨i + 1, by omega, by go_num, rfl, HBR6.out⟩, by simp [intOf]; omega⟩
            · obtain rfl : i = n := by omega
              have HB8 := Lib.hid (HB3.out.trans (hb.mono HB3.out.size))
              clear hb hlt
              go_wp2_with (go_at_call 8; refine (gfixed_any _).mono ?_; rintro e w9 ⟨rfl, hb9⟩; have HB9 := Lib.hid (HB8.out.trans (hb9.mono HB8.out.size)); clear hb9)
              go_ret
              exact ⟨rfl, HB9.out⟩
    · have HOR := Lib.hid (fun (W : World) (hb : Below w.heap.size w W) => order_badz A n c xs (by omega) hok2 hc0 W ((h.below hb).more hb.size))
      by_cases hc9 : chk (nds xs) = 9
      · have HCY := Lib.hid (chk_cycle hc9)
        rw [hc9] at HOR
        clear hc9
        have hmm := @run_makeMap Try.prog
        clear hok hok2 hg h gs hc0
        go_enter Try.func6, Try.ntmps6
        go_wp2_with (first
          | (go_at_call 9; refine (HOR.out _ HB2.out).mono ?_; rintro e w3 ⟨rfl, hb3⟩; have HB3 := Lib.hid (HB2.out.trans (hb3.mono HB2.out.size)); clear hb3)
          | (go_at_call 7; refine HG.out.mono ?_; rintro e w2 ⟨he, hb2⟩; obtain rfl := he.no (fun h => h GS.out); have HB2 := Lib.hid hb2; clear hb2))
        have HA3 := Lib.hid ((Below.refl w3.heap.size w3).alloc (Nat.le_refl _) (.map #[] 0))
        go_loopw [24] (fun idx wr => idx = .int .i64 0 ∧ Below w3.heap.size w3 wr) (fun idx _ => 0)
        case atStart => exact ⟨rfl, HA3.out⟩
        case round =>
          obtain ⟨rfl, hb⟩ := hrel
          obtain ⟨w4, hw4⟩ : ∃ x, x = wr := ⟨_, rfl⟩
          subst hw4
          have HB3 := Lib.hid (HB3.out.trans (hb.mono HB3.out.size))
          clear hb
          have HQ0 : Hid (FreeIs false (∃ y ∈ (nds xs).take 0, Rch (edges (nds xs)) y.name y.name)) := by show FreeIs _ _; unfold FreeIs; simp
          go_wp2
          go_loopw [47, 8] (fun v47 v8 wr => ∃ (i : Nat) (b : Bool), i ≤ n ∧ v47 = .int .i64 (i : Int) ∧ v8 = .bool b ∧ FreeIs b (∃ y ∈ (nds xs).take i, Rch (edges (nds xs)) y.name y.name) ∧ Below w4.heap.size w4 wr) (fun v47 _ _ => n - (intOf v47).toNat)
          case atStart => exact ⟨0, false, by omega, rfl, rfl, HQ0.out, Below.refl _ _⟩
          case round =>
            obtain ⟨i, b, hi, rfl, rfl, hq, hb⟩ := hrel
            have HQ := Lib.hid hq
            clear hq
            by_cases hlt : i < n
            · obtain ⟨x, hx⟩ : ∃ x, xs[i]? = some x := ⟨_, List.getElem?_eq_getElem (by rw [HL.out]; exact hlt)⟩
              have HBW := Lib.hid (HB3.out.trans (hb.mono HB3.out.size))
              obtain ⟨ad, rfl, hab, k0, k1, k2, k3⟩ := nodes_cells (HNS.out.below HBW.out).1 i x hx
              have hmx := List.mem_of_getElem? hx
              have HXL := Lib.hid (HF.out x hmx).1.1
              have HXM : Hid (x.d ∈ nds xs) := List.mem_map.2 ⟨x, hmx, rfl⟩
              have HXT : Hid ((nds xs).take (i + 1) = (nds xs).take i ++ [x.d]) := by show _ = _; rw [List.take_add_one, nds_at hx]; rfl
              have hi0 : (0 : Int) ≤ (i : Int) := by omega
              have hi1 : (i : Int) < (n : Int) := by omega
              have HI : Hid (i < n) := hlt
              have HBR := Lib.hid hb
              clear hmx hx hlt
              obtain ⟨⟨nm, sc, ru, ds⟩, xA, xn, xc⟩ := x
              simp only at k0 k1 k2 k3 HXL HXM HXT
              have HNEW := Lib.hid (one_new wr (.cells #[.string (tx nm), .bool sc, .int .u64 ru, .slice xA xn xc] 40))
              have hal : Below wr.heap.size wr (wr.alloc (.cells #[.string (tx nm), .bool sc, .int .u64 ru, .slice xA xn xc] 40)) := (Below.refl _ _).alloc (Nat.le_refl _) _
              have HB5 := Lib.hid (HBW.out.trans (hal.mono HBW.out.size))
              have HBR5 := Lib.hid (HBR.out.trans (hal.mono HBR.out.size))
              have HSB : Hid (wr.heap.size < (wr.alloc (.cells #[.string (tx nm), .bool sc, .int .u64 ru, .slice xA xn xc] 40)).heap.size) := by show _ < _; simp
              have p0 := at_cell (i := 0) HNEW.out rfl
              have HAB5 := Lib.hid (HAB.out _ HB5.out nm HXL.out)
              clear hal hb
              go_wp2_with (go_at_call 15; refine HAB5.out.mono ?_; rintro e w6 ⟨⟨o6, A6, c6, hi6, rfl, _, ho6⟩, hb6⟩; have HI6 := Lib.hid hi6; have HR6 := Lib.hid (Reads.of_own ho6); have HB6 := Lib.hid (HB5.out.trans (hb6.mono HB5.out.size)); have HBR6 := Lib.hid (HBR5.out.trans (hb6.mono HBR5.out.size)); have HBX := Lib.hid ((hb6.block wr.heap.size HSB.out).trans HNEW.out); clear hi6 ho6 hb6)
              obtain ⟨m6, hm6⟩ : ∃ m6, m6 = o6.length := ⟨_, rfl⟩
              rw [← hm6] at HR6 ⊢
              have HM6 := Lib.hid hm6
              have hm80 : m6 ≤ 1000 := by have := isAbv_len HI6.out; rw [HLD.out] at this; omega
              have q0 := at_cell (i := 0) HBX.out rfl
              clear hm6 k0 k1 k2 k3
              have HQ3 : Hid (FreeIs b ((∃ y ∈ (nds xs).take i, Rch (edges (nds xs)) y.name y.name) ∨ nm ∈ o6.take 0)) := by show FreeIs _ _; unfold FreeIs; rw [free_iff HQ]; simp
              go_loopw [56, 8] (fun v56 v8 w7 => ∃ (k : Nat) (b : Bool), k ≤ m6 ∧ v56 = .int .i64 (k : Int) ∧ v8 = .bool b ∧ FreeIs b ((∃ y ∈ (nds xs).take i, Rch (edges (nds xs)) y.name y.name) ∨ nm ∈ o6.take k) ∧ w6 = w7) (fun v56 _ _ => m6 - (intOf v56).toNat)
              case atStart => exact ⟨0, b, by omega, rfl, rfl, HQ3.out, rfl⟩
              case round =>
                obtain ⟨k, b, hk, rfl, rfl, hq3, rfl⟩ := hrel
                have HQ4 := Lib.hid hq3
                by_cases hk2 : k < m6
                · obtain ⟨u, hu⟩ : ∃ u, o6[k]? = some u := ⟨_, List.getElem?_eq_getElem (by rw [← HM6.out]; exact hk2)⟩
                  obtain ⟨a6, sv, rfl, hxb, hsv, hsc⟩ := HR6.out.at_ hk2
                  obtain rfl : sv = tsv u := by rw [List.getElem?_map, hu] at hsv; simpa using hsv.symm
                  unfold tsv at hsc
                  have hrch := (HI6.out.2 u).1 (List.mem_of_getElem? hu)
                  have HTU : Hid (o6.take (k + 1) = o6.take k ++ [u]) := by show _ = _; rw [List.take_add_one, hu]; rfl
                  have hj0 : (0 : Int) ≤ (k : Int) := by omega
                  have hj1 : (k : Int) < (m6 : Int) := by omega
                  have HK2 : Hid (k < m6) := hk2
                  clear hq3
                  cases b with
                  | true =>
                    have HNX : Hid (FreeIs true ((∃ y ∈ (nds xs).take i, Rch (edges (nds xs)) y.name y.name) ∨ nm ∈ o6.take (k + 1))) := by
                      show FreeIs _ _
                      unfold FreeIs
                      refine ⟨fun _ => (free_yes HQ4).imp id (fun h => ?_), fun _ => rfl⟩
                      rw [HTU.out]; exact List.mem_append.2 (.inl h)
                    clear hu hsv hrch hk2
                    go_wp2
                    exact ⟨⟨k + 1, true, HK2.out, by go_num, rfl, HNX.out, by first | trivial | rfl⟩, by have := HK2.out; simp [intOf]; omega⟩
                  | false =>
                    by_cases hun : u = nm
                    · have HNX : Hid (FreeIs true ((∃ y ∈ (nds xs).take i, Rch (edges (nds xs)) y.name y.name) ∨ nm ∈ o6.take (k + 1))) := by
                        show FreeIs _ _
                        unfold FreeIs
                        refine ⟨fun _ => .inr ?_, fun _ => rfl⟩
                        rw [HTU.out, hun]; simp
                      have he : ((tx u).toList == (tx nm).toList) = true := by rw [hun]; exact beq_self_eq_true _
                      clear hu hsv hrch hk2 hun
                      go_wp2
                      exact ⟨⟨k + 1, true, HK2.out, by go_num, rfl, HNX.out, by first | trivial | rfl⟩, by have := HK2.out; simp [intOf]; omega⟩
                    · have HNX : Hid (FreeIs false ((∃ y ∈ (nds xs).take i, Rch (edges (nds xs)) y.name y.name) ∨ nm ∈ o6.take (k + 1))) := by
                        show FreeIs _ _
                        unfold FreeIs
                        refine ⟨fun h => (by cases h), fun h => absurd ?_ (free_no HQ4)⟩
                        refine h.imp id (fun h => ?_)
                        rw [HTU.out] at h
                        rcases List.mem_append.1 h with h | h
                        · exact h
                        · exact absurd (List.mem_singleton.1 h).symm hun
                      have he : ((tx u).toList == (tx nm).toList) = false := by
                        rw [beq_eq_false_iff_ne]
                        intro e2
                        exact hun (by simpa [tx] using e2)
                      clear hu hsv hrch hk2 hun
                      go_wp2
                      exact ⟨⟨k + 1, false, HK2.out, by go_num, rfl, HNX.out, by first | trivial | rfl⟩, by have := HK2.out; simp [intOf]; omega⟩
                · obtain rfl : k = m6 := by omega
                  have HNX : Hid (FreeIs b (∃ y ∈ (nds xs).take (i + 1), Rch (edges (nds xs)) y.name y.name)) := by
                    show FreeIs _ _
                    unfold FreeIs
                    rw [free_iff HQ4, List.take_of_length_le (l := o6) (by rw [← HM6.out]; exact Nat.le_refl _), HI6.out.2, HXT.out]
                    constructor
                    · rintro (⟨y, hy, h⟩ | h)
                      · exact ⟨y, List.mem_append.2 (.inl hy), h⟩
                      · exact ⟨_, List.mem_append.2 (.inr (List.mem_singleton.2 rfl)), h⟩
                    · rintro ⟨y, hy, h⟩
                      rcases List.mem_append.1 hy with hy | hy
                      · exact .inl ⟨y, hy, h⟩
                      · rw [List.mem_singleton.1 hy] at h
                        exact .inr h
                  have hi2 : i < n := HI.out
                  clear hq3
                  go_wp2
                  exact ⟨⟨i + 1, b, by omega, by go_num, rfl, HNX.out, HBR6.out⟩, by simp [intOf]; omega⟩
            · obtain rfl : i = n := by omega
              have HB8 := Lib.hid (HB3.out.trans (hb.mono HB3.out.size))
              obtain rfl : b = true := (free_iff HQ).2 (by rw [List.take_of_length_le (by rw [HLD.out]; exact Nat.le_refl _)]; exact HCY.out)
              clear hb hlt
              go_wp2_with (go_at_call 8; refine (gfixed_any _).mono ?_; rintro e w9 ⟨rfl, hb9⟩; have HB9 := Lib.hid (HB8.out.trans (hb9.mono HB8.out.size)); clear hb9)
              go_ret
              exact ⟨rfl, HB9.out⟩
      · obtain ⟨z, hz⟩ : ∃ z, z = chk (nds xs) := ⟨_, rfl⟩
        rw [← hz] at HOR hc0 hc9
        have hz0 : (z == 0) = false := by rw [beq_eq_false_iff_ne]; exact hc0
        have hz9 : (z == 9) = false := by rw [beq_eq_false_iff_ne]; exact hc9
        have hy0 : (z != 0) = true := by rw [bne_iff_ne]; exact hc0
        have hy9 : (z != 9) = true := by rw [bne_iff_ne]; exact hc9
        clear hc9 hz
        have hmm := @run_makeMap Try.prog
        clear hok hok2 hg h gs hc0
        go_enter Try.func6, Try.ntmps6
        go_wp2_with (first
          | (go_at_call 9; refine (HOR.out _ HB2.out).mono ?_; rintro e w3 ⟨rfl, hb3⟩; have HB3 := Lib.hid (HB2.out.trans (hb3.mono HB2.out.size)); clear hb3)
          | (go_at_call 7; refine HG.out.mono ?_; rintro e w2 ⟨he, hb2⟩; obtain rfl := he.no (fun h => h GS.out); have HB2 := Lib.hid hb2; clear hb2))
        have HA3 := Lib.hid ((Below.refl w3.heap.size w3).alloc (Nat.le_refl _) (.map #[] 0))
        go_loopw [24] (fun idx wr => idx = .int .i64 0 ∧ Below w3.heap.size w3 wr) (fun idx _ => 0)
        case atStart => exact ⟨rfl, HA3.out⟩
        case round =>
          obtain ⟨rfl, hb⟩ := hrel
          obtain ⟨w4, hw4⟩ : ∃ x, x = wr := ⟨_, rfl⟩
          subst hw4
          have HB3 := Lib.hid (HB3.out.trans (hb.mono HB3.out.size))
          clear hb
          have HQ0 : Hid (FreeIs false (∃ y ∈ (nds xs).take 0, Rch (edges (nds xs)) y.name y.name)) := by show FreeIs _ _; unfold FreeIs; simp
          go_wp2
          go_loopw [47, 8] (fun v47 v8 wr => ∃ (i : Nat) (b : Bool), i ≤ n ∧ v47 = .int .i64 (i : Int) ∧ v8 = .bool b ∧ FreeIs b (∃ y ∈ (nds xs).take i, Rch (edges (nds xs)) y.name y.name) ∧ Below w4.heap.size w4 wr) (fun v47 _ _ => n - (intOf v47).toNat)
          case atStart => exact ⟨0, false, by omega, rfl, rfl, HQ0.out, Below.refl _ _⟩
          case round =>
            obtain ⟨i, b, hi, rfl, rfl, hq, hb⟩ := hrel
            have HQ := Lib.hid hq
            clear hq
            by_cases hlt : i < n
            · obtain ⟨x, hx⟩ : ∃ x, xs[i]? = some x := ⟨_, List.getElem?_eq_getElem (by rw [HL.out]; exact hlt)⟩
              have HBW := Lib.hid (HB3.out.trans (hb.mono HB3.out.size))
              obtain ⟨ad, rfl, hab, k0, k1, k2, k3⟩ := nodes_cells (HNS.out.below HBW.out).1 i x hx
              have hmx := List.mem_of_getElem? hx
              have HXL := Lib.hid (HF.out x hmx).1.1
              have HXM : Hid (x.d ∈ nds xs) := List.mem_map.2 ⟨x, hmx, rfl⟩
              have HXT : Hid ((nds xs).take (i + 1) = (nds xs).take i ++ [x.d]) := by show _ = _; rw [List.take_add_one, nds_at hx]; rfl
              have hi0 : (0 : Int) ≤ (i : Int) := by omega
              have hi1 : (i : Int) < (n : Int) := by omega
              have HI : Hid (i < n) := hlt
              have HBR := Lib.hid hb
              clear hmx hx hlt
              obtain ⟨⟨nm, sc, ru, ds⟩, xA, xn, xc⟩ := x
              simp only at k0 k1 k2 k3 HXL HXM HXT
              have HNEW := Lib.hid (one_new wr (.cells #[.string (tx nm), .bool sc, .int .u64 ru, .slice xA xn xc] 40))
              have hal : Below wr.heap.size wr (wr.alloc (.cells #[.string (tx nm), .bool sc, .int .u64 ru, .slice xA xn xc] 40)) := (Below.refl _ _).alloc (Nat.le_refl _) _
              have HB5 := Lib.hid (HBW.out.trans (hal.mono HBW.out.size))
              have HBR5 := Lib.hid (HBR.out.trans (hal.mono HBR.out.size))
              have HSB : Hid (wr.heap.size < (wr.alloc (.cells #[.string (tx nm), .bool sc, .int .u64 ru, .slice xA xn xc] 40)).heap.size) := by show _ < _; simp
              have p0 := at_cell (i := 0) HNEW.out rfl
              have HAB5 := Lib.hid (HAB.out _ HB5.out nm HXL.out)
              clear hal hb
              go_wp2_with (go_at_call 15; refine HAB5.out.mono ?_; rintro e w6 ⟨⟨o6, A6, c6, hi6, rfl, _, ho6⟩, hb6⟩; have HI6 := Lib.hid hi6; have HR6 := Lib.hid (Reads.of_own ho6); have HB6 := Lib.hid (HB5.out.trans (hb6.mono HB5.out.size)); have HBR6 := Lib.hid (HBR5.out.trans (hb6.mono HBR5.out.size)); have HBX := Lib.hid ((hb6.block wr.heap.size HSB.out).trans HNEW.out); clear hi6 ho6 hb6)
              obtain ⟨m6, hm6⟩ : ∃ m6, m6 = o6.length := ⟨_, rfl⟩
              rw [← hm6] at HR6 ⊢
              have HM6 := Lib.hid hm6
              have hm80 : m6 ≤ 1000 := by have := isAbv_len HI6.out; rw [HLD.out] at this; omega
              have q0 := at_cell (i := 0) HBX.out rfl
              clear hm6 k0 k1 k2 k3
              have HQ3 : Hid (FreeIs b ((∃ y ∈ (nds xs).take i, Rch (edges (nds xs)) y.name y.name) ∨ nm ∈ o6.take 0)) := by show FreeIs _ _; unfold FreeIs; rw [free_iff HQ]; simp
              go_loopw [56, 8] (fun v56 v8 w7 => ∃ (k : Nat) (b : Bool), k ≤ m6 ∧ v56 = .int .i64 (k : Int) ∧ v8 = .bool b ∧ FreeIs b ((∃ y ∈ (nds xs).take i, Rch (edges (nds xs)) y.name y.name) ∨ nm ∈ o6.take k) ∧ w6 = w7) (fun v56 _ _ => m6 - (intOf v56).toNat)
              case atStart => exact ⟨0, b, by omega, rfl, rfl, HQ3.out, rfl⟩
              case round =>
                obtain ⟨k, b, hk, rfl, rfl, hq3, rfl⟩ := hrel
                have HQ4 := Lib.hid hq3
                by_cases hk2 : k < m6
                · obtain ⟨u, hu⟩ : ∃ u, o6[k]? = some u := ⟨_, List.getElem?_eq_getElem (by rw [← HM6.out]; exact hk2)⟩
                  obtain ⟨a6, sv, rfl, hxb, hsv, hsc⟩ := HR6.out.at_ hk2
                  obtain rfl : sv = tsv u := by rw [List.getElem?_map, hu] at hsv; simpa using hsv.symm
                  unfold tsv at hsc
                  have hrch := (HI6.out.2 u).1 (List.mem_of_getElem? hu)
                  have HTU : Hid (o6.take (k + 1) = o6.take k ++ [u]) := by show _ = _; rw [List.take_add_one, hu]; rfl
                  have hj0 : (0 : Int) ≤ (k : Int) := by omega
                  have hj1 : (k : Int) < (m6 : Int) := by omega
                  have HK2 : Hid (k < m6) := hk2
                  clear hq3
                  cases b with
                  | true =>
                    have HNX : Hid (FreeIs true ((∃ y ∈ (nds xs).take i, Rch (edges (nds xs)) y.name y.name) ∨ nm ∈ o6.take (k + 1))) := by
                      show FreeIs _ _
                      unfold FreeIs
                      refine ⟨fun _ => (free_yes HQ4).imp id (fun h => ?_), fun _ => rfl⟩
                      rw [HTU.out]; exact List.mem_append.2 (.inl h)
                    clear hu hsv hrch hk2
                    go_wp2
                    exact ⟨⟨k + 1, true, HK2.out, by go_num, rfl, HNX.out, by first | trivial | rfl⟩, by have := HK2.out; simp [intOf]; omega⟩
                  | false =>
                    by_cases hun : u = nm
                    · have HNX : Hid (FreeIs true ((∃ y ∈ (nds xs).take i, Rch (edges (nds xs)) y.name y.name) ∨ nm ∈ o6.take (k + 1))) := by
                        show FreeIs _ _
                        unfold FreeIs
                        refine ⟨fun _ => .inr ?_, fun _ => rfl⟩
                        rw [HTU.out, hun]; simp
                      have he : ((tx u).toList == (tx nm).toList) = true := by rw [hun]; exact beq_self_eq_true _
                      clear hu hsv hrch hk2 hun
                      go_wp2
                      exact ⟨⟨k + 1, true, HK2.out, by go_num, rfl, HNX.out, by first | trivial | rfl⟩, by have := HK2.out; simp [intOf]; omega⟩
                    · have HNX : Hid (FreeIs false ((∃ y ∈ (nds xs).take i, Rch (edges (nds xs)) y.name y.name) ∨ nm ∈ o6.take (k + 1))) := by
                        show FreeIs _ _
                        unfold FreeIs
                        refine ⟨fun h => (by cases h), fun h => absurd ?_ (free_no HQ4)⟩
                        refine h.imp id (fun h => ?_)
                        rw [HTU.out] at h
                        rcases List.mem_append.1 h with h | h
                        · exact h
                        · exact absurd (List.mem_singleton.1 h).symm hun
                      have he : ((tx u).toList == (tx nm).toList) = false := by
                        rw [beq_eq_false_iff_ne]
                        intro e2
                        exact hun (by simpa [tx] using e2)
                      clear hu hsv hrch hk2 hun
                      go_wp2
                      exact ⟨⟨k + 1, false, HK2.out, by go_num, rfl, HNX.out, by first | trivial | rfl⟩, by have := HK2.out; simp [intOf]; omega⟩
                · obtain rfl : k = m6 := by omega
                  have HNX : Hid (FreeIs b (∃ y ∈ (nds xs).take (i + 1), Rch (edges (nds xs)) y.name y.name)) := by
                    show FreeIs _ _
                    unfold FreeIs
                    rw [free_iff HQ4, List.take_of_length_le (l := o6) (by rw [← HM6.out]; exact Nat.le_refl _), HI6.out.2, HXT.out]
                    constructor
                    · rintro (⟨y, hy, h⟩ | h)
                      · exact ⟨y, List.mem_append.2 (.inl hy), h⟩
                      · exact ⟨_, List.mem_append.2 (.inr (List.mem_singleton.2 rfl)), h⟩
                    · rintro ⟨y, hy, h⟩
                      rcases List.mem_append.1 hy with hy | hy
                      · exact .inl ⟨y, hy, h⟩
                      · rw [List.mem_singleton.1 hy] at h
                        exact .inr h
                  have hi2 : i < n := HI.out
                  clear hq3
                  go_wp2
                  exact ⟨⟨i + 1, b, by omega, by go_num, rfl, HNX.out, HBR6.out⟩, by simp [intOf]; omega⟩
            · obtain rfl : i = n := by omega
              have HB8 := Lib.hid (HB3.out.trans (hb.mono HB3.out.size))

              clear hb hlt
              go_wp2_with (go_at_call 8; refine (gfixed_any _).mono ?_; rintro e w9 ⟨rfl, hb9⟩; have HB9 := Lib.hid (HB8.out.trans (hb9.mono HB8.out.size)); clear hb9)
              go_ret
              exact ⟨rfl, HB9.out⟩
  · have GS := Lib.hid gs
    clear hg h gs
    go_enter Try.func6, Try.ntmps6
    go_wp2_with (first
      | (go_at_call 8; refine (gfixed_any _).mono ?_; rintro e w9 ⟨rfl, hb9⟩; have HB9 := Lib.hid (HB2.out.trans (hb9.mono HB2.out.size)); clear hb9)
      | (go_at_call 7; refine HG.out.mono ?_; rintro e w2 ⟨he, hb2⟩; obtain rfl := he.yes GS.out; have HB2 := Lib.hid hb2; clear hb2))
    go_ret
    exact ⟨rfl, HB9.out⟩

end Go.Proofs.Ytpjmkinloldmjaa
