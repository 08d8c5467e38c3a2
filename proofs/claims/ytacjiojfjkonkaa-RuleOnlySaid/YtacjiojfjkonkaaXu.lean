/- graph.Above. -/
import Derived.Laws.IdiomMaps
import Derived.Test.YtacjiojfjkonkaaXt
import Derived.Test.YtacjiojfjkonkaaXg
namespace Go.Proofs.Ytacjiojfjkonkaa
open Go.RowKit Go.Maps Go.Sort

theorem info_text : (Try.prog.info? 9).map (fun i => (i.zero, i.size, i.bytes)) = some (some (.string ⟨#[]⟩), 1, 16) := by kernel_rfl
def mapOf : Value → Nat
  | .map (some b) => b
  | _ => 0
/-- What was reached, what is fresh. -/
def Inv2 (E : List (List UInt8 × List UInt8)) (s : List UInt8) (F R : List (List UInt8)) : Prop := (∀ u ∈ R, Rch E s u) ∧ (∀ d ∈ F, d = s ∨ Rch E s d) ∧ ∀ d a, (d = s ∨ d ∈ R) → d ∉ F → (d, a) ∈ E → a ∈ R
theorem inv2_start (E : List (List UInt8 × List UInt8)) (s : List UInt8) : Inv2 E s [s] [] := ⟨by simp, by simp, fun d a h hn => by simp at h hn; exact absurd h hn⟩
theorem inv2_end {E : List (List UInt8 × List UInt8)} {s : List UInt8} {R : List (List UInt8)} (h : Inv2 E s [] R) : Clo E s R := fun d a hd => h.2.2 d a hd (by simp)
/-- A round. -/
def Inv4 (E : List (List UInt8 × List UInt8)) (s : List UInt8) (R U done : List (List UInt8)) : Prop := (∀ u ∈ U, Rch E s u) ∧ ∀ d ∈ done, ∀ a, (d, a) ∈ E → a ∈ R ++ U
theorem inv4_start (E : List (List UInt8 × List UInt8)) (s : List UInt8) (R : List (List UInt8)) : Inv4 E s R [] [] := ⟨by simp, by simp⟩
theorem inv4_end {E : List (List UInt8 × List UInt8)} {s : List UInt8} {F R U done : List (List UInt8)} (h2 : Inv2 E s F R) (h : Inv4 E s R U done) (hd : ∀ u ∈ F, u ∈ done) : Inv2 E s U (R ++ U) := by
  refine ⟨fun u hu => ?_, fun d hd => .inr (h.1 d hd), fun d a hda hn he => ?_⟩
  · rcases List.mem_append.1 hu with hu | hu
    · exact h2.1 u hu
    · exact h.1 u hu
  · by_cases hF : d ∈ F
    · exact h.2 d (hd d hF) a he
    · refine List.mem_append.2 (.inl (h2.2.2 d a ?_ hF he))
      rcases hda with h | h
      · exact .inl h
      · rcases List.mem_append.1 h with h | h
        · exact .inr h
        · exact absurd h hn
/-- A name's round. -/
def Inv5 (E : List (List UInt8 × List UInt8)) (s : List UInt8) (R U done : List (List UInt8)) (k : List UInt8) (j : Nat) : Prop := Inv4 E s R U done ∧ ∀ a ∈ (gOf E k).take j, a ∈ R ++ U
theorem inv5_start {E : List (List UInt8 × List UInt8)} {s : List UInt8} {R U done : List (List UInt8)} (h : Inv4 E s R U done) (k : List UInt8) : Inv5 E s R U done k 0 := ⟨h, by simp⟩
theorem inv5_end {E : List (List UInt8 × List UInt8)} {s : List UInt8} {R U done : List (List UInt8)} {k : List UInt8} {q : Nat} (h : Inv5 E s R U done k q) (hq : (gOf E k).length = q) : Inv4 E s R U (done ++ [k]) := by
  refine ⟨h.1.1, fun d hd a he => ?_⟩
  rcases List.mem_append.1 hd with hd | hd
  · exact h.1.2 d hd a he
  · obtain rfl : d = k := by simpa using hd
    refine h.2 a ?_
    rw [List.take_of_length_le (by omega)]
    exact gOf_mem.2 he
theorem inv5_in {E : List (List UInt8 × List UInt8)} {s : List UInt8} {R U done : List (List UInt8)} {k a : List UInt8} {j : Nat} (h : Inv5 E s R U done k j) (ha : (gOf E k)[j]? = some a) (hin : a ∈ R ++ U) : Inv5 E s R U done k (j + 1) := by
  refine ⟨h.1, fun x hx => ?_⟩
  rw [List.take_add_one, ha] at hx
  rcases List.mem_append.1 hx with hx | hx
  · exact h.2 x hx
  · obtain rfl : x = a := by simpa using hx
    exact hin
theorem inv5_new {E : List (List UInt8 × List UInt8)} {s : List UInt8} {F R U done : List (List UInt8)} {k a : List UInt8} {j : Nat} (h2 : Inv2 E s F R) (hk : k ∈ F) (h : Inv5 E s R U done k j) (ha : (gOf E k)[j]? = some a) : Inv5 E s R (U ++ [a]) done k (j + 1) := by
  have he : (k, a) ∈ E := gOf_mem.1 (List.mem_of_getElem? ha)
  have hr : Rch E s a := by
    rcases h2.2.1 k hk with e | e
    · exact rch_one (by rw [← e]; exact he)
    · exact rch_more e he
  refine ⟨⟨fun u hu => ?_, fun d hd b hb => ?_⟩, fun x hx => ?_⟩
  · rcases List.mem_append.1 hu with hu | hu
    · exact h.1.1 u hu
    · obtain rfl : u = a := by simpa using hu
      exact hr
  · have := h.1.2 d hd b hb
    simp only [List.mem_append] at this ⊢
    rcases this with h | h
    · exact .inl h
    · exact .inr (.inl h)
  · rw [List.take_add_one, ha] at hx
    simp only [List.mem_append]
    rcases List.mem_append.1 hx with hx | hx
    · have := h.2 x hx
      simp only [List.mem_append] at this
      rcases this with h | h
      · exact .inl h
      · exact .inr (.inl h)
    · exact .inr (.inr (by simpa using hx))

set_option maxRecDepth 100000 in
set_option maxHeartbeats 4000000 in
theorem above_any (A : Option Addr) (n c : Nat) (xs : List Nw) (s : List UInt8) (hs : s.length ≤ maxLen) (hn : n ≤ 1000) (hok : ∀ x ∈ xs, NFits x.d ∧ x.n ≤ 1000) (w : World) (h : Nodes w w.heap.size A n xs) :
    Calls Try.prog 16 #[.slice A n c, .string (tx s)] w fun e w' => (∃ out A' c', IsAbv (nds xs) s out ∧ e = .returned (.slice A' out.length c') ∧ (A' = none → c' = 0) ∧ w'.ownsRow w.heap.size 9 1 (.slice A' out.length c') out.length (out.map tsv)) ∧ Below w.heap.size w w' := by
  have HL : Hid (xs.length = n) := h.len
  have HLD : Hid ((nds xs).length = n) := by show _ = _; rw [nds_len]; exact h.len
  have HNS := Lib.hid h
  have HF := Lib.hid hok
  have HM0 := Lib.hid (madeOf_start w (w.heap.size + 1))
  have HB0 := Lib.hid ((Below.refl w.heap.size w).alloc (Nat.le_refl _) (.map #[] 0))
  have HS0 : Hid (w.heap.size + 1 ≤ (w.alloc (.map #[] 0)).heap.size) := by show w.heap.size + 1 ≤ _; simp
  have HEL : Hid (∀ i, (edges ((nds xs).take i)).length ≤ i * 1000) := edges_len (fun x hx => by
    obtain ⟨y, hy, rfl⟩ := List.mem_map.1 hx
    have h1 := (hok y hy).2
    rw [(h.2 y hy).len]; exact h1)
  have HNMS : Hid (∀ d a, (d, a) ∈ edges (nds xs) → a.length ≤ maxLen) := fun d a he => by
    obtain ⟨x, hx, rfl, _⟩ := mem_edges.1 he
    obtain ⟨y, hy, rfl⟩ := List.mem_map.1 hx
    exact (hok y hy).1.1
  have HSL := Lib.hid hs
  have hmm := @run_makeMap Try.prog
  obtain ⟨ii, hu0, hz0, hz1, hz2⟩ := info_parts info_text
  clear h hok hs
  go_enter Try.func16, Try.ntmps16
  go_wp2
  go_loopw [19] (fun idx wr => ∃ i : Nat, i ≤ n ∧ idx = .int .i64 (i : Int) ∧ MadeOf wr (w.heap.size + 1) w.heap.size (edges ((nds xs).take i)) ∧ w.heap.size + 1 ≤ wr.heap.size ∧ Below w.heap.size w wr) (fun idx _ => n - (intOf idx).toNat)
  case atStart => exact ⟨0, by omega, rfl, by rw [List.take_zero]; exact HM0.out, HS0.out, HB0.out⟩
  case round =>
    obtain ⟨i, hi, rfl, hmo, hsz, hb⟩ := hrel
    have HMO := Lib.hid hmo
    have HB := Lib.hid hb
    have HSZ := Lib.hid hsz
    obtain ⟨wA, hwA⟩ : ∃ x, x = wr := ⟨_, rfl⟩
    subst hwA
    by_cases hlt : i < n
    · obtain ⟨x, hx⟩ : ∃ x, xs[i]? = some x := ⟨_, List.getElem?_eq_getElem (by rw [HL.out]; exact hlt)⟩
      obtain ⟨ad, rfl, hab, k0, k1, k2, k3⟩ := nodes_cells (HNS.out.below hb).1 i x hx
      have hmx := List.mem_of_getElem? hx
      have HFX := Lib.hid (HF.out x hmx).1
      have HXN := Lib.hid (HF.out x hmx).2
      have HX := Lib.hid (show Reads w w.heap.size 1 x.A x.n (x.d.deps.map tsv) from HNS.out.2 x hmx)
      have HDL : Hid (x.d.deps.length = x.n) := (HNS.out.2 x hmx).len
      have HES : Hid (edges ((nds xs).take (i + 1)) = edges ((nds xs).take i) ++ x.d.deps.map fun d => (d, x.d.name)) := edges_succ (nds_at hx)
      have HELI := Lib.hid (HEL.out i)
      obtain ⟨E0, hE0⟩ : ∃ E0, E0 = edges ((nds xs).take i) := ⟨_, rfl⟩
      rw [← hE0] at HMO HES HELI
      have hi0 : (0 : Int) ≤ (i : Int) := by omega
      have hi1 : (i : Int) < (n : Int) := by omega
      have HI : Hid (i < n) := hlt
      clear hmx hx hmo hb hsz hE0 hlt
      obtain ⟨⟨nm, sc, ru, ds⟩, xA, xn, xc⟩ := x
      simp only at k0 k1 k2 k3 HFX HXN HX HDL HES
      have HNEW := Lib.hid (one_new wA (.cells #[.string (tx nm), .bool sc, .int .u64 ru, .slice xA xn xc] 37))
      have hal : Below wA.heap.size wA (wA.alloc (.cells #[.string (tx nm), .bool sc, .int .u64 ru, .slice xA xn xc] 37)) := (Below.refl _ _).alloc (Nat.le_refl _) _
      have HM1 := Lib.hid (HMO.out.below hal)
      have HB1 := Lib.hid (HB.out.trans (hal.mono HB.out.size))
      have HS1 : Hid (w.heap.size + 1 ≤ (wA.alloc (.cells #[.string (tx nm), .bool sc, .int .u64 ru, .slice xA xn xc] 37)).heap.size) := Nat.le_trans HSZ.out hal.size
      have p3 := at_cell (i := 3) HNEW.out rfl
      have HBX : Hid (w.heap.size + 1 ≤ wA.heap.size) := HSZ.out
      clear hal HMO
      go_wp2
      go_loopw [26] (fun idx wr => ∃ k : Nat, k ≤ xn ∧ idx = .int .i64 (k : Int) ∧ MadeOf wr (w.heap.size + 1) w.heap.size (E0 ++ (ds.take k).map fun d => (d, nm)) ∧ wr.heap[wA.heap.size]? = some (.cells #[.string (tx nm), .bool sc, .int .u64 ru, .slice xA xn xc] 37) ∧ w.heap.size + 1 ≤ wr.heap.size ∧ Below w.heap.size w wr) (fun idx _ => xn - (intOf idx).toNat)
      case atStart => exact ⟨0, by omega, rfl, by simpa using HM1.out, HNEW.out, HS1.out, HB1.out⟩
      case round =>
        obtain ⟨k, hk, rfl, hmo, hbx, hsz, hb⟩ := hrel
        have HB := Lib.hid hb
        have HSZ := Lib.hid hsz
        have HBX2 := Lib.hid hbx
        have hxn1 : xn ≤ 1000 := HXN.out
        by_cases hlt : k < xn
        · obtain ⟨d, hd⟩ : ∃ d, ds[k]? = some d := ⟨_, List.getElem?_eq_getElem (by rw [HDL.out]; exact hlt)⟩
          obtain ⟨ax, sv, rfl, hxb, hsv, hsc⟩ := (HX.out.below hb).at_ hlt
          obtain rfl : sv = tsv d := by rw [List.getElem?_map, hd] at hsv; simpa using hsv.symm
          unfold tsv at hsc
          have hdl : d.length ≤ maxLen := HFX.out.2 d (List.mem_of_getElem? hd)
          have HDM := Lib.hid hdl
          have HSU := Lib.hid (deps_succ nm hd)
          obtain ⟨L, hL⟩ : ∃ L, L = E0 ++ (ds.take k).map fun d => (d, nm) := ⟨_, rfl⟩
          have HLL : Hid (L.length ≤ 1001000) := by
            show _ ≤ _
            rw [hL, List.length_append, List.length_map, List.length_take]
            have h1 := HELI.out
            have h2 := HI.out
            have h3 := HXN.out
            have h4 : i * 1000 ≤ 1000 * 1000 := Nat.mul_le_mul_right _ (by omega)
            omega
          have HSU2 : Hid (E0 ++ (ds.take (k + 1)).map (fun d => (d, nm)) = L ++ [(d, nm)]) := by show _ = _; rw [hL, HSU.out, List.append_assoc]
          rw [← hL] at hmo
          obtain ⟨f, hm, hrow, hap⟩ := hmo
          obtain ⟨A4, c4, hv, hA4⟩ := own_slice (hrow d)
          have hlook := hm.look hdl Try.underlying59 (zeroTs wr)
          rw [hv] at hlook
          have HROW := Lib.hid hrow
          have HR1 := Lib.hid (hrow d)
          rw [hv] at HR1
          have HV := Lib.hid hv
          have HAP := Lib.hid hap
          have HM := Lib.hid hm
          have HGL := Lib.hid (gOf_len L d)
          obtain ⟨q, hq⟩ : ∃ q, q = (gOf L d).length := ⟨_, rfl⟩
          rw [← hq] at hlook HR1 HGL HV
          have HQ := Lib.hid hq
          have p0 := at_cell (i := 0) hbx rfl
          have hj0 : (0 : Int) ≤ (k : Int) := by omega
          have hj1 : (k : Int) < (xn : Int) := by omega
          have HLT : Hid (k < xn) := hlt
          clear hd hsv hdl hL hrow hv hap hm hq hb hsz hbx hlt
          go_wp2_with (first
            | (at_mapUpdate; refine wpList_tput _ rfl _ _ _ 59 rfl 35 Try.underlying59 w.heap.size L.length f rfl HM4.out (by have := HLL.out; unfold maxLen; omega) d v4 rfl rfl HDM.out ?_; intro w5 ht5 hg5; have HT5 := Lib.hid ht5; have HG5 := Lib.hid hg5; clear ht5 hg5)
            | (at_builtin; refine wpList_append_told _ rfl (.tmp 34) (.tmp 37) 35 rfl (w.heap.size + 1) 9 ii _ 1 16 Try.underlying35 hu0 hz0 hz1 hz2 rfl (by decide) (.slice A4 q c4) q _ rfl (HR1.out.alloc _) (some ⟨wr.heap.size, 0, none⟩) 1 1 (wr.heap.size + 1) [.string (tx nm)] rfl (by intro h; cases h) (reads_one_row wr 9 _) (by intro u hu; simp at hu; subst hu; rfl) (by have := HLL.out; have := HGL.out; unfold maxLen; omega) (by have := HLL.out; have := HGL.out; omega) (by have := HSZ.out; simp; omega) ?_; intro v4 w4 ho4 hg4 hto4; have HO4 := Lib.hid ho4; have HG4 := Lib.hid hg4; have HTO := Lib.hid hto4; have HM4 := Lib.hid ((HM.out.below ((Below.refl _ wr).alloc (Nat.le_refl _) (.cells #[.string (tx nm)] 9))).kept hg4 (fun e => by have := own_block HR1.out _ e.symm; omega)); clear ho4 hg4 hto4))
          have hal2 : Below wr.heap.size wr (wr.alloc (.cells #[.string (tx nm)] 9)) := (Below.refl _ wr).alloc (Nat.le_refl _) _
          have hrow2 : ∀ u, (wr.alloc (.cells #[.string (tx nm)] 9)).ownsRow (w.heap.size + 1) 9 1 ((f u).getD (.slice none 0 0)) (gOf L u).length ((gOf L u).map tsv) := fun u => own_below (HROW.out u) hal2
          have hmo5 := madeOf_step (d := d) (nm := nm) (Nat.lt_succ_self _) hrow2 HAP.out HV.out (by rw [← HQ.out]; exact HO4.out) HG4.out HTO.out HT5.out HG5.out
          rw [← HSU2.out] at hmo5
          have hbn : ∀ g, (Value.slice A4 q c4).ownBlock = some g → g ≠ wA.heap.size := fun g hg e => own_cells HR1.out HBX2.out (by decide) (by rw [hg, e])
          have hal3 : wA.heap.size < wr.heap.size := (Array.getElem?_eq_some_iff.1 HBX2.out).1
          have hbx5 := (HG5.out.block _ (Nat.lt_of_lt_of_le (Nat.lt_of_lt_of_le hal3 hal2.size) HG4.out.size) (fun e => by have := Option.some.inj e; have := HBX.out; omega)).trans ((HG4.out.block _ (Nat.lt_of_lt_of_le hal3 hal2.size) (fun e => hbn _ e.symm rfl)).trans ((hal2.block _ hal3).trans HBX2.out))
          have hb5 : Below w.heap.size w w5 := (((HB.out.trans (hal2.mono HB.out.size)).grown HG4.out (Nat.le_trans HB.out.size hal2.size) (fun j hj => by have := own_block HR1.out j hj; omega))).grown HG5.out (Nat.le_trans (Nat.le_trans HB.out.size hal2.size) HG4.out.size) (fun j hj => by cases hj; exact Nat.le_refl _)
          exact ⟨⟨k + 1, HLT.out, by go_num, hmo5, hbx5, Nat.le_trans HSZ.out (Nat.le_trans hal2.size (Nat.le_trans HG4.out.size HG5.out.size)), hb5⟩, by have := HLT.out; simp [intOf]; omega⟩
        · obtain rfl : xn = k := by omega
          have hmo2 := hmo
          rw [List.take_of_length_le (by rw [HDL.out]; omega), ← HES.out] at hmo2
          have HMO2 := Lib.hid hmo2
          clear hmo hmo2 hbx hsz hb
          have HI2 := HI
          go_wp2
          exact ⟨⟨i + 1, by have := HI2.out; omega, by go_num, HMO2.out, HSZ.out, HB.out⟩, by have := HI2.out; simp [intOf]; omega⟩
    · obtain rfl : i = n := by omega
      rw [List.take_of_length_le (by rw [HLD.out]; omega)] at HMO
      have HELN : Hid ((edges (nds xs)).length ≤ 1000000) := by
        have h1 := HEL.out (nds xs).length
        rw [List.take_length] at h1
        have h2 := HLD.out
        have h4 : (nds xs).length * 1000 ≤ 1000 * 1000 := Nat.mul_le_mul_right _ (by omega)
        show _ ≤ _
        omega
      have HCLO : Hid (∀ R : List (List UInt8), R.Nodup → Inv2 (edges (nds xs)) s [] R → IsAbv (nds xs) s (R.mergeSort (fun x y => decide (x ≤ y)))) := fun R hR hi => isAbv_of_clo hR hi.1 (inv2_end hi)
      have HRL : Hid (∀ R : List (List UInt8), R.Nodup → (∀ u ∈ R, Rch (edges (nds xs)) s u) → R.length ≤ i) := fun R hR hi => by rw [← HLD.out]; exact names_len hR fun u hu => rch_name (hi u hu)
      obtain ⟨E, hE⟩ : ∃ E, E = edges (nds xs) := ⟨_, rfl⟩
      rw [← hE] at HMO HELN HCLO HRL HNMS
      have HBZ := HB
      obtain ⟨f, hmf, hrowf, _⟩ := HMO.out
      have HMF := Lib.hid hmf
      have HROW := Lib.hid hrowf
      clear hmo hb hsz hE HEL HS0 HB0 HM0 HB hmf hrowf HMO
      have HT0 := Lib.hid (tset_start wA)
      have ha1 : Below wA.heap.size wA (wA.alloc (.map #[] 0)) := (Below.refl _ _).alloc (Nat.le_refl _) _
      have ha2 : Below wA.heap.size wA ((wA.alloc (.map #[] 0)).alloc (.map #[] 0)) := ha1.alloc (by simp) _
      have HT1 := Lib.hid (HT0.out.alloc (.map #[] 0))
      have hsz1 : (wA.alloc (.map #[] 0)).heap.size = wA.heap.size + 1 := by simp
      have ht2 := tset_start (wA.alloc (.map #[] 0))
      rw [hsz1] at ht2
      have HT2 := Lib.hid ht2
      have HA2 := Lib.hid ha2
      clear ht2 ha1 ha2 hsz1 HT0
      go_wp2_with ((with_reducible show wpList _ _ _ (Oper.mk _ (Op.insert _ _ _ _) _ _ _ _ :: _) _ _); refine wpList_sins _ rfl _ _ _ 46 rfl 4 Try.underlying46 (wA.heap.size + 1) [] rfl HT2.out (by unfold maxLen; simp) s rfl rfl HSL.out (by simp) ?_; intro w3 ht3 hg3; have HT3 : Hid (TSet w3 (wA.heap.size + 1) [s]) := ht3; have HR3 := Lib.hid (HT1.out.kept hg3 (fun e => by have := Option.some.inj e; omega)); have HB3 := Lib.hid (HA2.out.grown hg3 HA2.out.size (fun j hj => by cases hj; omega)); clear ht3 hg3)
      go_loopw [11] (fun v wr => ∃ (fb : Nat) (F R : List (List UInt8)), v = .map (some fb) ∧ TSet wr fb F ∧ TSet wr wA.heap.size R ∧ fb ≠ wA.heap.size ∧ Inv2 E s F R ∧ Below wA.heap.size wA wr) (fun v wr => 2 * (i - msz wr wA.heap.size) + (if msz wr (mapOf v) = 0 then 0 else 1))
      case atStart => exact ⟨wA.heap.size + 1, [s], [], rfl, HT3.out, HR3.out, by omega, inv2_start E s, HB3.out⟩
      case round =>
        obtain ⟨fb, F, R, rfl, hF, hR, hne, hinv, hb⟩ := hrel
        have HTF := Lib.hid hF
        have HTR := Lib.hid hR
        have HNE := Lib.hid hne
        have HINV := Lib.hid hinv
        have HB := Lib.hid hb
        have HRLEN := Lib.hid (HRL.out R hR.nodup hinv.1)
        obtain ⟨wB, hwB⟩ : ∃ x, x = wr := ⟨_, rfl⟩
        subst hwB
        obtain ⟨q, hq⟩ : ∃ q, q = F.length := ⟨_, rfl⟩
        have HQ := Lib.hid hq
        by_cases hF0 : q = 0
        · subst hF0
          obtain rfl : F = [] := List.length_eq_zero_iff.1 HQ.out.symm
          have HEND := Lib.hid (HCLO.out R hR.nodup hinv)
          have HSO := Lib.hid (sorted_any wA.heap.size R (by have := HRLEN.out; omega) wB hR)
          have HRL2 : Hid ((R.mergeSort (fun x y => decide (x ≤ y))).length = R.length) := List.length_mergeSort _
          clear hF hR hne hinv hb hq
          go_wp2_with (first
            | (at_len; refine wpList_slen _ rfl _ 46 rfl 4 Try.underlying46 fb [] rfl HTF.out ?_)
            | (go_at_call 25; refine HSO.out.mono ?_; rintro e w6 ⟨⟨A6, c6, rfl, hA6, ho6⟩, hb6⟩; have HO6 := Lib.hid ho6; have HA6 := Lib.hid hA6; have HB6 := Lib.hid hb6; clear ho6 hA6 hb6)
            | (go_at_call 26; refine (keys_any _ _).mono ?_; rintro e w5 ⟨rfl, rfl⟩))
          go_ret
          have hsz2 := Nat.le_trans HBZ.out.size HB.out.size
          have ho7 := own_less HO6.out hsz2
          exact ⟨⟨R.mergeSort (fun x y => decide (x ≤ y)), A6, c6, HEND.out, by rw [HRL2.out]; rfl, HA6.out, by rw [HRL2.out]; exact ho7⟩, HBZ.out.trans ((HB.out.trans (HB6.out.mono HB.out.size)).mono HBZ.out.size)⟩
        · have hq1 : 0 < q := by omega
          have HU0 := Lib.hid (tset_start wB)
          have hal : Below wB.heap.size wB (wB.alloc (.map #[] 0)) := (Below.refl _ _).alloc (Nat.le_refl _) _
          have HF1 := Lib.hid (hF.alloc (.map #[] 0))
          have HR1 := Lib.hid (hR.alloc (.map #[] 0))
          have HB1 := Lib.hid (hb.trans (hal.mono hb.size))
          have HFL : Hid (fb < wB.heap.size) := hF.lt
          have HRLT : Hid (wA.heap.size < wB.heap.size) := hR.lt
          have HF0 : Hid (q ≠ 0) := hF0
          clear hF hR hne hinv hb hal hF0 hq
          go_wp2_with (first
            | (at_len; refine wpList_slen _ rfl _ 46 rfl 4 Try.underlying46 fb F rfl HTF.out ?_; rw [← HQ.out])
            | (at_range; refine wpList_srange _ rfl _ 46 rfl 4 Try.underlying46 fb F rfl HF1.out ?_; intro w0 cnt0 hsr0 hg0 hs0; have HSR0 := Lib.hid hsr0; have HR0 := Lib.hid (HR1.out.kept hg0 (by simp)); have HUU := Lib.hid (HU0.out.kept hg0 (by simp)); have HBB := Lib.hid (HB1.out.grown hg0 HB1.out.size (fun j hj => by cases hj)); clear hsr0 hg0 hs0))
          go_frame
          obtain ⟨it, hit⟩ : ∃ it, it = (wB.alloc (.map #[] 0)).heap.size := ⟨_, rfl⟩
          have HITU : Hid (it = wB.heap.size + 1) := by show _ = _; rw [hit]; simp
          rw [← hit] at HSR0 ⊢
          clear hit
          go_loopw [13] (fun _ wr => ∃ (done U : List (List UInt8)) (cnt : Nat), SRange wr fb it F done cnt ∧ TSet wr wA.heap.size (R ++ U) ∧ TSet wr wB.heap.size U ∧ Inv4 E s R U done ∧ Below wA.heap.size wA wr) (fun _ wr => wr.rangeLeft fb it)
          case atStart => exact ⟨[], [], cnt0, HSR0.out, by simpa using HR0.out, HUU.out, inv4_start E s R, HBB.out⟩
          case round =>
            obtain ⟨done, U, cnt, hsr, htr, htu, hi4, hb⟩ := hrel
            have HSR := Lib.hid hsr
            have HTR4 := Lib.hid htr
            have HTU4 := Lib.hid htu
            have HI4 := Lib.hid hi4
            have HB4 := Lib.hid hb
            obtain ⟨wC, hwC⟩ : ∃ x, x = wr := ⟨_, rfl⟩
            subst hwC
            clear hsr htr htu hi4 hb
            go_wp2_with (at_next; refine wpList_snext _ rfl _ rfl fb it cnt F done rfl HSR.out ?_ ?_)
            · intro hdone
              have HI2 := Lib.hid (inv4_end HINV.out HI4.out hdone)
              have HRL4 := Lib.hid (HRL.out _ HTR4.out.nodup HI2.out.1)
              have hm1 := HTR4.out.msz
              have hm2 := HTU4.out.msz
              have hm3 := HTR.out.msz
              have hm4 := HTF.out.msz
              have HMS : Hid (2 * (i - msz wC wA.heap.size) + (if msz wC wB.heap.size = 0 then 0 else 1) < 2 * (i - msz wB wA.heap.size) + (if msz wB fb = 0 then 0 else 1)) := by
                show _ < _
                rw [hm1, hm2, hm3, hm4, ← HQ.out, if_neg HF0.out, List.length_append]
                have h1 := HRL4.out
                rw [List.length_append] at h1
                by_cases hU : U.length = 0
                · rw [if_pos hU]; omega
                · rw [if_neg hU]; omega
              clear hdone hm1 hm2 hm3 hm4
              go_wp2
              exact ⟨⟨wB.heap.size, U, R ++ U, rfl, HTU4.out, HTR4.out, by have := HRLT.out; omega, HI2.out, HB4.out⟩, HMS.out⟩
            · intro k cv w1 cnt1 hkF hkl hsr1 hlt1 hg1 hs1 hen
              have HKF := Lib.hid hkF
              have HLT1 := Lib.hid hlt1
              have HSR1 := Lib.hid hsr1
              have HU1 := Lib.hid (HTU4.out.kept hg1 (fun e => by have := Option.some.inj e; have := HITU.out; omega))
              have HR1 := Lib.hid (HTR4.out.kept hg1 (fun e => by have := Option.some.inj e; have := HITU.out; have := HRLT.out; omega))
              have hb1 := HB4.out.grown hg1 HB4.out.size (fun j hj => by cases hj; have := HITU.out; have := HRLT.out; omega)
              have HB1 := Lib.hid hb1
              have hrk := HROW.out k
              obtain ⟨A4, c4, hv, hA4⟩ := own_slice hrk
              have hlook := (HMF.out.below hb1).look hkl Try.underlying59 (zeroTs w1)
              rw [hv] at hlook hrk
              have HRK := Lib.hid (Reads.of_own hrk)
              have HGN : Hid (∀ a, a ∈ gOf E k → a.length ≤ maxLen) := fun a ha => HNMS.out k a (gOf_mem.1 ha)
              have HI5 := Lib.hid (inv5_start HI4.out k)
              have HSTEP := Lib.hid (fun (U : List (List UInt8)) (j : Nat) (a : List UInt8) (h : Inv5 E s R U done k j) (ha : (gOf E k)[j]? = some a) => inv5_new HINV.out hkF h ha)
              obtain ⟨qk, hqk⟩ : ∃ qk, qk = (gOf E k).length := ⟨_, rfl⟩
              rw [← hqk] at hlook HRK
              have HQK := Lib.hid hqk
              have hqb : qk ≤ 1000000 := by rw [hqk]; exact Nat.le_trans (gOf_len E k) HELN.out
              clear hkF hkl hsr1 hlt1 hg1 hs1 hb1 hrk hv hA4 hqk
              go_wp2
              go_loopw [59] (fun idx wr => ∃ (j : Nat) (U : List (List UInt8)), j ≤ qk ∧ idx = .int .i64 (j : Int) ∧ SRange wr fb it F (done ++ [k]) cnt1 ∧ TSet wr wA.heap.size (R ++ U) ∧ TSet wr wB.heap.size U ∧ Inv5 E s R U done k j ∧ Below wA.heap.size wA wr) (fun idx _ => qk - (intOf idx).toNat)
              case atStart => exact ⟨0, U, by omega, rfl, HSR1.out, HR1.out, HU1.out, HI5.out, HB1.out⟩
              case round =>
                obtain ⟨j, V, hj, rfl, hsr, htr, htu, hi5, hb⟩ := hrel
                have HSR5 := Lib.hid hsr
                have HTR5 := Lib.hid htr
                have HTU5 := Lib.hid htu
                have HI5 := Lib.hid hi5
                have HB5 := Lib.hid hb
                by_cases hlt : j < qk
                · obtain ⟨a, ha⟩ : ∃ a, (gOf E k)[j]? = some a := ⟨_, List.getElem?_eq_getElem (by rw [← HQK.out]; exact hlt)⟩
                  obtain ⟨ax, sv, rfl, hxb, hsv, hsc⟩ := (HRK.out.below hb).at_ hlt
                  obtain rfl : sv = tsv a := by rw [List.getElem?_map, ha] at hsv; simpa using hsv.symm
                  unfold tsv at hsc
                  have hal := HGN.out a (List.mem_of_getElem? ha)
                  have hlk := htr.map.look hal Try.underlying46 (zeroB wr)
                  rw [setF_get] at hlk
                  have HA := Lib.hid ha
                  have HAL := Lib.hid hal
                  have hj0 : (0 : Int) ≤ (j : Int) := by omega
                  have hj1 : (j : Int) < (qk : Int) := by omega
                  have HRN : Hid ((R ++ V).length ≤ i) := HRL.out _ htr.nodup (fun u hu => by
                    rcases List.mem_append.1 hu with hu | hu
                    · exact HINV.out.1 u hu
                    · exact hi5.1.1 u hu)
                  clear hsr htr htu hb ha hal hsv hi5
                  by_cases hin : a ∈ R ++ V
                  · have HN5 := Lib.hid (inv5_in HI5.out HA.out hin)
                    rw [decide_eq_true hin] at hlk
                    clear hin
                    go_wp2
                    exact ⟨⟨j + 1, V, by omega, by go_num, HSR5.out, HTR5.out, HTU5.out, HN5.out, HB5.out⟩, by simp [intOf]; omega⟩
                  · have HN5 := Lib.hid (HSTEP.out V j a HI5.out HA.out)
                    have HNI : Hid (a ∉ R ++ V) := hin
                    have HNV : Hid (a ∉ V) := fun h => hin (List.mem_append.2 (.inr h))
                    rw [decide_eq_false hin] at hlk
                    clear hin
                    go_wp2_with (first
                      | (at_mapUpdate; refine wpList_sput _ rfl _ _ _ 46 rfl 4 Try.underlying46 wB.heap.size V rfl HTU6.out (by have h1 := HRN.out; rw [List.length_append] at h1; unfold maxLen; omega) a rfl rfl HAL.out HNV.out ?_; intro w7 ht7 hg7; have HTU7 := Lib.hid ht7; have HTR7 := Lib.hid (HTR6.out.kept hg7 (fun e => by have := Option.some.inj e; have := HRLT.out; omega)); have HSR7 := Lib.hid (HSR6.out.kept hg7 (fun e => by have := Option.some.inj e; have := HFL.out; omega) (fun e => by have := Option.some.inj e; have := HITU.out; omega)); have HB7 := Lib.hid (HB6.out.grown hg7 HB6.out.size (fun j hj => by cases hj; have := HRLT.out; omega)); clear ht7 hg7)
                      | (at_mapUpdate; refine wpList_sput _ rfl _ _ _ 46 rfl 4 Try.underlying46 wA.heap.size (R ++ V) rfl HTR5.out (by have h1 := HRN.out; unfold maxLen; omega) a rfl rfl HAL.out HNI.out ?_; intro w6 ht6 hg6; have HTR6 := Lib.hid ht6; have HTU6 := Lib.hid (HTU5.out.kept hg6 (fun e => by have := Option.some.inj e; have := HRLT.out; omega)); have HSR6 := Lib.hid (HSR5.out.kept hg6 (fun e => HNE.out (Option.some.inj e)) (fun e => by have := Option.some.inj e; have := HITU.out; have := HRLT.out; omega)); have HB6 := Lib.hid (HB5.out.grown hg6 HB5.out.size (fun j hj => by cases hj; exact Nat.le_refl _)); clear ht6 hg6))
                    exact ⟨⟨j + 1, V ++ [a], by omega, by go_num, HSR7.out, by rw [← List.append_assoc]; exact HTR7.out, HTU7.out, HN5.out, HB7.out⟩, by simp [intOf]; omega⟩
                · obtain rfl : j = qk := by omega
                  have HE4 := Lib.hid (inv5_end hi5 HQK.out.symm)
                  have HLE : Hid (wr.rangeLeft fb it < wC.rangeLeft fb it) := by
                    show _ < _
                    rw [HSR5.out.left_eq, HSR.out.left_eq]
                    exact HLT1.out
                  clear hsr htr htu hb hi5
                  go_wp2
                  exact ⟨⟨done ++ [k], V, cnt1, HSR5.out, HTR5.out, HTU5.out, HE4.out, HB5.out⟩, HLE.out⟩

end Go.Proofs.Ytacjiojfjkonkaa
