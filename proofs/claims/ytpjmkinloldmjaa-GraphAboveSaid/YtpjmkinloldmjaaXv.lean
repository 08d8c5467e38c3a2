/- The document's Above. -/
import Derived.Test.YtpjmkinloldmjaaXu
import Derived.Test.YtpjmkinloldmjaaIhp
import Derived.Test.YtpjmkinloldmjaaGj
import Derived.Test.YtpjmkinloldmjaaH
namespace Go.Proofs.Ytpjmkinloldmjaa
open Go.RowKit Go.Maps Go.Sort

/-- Rounds that were gone. -/
def RInv (E : List (List UInt8 × List UInt8)) (s : List UInt8) (r : Nat) (out : List (List UInt8)) : Prop := out.Nodup ∧ (∀ u ∈ out, Rch E s u) ∧ (Clo E s out ∨ r ≤ out.length)
/-- In a round: what stood at its head, the edges that were looked at. -/
def QInv (E : List (List UInt8 × List UInt8)) (s : List UInt8) (out0 : List (List UInt8)) (L : List (List UInt8 × List UInt8)) (out : List (List UInt8)) : Prop :=
  out.Nodup ∧ (∀ u ∈ out, Rch E s u) ∧ (∃ ext, out = out0 ++ ext ∧ (Clo E s out0 → ext = [])) ∧ ∀ d a, (d = s ∨ d ∈ out0) → (d, a) ∈ L → a ∈ out
theorem qinv_start {E : List (List UInt8 × List UInt8)} {s : List UInt8} {r : Nat} {out : List (List UInt8)} (h : RInv E s r out) : QInv E s out [] out := ⟨h.1, h.2.1, ⟨[], by simp, fun _ => rfl⟩, by simp⟩
theorem qinv_end {E : List (List UInt8 × List UInt8)} {s : List UInt8} {r : Nat} {out0 out : List (List UInt8)} (h0 : RInv E s r out0) (h : QInv E s out0 E out) : RInv E s (r + 1) out := by
  obtain ⟨h1, h2, ⟨ext, rfl, h3⟩, h4⟩ := h
  refine ⟨h1, h2, ?_⟩
  cases ext with
  | nil =>
    rw [List.append_nil] at h4 ⊢
    exact .inl h4
  | cons e ext =>
    rcases h0.2.2 with hc | hr
    · cases h3 hc
    · exact .inr (by rw [List.length_append, List.length_cons]; omega)
theorem rinv_clo {ns : List Nd} {s : List UInt8} {out : List (List UInt8)} (h : RInv (edges ns) s (ns.length + 1) out) : Clo (edges ns) s out := by
  rcases h.2.2 with hc | hr
  · exact hc
  · have := names_len h.1 fun u hu => rch_name (h.2.1 u hu)
    omega
theorem qinv_no {E : List (List UInt8 × List UInt8)} {s d a : List UInt8} {out0 out : List (List UInt8)} {L : List (List UInt8 × List UInt8)} (h : QInv E s out0 L out) (hd : d ≠ s) (ho : d ∉ out) : QInv E s out0 (L ++ [(d, a)]) out := by
  refine ⟨h.1, h.2.1, h.2.2.1, fun d' a' hda he => ?_⟩
  rcases List.mem_append.1 he with he | he
  · exact h.2.2.2 d' a' hda he
  · obtain ⟨rfl, rfl⟩ : d' = d ∧ a' = a := by simpa using he
    obtain ⟨ext, rfl, _⟩ := h.2.2.1
    rcases hda with e | e
    · exact absurd e hd
    · exact absurd (List.mem_append.2 (.inl e)) ho
theorem qinv_yes {E : List (List UInt8 × List UInt8)} {s d a : List UInt8} {out0 out : List (List UInt8)} {L : List (List UInt8 × List UInt8)} (h : QInv E s out0 L out) (hE : (d, a) ∈ E) (hd : d = s ∨ d ∈ out) : QInv E s out0 (L ++ [(d, a)]) (tput out a) := by
  have hra : Rch E s a := by
    rcases hd with e | e
    · exact rch_one (by rw [← e]; exact hE)
    · exact rch_more (h.2.1 d e) hE
  have hin : a ∈ tput out a := by
    by_cases ha : a ∈ out
    · rw [tput_in ha]; exact ha
    · rw [tput_new ha]; simp
  have hsub : ∀ u ∈ out, u ∈ tput out a := fun u hu => by
    by_cases ha : a ∈ out
    · rw [tput_in ha]; exact hu
    · rw [tput_new ha]; exact List.mem_append.2 (.inl hu)
  refine ⟨tput_nodup h.1, fun u hu => ?_, ?_, fun d' a' hda he => ?_⟩
  · by_cases ha : a ∈ out
    · rw [tput_in ha] at hu; exact h.2.1 u hu
    · rw [tput_new ha] at hu
      rcases List.mem_append.1 hu with hu | hu
      · exact h.2.1 u hu
      · rw [List.mem_singleton.1 hu]; exact hra
  · obtain ⟨ext, rfl, h3⟩ := h.2.2.1
    by_cases ha : a ∈ out0 ++ ext
    · exact ⟨ext, tput_in ha, h3⟩
    · refine ⟨ext ++ [a], by rw [tput_new ha, List.append_assoc], fun hc => ?_⟩
      have he := h3 hc
      subst he
      rw [List.append_nil] at ha hd
      exact absurd (hc d a hd hE) ha
  · rcases List.mem_append.1 he with he | he
    · exact hsub _ (h.2.2.2 d' a' hda he)
    · obtain ⟨rfl, rfl⟩ : d' = d ∧ a' = a := by simpa using he
      exact hin
/-- What was sorted so far. -/
def SInv (out : List (List UInt8)) (i : Nat) (S : List (List UInt8)) : Prop := S.Pairwise (fun a b => a < b) ∧ S.length = i ∧ ∀ u, u ∈ S ↔ u ∈ out.take i
theorem sinv_next {out S : List (List UInt8)} {i k : Nat} {x : List UInt8} (h : SInv out i S) (hx : out[i]? = some x) (hk : k ≤ i) (hup : ∀ y ∈ S.drop k, x < y) (hlow : ∀ y ∈ S.take k, y < x) : SInv out (i + 1) (S.take k ++ x :: S.drop k) := by
  refine ⟨List.pairwise_append.2 ⟨h.1.sublist (List.take_sublist _ _), List.pairwise_cons.2 ⟨hup, h.1.sublist (List.drop_sublist _ _)⟩, fun a ha b hb => ?_⟩, ?_, fun u => ?_⟩
  · rcases List.mem_cons.1 hb with rfl | hb
    · exact hlow a ha
    · exact lx_trans (hlow a ha) (hup b hb)
  · have := h.2.1
    simp
    omega
  · rw [List.take_add_one, hx, List.mem_append, List.mem_cons, List.mem_append, ← h.2.2 u]
    conv => rhs; rw [← List.take_append_drop k S, List.mem_append]
    simp
    constructor
    · rintro (h | h | h)
      · exact .inl (.inl h)
      · exact .inr h
      · exact .inl (.inr h)
    · rintro ((h | h) | h)
      · exact .inl h
      · exact .inr (.inr h)
      · exact .inr (.inl h)
theorem sinv_new {out S : List (List UInt8)} {i : Nat} {x : List UInt8} (h : SInv out i S) (hn : out.Nodup) (hx : out[i]? = some x) : x ∉ S := fun hx2 => by
  have h1 := (h.2.2 x).1 hx2
  obtain ⟨j, hj⟩ := List.getElem?_of_mem h1
  rw [List.getElem?_take] at hj
  split at hj
  · rename_i hlt
    obtain ⟨a1, a2⟩ := List.getElem?_eq_some_iff.1 hj
    obtain ⟨b1, b2⟩ := List.getElem?_eq_some_iff.1 hx
    have := (List.getElem_inj hn).1 (a2.trans b2.symm)
    omega
  · cases hj
theorem take_low {S : List (List UInt8)} {k : Nat} {x y : List UInt8} (h : S.Pairwise (fun a b => a < b)) (hy : S[k]? = some y) (hlt : y < x) : ∀ z ∈ S.take (k + 1), z < x := fun z hz => by
  rw [List.take_add_one, hy] at hz
  rcases List.mem_append.1 hz with hz | hz
  · obtain ⟨j, hj⟩ := List.getElem?_of_mem hz
    rw [List.getElem?_take] at hj
    split at hj
    · rename_i hjk
      obtain ⟨a1, a2⟩ := List.getElem?_eq_some_iff.1 hj
      obtain ⟨b1, b2⟩ := List.getElem?_eq_some_iff.1 hy
      have := List.pairwise_iff_getElem.1 h j k a1 b1 hjk
      rw [a2, b2] at this
      exact lx_trans this hlt
    · cases hj
  · have : z = y := by simpa using hz
    rw [this]; exact hlt
theorem drop_up {S : List (List UInt8)} {k : Nat} {x y : List UInt8} (hy : S[k]? = some y) (hlt : x < y) (h : ∀ z ∈ S.drop (k + 1), x < z) : ∀ z ∈ S.drop k, x < z := fun z hz => by
  obtain ⟨h1, h2⟩ := List.getElem?_eq_some_iff.1 hy
  rw [List.drop_eq_getElem_cons h1, h2] at hz
  rcases List.mem_cons.1 hz with rfl | hz
  · exact hlt
  · exact h z hz
theorem own_trunc {w : World} {base size : Nat} {e : TypeId} {A : Option Addr} {n c k : Nat} {xs : List Value} (h : w.ownsRow base e size (.slice A n c) n xs) (hk : k ≤ n) : w.ownsRow base e size (.slice A k c) k (xs.take (k * size)) := by
  obtain ⟨h1, ⟨h2, h3⟩ | ⟨g, cap, cur, hv, hb, hg, hn, hm, hs, hx⟩⟩ := h
  · injection h2 with e1 e2 e3
    subst e1 e2 e3
    obtain rfl : k = 0 := by omega
    exact ⟨by simp, .inl ⟨rfl, rfl⟩⟩
  · injection hv with e1 e2 e3
    subst e1 e3
    refine ⟨by rw [List.length_take, h1, Nat.min_eq_left (Nat.mul_le_mul_right _ hk)], .inr ⟨g, c, cur, rfl, hb, hg, by omega, hm, hs, ?_⟩⟩
    rw [← hx, List.take_take, Nat.min_eq_left (Nat.mul_le_mul_right _ hk)]

set_option maxRecDepth 100000 in
set_option maxHeartbeats 8000000 in
theorem rabove_any (A : Option Addr) (n c : Nat) (xs : List Nw) (s : List UInt8) (hn : n ≤ 1000) (hok : ∀ x ∈ xs, NFits x.d ∧ x.n ≤ 1000) (w : World) (h : Nodes w w.heap.size A n xs) :
    Calls Try.prog 16 #[.slice A n c, .string (tx s)] w fun e w' => (∃ out A' c', IsAbv (nds xs) s out ∧ e = .returned (.slice A' out.length c') ∧ (A' = none → c' = 0) ∧ w'.ownsRow w.heap.size 9 1 (.slice A' out.length c') out.length (out.map tsv)) ∧ Below w.heap.size w w' := by
  have HL : Hid (xs.length = n) := h.len
  have HLD : Hid ((nds xs).length = n) := by show _ = _; rw [nds_len]; exact h.len
  have HNS := Lib.hid h
  have HF := Lib.hid hok
  have HOE : Hid (Own (w.alloc (.cells #[] 9)) w.heap.size (.slice (some ⟨w.heap.size, 0, none⟩) 0 0) []) := own_empty w 9
  have HB0 := Lib.hid ((Below.refl w.heap.size w).alloc (Nat.le_refl _) (.cells #[] 9))
  obtain ⟨ii, hu0, hz0, hz1, hz2⟩ := info_parts tinfo
  have HR0 : Hid (RInv (edges (nds xs)) s 0 []) := ⟨List.nodup_nil, by simp, .inr (Nat.le_refl _)⟩
  have HOL : Hid (∀ out : List (List UInt8), out.Nodup → (∀ u ∈ out, Rch (edges (nds xs)) s u) → out.length ≤ n) := fun out h1 h2 => by rw [← HLD.out]; exact names_len h1 fun u hu => rch_name (h2 u hu)
  have HNMS : Hid (∀ u, Rch (edges (nds xs)) s u → u.length ≤ maxLen) := fun u hu => by
    obtain ⟨x, hx, rfl⟩ := List.mem_map.1 (rch_name hu)
    obtain ⟨y, hy, rfl⟩ := List.mem_map.1 hx
    exact (hok y hy).1.1
  have HFIN : Hid (∀ out, RInv (edges (nds xs)) s (n + 1) out → ∀ S, SInv out out.length S → IsAbv (nds xs) s S) := fun out h1 S h2 => by
    rw [← HLD.out] at h1
    refine ⟨h2.1, fun u => ?_⟩
    rw [h2.2.2 u, List.take_length]
    exact ⟨h1.2.1 u, rch_clo (rinv_clo h1)⟩
  clear h hok
  go_enter Try.func16, Try.ntmps16
  go_wp2
  go_loopw [5, 6] (fun v5 v6 wr => ∃ (r : Nat) (out : List (List UInt8)), r ≤ n + 1 ∧ v6 = .int .i64 (r : Int) ∧ Own wr w.heap.size v5 out ∧ RInv (edges (nds xs)) s r out ∧ Below w.heap.size w wr) (fun _ v6 _ => n + 1 - (intOf v6).toNat)
  case atStart => exact ⟨0, [], by omega, rfl, HOE.out, HR0.out, HB0.out⟩
  case round =>
    obtain ⟨r, out0, hr, rfl, hown, hri, hb⟩ := hrel
    have HRI := Lib.hid hri
    have HB := Lib.hid hb
    have HOWN := Lib.hid hown
    obtain ⟨wA, hwA⟩ : ∃ x, x = wr := ⟨_, rfl⟩
    subst hwA
    by_cases hrn : r ≤ n
    · have hr0 : (r : Int) ≤ (n : Int) := by omega
      have HQ0 := Lib.hid (qinv_start hri)
      clear hown hri hb
      go_wp2
      go_loopw [5, 7] (fun v5 v7 wr => ∃ (i : Nat) (out : List (List UInt8)), i ≤ n ∧ v7 = .int .i64 (i : Int) ∧ Own wr w.heap.size v5 out ∧ QInv (edges (nds xs)) s out0 (edges ((nds xs).take i)) out ∧ Below w.heap.size w wr) (fun _ v7 _ => n - (intOf v7).toNat)
      case atStart => exact ⟨0, out0, by omega, rfl, HOWN.out, by rw [List.take_zero]; exact HQ0.out, HB.out⟩
      case round =>
        obtain ⟨i, out1, hi, rfl, hown, hqi, hb⟩ := hrel
        have HQI := Lib.hid hqi
        have HB1 := Lib.hid hb
        have HOWN1 := Lib.hid hown
        obtain ⟨wB, hwB⟩ : ∃ x, x = wr := ⟨_, rfl⟩
        subst hwB
        by_cases hlt : i < n
        · obtain ⟨x, hx⟩ : ∃ x, xs[i]? = some x := ⟨_, List.getElem?_eq_getElem (by rw [HL.out]; exact hlt)⟩
          have hmx := List.mem_of_getElem? hx
          have HX := Lib.hid hx
          have HFX := Lib.hid (HF.out x hmx).1
          have hxn : x.n ≤ 1000 := (HF.out x hmx).2
          have HDS := Lib.hid (show Reads w w.heap.size 1 x.A x.n (x.d.deps.map tsv) from HNS.out.2 x hmx)
          have HDL : Hid (x.d.deps.length = x.n) := (HNS.out.2 x hmx).len
          have HES : Hid (edges ((nds xs).take (i + 1)) = edges ((nds xs).take i) ++ x.d.deps.map fun d => (d, x.d.name)) := edges_succ (nds_at hx)
          have HEM : Hid (∀ d ∈ x.d.deps, (d, x.d.name) ∈ edges (nds xs)) := fun d hd => mem_edges.2 ⟨x.d, List.mem_of_getElem? (nds_at hx), rfl, hd⟩
          obtain ⟨E0, hE0⟩ : ∃ E0, E0 = edges ((nds xs).take i) := ⟨_, rfl⟩
          rw [← hE0] at HQI HES
          have hi0 : (0 : Int) ≤ (i : Int) := by omega
          have hi1 : (i : Int) < (n : Int) := by omega
          have HI : Hid (i < n) := hlt
          obtain ⟨⟨nm, sc, ru, ds⟩, xA, xn, xc⟩ := x
          simp only at HFX hxn HDS HDL HES HEM
          clear hmx hx hown hqi hb hE0 hlt
          go_wp2
          go_loopw [5, 8] (fun v5 v8 wr => ∃ (k : Nat) (out : List (List UInt8)), k ≤ xn ∧ v8 = .int .i64 (k : Int) ∧ Own wr w.heap.size v5 out ∧ QInv (edges (nds xs)) s out0 (E0 ++ (ds.take k).map fun d => (d, nm)) out ∧ Below w.heap.size w wr) (fun _ v8 _ => xn - (intOf v8).toNat)
          case atStart => exact ⟨0, out1, by omega, rfl, HOWN1.out, by simpa using HQI.out, HB1.out⟩
          case round =>
            obtain ⟨k, out, hk, rfl, hown, hqi, hb⟩ := hrel
            have HQ2 := Lib.hid hqi
            have HB2 := Lib.hid hb
            have HOWN2 := Lib.hid hown
            obtain ⟨ad, rfl, hab, k0, k1, k2, k3⟩ := nodes_cells (HNS.out.below hb).1 i _ HX.out
            simp only at k0 k1 k2 k3
            by_cases hlt : k < xn
            · obtain ⟨d, hd⟩ : ∃ d, ds[k]? = some d := ⟨_, List.getElem?_eq_getElem (by rw [HDL.out]; exact hlt)⟩
              obtain ⟨ax, sv, rfl, hxb, hsv, hsc⟩ := (HDS.out.below hb).at_ hlt
              obtain rfl : sv = tsv d := by rw [List.getElem?_map, hd] at hsv; simpa using hsv.symm
              unfold tsv at hsc
              have hdm := List.mem_of_getElem? hd
              have HSU := Lib.hid (deps_succ nm hd)
              have HED := Lib.hid (HEM.out d hdm)
              have HON : Hid (out.length ≤ n) := HOL.out out hqi.1 hqi.2.1
              have HLT : Hid (k < xn) := hlt
              have HPUT := Lib.hid (iput_any w.heap.size _ out nm (by have := HON.out; omega) wr hb.size hown)
              unfold tsv at HPUT
              obtain ⟨A5, c5, rfl, hA5⟩ := own_slice hown
              have HPL := Lib.hid (place_any A5 out.length c5 out d (by have := HON.out; omega) wr (Reads.of_own hown))
              unfold tsv at HPL
              have hj0 : (0 : Int) ≤ (k : Int) := by omega
              have hj1 : (k : Int) < (xn : Int) := by omega
              obtain ⟨q, hq⟩ : ∃ q, q = out.length := ⟨_, rfl⟩
              rw [← hq] at HPL HPUT HON ⊢
              have HQN : Hid (q = out.length) := hq
              have HNX : Hid (∀ o, QInv (edges (nds xs)) s out0 (E0 ++ (ds.take k).map (fun d => (d, nm)) ++ [(d, nm)]) o → QInv (edges (nds xs)) s out0 (E0 ++ (ds.take (k + 1)).map fun d => (d, nm)) o) := fun o h => by rw [HSU.out, ← List.append_assoc]; exact h
              clear hd hsv hdm hown hqi hb hlt hA5 hq
              by_cases hds : d = s
              · have he : ((tx d).toList == (tx s).toList) = true := by rw [hds]; exact beq_self_eq_true _
                have HN2 := Lib.hid (HNX.out _ (qinv_yes HQ2.out HED.out (.inl hds)))
                clear hds
                go_wp2_with (go_at_call 27; refine HPUT.out.mono ?_; rintro e w5 ⟨v5, rfl, ho5, _, hb5⟩; have HO5 := Lib.hid ho5; have HB5 := Lib.hid (HB2.out.trans (hb5.mono HB2.out.size)); clear ho5 hb5)
                exact ⟨⟨k + 1, _, HLT.out, by go_num, HO5.out, HN2.out, HB5.out⟩, by have := HLT.out; simp [intOf]; omega⟩
              · have he : ((tx d).toList == (tx s).toList) = false := by
                  rw [beq_eq_false_iff_ne]
                  intro e2
                  exact hds (by simpa [tx] using e2)
                by_cases hdo : d ∈ out
                · have HN2 := Lib.hid (HNX.out _ (qinv_yes HQ2.out HED.out (.inr hdo)))
                  have ht : tplace out d = ((out.idxOf d : Nat) : Int) := if_pos hdo
                  rw [ht] at HPL
                  generalize out.idxOf d = jj at HPL
                  clear hds hdo ht
                  go_wp2_with (first
                    | (go_at_call 27; refine HPUT.out.mono ?_; rintro e w5 ⟨v5, rfl, ho5, _, hb5⟩; have HO5 := Lib.hid ho5; have HB5 := Lib.hid (HB2.out.trans (hb5.mono HB2.out.size)); clear ho5 hb5)
                    | (go_at_call 26; refine HPL.out.mono ?_; rintro e w4 ⟨rfl, rfl⟩))
                  exact ⟨⟨k + 1, _, HLT.out, by go_num, HO5.out, HN2.out, HB5.out⟩, by have := HLT.out; simp [intOf]; omega⟩
                · have HN2 := Lib.hid (HNX.out _ (qinv_no (a := nm) HQ2.out hds hdo))
                  have ht : tplace out d = (-1 : Int) := if_neg hdo
                  rw [ht] at HPL
                  clear hds hdo ht
                  go_wp2_with (go_at_call 26; refine HPL.out.mono ?_; rintro e w4 ⟨rfl, rfl⟩)
                  exact ⟨⟨k + 1, out, HLT.out, by go_num, by rw [← HQN.out] at HOWN2; exact HOWN2.out, HN2.out, HB2.out⟩, by have := HLT.out; simp [intOf]; omega⟩
            · obtain rfl : xn = k := by omega
              have hq2 := hqi
              rw [List.take_of_length_le (by rw [HDL.out]; omega), ← HES.out] at hq2
              have HQ3 := Lib.hid hq2
              clear hown hqi hb hq2
              go_wp2
              exact ⟨⟨i + 1, out, by have := HI.out; omega, by go_num, HOWN2.out, HQ3.out, HB2.out⟩, by have := HI.out; simp [intOf]; omega⟩
        · obtain rfl : i = n := by omega
          have hq2 := hqi
          rw [List.take_of_length_le (by rw [HLD.out]; omega)] at hq2
          have HRN := Lib.hid (qinv_end HRI.out hq2)
          clear hown hqi hb hq2
          go_wp2
          exact ⟨⟨r + 1, out1, by omega, by go_num, HOWN1.out, HRN.out, HB1.out⟩, by simp [intOf]; omega⟩
    · obtain rfl : r = n + 1 := by omega
      have hr0 : ¬ ((n + 1 : Nat) : Int) ≤ (n : Int) := by omega
      have HQN : Hid (out0.length ≤ n) := HOL.out out0 hri.1 hri.2.1
      have HFI2 := Lib.hid (HFIN.out out0 hri)
      have HND := Lib.hid hri.1
      have HTL : Hid (∀ u ∈ out0, u.length ≤ maxLen) := fun u hu => HNMS.out u (hri.2.1 u hu)
      obtain ⟨A5, c5, rfl, hA5⟩ := own_slice hown
      have HRD := Lib.hid (Reads.of_own hown)
      obtain ⟨q, hq⟩ : ∃ q, q = out0.length := ⟨_, rfl⟩
      rw [← hq] at HRD HQN HFI2 ⊢
      have HQL : Hid (q = out0.length) := hq
      have hqn : q ≤ 1000 := by have := HQN.out; omega
      obtain ⟨wS, hwS⟩ : ∃ x, x = wA := ⟨_, rfl⟩
      subst hwS
      have HE1 := Lib.hid (own_empty wS 9)
      have HBE := Lib.hid ((Below.refl wS.heap.size wS).alloc (Nat.le_refl _) (.cells #[] 9))
      have HS0 : Hid (SInv out0 0 []) := ⟨List.Pairwise.nil, rfl, by simp⟩
      clear hown hri hb hq hA5 HR0 HOE HB0
      go_wp2
      go_loopw [10, 11] (fun v10 v11 wr => ∃ (i : Nat) (S : List (List UInt8)) (ad3 : Addr) (c3 : Nat), i ≤ q ∧ v11 = .int .i64 (i : Int) ∧ v10 = .slice (some ad3) i c3 ∧ SInv out0 i S ∧ wr.ownsRow wS.heap.size 9 1 (.slice (some ad3) i c3) i (S.map tsv) ∧ Below wS.heap.size wS wr) (fun _ v11 _ => q - (intOf v11).toNat)
      case atStart => exact ⟨0, [], _, 0, by omega, rfl, rfl, HS0.out, HE1.out, HBE.out⟩
      case round =>
        obtain ⟨i, S, ad3, c3, hi, rfl, rfl, hsi, hown, hb⟩ := hrel
        have HSI := Lib.hid hsi
        have HB3 := Lib.hid hb
        have HOW := Lib.hid hown
        obtain ⟨wI, hwI⟩ : ∃ x, x = wr := ⟨_, rfl⟩
        subst hwI
        by_cases hlt : i < q
        · obtain ⟨x, hx⟩ : ∃ x, out0[i]? = some x := ⟨_, List.getElem?_eq_getElem (by rw [← HQL.out]; exact hlt)⟩
          obtain ⟨ad5, sv, rfl, hxb, hsv, _⟩ := HRD.out.at_ hlt
          obtain rfl : sv = tsv x := by rw [List.getElem?_map, hx] at hsv; simpa using hsv.symm
          have HCELL : Hid (∀ v, Below wS.heap.size wS v → v.cell? (ad5.add i) = some (.string (tx x))) := fun v hv => by
            obtain ⟨ad6, sv6, e6, _, h6, h7⟩ := (HRD.out.below hv).at_ hlt
            obtain rfl : ad5 = ad6 := Option.some.inj e6
            rw [hsv] at h6
            obtain rfl := Option.some.inj h6
            exact h7
          have HXL : Hid (x.length ≤ maxLen) := HTL.out x (List.mem_of_getElem? hx)
          have HNEW := Lib.hid (sinv_new hsi HND.out hx)
          have HNEXT0 : Hid (∀ k, k ≤ i → (∀ y ∈ S.drop k, x < y) → (∀ y ∈ S.take k, y < x) → SInv out0 (i + 1) (S.take k ++ x :: S.drop k)) := fun k => sinv_next hsi hx
          have HSLN : Hid (S.length = i) := hsi.2.1
          have HSORT := Lib.hid hsi.1
          have HSTL : Hid (∀ y ∈ S, y.length ≤ maxLen) := fun y hy => HTL.out y (List.mem_of_mem_take ((hsi.2.2 y).1 hy))
          have hi0 : (0 : Int) ≤ (i : Int) := by omega
          have hi1 : (i : Int) < (q : Int) := by omega
          have hupi : ∀ y ∈ S.drop i, x < y := by rw [List.drop_of_length_le (by rw [HSLN.out]; omega)]; simp
          have HUPI := Lib.hid hupi
          have HC3 : Hid (i ≤ c3) := (by obtain ⟨A9, c9, e9, h9, _⟩ := own_reads hown; injection e9 with _ _ e9; show i ≤ c3; omega)
          clear hx hsv hsi hown hb hlt hupi hxb
          go_wp2
          go_loopw [12] (fun v12 wr => ∃ k : Nat, k ≤ i ∧ v12 = .int .i64 (k : Int) ∧ (∀ y ∈ S.drop k, x < y) ∧ wr.heap = wI.heap ∧ Below wS.heap.size wS wr) (fun v12 _ => (intOf v12).toNat)
          case atStart => exact ⟨i, by omega, rfl, HUPI.out, rfl, HB3.out⟩
          case round =>
            obtain ⟨k, hk, rfl, hup, hhe, hb⟩ := hrel
            have HUP := Lib.hid hup
            have HB5 := Lib.hid hb
            have HHE := Lib.hid hhe
            have HOW5 := Lib.hid (own_heap HOW.out (fun g _ => by rw [hhe]) : wr.ownsRow wS.heap.size 9 1 (.slice (some ad3) i c3) i (S.map tsv))
            have b0 := HCELL.out wr hb
            clear hup hhe hb
            rcases Nat.eq_zero_or_pos k with hk0 | hk0
            · have hkn : ¬ 0 < k := by omega
              have HNX := Lib.hid (HNEXT0.out k hk HUP.out (by rw [hk0]; simp))
              clear hk0
              go_wp2
              go_quiet (fail)
              generalize hwD : wr.drewN _ = wD
              have HHD : Hid (wD.heap = wI.heap) := by show _ = _; rw [← hwD]; exact HHE.out
              have HBD : Hid (Below wS.heap.size wS wD) := by show Below _ _ _; rw [← hwD]; exact HB5.out.trans (below_drewN _ _ _)
              have howd : wD.ownsRow wS.heap.size 9 1 (.slice (some ad3) i c3) i (S.map tsv) := own_heap HOW.out (fun g _ => by rw [HHD.out])
              have HOWD := Lib.hid howd
              clear hwD
              obtain ⟨P, p, m, hP, hp, hm⟩ : ∃ (P : Addr) (p m : Nat), P = (if c3 = k then ad3 else ad3.add k) ∧ p = i - k ∧ m = c3 - k := ⟨_, _, _, rfl, rfl, rfl⟩
              have hc3 := HC3.out
              have hk0' : (0 : Int) ≤ (k : Int) := by omega
              have hk1' : (k : Int) ≤ (i : Int) := by omega
              have hk2' : (k : Int) ≤ (c3 : Int) := by omega
              have HSL1 : Hid (∀ W : World, (Instr.sliceAt 34 (.slice (some ad3) i c3) (some (.int .i64 (k : Int))) none none).run Try.prog W = .ok (.slice (some P) p m) W) := fun W => by
                rw [hP, hp, hm]
                go_simp
                split <;> rfl
              have HSL2 : Hid (∀ W : World, (Instr.sliceAt 34 (.slice (some ad3) i c3) none (some (.int .i64 (k : Int))) none).run Try.prog W = .ok (.slice (some ad3) k c3) W) := fun W => by
                go_simp
              have hcut := (Reads.of_own howd).cut (k := k) (cap := c3) hk hc3
              have e1 : (if c3 = k then some ad3 else (some ad3 : Option Addr).map (·.add (k * 1))) = some P := by rw [hP, Nat.mul_one]; split <;> rfl
              rw [e1, Nat.mul_one, ← List.map_drop, ← hp] at hcut
              have HCUT : Hid (Reads wD wD.heap.size 1 (some P) p ((S.drop k).map tsv)) := hcut
              have HPK : Hid (p = i - k) := hp
              have HE2 := Lib.hid (own_empty wD 9)
              have HSUM : Hid (k + 1 + p = i + 1) := by show _ = _; omega
              have hpq : p ≤ 1000 := by omega
              have HI1 : Hid (i < q) := by show i < q; omega
              have HTK : Hid (((S.map tsv).take (k * 1)) = (S.take k).map tsv) := by show _ = _; rw [Nat.mul_one, List.map_take]
              have HLST : Hid (((S.take k).map tsv ++ [.string (tx x)]) ++ (S.drop k).map tsv = (S.take k ++ x :: S.drop k).map tsv) := by show _ = _; rw [List.map_append, List.map_cons, List.append_assoc]; rfl
              have hsl1 := HSL1.out
              have hkI : k ≤ i := hk
              clear howd hP hp hm hcut e1
              go_wp2_with (at_builtin; refine wpList_append_reads _ rfl (.tmp 86) (.tmp 89) 34 rfl wD.heap.size 9 ii (.string { data := #[] }) 16 Try.underlying34 hu0 hz0 hz1 hz2 rfl _ 0 [] rfl HE2.out (some P) p m wD.heap.size ((S.drop k).map tsv) rfl (by intro h; cases h) (HCUT.out.alloc (Nat.le_refl _) _) (by intro u hu; obtain ⟨y, _, rfl⟩ := List.mem_map.1 hu; rfl) (by unfold maxLen; omega) (by omega) (by simp) ?_; intro v4 w4 ho4 hg4; rw [Nat.zero_add, List.nil_append] at ho4; have HRS4 := Lib.hid ho4; have HG4 := Lib.hid hg4; obtain ⟨A4, c4, rfl, hA4⟩ := own_slice ho4; have HA4 := Lib.hid hA4; clear ho4 hg4 hA4)
              have hal4 : Below wD.heap.size wD (wD.alloc (.cells #[] 9)) := (Below.refl _ _).alloc (Nat.le_refl _) _
              have hlt4 := own_lt HOWD.out
              have ho4 : w4.ownsRow wS.heap.size 9 1 (.slice (some ad3) i c3) i (S.map tsv) := (own_below HOWD.out hal4).kept HG4.out (.inr (fun e => Nat.lt_irrefl _ (hlt4 wD.heap.size e)))
              have hb4 : Below wS.heap.size wS w4 := (HBD.out.trans (hal4.mono HBD.out.size)).grown HG4.out (Nat.le_trans HBD.out.size hal4.size) (fun j hj => by cases hj; exact HBD.out.size)
              have HB4 := Lib.hid hb4
              have hot := (own_trunc ho4 hkI).alloc (.cells #[.string (tx x)] 9)
              rw [HTK.out] at hot
              have HOT : Hid ((w4.drew.alloc (.cells #[.string (tx x)] 9)).ownsRow wS.heap.size 9 1 (.slice (some ad3) k c3) k ((S.take k).map tsv)) := hot
              have HRS : Hid ((w4.drew.alloc (.cells #[.string (tx x)] 9)).ownsRow wD.heap.size 9 1 (.slice A4 p c4) p ((S.drop k).map tsv)) := HRS4.out.alloc _
              have HAPT : Hid (Apart (.slice (some ad3) k c3) (.slice A4 p c4)) := fun g h1 h2 => by
                have h3 := own_block HRS4.out g h2
                have h4 := own_lt (own_trunc HOWD.out hkI) g h1
                omega
              clear hal4 hlt4 ho4 hb4 hot hsl1
              have HSD : Hid (Below wS.heap.size wS w4.drew) := HB4.out.drew
              refine wp_region_held (S := fun v => Below wS.heap.size wS v) (by kernel_rfl) ?_
              refine h_take 0 (.slice (some ad3) i c3) rfl (by kernel_rfl) (by kernel_rfl) (by kernel_rfl) (fun _ _ _ h => h) (by kernel_rfl) HSD.out (fun _ _ => by kernel_rfl) ?_
              refine h_take 1 (.int .i64 (k : Int)) rfl (by kernel_rfl) (by kernel_rfl) (by kernel_rfl) (fun _ _ _ h => h) (by kernel_rfl) HSD.out (fun _ _ => by kernel_rfl) ?_
              refine h_take 2 (.slice (some ad3) k c3) rfl (by kernel_rfl) (by kernel_rfl) (by kernel_rfl) (fun _ _ _ h => h) (by kernel_rfl) HSD.out (fun W _ => by have hs2 := HSL2.out W; go_simp) ?_
              refine h_take 3 (.slice (some ad5) q c5) rfl (by kernel_rfl) (by kernel_rfl) (by kernel_rfl) (fun _ _ _ h => h) (by kernel_rfl) HSD.out (fun _ _ => by kernel_rfl) ?_
              refine h_take 4 (.int .i64 (i : Int)) rfl (by kernel_rfl) (by kernel_rfl) (by kernel_rfl) (fun _ _ _ h => h) (by kernel_rfl) HSD.out (fun _ _ => by kernel_rfl) ?_
              refine h_take 5 (.pointer (some (ad5.add i))) rfl (by kernel_rfl) (by kernel_rfl) (by kernel_rfl) (fun _ _ _ h => h) (by kernel_rfl) HSD.out (by intro v hv; go_simp) ?_
              refine h_take 6 (.string (tx x)) rfl (by kernel_rfl) (by kernel_rfl) (by kernel_rfl) (fun _ _ _ h => h) (by kernel_rfl) HSD.out (by intro v hv; have b0 := HCELL.out v hv; go_simp) ?_
              refine h_take 9 (.slice A4 p c4) rfl (by kernel_rfl) (by kernel_rfl) (by kernel_rfl) (fun _ _ _ h => h) (by kernel_rfl) HSD.out (fun _ _ => by kernel_rfl) ?_
              refine h_one 7 rfl (by kernel_rfl) (by kernel_rfl) (fun K hK => ?_)
              go_simp
              have HAL : Hid (Below wS.heap.size wS (w4.drew.alloc (.cells #[.string (tx x)] 9))) := HSD.out.alloc HSD.out.size _
              refine hK _ _ HAL.out ?_
              clear hK K
              refine h_one 8 rfl (by kernel_rfl) (by kernel_rfl) (fun K hK => ?_)
              refine wp_append_many (.tmp 93) (.tmp 98) 34 rfl wS.heap.size 9 ii _ 1 16 Try.underlying34 hu0 hz0 hz1 hz2 rfl (by decide) (.slice (some ad3) k c3) k _ rfl HOT.out (some ⟨w4.heap.size, 0, none⟩) 1 1 (w4.heap.size + 1) [.string (tx x)] rfl (by intro h; cases h) (reads_one_row w4.drew 9 _) (by intro u hu; simp at hu; subst hu; rfl) (by unfold maxLen; omega) (by omega) HAL.out.size ?_
              intro v5 w5 ho5 hg5 _
              have HO5 := Lib.hid ho5
              have HRS5 := Lib.hid (own_kept HRS.out HAPT.out hg5)
              have HB5 : Hid (Below wS.heap.size wS w5) := HAL.out.grown hg5 HAL.out.size (fun j hj => own_block HOT.out j hj)
              have HRD5 := Lib.hid (Reads.of_own HRS5.out)
              refine hK _ _ HB5.out ?_
              clear hK K ho5 hg5
              refine h_one 10 rfl (by kernel_rfl) (by kernel_rfl) (fun K hK => ?_)
              refine wp_append_many (.tmp 99) (.tmp 100) 34 rfl wS.heap.size 9 ii _ 1 16 Try.underlying34 hu0 hz0 hz1 hz2 rfl (by decide) v5 (k + 1) _ rfl HO5.out A4 p c4 w5.heap.size _ rfl HA4.out HRD5.out (by intro u hu; obtain ⟨y, _, rfl⟩ := List.mem_map.1 hu; rfl) (by unfold maxLen; omega) (by omega) HB5.out.size ?_
              intro v6 w6 ho6 hg6 _
              rw [HSUM.out, HLST.out] at ho6
              obtain ⟨g6, c6, rfl⟩ := own_succ ho6
              have HO6 := Lib.hid ho6
              have HB6 : Hid (Below wS.heap.size wS w6) := HB5.out.grown hg6 HB5.out.size (fun j hj => own_block HO5.out j hj)
              refine hK _ _ HB6.out ?_
              clear hK K ho6 hg6
              refine h_take 11 (.slice (some ⟨g6, 0, none⟩) (i + 1) c6) rfl (by kernel_rfl) (by kernel_rfl) (by kernel_rfl) (fun _ _ _ h => h) (by kernel_rfl) HB6.out (fun _ _ => by kernel_rfl) ?_
              refine wpAnyH_done (by kernel_rfl) ?_ _
              go_simp
              go_wp2
              exact ⟨⟨i + 1, S.take k ++ x :: S.drop k, ⟨g6, 0, none⟩, c6, by have := HI1.out; omega, by go_num, rfl, HNX.out, HO6.out, HB6.out⟩, by have := HI1.out; simp [intOf]; omega⟩
            · obtain ⟨j, hj⟩ : ∃ j, k = j + 1 := ⟨k - 1, by omega⟩
              obtain ⟨y, hy⟩ : ∃ y, S[j]? = some y := ⟨_, List.getElem?_eq_getElem (by rw [HSLN.out]; omega)⟩
              have hyS := List.mem_of_getElem? hy
              obtain ⟨ad4, sv4, e4, _, h6, h7⟩ := (Reads.of_own HOW5.out).at_ (k := j) (by omega)
              obtain rfl : ad3 = ad4 := Option.some.inj e4
              obtain rfl : sv4 = tsv y := by rw [List.getElem?_map, hy] at h6; simpa using h6.symm
              unfold tsv at h7
              have hj1 : (k : Int) - 1 = (j : Int) := by omega
              have hj2 : (0 : Int) ≤ (j : Int) := by omega
              have hj3 : (j : Int) < (i : Int) := by omega
              have HLS := Lib.hid (fun (W : World) => less_any x y HXL.out (HSTL.out y hyS) W)
              unfold rsv at HLS
              have HY := Lib.hid hy
              have HKJ : Hid (k = j + 1) := hj
              by_cases hlt2 : x < y
              · rw [decide_eq_true hlt2] at HLS
                have HUP2 := Lib.hid (drop_up HY.out hlt2 (by rw [← HKJ.out]; exact HUP.out))
                clear hlt2 hy hyS e4 h6 hj
                go_wp2
                go_quiet ((go_at_call 23; exact Calls.quiet_of (HLS.out _)))
                go_wp2
                exact ⟨⟨j, by have := HKJ.out; omega, by go_num, HUP2.out, HHE.out, HB5.out.trans (below_drewN _ _ _)⟩, by have := HKJ.out; simp [intOf]; omega⟩
              · rw [decide_eq_false hlt2] at HLS
                have hyx : y < x := by
                  rcases lx_tri x y with h | h | h
                  · exact absurd h hlt2
                  · exact absurd (by rw [h]; exact hyS) HNEW.out
                  · exact h
                have HNX := Lib.hid (HNEXT0.out k hk HUP.out (by rw [HKJ.out]; exact take_low HSORT.out HY.out hyx))
                clear hlt2 hy hyS e4 h6 hj hyx
                go_wp2
                go_quiet ((go_at_call 23; exact Calls.quiet_of (HLS.out _)))
                generalize hwD : wr.drewN _ = wD
                have HHD : Hid (wD.heap = wI.heap) := by show _ = _; rw [← hwD]; exact HHE.out
                have HBD : Hid (Below wS.heap.size wS wD) := by show Below _ _ _; rw [← hwD]; exact HB5.out.trans (below_drewN _ _ _)
                have howd : wD.ownsRow wS.heap.size 9 1 (.slice (some ad3) i c3) i (S.map tsv) := own_heap HOW.out (fun g _ => by rw [HHD.out])
                have HOWD := Lib.hid howd
                clear hwD
                obtain ⟨P, p, m, hP, hp, hm⟩ : ∃ (P : Addr) (p m : Nat), P = (if c3 = k then ad3 else ad3.add k) ∧ p = i - k ∧ m = c3 - k := ⟨_, _, _, rfl, rfl, rfl⟩
                have hc3 := HC3.out
                have hk0' : (0 : Int) ≤ (k : Int) := by omega
                have hk1' : (k : Int) ≤ (i : Int) := by omega
                have hk2' : (k : Int) ≤ (c3 : Int) := by omega
                have HSL1 : Hid (∀ W : World, (Instr.sliceAt 34 (.slice (some ad3) i c3) (some (.int .i64 (k : Int))) none none).run Try.prog W = .ok (.slice (some P) p m) W) := fun W => by
                  rw [hP, hp, hm]
                  go_simp
                  split <;> rfl
                have HSL2 : Hid (∀ W : World, (Instr.sliceAt 34 (.slice (some ad3) i c3) none (some (.int .i64 (k : Int))) none).run Try.prog W = .ok (.slice (some ad3) k c3) W) := fun W => by
                  go_simp
                have hcut := (Reads.of_own howd).cut (k := k) (cap := c3) hk hc3
                have e1 : (if c3 = k then some ad3 else (some ad3 : Option Addr).map (·.add (k * 1))) = some P := by rw [hP, Nat.mul_one]; split <;> rfl
                rw [e1, Nat.mul_one, ← List.map_drop, ← hp] at hcut
                have HCUT : Hid (Reads wD wD.heap.size 1 (some P) p ((S.drop k).map tsv)) := hcut
                have HPK : Hid (p = i - k) := hp
                have HE2 := Lib.hid (own_empty wD 9)
                have HSUM : Hid (k + 1 + p = i + 1) := by show _ = _; omega
                have hpq : p ≤ 1000 := by omega
                have HI1 : Hid (i < q) := by show i < q; omega
                have HTK : Hid (((S.map tsv).take (k * 1)) = (S.take k).map tsv) := by show _ = _; rw [Nat.mul_one, List.map_take]
                have HLST : Hid (((S.take k).map tsv ++ [.string (tx x)]) ++ (S.drop k).map tsv = (S.take k ++ x :: S.drop k).map tsv) := by show _ = _; rw [List.map_append, List.map_cons, List.append_assoc]; rfl
                have hsl1 := HSL1.out
                have hkI : k ≤ i := hk
                clear howd hP hp hm hcut e1
                go_wp2_with (at_builtin; refine wpList_append_reads _ rfl (.tmp 86) (.tmp 89) 34 rfl wD.heap.size 9 ii (.string { data := #[] }) 16 Try.underlying34 hu0 hz0 hz1 hz2 rfl _ 0 [] rfl HE2.out (some P) p m wD.heap.size ((S.drop k).map tsv) rfl (by intro h; cases h) (HCUT.out.alloc (Nat.le_refl _) _) (by intro u hu; obtain ⟨y, _, rfl⟩ := List.mem_map.1 hu; rfl) (by unfold maxLen; omega) (by omega) (by simp) ?_; intro v4 w4 ho4 hg4; rw [Nat.zero_add, List.nil_append] at ho4; have HRS4 := Lib.hid ho4; have HG4 := Lib.hid hg4; obtain ⟨A4, c4, rfl, hA4⟩ := own_slice ho4; have HA4 := Lib.hid hA4; clear ho4 hg4 hA4)
                have hal4 : Below wD.heap.size wD (wD.alloc (.cells #[] 9)) := (Below.refl _ _).alloc (Nat.le_refl _) _
                have hlt4 := own_lt HOWD.out
                have ho4 : w4.ownsRow wS.heap.size 9 1 (.slice (some ad3) i c3) i (S.map tsv) := (own_below HOWD.out hal4).kept HG4.out (.inr (fun e => Nat.lt_irrefl _ (hlt4 wD.heap.size e)))
                have hb4 : Below wS.heap.size wS w4 := (HBD.out.trans (hal4.mono HBD.out.size)).grown HG4.out (Nat.le_trans HBD.out.size hal4.size) (fun j hj => by cases hj; exact HBD.out.size)
                have HB4 := Lib.hid hb4
                have hot := (own_trunc ho4 hkI).alloc (.cells #[.string (tx x)] 9)
                rw [HTK.out] at hot
                have HOT : Hid ((w4.drew.alloc (.cells #[.string (tx x)] 9)).ownsRow wS.heap.size 9 1 (.slice (some ad3) k c3) k ((S.take k).map tsv)) := hot
                have HRS : Hid ((w4.drew.alloc (.cells #[.string (tx x)] 9)).ownsRow wD.heap.size 9 1 (.slice A4 p c4) p ((S.drop k).map tsv)) := HRS4.out.alloc _
                have HAPT : Hid (Apart (.slice (some ad3) k c3) (.slice A4 p c4)) := fun g h1 h2 => by
                  have h3 := own_block HRS4.out g h2
                  have h4 := own_lt (own_trunc HOWD.out hkI) g h1
                  omega
                clear hal4 hlt4 ho4 hb4 hot hsl1
                have HSD : Hid (Below wS.heap.size wS w4.drew) := HB4.out.drew
                refine wp_region_held (S := fun v => Below wS.heap.size wS v) (by kernel_rfl) ?_
                refine h_take 0 (.slice (some ad3) i c3) rfl (by kernel_rfl) (by kernel_rfl) (by kernel_rfl) (fun _ _ _ h => h) (by kernel_rfl) HSD.out (fun _ _ => by kernel_rfl) ?_
                refine h_take 1 (.int .i64 (k : Int)) rfl (by kernel_rfl) (by kernel_rfl) (by kernel_rfl) (fun _ _ _ h => h) (by kernel_rfl) HSD.out (fun _ _ => by kernel_rfl) ?_
                refine h_take 2 (.slice (some ad3) k c3) rfl (by kernel_rfl) (by kernel_rfl) (by kernel_rfl) (fun _ _ _ h => h) (by kernel_rfl) HSD.out (fun W _ => by have hs2 := HSL2.out W; go_simp) ?_
                refine h_take 3 (.slice (some ad5) q c5) rfl (by kernel_rfl) (by kernel_rfl) (by kernel_rfl) (fun _ _ _ h => h) (by kernel_rfl) HSD.out (fun _ _ => by kernel_rfl) ?_
                refine h_take 4 (.int .i64 (i : Int)) rfl (by kernel_rfl) (by kernel_rfl) (by kernel_rfl) (fun _ _ _ h => h) (by kernel_rfl) HSD.out (fun _ _ => by kernel_rfl) ?_
                refine h_take 5 (.pointer (some (ad5.add i))) rfl (by kernel_rfl) (by kernel_rfl) (by kernel_rfl) (fun _ _ _ h => h) (by kernel_rfl) HSD.out (by intro v hv; go_simp) ?_
                refine h_take 6 (.string (tx x)) rfl (by kernel_rfl) (by kernel_rfl) (by kernel_rfl) (fun _ _ _ h => h) (by kernel_rfl) HSD.out (by intro v hv; have b0 := HCELL.out v hv; go_simp) ?_
                refine h_take 9 (.slice A4 p c4) rfl (by kernel_rfl) (by kernel_rfl) (by kernel_rfl) (fun _ _ _ h => h) (by kernel_rfl) HSD.out (fun _ _ => by kernel_rfl) ?_
                refine h_one 7 rfl (by kernel_rfl) (by kernel_rfl) (fun K hK => ?_)
                go_simp
                have HAL : Hid (Below wS.heap.size wS (w4.drew.alloc (.cells #[.string (tx x)] 9))) := HSD.out.alloc HSD.out.size _
                refine hK _ _ HAL.out ?_
                clear hK K
                refine h_one 8 rfl (by kernel_rfl) (by kernel_rfl) (fun K hK => ?_)
                refine wp_append_many (.tmp 93) (.tmp 98) 34 rfl wS.heap.size 9 ii _ 1 16 Try.underlying34 hu0 hz0 hz1 hz2 rfl (by decide) (.slice (some ad3) k c3) k _ rfl HOT.out (some ⟨w4.heap.size, 0, none⟩) 1 1 (w4.heap.size + 1) [.string (tx x)] rfl (by intro h; cases h) (reads_one_row w4.drew 9 _) (by intro u hu; simp at hu; subst hu; rfl) (by unfold maxLen; omega) (by omega) HAL.out.size ?_
                intro v5 w5 ho5 hg5 _
                have HO5 := Lib.hid ho5
                have HRS5 := Lib.hid (own_kept HRS.out HAPT.out hg5)
                have HB5 : Hid (Below wS.heap.size wS w5) := HAL.out.grown hg5 HAL.out.size (fun j hj => own_block HOT.out j hj)
                have HRD5 := Lib.hid (Reads.of_own HRS5.out)
                refine hK _ _ HB5.out ?_
                clear hK K ho5 hg5
                refine h_one 10 rfl (by kernel_rfl) (by kernel_rfl) (fun K hK => ?_)
                refine wp_append_many (.tmp 99) (.tmp 100) 34 rfl wS.heap.size 9 ii _ 1 16 Try.underlying34 hu0 hz0 hz1 hz2 rfl (by decide) v5 (k + 1) _ rfl HO5.out A4 p c4 w5.heap.size _ rfl HA4.out HRD5.out (by intro u hu; obtain ⟨y, _, rfl⟩ := List.mem_map.1 hu; rfl) (by unfold maxLen; omega) (by omega) HB5.out.size ?_
                intro v6 w6 ho6 hg6 _
                rw [HSUM.out, HLST.out] at ho6
                obtain ⟨g6, c6, rfl⟩ := own_succ ho6
                have HO6 := Lib.hid ho6
                have HB6 : Hid (Below wS.heap.size wS w6) := HB5.out.grown hg6 HB5.out.size (fun j hj => own_block HO5.out j hj)
                refine hK _ _ HB6.out ?_
                clear hK K ho6 hg6
                refine h_take 11 (.slice (some ⟨g6, 0, none⟩) (i + 1) c6) rfl (by kernel_rfl) (by kernel_rfl) (by kernel_rfl) (fun _ _ _ h => h) (by kernel_rfl) HB6.out (fun _ _ => by kernel_rfl) ?_
                refine wpAnyH_done (by kernel_rfl) ?_ _
                go_simp
                go_wp2
                exact ⟨⟨i + 1, S.take k ++ x :: S.drop k, ⟨g6, 0, none⟩, c6, by have := HI1.out; omega, by go_num, rfl, HNX.out, HO6.out, HB6.out⟩, by have := HI1.out; simp [intOf]; omega⟩
        · obtain rfl : i = q := by omega
          have HEND := Lib.hid (HFI2.out S hsi)
          have HSLN : Hid (S.length = i) := hsi.2.1
          clear hsi hown hb
          go_wp2
          go_ret
          exact ⟨⟨S, some ad3, c3, HEND.out, by rw [HSLN.out]; rfl, fun e => (by cases e), by rw [HSLN.out]; exact own_less HOW.out HB.out.size⟩, HB.out.trans (HB3.out.mono HB.out.size)⟩

end Go.Proofs.Ytpjmkinloldmjaa
