/- VfsSafe. -/
import Derived.Test.YtfgonihpakcbbaaOx0
namespace Go.Proofs.Ytfgonihpakcbbaa
open Go.RowKit

/-- Two rising rows of the same names are one. -/
theorem rising_eq : ∀ (a b : List (List UInt8)), a.Pairwise (fun x y => x < y) → b.Pairwise (fun x y => x < y) → (∀ u, u ∈ a ↔ u ∈ b) → a = b
  | [], [], _, _, _ => rfl
  | [], y :: b, _, _, h => absurd ((h y).2 (by simp)) (by simp)
  | x :: a, [], _, _, h => absurd ((h x).1 (by simp)) (by simp)
  | x :: a, y :: b, ha, hb, h => by
    obtain ⟨hx, ha2⟩ := List.pairwise_cons.1 ha
    obtain ⟨hy, hb2⟩ := List.pairwise_cons.1 hb
    have e : x = y := by
      rcases List.mem_cons.1 ((h x).1 (by simp)) with e | h1
      · exact e
      · rcases List.mem_cons.1 ((h y).2 (by simp)) with e | h2
        · exact e.symm
        · exact absurd (List.lt_trans (hy x h1) (hx y h2)) (List.lt_irrefl _)
    subst e
    rw [rising_eq a b ha2 hb2 fun u => ?_]
    constructor
    · intro hu
      rcases List.mem_cons.1 ((h u).1 (List.mem_cons_of_mem _ hu)) with e | h1
      · subst e; exact absurd (hx u hu) (List.lt_irrefl _)
      · exact h1
    · intro hu
      rcases List.mem_cons.1 ((h u).2 (List.mem_cons_of_mem _ hu)) with e | h1
      · subst e; exact absurd (hy u hu) (List.lt_irrefl _)
      · exact h1
theorem names_eq {fl fl' : List UInt8 → Option Fl} {a b : List (List UInt8)} (ha : IsNames fl a) (hb : IsNames fl' b) (h : ∀ u, (fl u).isSome = (fl' u).isSome) : a = b :=
  rising_eq a b ha.1 hb.1 fun u => by rw [ha.2, hb.2, h]

set_option maxRecDepth 100000 in
set_option maxHeartbeats 4000000 in
theorem vsafe_any (A : Option Addr) (n c : Nat) (xs : List Aw) (K : Option Addr) (kn kc : Nat) (ks : List Int) (hnc : n ≤ c) (hcm : c ≤ maxLen) (hknc : kn ≤ kc) (hkcm : kc ≤ maxLen) (hK : K = none → kc = 0) (w : World) (h : Acts w w.heap.size A n xs) (hk : Reads w w.heap.size 1 K kn (ks.map iv64)) :
    Calls Try.prog 3 #[.slice A n c, .slice K kn kc] w fun e w' => e = .returned (.bool true) ∧ Below w.heap.size w w' := by
  have HX := Lib.hid h
  have HKR := Lib.hid hk
  have HL := Lib.hid h.len
  have HGR := Lib.hid (vgreat_any A n c xs (Nat.le_trans hnc hcm) w h)
  have HKC : Hid (kn ≤ kc ∧ kc ≤ maxLen ∧ (K = none → kc = 0)) := ⟨hknc, hkcm, hK⟩
  unfold maxLen at hkcm
  clear h hk hcm hK
  go_enter Try.func3, Try.ntmps3
  go_wp2_with fail
  refine HGR.out.mono ?_
  rintro e w1 ⟨⟨qg, rfl, hq⟩, hb1⟩
  have HB1 := Lib.hid hb1
  clear hb1
  cases qg with
  | true =>
    go_wp2_with fail
    refine (vfixed_any _).mono ?_
    rintro e w2 ⟨rfl, hb2⟩
    have HB2 := Lib.hid (HB1.out.trans (hb2.mono HB1.out.size))
    clear hb2
    go_wp2
    go_ret
    exact ⟨rfl, HB2.out⟩
  | false =>
    have HSM := Lib.hid (hq rfl)
    clear hq HGR
    by_cases hbig : kn ≤ 80
    · have dk : decide ((kn : Int) > 80) = false := decide_eq_false (by omega)
      go_wp2_with fail
      refine (new_any 0 w1).mono ?_
      rintro e w2 ⟨rfl, hx2, hf2, hb2⟩
      obtain ⟨p, hp⟩ : ∃ p, p = w1.heap.size + 1 := ⟨_, rfl⟩
      obtain ⟨b, hb⟩ : ∃ b, b = w1.heap.size := ⟨_, rfl⟩
      rw [← hp, ← hb] at hx2
      rw [← hb] at hf2
      rw [← hp]
      have HF2 : Hid (FsAt w2 0 p b 0 ⟨fun _ => none, false, (false, 0), (false, 0)⟩ (fun _ => none)) := ⟨hx2, hf2⟩
      have HB2 := Lib.hid (HB1.out.trans (hb2.mono HB1.out.size))
      have HS2 : Hid (∀ k, FsBlk p b (fun _ => none) k → w.heap.size ≤ k) := fun k hk => by
        have := HB1.out.size
        rcases hk with h | h | ⟨u, A, n, c, s, h, _⟩
        · omega
        · omega
        · cases h
      have hn80 : n ≤ 80 := by have := HSM.out.1; have := HL.out; omega
      clear hx2 hf2 hb2 hp hb
      go_wp2
      go_loopw [30] (fun idx wr => ∃ (i N : Nat) (σ : FsSt) (F : List UInt8 → Option Value), i ≤ n ∧ idx = .int .i64 (i : Int) ∧ FsAt wr 0 p b N σ F ∧ Good σ i ∧ N ≤ 100 * i ∧ (∀ k, FsBlk p b F k → w.heap.size ≤ k) ∧ Below w.heap.size w wr) (fun idx _ => n - (intOf idx).toNat)
      case atStart => exact ⟨0, 0, _, _, by omega, rfl, HF2.out, good_start, by omega, HS2.out, HB2.out⟩
      case round =>
        obtain ⟨i, N, σ, F, hi, rfl, hfs, hgd, hN, hs, hb⟩ := hrel
        have HFS := Lib.hid hfs
        have HGD := Lib.hid hgd
        have HS := Lib.hid hs
        have HB := Lib.hid hb
        have HN : Hid (N ≤ 100 * i) := hN
        by_cases hlt : i < n
        · obtain ⟨x, hx⟩ : ∃ x, xs[i]? = some x := ⟨_, List.getElem?_eq_getElem (by rw [HL.out]; exact hlt)⟩
          obtain ⟨ad, rfl, hab, e0, e1, e2, e3, e4, e5⟩ := acts_cells (HX.out.below hb).1 i x hx
          have hmx := List.mem_of_getElem? hx
          have hin := HX.out.2 x hmx
          have hsm := HSM.out.2 x hmx
          have hal : ∀ o : Obj, Below w.heap.size w (wr.alloc o) := fun o => hb.alloc hb.size o
          have hwa : ∀ o : Obj, Below wr.heap.size wr (wr.alloc o) := fun o => (Below.refl _ _).alloc (Nat.le_refl _) o
          have hdo := do_any p b N 0 w.heap.size σ F x (by omega) (fun u y hu => (by have := hgd.each u y hu; unfold maxLen; omega)) hgd.hf hgd.hg (wr.alloc (.cells x.cells.toArray 30)) (Nat.zero_le _) (hal _).size (hfs.below (hwa _)) hs (hin.below (hal _)) (by have := hin.blen; have := hsm.1; omega)
          have hHN : x.a.n ≤ 9223372036854775807 := hin.hn
          obtain ⟨⟨kd, nm, to, body, z, keep⟩, xA, xk, xc, xK, xkn, xkc⟩ := x
          simp only at e0 e1 e2 e3 e4 e5 hHN
          have hnew := one_new wr (.cells #[.int .i64 kd, .string (tx nm), .string (tx to), .slice xA xk xc, .int .i64 z, .slice xK xkn xkc] 30)
          have q0 := at_cell (i := 0) hnew rfl
          have q1 := at_cell (i := 1) hnew rfl
          have q2 := at_cell (i := 2) hnew rfl
          have q3 := at_cell (i := 3) hnew rfl
          have q4 := at_cell (i := 4) hnew rfl
          have q5 := at_cell (i := 5) hnew rfl
          have HDO : Hid (Calls Try.prog 8 #[.pointer (some ⟨p, 0, none⟩), .agg #[.int .i64 kd, .string (tx nm), .string (tx to), .slice xA xk xc, .int .i64 z, .slice xK xkn xkc]] (wr.alloc (.cells #[.int .i64 kd, .string (tx nm), .string (tx to), .slice xA xk xc, .int .i64 z, .slice xK xkn xkc] 30)) fun e w' => ∃ e0, e = .returned (.int .i64 e0) ∧ Did 0 p b N σ F ⟨kd, nm, to, body, z, keep⟩ (wr.alloc (.cells #[.int .i64 kd, .string (tx nm), .string (tx to), .slice xA xk xc, .int .i64 z, .slice xK xkn xkc] 30)) e0 w') := hdo
          have HAL := Lib.hid (hal (.cells #[.int .i64 kd, .string (tx nm), .string (tx to), .slice xA xk xc, .int .i64 z, .slice xK xkn xkc] 30))
          have HST : Hid (∀ σ' e0, StepR σ ⟨kd, nm, to, body, z, keep⟩ σ' e0 → Good σ' (i + 1)) := fun σ' e0 hst => good_step HGD.out hsm hHN hst
          have HNM := Lib.hid hgd.names
          have hi0 : (0 : Int) ≤ (i : Int) := by omega
          have hi1 : (i : Int) < (n : Int) := by omega
          have HI : Hid (i < n) := hlt
          clear hx hmx hin hsm hal hwa hdo hHN hnew hfs hgd hs hb hN
          go_wp2_with fail
          refine HDO.out.mono ?_
          rintro e w3 ⟨e0, rfl, σ', N', F', hfs', hN', ht', hsub', hst'⟩
          have HFS' := Lib.hid hfs'
          have HGD' := Lib.hid (HST.out σ' e0 hst')
          have HN' : Hid (N' ≤ 100 * (i + 1)) := (by have h1 := hN' i HNM.out; have h2 := HN.out; have h3 := HI.out; show _ ≤ _; omega)
          have HS' : Hid (∀ k, FsBlk p b F' k → w.heap.size ≤ k) := fun k hk => by
            rcases hsub' k hk with h | h
            · exact HS.out k h
            · exact Nat.le_trans HAL.out.size h
          have HB' : Hid (Below w.heap.size w w3) := HAL.out.trans (ht'.below HS.out HAL.out.size)
          clear hfs' hN' ht' hsub' hst' HDO
          go_wp2
          exact ⟨⟨i + 1, N', σ', F', HI.out, rfl, HFS'.out, HGD'.out, HN'.out, HS'.out, HB'.out⟩, by show n - (i + 1) < n - i; have := HI.out; omega⟩
        · obtain rfl : i = n := by omega
          clear hfs hgd hs hb hN hlt
          go_wp2_with fail
          obtain ⟨w3, hw3⟩ : ∃ x, x = wr := ⟨_, rfl⟩
          subst hw3
          have HSZS : Hid (∀ u y, σ.fl u = some y → y.body.length ≤ 1000000000 ∧ y.safe ≤ y.body.length ∧ u.length ≤ maxLen) := fun u y hu => (by have := HGD.out.each u y hu; unfold maxLen; omega)
          have HLTF := Lib.hid (blk_lt HFS.out.2 HFS.out.1)
          refine (copy_any p b N 0 σ.down σ.f σ.g σ.fl F (by have := HN.out; omega) (fun u y hu => (HSZS.out u y hu).1) w3 HFS.out.1 HFS.out.2).mono ?_
          rintro e w5 ⟨p2, b2, F2, rfl, hx5, hf5, hb5, hbk5⟩
          have HX5 := Lib.hid hx5
          have HF5 := Lib.hid hf5
          have HB5 := Lib.hid hb5
          have HBK5 := Lib.hid hbk5
          have HFS5 := Lib.hid (HFS.out.below hb5)
          have HW5 := Lib.hid (HB.out.trans (hb5.mono HB.out.size))
          clear hx5 hf5 hb5 hbk5
          go_wp2_with fail
          refine (crash_any p b N 0 σ.down σ.f σ.g σ.fl F K kn kc ks (by have := HN.out; omega) HSZS.out HKC.out.1 HKC.out.2.1 HKC.out.2.2 w5 (Nat.zero_le _) HFS5.out.1 HFS5.out.2 (fun hn ad e h => ?_) ((HKR.out.below HW5.out).more HW5.out.size)).mono ?_
          · obtain ⟨ad', e', hb', _⟩ := HKR.out.2 hn
            rw [e] at e'
            have h5 := Option.some.inj e'
            have h6 := HS.out _ h
            rw [h5] at h6
            omega
          rintro e w6 ⟨rfl, F6, ns, hns, hnl, hf6, hx6, ht6, _⟩
          have HW6 : Hid (FsAt w6 w3.heap.size p2 b2 N σ F2) := FsAt.past ⟨HX5.out, HF5.out⟩ ht6 (fun k hk h => by have h1 := HBK5.out k hk; have h2 := HLTF.out k h; omega)
          have HB6 : Hid (Below w.heap.size w w6) := HW5.out.trans (ht6.below HS.out HW5.out.size)
          have HEACH : Hid (∀ u, u ∈ ns → ∃ y m, σ.fl u = some y ∧ y.safe ≤ m ∧ m ≤ y.body.length ∧ (crN ns (σ.fl, ks)).1 u = some ⟨y.body.take m, m⟩) := fun u hu => by
            rcases crash_each (ks := ks) hns (fun u y hu => (HSZS.out u y hu).2.1) u with ⟨e, _⟩ | h
            · have := (hns.2 u).1 hu
              rw [e] at this
              cases this
            · exact h
          have HNE : Hid (∀ ns1, IsNames (crN ns (σ.fl, ks)).1 ns1 → ns1 = ns) := fun ns1 h1 => names_eq h1 hns (fun u => crN_names ns (σ.fl, ks) u)
          have HNS := Lib.hid hns
          have HX6 := Lib.hid hx6
          have HNL : Hid (N + ns.length ≤ 100000) := (by have := HN.out; show _ ≤ _; omega)
          obtain ⟨fl6, hfl6⟩ : ∃ f, f = (crN ns (σ.fl, ks)).1 := ⟨_, rfl⟩
          rw [← hfl6] at hf6 HEACH HNE
          have HF6 := Lib.hid hf6
          obtain ⟨M, hM⟩ : ∃ M, M = N + ns.length := ⟨_, rfl⟩
          rw [← hM] at HF6 HNL
          clear hf6 hx6 ht6 hns hnl hfl6 hM
          go_wp2_with fail
          refine (names_any p b M 0 false _ _ fl6 F6 (by have := HNL.out; omega) w6 HX6.out HF6.out).mono ?_
          rintro e w7 ⟨⟨NA, nc, ns1, hns1, _, rfl, hNA, hno1⟩, hb7⟩
          obtain rfl := HNE.out ns1 hns1
          have HW7 := Lib.hid (HW6.out.below hb7)
          have HX7 := Lib.hid (HX6.out.below hb7)
          have HF7 := Lib.hid (HF6.out.below hb7)
          have HB7 := Lib.hid (HB6.out.trans (hb7.mono HB6.out.size))
          obtain ⟨ml, hml⟩ : ∃ ml, ml = ns1.length := ⟨_, rfl⟩
          have HML := Lib.hid hml
          rw [← hml] at hno1 ⊢
          have HNO := Lib.hid (Reads.of_own hno1)
          have HM1 : Hid (ml ≤ 100000) := (by have h1 := HGD.out.names ns1 HNS.out; show _ ≤ _; omega)
          clear hns1 hNA hno1 hb7 hml
          go_wp2_with fail
          refine (names_any p2 b2 N _ σ.down _ _ σ.fl F2 (by have := HN.out; omega) w7 HW7.out.1 HW7.out.2).mono ?_
          rintro e w8 ⟨⟨NB, nd, ns2, hns2, _, rfl, hNB, hno2⟩, hb8⟩
          obtain rfl : ns2 = ns1 := names_eq hns2 HNS.out (fun _ => rfl)
          rw [← HML.out] at hno2 ⊢
          have HW8 := Lib.hid (HW7.out.below hb8)
          have HX8 := Lib.hid (HX7.out.below hb8)
          have HF8 := Lib.hid (HF7.out.below hb8)
          have HB8 := Lib.hid (HB7.out.trans (hb8.mono HB7.out.size))
          have HNO8 := Lib.hid ((HNO.out.below hb8).more hb8.size)
          have HNP8 := Lib.hid (Reads.of_own hno2)
          clear hns2 hNB hno2 hb8
          go_wp2_with fail
          refine (vsame_any NA NB ml nc nd _ _ ns2 (by have := HM1.out; omega) w8 (Nat.le_refl _) (Nat.le_refl _) HNO8.out HNP8.out).mono ?_
          rintro e w9 ⟨rfl, hb9⟩
          have HW9 := Lib.hid (HW8.out.below hb9)
          have HX9 := Lib.hid (HX8.out.below hb9)
          have HF9 := Lib.hid (HF8.out.below hb9)
          have HB9 := Lib.hid (HB8.out.trans (hb9.mono HB8.out.size))
          have HNO9 := Lib.hid ((HNO8.out.below hb9).more hb9.size)
          clear hb9
          go_wp2_with fail
          refine (down_any p b false _ _ w9 HX9.out).mono ?_
          rintro e w10 ⟨rfl, rfl⟩
          go_wp2
          have hml2 : ml ≤ 100000 := HM1.out
          go_loopw [58] (fun idx wr => ∃ j : Nat, j ≤ ml ∧ idx = .int .i64 (j : Int) ∧ Below w9.heap.size w9 wr) (fun idx _ => ml - (intOf idx).toNat)
          case atStart => exact ⟨0, by omega, rfl, Below.refl _ _⟩
          case round =>
            obtain ⟨j, hj, rfl, hb⟩ := hrel
            have HBR := Lib.hid hb
            obtain ⟨w10, hw10⟩ : ∃ x, x = wr := ⟨_, rfl⟩
            subst hw10
            by_cases hlt : j < ml
            · obtain ⟨s, hs⟩ : ∃ s, ns2[j]? = some s := ⟨_, List.getElem?_eq_getElem (by rw [← HML.out]; exact hlt)⟩
              obtain ⟨ax, sv, rfl, hxb, hsv, hsc⟩ := (HNO9.out.below hb).at_ hlt
              obtain rfl : sv = tsv s := by rw [List.getElem?_map, hs] at hsv; simpa using hsv.symm
              unfold tsv at hsc
              have hms := List.mem_of_getElem? hs
              obtain ⟨y, m, hy, hm1, hm2, hm3⟩ := HEACH.out s hms
              obtain ⟨body, q⟩ := y
              simp only at hm1 hm2 hm3
              have HSLEN : Hid (s.length ≤ maxLen) := (HSZS.out s _ hy).2.2
              have hbl : body.length ≤ 1000000000 := (HSZS.out s _ hy).1
              obtain ⟨n1, hn1⟩ : ∃ n1, n1 = body.length := ⟨_, rfl⟩
              obtain ⟨ts, hts⟩ : ∃ ts, ts = body.take m := ⟨_, rfl⟩
              have HTL : Hid (ts.length = m) := (by show _ = _; rw [hts, List.length_take]; omega)
              have HTS := Lib.hid hts
              have HN1 := Lib.hid hn1
              rw [← hn1] at hm2 hbl
              rw [← hts] at hm3
              have HY := Lib.hid hy
              have HM3 := Lib.hid hm3
              have HQN : Hid (q ≤ n1) := (by show _ ≤ _; omega)
              have HQM : Hid (q ≤ m) := (by show _ ≤ _; omega)
              have HMN : Hid (m ≤ n1) := (by show _ ≤ _; omega)
              have HMN2 : Hid (m ≤ n1) := hm2
              have HBL2 : Hid (n1 ≤ 1000000000) := hbl
              have hj0 : (0 : Int) ≤ (j : Int) := by omega
              have hj1 : (j : Int) < (ml : Int) := by omega
              have HJ : Hid (j < ml) := hlt
              clear hs hsv hms hy hm1 hm3 hn1 hts hbl hb hlt hm2
              go_wp2_with fail
              refine (read_some p2 b2 N _ σ.down _ _ σ.fl F2 s HSLEN.out _ HY.out (by have h1 := HBL2.out; have h2 := HN1.out; simp only; omega) w10 (HW9.out.below HBR.out).1 (HW9.out.below HBR.out).2).mono ?_
              rintro e wa ⟨⟨A1, c1, he1, hA1, ho1⟩, hba⟩
              simp only at he1 ho1
              rw [← HN1.out] at he1 ho1
              subst he1
              have HBA := Lib.hid (HBR.out.trans (hba.mono HBR.out.size))
              have HO1 := Lib.hid ho1
              have HA1 := Lib.hid hA1
              clear hba ho1 hA1
              go_wp2_with fail
              refine (read_some p b M 0 false _ _ fl6 F6 s HSLEN.out _ HM3.out (by have h1 := HBL2.out; have h2 := HTL.out; have h3 := HMN2.out; simp only; omega) wa (HX9.out.below HBA.out) (HF9.out.below HBA.out)).mono ?_
              rintro e wb ⟨⟨A2, c2, he2, hA2, ho2⟩, hbb⟩
              simp only at he2 ho2
              rw [HTL.out] at he2 ho2
              subst he2
              have HBB := Lib.hid (HBA.out.trans (hbb.mono HBA.out.size))
              have HO2 := Lib.hid ho2
              have HR1 := Lib.hid (((Reads.of_own HO1.out).below hbb).more hbb.size)
              clear hbb ho2 hA2
              go_wp2_with fail
              refine (safe_any p2 b2 N _ σ.down _ _ σ.fl F2 s HSLEN.out wb (HW9.out.below HBB.out).1 (HW9.out.below HBB.out).2).mono ?_
              rintro e w4 ⟨he3, hb4⟩
              rw [show safeOf σ.fl s = q from by unfold safeOf; rw [flGet_some HY.out]] at he3
              subst he3
              have HB4 := Lib.hid (HBB.out.trans (hb4.mono HBB.out.size))
              have HR1' := Lib.hid ((HR1.out.below hb4).more hb4.size)
              have HR2' := Lib.hid (((Reads.of_own HO2.out).below hb4).more hb4.size)
              have HX4 := Lib.hid (HX9.out.below HB4.out)
              have HF4 := Lib.hid (HF9.out.below HB4.out)
              have HSF : Hid (safeOf fl6 s = m) := (by show _ = _; unfold safeOf; rw [flGet_some HM3.out])
              have hcc : n1 ≤ c1 := by
                rcases HO1.out.2 with ⟨e, h0⟩ | ⟨g9, cap9, cur9, e, _, _, h1, h2, _⟩
                · injection e with _ e1 e2
                  omega
                · injection e with _ _ e2
                  subst e2
                  exact h1
              have hk0 : (0 : Int) ≤ (m : Int) := by omega
              have hkc : (m : Int) ≤ (c1 : Int) := by have := HMN.out; omega
              have HSL : Hid (∀ W : World, (Instr.sliceAt 28 (.slice A1 n1 c1) none (some (.int .i64 (m : Int))) none).run Try.prog W = .ok (.slice A1 m c1) W) := fun W => by
                cases A1 with
                | none =>
                  have hc0 := HA1.out rfl
                  have hk2 : m = 0 := by have := HMN2.out; omega
                  subst hc0
                  subst hk2
                  rfl
                | some ad => go_simp
              have HV1 : Hid (∀ v : World, (∀ j : Nat, j < w4.heap.size → v.heap[j]? = w4.heap[j]?) → (convert 28 9 (.slice A1 m c1)).run Try.prog v = .ok (.string (tx ts)) v) := fun v hv => by
                have h9 := (HR1'.out.take HMN2.out).keep (w' := v) (fun p hp => World.cell?_of_block (hv p.block hp))
                rw [← List.map_take, ← HTS.out] at h9
                exact conv_reads Try.underlying28 Try.underlying5 Try.underlying9 h9
              have HV2 : Hid (∀ v : World, (∀ j : Nat, j < w4.heap.size → v.heap[j]? = w4.heap[j]?) → (convert 28 9 (.slice A2 m c2)).run Try.prog v = .ok (.string (tx ts)) v) := fun v hv =>
                conv_reads Try.underlying28 Try.underlying5 Try.underlying9 (HR2'.out.keep (w' := v) (fun p hp => World.cell?_of_block (hv p.block hp)))
              clear hb4 hcc hk0 hkc
              go_wp2_with fail
              refine wp_region_held (S := fun v => ∀ j : Nat, j < w4.heap.size → v.heap[j]? = w4.heap[j]?) (by kernel_rfl) (show wpAnyH _ _ _ _ _ _ _ _ (w4.drew) from ?_)
              have ONLY : Hid (∀ j : Nat, j < w4.heap.size → w4.drew.heap[j]? = w4.heap[j]?) := fun _ _ => rfl
              have HD : Hid (Below w4.heap.size w4 w4.drew) := (Below.refl _ w4).drew
              obtain ⟨W0, hW0⟩ : ∃ x, x = w4.drew := ⟨_, rfl⟩
              rw [← hW0] at ONLY HD ⊢
              clear hW0
              refine h_take 0 (.int .i64 0) rfl (by kernel_rfl) (by kernel_rfl) (by kernel_rfl) (fun _ _ _ h => h) (by kernel_rfl) ONLY.out (fun _ _ => by kernel_rfl) ?_
              refine h_take 1 (.bool false) rfl (by kernel_rfl) (by kernel_rfl) (by kernel_rfl) (fun _ _ _ h => h) (by kernel_rfl) ONLY.out (by intro v hv; go_simp) ?_
              refine h_take 2 (.bool false) rfl (by kernel_rfl) (by kernel_rfl) (by kernel_rfl) (fun _ _ _ h => h) (by kernel_rfl) ONLY.out (fun _ _ => by kernel_rfl) ?_
              refine h_take 3 (.int .i64 (q : Int)) rfl (by kernel_rfl) (by kernel_rfl) (by kernel_rfl) (fun _ _ _ h => h) (by kernel_rfl) ONLY.out (fun _ _ => by kernel_rfl) ?_
              refine h_take 4 (.bool false) rfl (by kernel_rfl) (by kernel_rfl) (by kernel_rfl) (fun _ _ _ h => h) (by kernel_rfl) ONLY.out (by intro v hv; have z1 : ¬ ((q : Int) < 0) := (by omega); go_simp) ?_
              refine h_take 5 (.bool false) rfl (by kernel_rfl) (by kernel_rfl) (by kernel_rfl) (fun _ _ _ h => h) (by kernel_rfl) ONLY.out (fun _ _ => by kernel_rfl) ?_
              refine h_take 6 (.bool false) rfl (by kernel_rfl) (by kernel_rfl) (by kernel_rfl) (fun _ _ _ h => h) (by kernel_rfl) ONLY.out (fun _ _ => by kernel_rfl) ?_
              refine h_take 7 (.int .i64 (q : Int)) rfl (by kernel_rfl) (by kernel_rfl) (by kernel_rfl) (fun _ _ _ h => h) (by kernel_rfl) ONLY.out (fun _ _ => by kernel_rfl) ?_
              refine h_take 8 (.slice A1 n1 c1) rfl (by kernel_rfl) (by kernel_rfl) (by kernel_rfl) (fun _ _ _ h => h) (by kernel_rfl) ONLY.out (fun _ _ => by kernel_rfl) ?_
              refine h_take 9 (.int .i64 (n1 : Int)) rfl (by kernel_rfl) (by kernel_rfl) (by kernel_rfl) (fun _ _ _ h => h) (by kernel_rfl) ONLY.out (by intro v hv; go_simp) ?_
              refine h_take 10 (.bool false) rfl (by kernel_rfl) (by kernel_rfl) (by kernel_rfl) (fun _ _ _ h => h) (by kernel_rfl) ONLY.out (by intro v hv; have z1 := HQN.out; have z2 : _ := Int.ofNat_le.2 z1; go_simp) ?_
              refine h_take 11 (.bool false) rfl (by kernel_rfl) (by kernel_rfl) (by kernel_rfl) (fun _ _ _ h => h) (by kernel_rfl) ONLY.out (fun _ _ => by kernel_rfl) ?_
              refine h_take 12 (.bool false) rfl (by kernel_rfl) (by kernel_rfl) (by kernel_rfl) (fun _ _ _ h => h) (by kernel_rfl) ONLY.out (fun _ _ => by kernel_rfl) ?_
              refine h_take 13 (.slice A2 m c2) rfl (by kernel_rfl) (by kernel_rfl) (by kernel_rfl) (fun _ _ _ h => h) (by kernel_rfl) ONLY.out (fun _ _ => by kernel_rfl) ?_
              refine h_take 14 (.int .i64 (m : Int)) rfl (by kernel_rfl) (by kernel_rfl) (by kernel_rfl) (fun _ _ _ h => h) (by kernel_rfl) ONLY.out (by intro v hv; go_simp) ?_
              refine h_take 15 (.int .i64 (q : Int)) rfl (by kernel_rfl) (by kernel_rfl) (by kernel_rfl) (fun _ _ _ h => h) (by kernel_rfl) ONLY.out (fun _ _ => by kernel_rfl) ?_
              refine h_take 16 (.bool false) rfl (by kernel_rfl) (by kernel_rfl) (by kernel_rfl) (fun _ _ _ h => h) (by kernel_rfl) ONLY.out (by intro v hv; have z1 := HQM.out; have z2 : _ := Int.ofNat_le.2 z1; go_simp) ?_
              refine h_take 17 (.bool false) rfl (by kernel_rfl) (by kernel_rfl) (by kernel_rfl) (fun _ _ _ h => h) (by kernel_rfl) ONLY.out (fun _ _ => by kernel_rfl) ?_
              refine h_take 18 (.bool false) rfl (by kernel_rfl) (by kernel_rfl) (by kernel_rfl) (fun _ _ _ h => h) (by kernel_rfl) ONLY.out (fun _ _ => by kernel_rfl) ?_
              refine h_take 19 (.slice A2 m c2) rfl (by kernel_rfl) (by kernel_rfl) (by kernel_rfl) (fun _ _ _ h => h) (by kernel_rfl) ONLY.out (fun _ _ => by kernel_rfl) ?_
              refine h_take 20 (.int .i64 (m : Int)) rfl (by kernel_rfl) (by kernel_rfl) (by kernel_rfl) (fun _ _ _ h => h) (by kernel_rfl) ONLY.out (by intro v hv; go_simp) ?_
              refine h_take 21 (.slice A1 n1 c1) rfl (by kernel_rfl) (by kernel_rfl) (by kernel_rfl) (fun _ _ _ h => h) (by kernel_rfl) ONLY.out (fun _ _ => by kernel_rfl) ?_
              refine h_take 22 (.int .i64 (n1 : Int)) rfl (by kernel_rfl) (by kernel_rfl) (by kernel_rfl) (fun _ _ _ h => h) (by kernel_rfl) ONLY.out (by intro v hv; go_simp) ?_
              refine h_take 23 (.bool false) rfl (by kernel_rfl) (by kernel_rfl) (by kernel_rfl) (fun _ _ _ h => h) (by kernel_rfl) ONLY.out (by intro v hv; have z1 := HMN.out; have z2 : _ := Int.ofNat_le.2 z1; go_simp) ?_
              refine h_take 24 (.bool false) rfl (by kernel_rfl) (by kernel_rfl) (by kernel_rfl) (fun _ _ _ h => h) (by kernel_rfl) ONLY.out (fun _ _ => by kernel_rfl) ?_
              refine h_take 25 (.bool false) rfl (by kernel_rfl) (by kernel_rfl) (by kernel_rfl) (fun _ _ _ h => h) (by kernel_rfl) ONLY.out (fun _ _ => by kernel_rfl) ?_
              refine h_take 26 (.slice A1 n1 c1) rfl (by kernel_rfl) (by kernel_rfl) (by kernel_rfl) (fun _ _ _ h => h) (by kernel_rfl) ONLY.out (fun _ _ => by kernel_rfl) ?_
              refine h_take 27 (.slice A2 m c2) rfl (by kernel_rfl) (by kernel_rfl) (by kernel_rfl) (fun _ _ _ h => h) (by kernel_rfl) ONLY.out (fun _ _ => by kernel_rfl) ?_
              refine h_take 28 (.int .i64 (m : Int)) rfl (by kernel_rfl) (by kernel_rfl) (by kernel_rfl) (fun _ _ _ h => h) (by kernel_rfl) ONLY.out (by intro v hv; go_simp) ?_
              refine h_take 29 (.slice A1 m c1) rfl (by kernel_rfl) (by kernel_rfl) (by kernel_rfl) (fun _ _ _ h => h) (by kernel_rfl) ONLY.out (by intro v hv; have z1 := HSL.out v; go_simp) ?_
              refine h_take 30 (.string (tx ts)) rfl (by kernel_rfl) (by kernel_rfl) (by kernel_rfl) (fun _ _ _ h => h) (by kernel_rfl) ONLY.out (by intro v hv; have z1 := HV1.out v hv; go_simp) ?_
              refine h_take 31 (.slice A2 m c2) rfl (by kernel_rfl) (by kernel_rfl) (by kernel_rfl) (fun _ _ _ h => h) (by kernel_rfl) ONLY.out (fun _ _ => by kernel_rfl) ?_
              refine h_take 32 (.string (tx ts)) rfl (by kernel_rfl) (by kernel_rfl) (by kernel_rfl) (fun _ _ _ h => h) (by kernel_rfl) ONLY.out (by intro v hv; have z1 := HV2.out v hv; go_simp) ?_
              refine h_take 33 (.bool false) rfl (by kernel_rfl) (by kernel_rfl) (by kernel_rfl) (fun _ _ _ h => h) (by kernel_rfl) ONLY.out (by intro v hv; go_simp) ?_
              refine h_take 34 (.bool false) rfl (by kernel_rfl) (by kernel_rfl) (by kernel_rfl) (fun _ _ _ h => h) (by kernel_rfl) ONLY.out (fun _ _ => by kernel_rfl) ?_
              refine h_take 35 (.bool false) rfl (by kernel_rfl) (by kernel_rfl) (by kernel_rfl) (fun _ _ _ h => h) (by kernel_rfl) ONLY.out (fun _ _ => by kernel_rfl) ?_
              refine h_take 36 (.pointer (some ⟨p, 0, none⟩)) rfl (by kernel_rfl) (by kernel_rfl) (by kernel_rfl) (fun _ _ _ h => h) (by kernel_rfl) ONLY.out (fun _ _ => by kernel_rfl) ?_
              refine h_take 37 (.string (tx s)) rfl (by kernel_rfl) (by kernel_rfl) (by kernel_rfl) (fun _ _ _ h => h) (by kernel_rfl) ONLY.out (fun _ _ => by kernel_rfl) ?_
              refine h_take 39 (.slice A2 m c2) rfl (by kernel_rfl) (by kernel_rfl) (by kernel_rfl) (fun _ _ _ h => h) (by kernel_rfl) ONLY.out (fun _ _ => by kernel_rfl) ?_
              refine h_take 40 (.int .i64 (m : Int)) rfl (by kernel_rfl) (by kernel_rfl) (by kernel_rfl) (fun _ _ _ h => h) (by kernel_rfl) ONLY.out (by intro v hv; go_simp) ?_
              refine h_one 38 rfl (by kernel_rfl) (by kernel_rfl) (fun K hK => ?_)
              go_simp
              refine (safe_any p b _ 0 false _ _ _ F6 s HSLEN.out W0 (HX4.out.below HD.out) (HF4.out.below HD.out)).mono ?_
              rintro e w5 ⟨he5, hb5⟩
              rw [HSF.out] at he5
              subst he5
              have ONLY5 : Hid (∀ j : Nat, j < w4.heap.size → w5.heap[j]? = w4.heap[j]?) := fun j h1 => (hb5.block j (Nat.lt_of_lt_of_le h1 HD.out.size)).trans (ONLY.out j h1)
              have HB5 := Lib.hid (HD.out.trans (hb5.mono HD.out.size))
              clear hb5
              refine hK _ _ ONLY5.out ?_
              clear hK K
              refine h_take 41 (.bool false) rfl (by kernel_rfl) (by kernel_rfl) (by kernel_rfl) (fun _ _ _ h => h) (by kernel_rfl) ONLY5.out (by intro v hv; go_simp) ?_
              refine h_take 42 (.bool false) rfl (by kernel_rfl) (by kernel_rfl) (by kernel_rfl) (fun _ _ _ h => h) (by kernel_rfl) ONLY5.out (fun _ _ => by kernel_rfl) ?_
              refine wpAnyH_done (by kernel_rfl) ?_ _
              go_simp
              go_wp2
              exact ⟨⟨j + 1, HJ.out, rfl, HB4.out.trans (HB5.out.mono HB4.out.size)⟩, by show ml - (j + 1) < ml - j; have := HJ.out; omega⟩
            · obtain rfl : j = ml := by omega
              go_wp2_with fail
              refine (vfixed_any _).mono ?_
              rintro e w11 ⟨rfl, hb11⟩
              have HB10 := HB9.out.trans (hb.mono HB9.out.size)
              have HB11 := Lib.hid (HB10.trans (hb11.mono HB10.size))
              clear hb11 HB10
              go_wp2
              go_ret
              exact ⟨rfl, HB11.out⟩
    · have dk : decide ((kn : Int) > 80) = true := decide_eq_true (by omega)
      go_wp2_with fail
      refine (vfixed_any _).mono ?_
      rintro e w2 ⟨rfl, hb2⟩
      have HB2 := Lib.hid (HB1.out.trans (hb2.mono HB1.out.size))
      clear hb2
      go_wp2
      go_ret
      exact ⟨rfl, HB2.out⟩

end Go.Proofs.Ytfgonihpakcbbaa
