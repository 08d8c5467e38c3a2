/- Layer 13: two file systems with the same files. -/
import Derived.Test.YtfgonihpakcbbaaOx
namespace Go.Proofs.Ytfgonihpakcbbaa
open Go.RowKit

set_option maxRecDepth 100000 in
set_option maxHeartbeats 4000000 in
theorem samefs_any (p b N base p2 b2 N2 base2 : Nat) (d d2 : Bool) (f g f2 g2 : Bool × Int) (fl : List UInt8 → Option Fl) (F F2 : List UInt8 → Option Value) (hN : N ≤ 1000000) (hN2 : N2 ≤ 1000000) (hsz : ∀ u y, fl u = some y → y.body.length ≤ 1000000000 ∧ u.length ≤ maxLen) (w : World)
    (hx : FsBox w p b d f g) (hf : FilesF w base b N fl F) (hx2 : FsBox w p2 b2 d2 f2 g2) (hf2 : FilesF w base2 b2 N2 fl F2) :
    Calls Try.prog 18 #[.pointer (some ⟨p, 0, none⟩), .pointer (some ⟨p2, 0, none⟩)] w fun e w' => e = .returned (.bool true) ∧ Below w.heap.size w w' := by
  have HX := Lib.hid hx
  have HF := Lib.hid hf
  have HX2 := Lib.hid hx2
  have HF2 := Lib.hid hf2
  have HSZ := Lib.hid hsz
  clear hx hf hx2 hf2 hsz
  go_enter Try.func18, Try.ntmps18
  go_wp2_with fail
  refine (names_any p b N base d f g fl F hN w HX.out HF.out).mono ?_
  rintro e w1 ⟨⟨NA, nc, ns, hns, hnl, rfl, hNA, hno⟩, hb1⟩
  have HNS := Lib.hid hns
  have HB1 := Lib.hid hb1
  obtain ⟨ml, hml⟩ : ∃ ml, ml = ns.length := ⟨_, rfl⟩
  have HML := Lib.hid hml
  rw [← hml] at hno hnl ⊢
  have HO := Lib.hid (Reads.of_own hno)
  have hm1 : ml ≤ 1000000 := by omega
  clear hns hno hnl hNA hb1 hml
  go_wp2_with fail
  refine (names_any p2 b2 N2 base2 d2 f2 g2 fl F2 hN2 w1 (HX2.out.below HB1.out) (HF2.out.below HB1.out)).mono ?_
  rintro e w2 ⟨⟨NB, nd, ns2, hns2, _, rfl, hNB, hno2⟩, hb2⟩
  obtain rfl : ns2 = ns := names_eq hns2 HNS.out (fun _ => rfl)
  rw [← HML.out] at hno2 ⊢
  have HB2 := Lib.hid (HB1.out.trans (hb2.mono HB1.out.size))
  have HO1 := Lib.hid ((HO.out.below hb2).more hb2.size)
  have HO2 := Lib.hid (Reads.of_own hno2)
  clear hns2 hNB hno2 hb2
  go_wp2_with fail
  refine (vsame_any NA NB ml nc nd _ _ ns2 (by omega) w2 (Nat.le_refl _) (Nat.le_refl _) HO1.out HO2.out).mono ?_
  rintro e w3 ⟨rfl, hb3⟩
  have HB3 := Lib.hid (HB2.out.trans (hb3.mono HB2.out.size))
  clear hb3
  go_wp2_with fail
  refine (names_any p b N base d f g fl F hN w3 (HX.out.below HB3.out) (HF.out.below HB3.out)).mono ?_
  rintro e w4 ⟨⟨NC, ne, ns3, hns3, _, rfl, hNC, hno3⟩, hb4⟩
  obtain rfl : ns3 = ns2 := names_eq hns3 HNS.out (fun _ => rfl)
  rw [← HML.out] at hno3 ⊢
  have HB4 := Lib.hid (HB3.out.trans (hb4.mono HB3.out.size))
  have HO3 := Lib.hid (Reads.of_own hno3)
  clear hns3 hNC hno3 hb4
  go_wp2
  go_loopw [20] (fun idx wr => ∃ j : Nat, j ≤ ml ∧ idx = .int .i64 (j : Int) ∧ Below w4.heap.size w4 wr) (fun idx _ => ml - (intOf idx).toNat)
  case atStart => exact ⟨0, by omega, rfl, Below.refl _ _⟩
  case round =>
    obtain ⟨j, hj, rfl, hb⟩ := hrel
    have HBR := Lib.hid hb
    obtain ⟨w10, hw10⟩ : ∃ x, x = wr := ⟨_, rfl⟩
    subst hw10
    by_cases hlt : j < ml
    · obtain ⟨s, hs⟩ : ∃ s, ns3[j]? = some s := ⟨_, List.getElem?_eq_getElem (by rw [← HML.out]; exact hlt)⟩
      obtain ⟨ax, sv, rfl, hxb, hsv, hsc⟩ := (HO3.out.below hb).at_ hlt
      obtain rfl : sv = tsv s := by rw [List.getElem?_map, hs] at hsv; simpa using hsv.symm
      unfold tsv at hsc
      have hms := List.mem_of_getElem? hs
      obtain ⟨y, hy⟩ := Option.isSome_iff_exists.1 ((HNS.out.2 s).1 hms)
      have hbl := (HSZ.out s y hy).1
      have HSLEN : Hid (s.length ≤ maxLen) := (HSZ.out s y hy).2
      obtain ⟨body, q⟩ := y
      simp only at hbl
      obtain ⟨n1, hn1⟩ : ∃ n1, n1 = body.length := ⟨_, rfl⟩
      have HN1 := Lib.hid hn1
      rw [← hn1] at hbl
      have HBL : Hid (n1 ≤ 1000000000) := hbl
      have HY := Lib.hid hy
      have HB := Lib.hid (HB4.out.trans (hb.mono HB4.out.size))
      have hj0 : (0 : Int) ≤ (j : Int) := by omega
      have hj1 : (j : Int) < (ml : Int) := by omega
      have HJ : Hid (j < ml) := hlt
      clear hs hsv hms hy hn1 hbl hb hlt
      go_wp2_with fail
      refine (read_some p b N base d f g fl F s HSLEN.out _ HY.out (by have h1 := HBL.out; have h2 := HN1.out; simp only; omega) w10 (HX.out.below HB.out) (HF.out.below HB.out)).mono ?_
      rintro e wa ⟨⟨A1, c1, he1, _, ho1⟩, hba⟩
      simp only at he1 ho1
      rw [← HN1.out] at he1 ho1
      subst he1
      have HBA := Lib.hid (HB.out.trans (hba.mono HB.out.size))
      have HBRA := Lib.hid (HBR.out.trans (hba.mono HBR.out.size))
      have HO1' := Lib.hid (Reads.of_own ho1)
      clear hba ho1
      go_wp2_with fail
      refine (read_some p2 b2 N2 base2 d2 f2 g2 fl F2 s HSLEN.out _ HY.out (by have h1 := HBL.out; have h2 := HN1.out; simp only; omega) wa (HX2.out.below HBA.out) (HF2.out.below HBA.out)).mono ?_
      rintro e wb ⟨⟨A2, c2, he2, _, ho2⟩, hbb⟩
      simp only at he2 ho2
      rw [← HN1.out] at he2 ho2
      subst he2
      have HBB := Lib.hid (HBA.out.trans (hbb.mono HBA.out.size))
      have HBRB := Lib.hid (HBRA.out.trans (hbb.mono HBRA.out.size))
      have hv1 := conv_reads (P := Try.prog) (c := c1) Try.underlying28 Try.underlying5 Try.underlying9 (HO1'.out.below hbb)
      have hv2 := conv_reads (P := Try.prog) (c := c2) Try.underlying28 Try.underlying5 Try.underlying9 (Reads.of_own ho2)
      clear hbb ho2
      go_wp2_with fail
      refine (safe_any p b N base d f g fl F s HSLEN.out wb (HX.out.below HBB.out) (HF.out.below HBB.out)).mono ?_
      rintro e wc ⟨rfl, hbc⟩
      have HBC := Lib.hid (HBB.out.trans (hbc.mono HBB.out.size))
      have HBRC := Lib.hid (HBRB.out.trans (hbc.mono HBRB.out.size))
      clear hbc hv1 hv2
      go_wp2_with fail
      refine (safe_any p2 b2 N2 base2 d2 f2 g2 fl F2 s HSLEN.out wc (HX2.out.below HBC.out) (HF2.out.below HBC.out)).mono ?_
      rintro e wd ⟨rfl, hbd⟩
      have HBRD := Lib.hid (HBRC.out.trans (hbd.mono HBRC.out.size))
      clear hbd
      go_wp2
      exact ⟨⟨j + 1, HJ.out, rfl, HBRD.out⟩, by show ml - (j + 1) < ml - j; have := HJ.out; omega⟩
    · obtain rfl : j = ml := by omega
      go_wp2
      go_ret
      exact ⟨rfl, HB4.out.trans (HBR.out.mono HB4.out.size)⟩

end Go.Proofs.Ytfgonihpakcbbaa
