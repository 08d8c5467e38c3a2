/- Texts of one proof, one behind the other. -/
import Derived.Lib.SlBytesConst
import Derived.SliceStrings
import Derived.ChangeMaps5
import Derived.Test.YtfidfhajnobonaaMp1

/- The document's Put of a record that may be. -/
namespace Go.Proofs.Ytfidfhajnobonaa
open Go.RowKit

set_option maxRecDepth 100000 in
set_option maxHeartbeats 4000000 in
theorem rp32 (tl : List (List UInt8)) (t g : List UInt8) (u o m : Int) (A : Option Addr) (n c : Nat) (l : List Dp) (hm : MayP 3 ⟨2, t, u, o, m, g⟩ l) (hnu : Nums ⟨2, t, u, o, m, g⟩ l) (hfit : Fits ⟨2, t, u, o, m, g⟩ l) (tv : Value) (htl : tl.length ≤ 100000) (w : World) (B0 : Nat) (hB0 : B0 ≤ w.heap.size) (hT : Own w B0 tv tl) (hr : Reads w w.heap.size 3 A n (dps l)) :
    Calls Try.prog 12 #[.int .i64 3, tv, .agg #[.int .i64 2, .string (tx t), .int .u64 u, .slice A n c, .int .u64 o, .int .u64 m, .string (tx g)]] w fun e w' => ∃ v1 v2, e = .returned (.tuple #[v1, v2, .int .i64 0]) ∧ Own w' w.heap.size v1 (payL 3 tl ⟨2, t, u, o, m, g⟩ l) ∧ Own w' B0 v2 (tabT 3 tl ⟨2, t, u, o, m, g⟩ l) ∧ Below w.heap.size w w' := by
  obtain ⟨i0, ii0, iz0, iz1, iz2⟩ := info_parts (show (Try.prog.info? 9).map (fun i => (i.zero, i.size, i.bytes)) = some (some (.string { data := #[] }), 1, 16) from by kernel_rfl)
  obtain ⟨n1, n2, n3, n4⟩ := may_names hm
  have hln : l.length = n := by have := hr.1; rw [dps_len] at this; omega
  have hn16 : n ≤ 16 := by omega
  have hTL := tabT_len (tl := tl) hm
  have hin := tabT_mem 3 tl ⟨2, t, u, o, m, g⟩ l
  obtain ⟨T, hTe⟩ : ∃ T, T = tabT 3 tl ⟨2, t, u, o, m, g⟩ l := ⟨_, rfl⟩
  rw [← hTe] at hin hTL
  have hT2 : T.length ≤ 200000 := by omega
  have hnm : (nmB 3 T t).length ≤ 74 := nmB_len n1 (by omega)
  have hinT : (3 : Int) < 2 ∨ t ∈ T := hin.imp id fun h => h _ (tnew_mem (by simp))
  have hinD : ∀ d ∈ l, (3 : Int) < 2 ∨ d.name ∈ T := fun d hd => hin.imp id fun h => h _ (tnew_mem (by
    refine List.mem_append.2 (.inl (List.mem_cons.2 (.inr ?_)))
    exact List.mem_map.2 ⟨d, hd, rfl⟩))
  obtain ⟨nm, hnme⟩ : ∃ nm, nm = nmB 3 T t := ⟨_, rfl⟩
  rw [← hnme] at hnm
  obtain ⟨bk, hbk⟩ : ∃ bk, bk = vb 2 := ⟨_, rfl⟩
  have lbk : bk.length ≤ 10 := by rw [hbk]; exact vb_len _ (by unfold top; omega)
  have HK := Lib.hid (fun W => refput_any 2 (by unfold top; omega) W)
  rw [← hbk] at HK
  have hfin : Hid (payB 3 T ⟨2, t, u, o, m, g⟩ l = bk ++ nm) := by
    show _ = _
    rw [hbk, hnme]
    unfold payB
    rw [vb_lt (show 2 < 128 by omega)]
    simp
  have hpl : Hid (payL 3 tl ⟨2, t, u, o, m, g⟩ l = freT 3 tl ⟨2, t, u, o, m, g⟩ l ++ [payB 3 T ⟨2, t, u, o, m, g⟩ l]) := by show _ = _; unfold payL; rw [← hTe]
  have hfre : Hid (freT 3 tl ⟨2, t, u, o, m, g⟩ l = freshL tl (rnames ⟨2, t, u, o, m, g⟩ l)) := by show _ = _; unfold freT; rw [if_neg (by omega)]
  have htab : Hid (T = (rnames ⟨2, t, u, o, m, g⟩ l).foldl tput tl) := by show _ = _; rw [hTe]; unfold tabT; rw [if_neg (by omega)]
  rw [← hTe]
  have hmay := Lib.hid (fun W hw => rmay_any 3 ⟨2, t, u, o, m, g⟩ A n c l (by omega) hfit W hw)
  have HMAY := Lib.hid hm
  have HR := Lib.hid hr
  obtain ⟨L, cT, rfl, hLc⟩ := own_slice hT
  have HT := Lib.hid hT
  have HNM := Lib.hid (fun W hw => rnames_any ⟨2, t, u, o, m, g⟩ A n c l (by omega) W hw)
  have hnl := rnames_le hm
  obtain ⟨X0, hX0⟩ : ∃ X0, X0 = w.alloc (.cells #[.int .i64 2, .string (tx t), .int .u64 u, .slice A n c, .int .u64 o, .int .u64 m, .string (tx g)] 26) := ⟨_, rfl⟩
  have hz0 : Hid (X0.heap.size = w.heap.size + 1) := by show _ = _; rw [hX0]; simp
  have hbx0 := one_new w (.cells #[.int .i64 2, .string (tx t), .int .u64 u, .slice A n c, .int .u64 o, .int .u64 m, .string (tx g)] 26)
  rw [← hX0] at hbx0
  have HBX : Hid (∀ W, Below (w.heap.size + 1) X0 W → W.heap[w.heap.size]? = some (.cells #[.int .i64 2, .string (tx t), .int .u64 u, .slice A n c, .int .u64 o, .int .u64 m, .string (tx g)] 26 (0, 0))) := fun W h => (h.block _ (by omega)).trans hbx0
  have HW0 : Hid (Below w.heap.size w X0) := by rw [hX0]; exact (Below.refl w.heap.size w).alloc (Nat.le_refl _) _
  have HB3 : Hid (Below (w.heap.size + 1) X0 (X0.alloc (.cells #[] 9))) := (Below.refl _ _).alloc (by rw [hz0.out]; exact Nat.le_refl _) _
  have HZ : Hid (∀ W, Below (w.heap.size + 1) X0 W → w.heap.size + 1 ≤ W.heap.size) := fun W h => by have h1 := h.size; rw [hz0.out] at h1; exact h1
  have HRW : Hid (∀ W, Below (w.heap.size + 1) X0 W → Reads W W.heap.size 3 A n (dps l)) := fun W h => (HR.out.below (HW0.out.trans (h.mono (by omega)))).more (by have h1 := h.size; rw [hz0.out] at h1; omega)
  have HO3 : Hid (Own (X0.alloc (.cells #[] 9)) (w.heap.size + 1) (.slice (some ⟨w.heap.size + 1, 0, none⟩) 0 0) []) := by
    have h1 := own_empty X0 9
    rw [hz0.out] at h1
    exact h1
  have HT3 : Hid (Own (X0.alloc (.cells #[] 9)) B0 (.slice L tl.length cT) tl) := HT.out.below (HW0.out.trans (HB3.out.mono (by omega)))
  rw [hX0] at HBX HW0 HB3 HZ HRW HO3 HT3
  unfold rcv rsv at hmay HNM
  clear hm hr hfit hTe hbx0 hz0 HR hX0 hbk hin hLc
  have hln2 : Hid (l.length = n) := hln
  clear hln
  have HNME := Lib.hid hnme
  clear hnme
  have HNU := Lib.hid hnu
  have HN4 := Lib.hid n4
  have HIND := Lib.hid hinD
  clear hnu n4 hinD
  have HTLT : Hid (∀ gg, (Value.slice L tl.length cT).ownBlock = some gg → gg < w.heap.size) := own_lt HT.out
  clear hT
  have HINT := Lib.hid hinT
  clear hinT
  have hbx := HBX.out ((w.alloc (.cells #[.int .i64 2, .string (tx t), .int .u64 u, .slice A n c, .int .u64 o, .int .u64 m, .string (tx g)] 26)).alloc (.cells #[] 9)) HB3.out
  have p0 := at_cell (i := 0) hbx rfl
  have p1 := at_cell (i := 1) hbx rfl
  have p2 := at_cell (i := 2) hbx rfl
  have p3 := at_cell (i := 3) hbx rfl
  have p4 := at_cell (i := 4) hbx rfl
  have p5 := at_cell (i := 5) hbx rfl
  have p6 := at_cell (i := 6) hbx rfl
  clear hbx
  go_enter Try.func12, Try.ntmps12
  go_wp2_with fail
  refine (hmay.out _ (HRW.out _ HB3.out)).mono ?_
  rintro e w4 ⟨he, hb⟩
  obtain rfl := he.yes HMAY.out
  have HB4 := Lib.hid (HB3.out.trans (hb.mono (HZ.out _ HB3.out)))
  have HO4 := Lib.hid (HO3.out.below hb)
  have HT4 := Lib.hid (HT3.out.below hb)
  clear he hb hmay HMAY HO3 HT3
  clear p0 p1 p2 p3 p4 p5 p6
  have hbx := HBX.out w4 HB4.out
  have p0 := at_cell (i := 0) hbx rfl
  have p1 := at_cell (i := 1) hbx rfl
  have p2 := at_cell (i := 2) hbx rfl
  have p3 := at_cell (i := 3) hbx rfl
  have p4 := at_cell (i := 4) hbx rfl
  have p5 := at_cell (i := 5) hbx rfl
  have p6 := at_cell (i := 6) hbx rfl
  clear hbx
  go_wp2_with fail
  refine (HNM.out _ (HRW.out _ HB4.out)).mono ?_
  rintro e w5 ⟨vn, rfl, hvn, hb⟩
  obtain ⟨ns, hns⟩ : ∃ ns, ns = rnames ⟨2, t, u, o, m, g⟩ l := ⟨_, rfl⟩
  rw [← hns] at hvn htab hfre hnl
  obtain ⟨An, cn, rfl, hAn⟩ := own_slice hvn
  have HB5 := Lib.hid (HB4.out.trans (hb.mono (HZ.out _ HB4.out)))
  obtain ⟨mm, hmm⟩ : ∃ mm, mm = ns.length := ⟨_, rfl⟩
  have HMM := Lib.hid hmm
  have H5 : Hid (DnRel B0 (w.heap.size + 1) (w.alloc (.cells #[.int .i64 2, .string (tx t), .int .u64 u, .slice A n c, .int .u64 o, .int .u64 m, .string (tx g)] 26)) tl ns (.slice An ns.length cn) (.slice L tl.length cT) (.slice (some ⟨w.heap.size + 1, 0, none⟩) 0 0) (.int .i64 0) w5) := by
    refine ⟨0, _, _, rfl, rfl, by omega, rfl, HT4.out.below hb, HO4.out.below hb, hvn.less (by omega), fun gg e1 e2 => ?_, fun gg e1 e2 => ?_, HB5.out⟩
    · have h1 := HTLT.out _ e2
      obtain rfl : w.heap.size + 1 = gg := by simpa [Value.ownBlock] using e1
      omega
    · have h1 := own_block hvn _ e2
      obtain rfl : w.heap.size + 1 = gg := by simpa [Value.ownBlock] using e1
      have h2 := own_lt HO4.out _ e1
      omega
  have HNL := Lib.hid hnl.1
  have hm18 : mm ≤ 18 := by rw [hmm]; exact hnl.2
  rw [← hmm] at H5 ⊢
  clear hvn hb hns hnl hmm HNM HT4 HO4 HB4 HTLT
  clear p0 p1 p2 p3 p4 p5 p6
  go_wp2
  go_loopw [1, 9, 11] (fun v1 v9 v11 wr => DnRel B0 (w.heap.size + 1) (w.alloc (.cells #[.int .i64 2, .string (tx t), .int .u64 u, .slice A n c, .int .u64 o, .int .u64 m, .string (tx g)] 26)) tl ns (.slice An mm cn) v1 v9 v11 wr) (fun _ _ v11 _ => mm - (intOf v11).toNat)
  case atStart => exact H5.out
  case round =>
    obtain ⟨i, a1, a9, rfl, rfl, hi, rfl, ht, ho, hon, hap1, hap2, hbr⟩ := hrel
    clear H5
    rw [← HMM.out] at hi
    obtain ⟨L1, c1, rfl, hL1⟩ := own_slice ht
    obtain ⟨L9, c9, rfl, hL9⟩ := own_slice ho
    have HTr := Lib.hid ht
    have HOr := Lib.hid ho
    have HONr := Lib.hid hon
    have HAP1 := Lib.hid hap1
    have HAP2 := Lib.hid hap2
    have HBr := Lib.hid hbr
    have hf1 := freshL_len (ns.take i) tl
    have hf2 := tfold_len (ns.take i) tl
    rw [List.length_take] at hf1 hf2
    clear hap1 hap2 hbr
    by_cases hlt : i < mm
    · obtain ⟨s, hs⟩ : ∃ s, ns[i]? = some s := ⟨_, List.getElem?_eq_getElem (by rw [← HMM.out]; exact hlt)⟩
      have hon2 : wr.ownsRow 0 9 1 (.slice An mm cn) mm (ns.map tsv) := by have h := hon; unfold Own at h; rwa [← HMM.out] at h
      obtain ⟨adn, rfl, _, hcx⟩ := (Reads.of_own hon2).2 (by omega)
      clear hon2
      have k0 := hcx i (tsv s) (by rw [List.getElem?_map, hs]; rfl)
      have HNC : Hid (∀ W, Own W 0 (.slice (some adn) mm cn) ns → W.cell? (adn.add i) = some (.string (tx s))) := fun W h => by
        have h2 : W.ownsRow 0 9 1 (.slice (some adn) mm cn) mm (ns.map tsv) := by unfold Own at h; rwa [← HMM.out] at h
        obtain ⟨ad2, e2, _, hc2⟩ := (Reads.of_own h2).2 (by omega)
        obtain rfl : adn = ad2 := Option.some.inj e2
        exact hc2 i (tsv s) (by rw [List.getElem?_map, hs]; rfl)
      have hsl := HNL.out s (List.mem_of_getElem? hs)
      have hpl := place_any L1 ((ns.take i).foldl tput tl).length c1 ((ns.take i).foldl tput tl) s (by omega) wr (Reads.of_own ht)
      unfold tsv at k0 hpl
      have hi0 : (0 : Int) ≤ (i : Int) := by omega
      have hi1 : (i : Int) < (mm : Int) := by omega
      have HS := Lib.hid hs
      by_cases hin : s ∈ (ns.take i).foldl tput tl
      · have HNI := Lib.hid (nm_in hs hin ht ho)
        rw [tplace_in hin] at hpl
        have HPL := Lib.hid hpl
        generalize tnum ((ns.take i).foldl tput tl) s = q at HPL
        have hq0 : decide ((q : Int) < 0) = false := decide_eq_false (by omega)
        generalize hT0 : ((ns.take i).foldl tput tl).length = nT at *
        generalize hF0 : (freshL tl (ns.take i)).length = nF at *
        clear hcx ht ho hon hin hpl hs hf1 hf2 hT0 hF0
        go_wp2_with fail
        refine HPL.out.mono ?_
        rintro e w6 ⟨rfl, rfl⟩
        go_wp2
        exact ⟨⟨i + 1, _, _, rfl, rfl, by rw [← HMM.out]; omega, by go_num, HNI.out.1, HNI.out.2, HONr.out, HAP1.out, HAP2.out, HBr.out⟩, by simp [intOf]; omega⟩
      · have HNE := Lib.hid (nm_new hs hin)
        rw [tplace_out hin] at hpl
        have HPL := Lib.hid hpl
        have hadd : ∀ W : World, (Op.stringOp .add { data := #[0] } (tx s)).run Try.prog W = .ok (.string (tx (0 :: s))) W := fun W => add_tx W [0] s (by simp; omega)
        have HPUT := Lib.hid (fun W hb hl => iput_any B0 (.slice L1 ((ns.take i).foldl tput tl).length c1) ((ns.take i).foldl tput tl) s (by omega) W hb hl)
        unfold tsv at HPUT
        obtain ⟨nT, hnT⟩ : ∃ nT, nT = ((ns.take i).foldl tput tl).length := ⟨_, rfl⟩
        obtain ⟨nF, hnF⟩ : ∃ nF, nF = (freshL tl (ns.take i)).length := ⟨_, rfl⟩
        have HNT := Lib.hid hnT
        have HNF := Lib.hid hnF
        have HTr2 : Hid (Own wr B0 (.slice L1 nT c1) ((ns.take i).foldl tput tl)) := by rw [hnT]; exact ht
        have HOr2 : Hid (wr.ownsRow (w.heap.size + 1) 9 1 (.slice L9 nF c9) nF ((freshL tl (ns.take i)).map tsv)) := by rw [hnF]; exact ho
        have HONr2 : Hid (Own wr 0 (.slice (some adn) mm cn) ns) := hon
        have HA1 : Hid (Apart (.slice L9 nF c9) (.slice L1 nT c1)) := by rw [hnF, hnT]; exact HAP1.out
        have HA2 : Hid (Apart (.slice L9 nF c9) (.slice (some adn) mm cn)) := by rw [hnF]; exact HAP2.out
        rw [← hnT] at HPL HPUT
        rw [← hnF] at hf1
        rw [← hnT, ← hnF]
        have hnF2 : nF ≤ 100 := by omega
        clear hcx ht ho hon hin hpl hs hf1 hf2 hnT hnF HTr HOr HONr HAP1 HAP2
        go_wp2_with fail
        refine HPL.out.mono ?_
        rintro e w6 ⟨rfl, rfl⟩
        have HO2 := Lib.hid (World.ownsRow.alloc HOr2.out (.cells #[.string (tx (0 :: s))] 9))
        have HR2 := Lib.hid (reads_one_row wr 9 (.string (tx (0 :: s))))
        have HB2 := Lib.hid (HBr.out.alloc (HZ.out _ HBr.out) (.cells #[.string (tx (0 :: s))] 9))
        go_wp2_with (at_builtin; refine wpList_append_told _ rfl (.tmp 48) (.tmp 54) 22 rfl (w.heap.size + 1) 9 i0 _ 1 16 Try.underlying22 ii0 iz0 iz1 iz2 rfl (by decide) _ nF _ rfl HO2.out (some ⟨wr.heap.size, 0, none⟩) 1 1 (wr.heap.size + 1) [.string (tx (0 :: s))] rfl (by simp) HR2.out (fun u hu => by obtain rfl := List.mem_singleton.1 hu; rfl) (by unfold maxLen; omega) (by omega) (HZ.out _ HB2.out) ?_; intro v7 w7 ho7 hg7 hv7; have hv7b : v7.ownBlock = (Value.slice L9 nF c9).ownBlock ∨ v7.ownBlock = some (wr.alloc (.cells #[.string (tx (0 :: s))] 9)).heap.size := hv7; have hg7b : (wr.alloc (.cells #[.string (tx (0 :: s))] 9)).grownBy w7 (Value.slice L9 nF c9).ownBlock := hg7; have HO7 := Lib.hid ho7; have HB7 := Lib.hid (HB2.out.grown hg7b (HZ.out _ HB2.out) (own_block HO2.out)); have HT7 := Lib.hid (own_kept (World.ownsRow.alloc HTr2.out (.cells #[.string (tx (0 :: s))] 9)) HA1.out hg7b); have HN7 := Lib.hid (own_kept (World.ownsRow.alloc HONr2.out (.cells #[.string (tx (0 :: s))] 9)) HA2.out hg7b); have HA71 := Lib.hid (apart_told HA1.out (World.ownsRow.alloc HTr2.out (.cells #[.string (tx (0 :: s))] 9)) hv7b); have HA72 := Lib.hid (apart_told HA2.out (World.ownsRow.alloc HONr2.out (.cells #[.string (tx (0 :: s))] 9)) hv7b); have k7 := HNC.out _ HN7.out; clear ho7 hg7 hv7 hv7b hg7b)
        refine (HPUT.out w7 (by have := HZ.out _ HB7.out; omega) HT7.out).mono ?_
        rintro e w8 ⟨v8, rfl, ho8, hv8, hb8⟩
        obtain ⟨L8, c8, rfl, _⟩ := own_slice ho8
        have HB8 := Lib.hid (HB7.out.trans (hb8.mono (HZ.out _ HB7.out)))
        have HA81 : Hid (Apart v7 (.slice L8 (tput ((ns.take i).foldl tput tl) s).length c8)) := by
          rcases hv8 with h | h
          · rw [h]; exact HA71.out
          · exact apart_up HO7.out h
        have HO8 := Lib.hid ho8
        have HO78 := Lib.hid (own_below HO7.out hb8)
        have HN8 := Lib.hid (own_below HN7.out hb8)
        clear ho8 hv8 hb8
        go_wp2
        exact ⟨⟨i + 1, _, _, rfl, rfl, by rw [← HMM.out]; omega, by go_num, by rw [HNE.out.1]; exact HO8.out, by rw [HNE.out.2]; unfold Own; rw [List.length_append, List.map_append, ← HNF.out]; exact HO78.out, HN8.out, HA81.out, HA72.out, HB8.out⟩, by simp [intOf]; omega⟩
    · obtain rfl : i = mm := by omega
      have htk : ns.take i = ns := List.take_of_length_le (by rw [← HMM.out]; omega)
      rw [htk] at ht ho HAP1 HTr HOr
      rw [htk]
      rw [← htab.out] at ht HAP1 HTr ⊢
      obtain ⟨nT, hnT⟩ : ∃ nT, nT = T.length := ⟨_, rfl⟩
      obtain ⟨nO, hnO⟩ : ∃ nO, nO = (freshL tl ns).length := ⟨_, rfl⟩
      have HNT := Lib.hid hnT
      have HNO := Lib.hid hnO
      have HTT : Hid (wr.ownsRow B0 9 1 (.slice L1 nT c1) nT (T.map tsv)) := by rw [hnT]; exact ht
      have HOO : Hid (wr.ownsRow (w.heap.size + 1) 9 1 (.slice L9 nO c9) nO ((freshL tl ns).map tsv)) := by rw [hnO]; exact ho
      have HAP : Hid (Apart (.slice L9 nO c9) (.slice L1 nT c1)) := by rw [hnO, hnT]; exact HAP1.out
      have hnT2 : nT ≤ 200000 := by rw [hnT]; exact hT2
      have hnO2 : nO ≤ 100 := by rw [hnO]; have := freshL_len ns tl; rw [← HMM.out] at this; omega
      rw [← hnT, ← hnO]
      obtain ⟨LT, rfl⟩ : ∃ LT, LT = L1 := ⟨_, rfl⟩
      obtain ⟨LO, rfl⟩ : ∃ LO, LO = L9 := ⟨_, rfl⟩
      obtain ⟨cX, rfl⟩ : ∃ cX, cX = c1 := ⟨_, rfl⟩
      obtain ⟨cO, rfl⟩ : ∃ cO, cO = c9 := ⟨_, rfl⟩
      clear ht ho hon HTr HOr HONr HAP1 HAP2 hf1 hf2 htk hnT hnO
      have hbx := HBX.out wr HBr.out
      have p0 := at_cell (i := 0) hbx rfl
      have p1 := at_cell (i := 1) hbx rfl
      have p2 := at_cell (i := 2) hbx rfl
      have p3 := at_cell (i := 3) hbx rfl
      have p4 := at_cell (i := 4) hbx rfl
      have p5 := at_cell (i := 5) hbx rfl
      have p6 := at_cell (i := 6) hbx rfl
      clear hbx
      obtain ⟨s1, hs1⟩ : ∃ s1, s1 = bk ++ nm := ⟨_, rfl⟩
      have ls1 : s1.length ≤ 100 := by rw [hs1, List.length_append]; omega
      have as1 := fun W : World => add_tx (P := Try.prog) W bk nm (by omega)
      rw [← hs1] at as1
      have Hs1 := Lib.hid hs1
      clear hs1
      have HBC := HBr
      go_wp2_with fail
      refine wp_region_held (S := fun W => Below wr.heap.size wr W) (by kernel_rfl) ?_
      have hS : Below wr.heap.size wr wr.drew := (Below.refl _ _).drew
      refine h_take 0 (.pointer (some ⟨w.heap.size, 0, none⟩)) rfl (by kernel_rfl) (by kernel_rfl) (by kernel_rfl) (fun _ _ _ h => h) (by kernel_rfl) hS (fun _ _ => by kernel_rfl) ?_
      refine h_take 1 (.int .i64 2) rfl (by kernel_rfl) (by kernel_rfl) (by kernel_rfl) (fun _ _ _ h => h) (by kernel_rfl) hS (by intro v hv; have q := (hv.cell (p := ⟨w.heap.size, 0, none⟩) (by have := HZ.out _ HBC.out; show w.heap.size < _; omega)).trans p0; go_simp) ?_
      refine h_take 2 (.int .u64 2) rfl (by kernel_rfl) (by kernel_rfl) (by kernel_rfl) (fun _ _ _ h => h) (by kernel_rfl) hS (fun _ _ => by kernel_rfl) ?_
      refine h_take 4 (.int .i64 3) rfl (by kernel_rfl) (by kernel_rfl) (by kernel_rfl) (fun _ _ _ h => h) (by kernel_rfl) hS (fun _ _ => by kernel_rfl) ?_
      refine h_take 5 (.slice LT nT cX) rfl (by kernel_rfl) (by kernel_rfl) (by kernel_rfl) (fun _ _ _ h => h) (by kernel_rfl) hS (fun _ _ => by kernel_rfl) ?_
      refine h_take 6 (.pointer (some ⟨w.heap.size, 1, none⟩)) rfl (by kernel_rfl) (by kernel_rfl) (by kernel_rfl) (fun _ _ _ h => h) (by kernel_rfl) hS (fun _ _ => by kernel_rfl) ?_
      refine h_take 7 (.string (tx t)) rfl (by kernel_rfl) (by kernel_rfl) (by kernel_rfl) (fun _ _ _ h => h) (by kernel_rfl) hS (by intro v hv; have q := (hv.cell (p := ⟨w.heap.size, 1, none⟩) (by have := HZ.out _ HBC.out; show w.heap.size < _; omega)).trans p1; go_simp) ?_
      refine h_one 3 rfl (by kernel_rfl) (by kernel_rfl) (fun K hK => ?_)
      go_simp
      refine (HK.out _).mono ?_
      rintro e w10 ⟨rfl, hb⟩
      have hS2 : Below wr.heap.size wr w10 := hS.trans (hb.mono hS.size)
      refine hK _ _ hS2 ?_
      clear hK K hb
      refine h_one 8 rfl (by kernel_rfl) (by kernel_rfl) (fun K hK => ?_)
      go_simp
      refine (doctext_any 3 (by omega) LT nT cX T t (by omega) HINT.out (by omega) w10 (((Reads.of_own HTT.out).below hS2).more hS2.size)).mono ?_
      rintro e w11 ⟨rfl, hb⟩
      rw [← HNME.out]
      have hS3 : Below wr.heap.size wr w11 := hS2.trans (hb.mono hS2.size)
      refine hK _ _ hS3 ?_
      clear hK K hb
      refine h_take 9 (.string (tx s1)) rfl (by kernel_rfl) (by kernel_rfl) (by kernel_rfl) (fun _ _ _ h => h) (by kernel_rfl) hS3 (by intro v hv; go_simp) ?_
      refine h_take 10 (.string (tx s1)) rfl (by kernel_rfl) (by kernel_rfl) (by kernel_rfl) (fun _ _ _ h => h) (by kernel_rfl) hS3 (fun _ _ => by kernel_rfl) ?_
      refine wpAnyH_done (by kernel_rfl) ?_ _
      go_simp
      clear hS hS2 HBC
      have HB21 := Lib.hid (HBr.out.trans (hS3.mono (HZ.out _ HBr.out)))
      have HTT21 := Lib.hid (own_below HTT.out hS3)
      have HOO21 := Lib.hid (own_below HOO.out hS3)
      clear hS3
      clear p0 p1 p2 p3 p4 p5 p6
      have hbx := HBX.out w11 HB21.out
      have p0 := at_cell (i := 0) hbx rfl
      have p1 := at_cell (i := 1) hbx rfl
      have p2 := at_cell (i := 2) hbx rfl
      have p3 := at_cell (i := 3) hbx rfl
      have p4 := at_cell (i := 4) hbx rfl
      have p5 := at_cell (i := 5) hbx rfl
      have p6 := at_cell (i := 6) hbx rfl
      clear hbx
      obtain ⟨nO1, hO1⟩ : ∃ nO1, nO1 = nO + 1 := ⟨_, rfl⟩
      clear hO1
      have HO2 := Lib.hid (World.ownsRow.alloc HOO21.out (.cells #[.string (tx s1)] 9))
      have HT2 := Lib.hid (World.ownsRow.alloc HTT21.out (.cells #[.string (tx s1)] 9))
      have HR2 := Lib.hid (reads_one_row w11 9 (.string (tx s1)))
      have HB2 := Lib.hid (HB21.out.alloc (HZ.out _ HB21.out) (.cells #[.string (tx s1)] 9))
      go_wp2_with (at_builtin; refine wpList_append_told _ rfl (.tmp 164) (.tmp 166) 22 rfl (w.heap.size + 1) 9 i0 _ 1 16 Try.underlying22 ii0 iz0 iz1 iz2 rfl (by decide) _ nO _ rfl HO2.out (some ⟨w11.heap.size, 0, none⟩) 1 1 (w11.heap.size + 1) [.string (tx s1)] rfl (by simp) HR2.out (fun u hu => by obtain rfl := List.mem_singleton.1 hu; rfl) (by unfold maxLen; omega) (by omega) (HZ.out _ HB2.out) ?_; intro v7 w7 ho7 hg7 hv7; have hg7b : (w11.alloc (.cells #[.string (tx s1)] 9)).grownBy w7 (Value.slice LO nO cO).ownBlock := hg7; have HO7 := Lib.hid ho7; have HB7 := Lib.hid (HB2.out.grown hg7b (HZ.out _ HB2.out) (own_block HO2.out)); have HT7 := Lib.hid (own_kept HT2.out HAP.out hg7b); clear ho7 hg7 hv7 hg7b)
      go_ret3
      refine ⟨_, _, rfl, ?_, ?_, HW0.out.trans (HB7.out.mono (by omega))⟩
      · rw [hpl.out, hfre.out, hfin.out, ← Hs1.out]
        unfold Own
        rw [List.length_append, List.map_append, ← HNO.out]
        exact own_less HO7.out (by omega)
      · unfold Own
        rw [← HNT.out]
        exact HT7.out

set_option maxRecDepth 100000 in
set_option maxHeartbeats 4000000 in
theorem rp31e (tl : List (List UInt8)) (t : List UInt8) (u o m : Int) (A : Option Addr) (n c : Nat) (l : List Dp) (hm : MayP 3 ⟨1, t, u, o, m, []⟩ l) (hnu : Nums ⟨1, t, u, o, m, []⟩ l) (hfit : Fits ⟨1, t, u, o, m, []⟩ l) (tv : Value) (htl : tl.length ≤ 100000) (w : World) (B0 : Nat) (hB0 : B0 ≤ w.heap.size) (hT : Own w B0 tv tl) (hr : Reads w w.heap.size 3 A n (dps l)) :
    Calls Try.prog 12 #[.int .i64 3, tv, .agg #[.int .i64 1, .string (tx t), .int .u64 u, .slice A n c, .int .u64 o, .int .u64 m, .string (tx [])]] w fun e w' => ∃ v1 v2, e = .returned (.tuple #[v1, v2, .int .i64 0]) ∧ Own w' w.heap.size v1 (payL 3 tl ⟨1, t, u, o, m, []⟩ l) ∧ Own w' B0 v2 (tabT 3 tl ⟨1, t, u, o, m, []⟩ l) ∧ Below w.heap.size w w' := by
  obtain ⟨i0, ii0, iz0, iz1, iz2⟩ := info_parts (show (Try.prog.info? 9).map (fun i => (i.zero, i.size, i.bytes)) = some (some (.string { data := #[] }), 1, 16) from by kernel_rfl)
  obtain ⟨n1, n2, n3, n4⟩ := may_names hm
  have hln : l.length = n := by have := hr.1; rw [dps_len] at this; omega
  have hn16 : n ≤ 16 := by omega
  have hTL := tabT_len (tl := tl) hm
  have hin := tabT_mem 3 tl ⟨1, t, u, o, m, []⟩ l
  obtain ⟨T, hTe⟩ : ∃ T, T = tabT 3 tl ⟨1, t, u, o, m, []⟩ l := ⟨_, rfl⟩
  rw [← hTe] at hin hTL
  have hT2 : T.length ≤ 200000 := by omega
  have hnm : (nmB 3 T t).length ≤ 74 := nmB_len n1 (by omega)
  have hinT : (3 : Int) < 2 ∨ t ∈ T := hin.imp id fun h => h _ (tnew_mem (by simp))
  have hinD : ∀ d ∈ l, (3 : Int) < 2 ∨ d.name ∈ T := fun d hd => hin.imp id fun h => h _ (tnew_mem (by
    refine List.mem_append.2 (.inl (List.mem_cons.2 (.inr ?_)))
    exact List.mem_map.2 ⟨d, hd, rfl⟩))
  obtain ⟨nm, hnme⟩ : ∃ nm, nm = nmB 3 T t := ⟨_, rfl⟩
  rw [← hnme] at hnm
  obtain ⟨bk, hbk⟩ : ∃ bk, bk = vb 1 := ⟨_, rfl⟩
  have lbk : bk.length ≤ 10 := by rw [hbk]; exact vb_len _ (by unfold top; omega)
  have HK := Lib.hid (fun W => refput_any 1 (by unfold top; omega) W)
  rw [← hbk] at HK
  have hFL := fun k => fDeps_take (ver := 3) (tl := T) (l := l) (m := k) n4 hnu.2.2.2 (by omega)
  obtain ⟨bu, hbu⟩ : ∃ bu, bu = vb u.toNat := ⟨_, rfl⟩
  have lbu : bu.length ≤ 10 := by rw [hbu]; exact vb_len _ (num_nat hnu.1).2
  have HU := Lib.hid (fun W => refput_any u.toNat (num_nat hnu.1).2 W)
  rw [← hbu, ← (num_nat hnu.1).1] at HU
  obtain ⟨bn, hbn⟩ : ∃ bn, bn = vb n := ⟨_, rfl⟩
  have lbn : bn.length ≤ 10 := by rw [hbn]; exact vb_len _ (by unfold top; omega)
  have HN := Lib.hid (fun W => refput_any n (by unfold top; omega) W)
  rw [← hbn] at HN
  obtain ⟨bo, hbo⟩ : ∃ bo, bo = vb o.toNat := ⟨_, rfl⟩
  have lbo : bo.length ≤ 10 := by rw [hbo]; exact vb_len _ (num_nat hnu.2.1).2
  have HO := Lib.hid (fun W => refput_any o.toNat (num_nat hnu.2.1).2 W)
  rw [← hbo, ← (num_nat hnu.2.1).1] at HO
  obtain ⟨bm, hbm⟩ : ∃ bm, bm = vb m.toNat := ⟨_, rfl⟩
  have lbm : bm.length ≤ 10 := by rw [hbm]; exact vb_len _ (num_nat hnu.2.2.1).2
  have HM := Lib.hid (fun W => refput_any m.toNat (num_nat hnu.2.2.1).2 W)
  rw [← hbm, ← (num_nat hnu.2.2.1).1] at HM
  obtain ⟨bg, hbg⟩ : ∃ bg, bg = vb 0 := ⟨_, rfl⟩
  have lbg : bg.length ≤ 10 := by rw [hbg]; exact vb_len _ (by unfold top; omega)
  have HGG := Lib.hid (fun W => refput_any 0 (by unfold top; omega) W)
  rw [← hbg] at HGG
  have hfin : Hid (payB 3 T ⟨1, t, u, o, m, []⟩ l = ((((((bk ++ nm) ++ bu) ++ bn) ++ l.flatMap (fDep 3 T)) ++ bo) ++ bm) ++ bg) := by
    show _ = _
    rw [hbk, hnme, hbu, hbn, hbo, hbm, hbg]
    unfold payB fDeps fTag
    rw [vb_lt (show 1 < 128 by omega), hln]
    simp
  have hpl : Hid (payL 3 tl ⟨1, t, u, o, m, []⟩ l = freT 3 tl ⟨1, t, u, o, m, []⟩ l ++ [payB 3 T ⟨1, t, u, o, m, []⟩ l]) := by show _ = _; unfold payL; rw [← hTe]
  have hfre : Hid (freT 3 tl ⟨1, t, u, o, m, []⟩ l = freshL tl (rnames ⟨1, t, u, o, m, []⟩ l)) := by show _ = _; unfold freT; rw [if_neg (by omega)]
  have htab : Hid (T = (rnames ⟨1, t, u, o, m, []⟩ l).foldl tput tl) := by show _ = _; rw [hTe]; unfold tabT; rw [if_neg (by omega)]
  rw [← hTe]
  have hmay := Lib.hid (fun W hw => rmay_any 3 ⟨1, t, u, o, m, []⟩ A n c l (by omega) hfit W hw)
  have HMAY := Lib.hid hm
  have HR := Lib.hid hr
  obtain ⟨L, cT, rfl, hLc⟩ := own_slice hT
  have HT := Lib.hid hT
  have HNM := Lib.hid (fun W hw => rnames_any ⟨1, t, u, o, m, []⟩ A n c l (by omega) W hw)
  have hnl := rnames_le hm
  obtain ⟨X0, hX0⟩ : ∃ X0, X0 = w.alloc (.cells #[.int .i64 1, .string (tx t), .int .u64 u, .slice A n c, .int .u64 o, .int .u64 m, .string (tx [])] 26) := ⟨_, rfl⟩
  have hz0 : Hid (X0.heap.size = w.heap.size + 1) := by show _ = _; rw [hX0]; simp
  have hbx0 := one_new w (.cells #[.int .i64 1, .string (tx t), .int .u64 u, .slice A n c, .int .u64 o, .int .u64 m, .string (tx [])] 26)
  rw [← hX0] at hbx0
  have HBX : Hid (∀ W, Below (w.heap.size + 1) X0 W → W.heap[w.heap.size]? = some (.cells #[.int .i64 1, .string (tx t), .int .u64 u, .slice A n c, .int .u64 o, .int .u64 m, .string (tx [])] 26 (0, 0))) := fun W h => (h.block _ (by omega)).trans hbx0
  have HW0 : Hid (Below w.heap.size w X0) := by rw [hX0]; exact (Below.refl w.heap.size w).alloc (Nat.le_refl _) _
  have HB3 : Hid (Below (w.heap.size + 1) X0 (X0.alloc (.cells #[] 9))) := (Below.refl _ _).alloc (by rw [hz0.out]; exact Nat.le_refl _) _
  have HZ : Hid (∀ W, Below (w.heap.size + 1) X0 W → w.heap.size + 1 ≤ W.heap.size) := fun W h => by have h1 := h.size; rw [hz0.out] at h1; exact h1
  have HRW : Hid (∀ W, Below (w.heap.size + 1) X0 W → Reads W W.heap.size 3 A n (dps l)) := fun W h => (HR.out.below (HW0.out.trans (h.mono (by omega)))).more (by have h1 := h.size; rw [hz0.out] at h1; omega)
  have HO3 : Hid (Own (X0.alloc (.cells #[] 9)) (w.heap.size + 1) (.slice (some ⟨w.heap.size + 1, 0, none⟩) 0 0) []) := by
    have h1 := own_empty X0 9
    rw [hz0.out] at h1
    exact h1
  have HT3 : Hid (Own (X0.alloc (.cells #[] 9)) B0 (.slice L tl.length cT) tl) := HT.out.below (HW0.out.trans (HB3.out.mono (by omega)))
  rw [hX0] at HBX HW0 HB3 HZ HRW HO3 HT3
  unfold rcv rsv at hmay HNM
  clear hm hr hfit hTe hbx0 hz0 HR hX0 hbk hin hLc
  have hln2 : Hid (l.length = n) := hln
  clear hln
  have HNME := Lib.hid hnme
  clear hnme
  have HNU := Lib.hid hnu
  have HN4 := Lib.hid n4
  have HIND := Lib.hid hinD
  clear hnu n4 hinD
  have HFL := Lib.hid hFL
  clear hFL hbu hbn hbo hbm hbg
  have HTLT : Hid (∀ gg, (Value.slice L tl.length cT).ownBlock = some gg → gg < w.heap.size) := own_lt HT.out
  clear hT
  have HINT := Lib.hid hinT
  clear hinT
  have hbx := HBX.out ((w.alloc (.cells #[.int .i64 1, .string (tx t), .int .u64 u, .slice A n c, .int .u64 o, .int .u64 m, .string (tx [])] 26)).alloc (.cells #[] 9)) HB3.out
  have p0 := at_cell (i := 0) hbx rfl
  have p1 := at_cell (i := 1) hbx rfl
  have p2 := at_cell (i := 2) hbx rfl
  have p3 := at_cell (i := 3) hbx rfl
  have p4 := at_cell (i := 4) hbx rfl
  have p5 := at_cell (i := 5) hbx rfl
  have p6 := at_cell (i := 6) hbx rfl
  clear hbx
  go_enter Try.func12, Try.ntmps12
  go_wp2_with fail
  refine (hmay.out _ (HRW.out _ HB3.out)).mono ?_
  rintro e w4 ⟨he, hb⟩
  obtain rfl := he.yes HMAY.out
  have HB4 := Lib.hid (HB3.out.trans (hb.mono (HZ.out _ HB3.out)))
  have HO4 := Lib.hid (HO3.out.below hb)
  have HT4 := Lib.hid (HT3.out.below hb)
  clear he hb hmay HMAY HO3 HT3
  clear p0 p1 p2 p3 p4 p5 p6
  have hbx := HBX.out w4 HB4.out
  have p0 := at_cell (i := 0) hbx rfl
  have p1 := at_cell (i := 1) hbx rfl
  have p2 := at_cell (i := 2) hbx rfl
  have p3 := at_cell (i := 3) hbx rfl
  have p4 := at_cell (i := 4) hbx rfl
  have p5 := at_cell (i := 5) hbx rfl
  have p6 := at_cell (i := 6) hbx rfl
  clear hbx
  go_wp2_with fail
  refine (HNM.out _ (HRW.out _ HB4.out)).mono ?_
  rintro e w5 ⟨vn, rfl, hvn, hb⟩
  obtain ⟨ns, hns⟩ : ∃ ns, ns = rnames ⟨1, t, u, o, m, []⟩ l := ⟨_, rfl⟩
  rw [← hns] at hvn htab hfre hnl
  obtain ⟨An, cn, rfl, hAn⟩ := own_slice hvn
  have HB5 := Lib.hid (HB4.out.trans (hb.mono (HZ.out _ HB4.out)))
  obtain ⟨mm, hmm⟩ : ∃ mm, mm = ns.length := ⟨_, rfl⟩
  have HMM := Lib.hid hmm
  have H5 : Hid (DnRel B0 (w.heap.size + 1) (w.alloc (.cells #[.int .i64 1, .string (tx t), .int .u64 u, .slice A n c, .int .u64 o, .int .u64 m, .string (tx [])] 26)) tl ns (.slice An ns.length cn) (.slice L tl.length cT) (.slice (some ⟨w.heap.size + 1, 0, none⟩) 0 0) (.int .i64 0) w5) := by
    refine ⟨0, _, _, rfl, rfl, by omega, rfl, HT4.out.below hb, HO4.out.below hb, hvn.less (by omega), fun gg e1 e2 => ?_, fun gg e1 e2 => ?_, HB5.out⟩
    · have h1 := HTLT.out _ e2
      obtain rfl : w.heap.size + 1 = gg := by simpa [Value.ownBlock] using e1
      omega
    · have h1 := own_block hvn _ e2
      obtain rfl : w.heap.size + 1 = gg := by simpa [Value.ownBlock] using e1
      have h2 := own_lt HO4.out _ e1
      omega
  have HNL := Lib.hid hnl.1
  have hm18 : mm ≤ 18 := by rw [hmm]; exact hnl.2
  rw [← hmm] at H5 ⊢
  clear hvn hb hns hnl hmm HNM HT4 HO4 HB4 HTLT
  clear p0 p1 p2 p3 p4 p5 p6
  go_wp2
  go_loopw [1, 9, 11] (fun v1 v9 v11 wr => DnRel B0 (w.heap.size + 1) (w.alloc (.cells #[.int .i64 1, .string (tx t), .int .u64 u, .slice A n c, .int .u64 o, .int .u64 m, .string (tx [])] 26)) tl ns (.slice An mm cn) v1 v9 v11 wr) (fun _ _ v11 _ => mm - (intOf v11).toNat)
  case atStart => exact H5.out
  case round =>
    obtain ⟨i, a1, a9, rfl, rfl, hi, rfl, ht, ho, hon, hap1, hap2, hbr⟩ := hrel
    clear H5
    rw [← HMM.out] at hi
    obtain ⟨L1, c1, rfl, hL1⟩ := own_slice ht
    obtain ⟨L9, c9, rfl, hL9⟩ := own_slice ho
    have HTr := Lib.hid ht
    have HOr := Lib.hid ho
    have HONr := Lib.hid hon
    have HAP1 := Lib.hid hap1
    have HAP2 := Lib.hid hap2
    have HBr := Lib.hid hbr
    have hf1 := freshL_len (ns.take i) tl
    have hf2 := tfold_len (ns.take i) tl
    rw [List.length_take] at hf1 hf2
    clear hap1 hap2 hbr
    by_cases hlt : i < mm
    · obtain ⟨s, hs⟩ : ∃ s, ns[i]? = some s := ⟨_, List.getElem?_eq_getElem (by rw [← HMM.out]; exact hlt)⟩
      have hon2 : wr.ownsRow 0 9 1 (.slice An mm cn) mm (ns.map tsv) := by have h := hon; unfold Own at h; rwa [← HMM.out] at h
      obtain ⟨adn, rfl, _, hcx⟩ := (Reads.of_own hon2).2 (by omega)
      clear hon2
      have k0 := hcx i (tsv s) (by rw [List.getElem?_map, hs]; rfl)
      have HNC : Hid (∀ W, Own W 0 (.slice (some adn) mm cn) ns → W.cell? (adn.add i) = some (.string (tx s))) := fun W h => by
        have h2 : W.ownsRow 0 9 1 (.slice (some adn) mm cn) mm (ns.map tsv) := by unfold Own at h; rwa [← HMM.out] at h
        obtain ⟨ad2, e2, _, hc2⟩ := (Reads.of_own h2).2 (by omega)
        obtain rfl : adn = ad2 := Option.some.inj e2
        exact hc2 i (tsv s) (by rw [List.getElem?_map, hs]; rfl)
      have hsl := HNL.out s (List.mem_of_getElem? hs)
      have hpl := place_any L1 ((ns.take i).foldl tput tl).length c1 ((ns.take i).foldl tput tl) s (by omega) wr (Reads.of_own ht)
      unfold tsv at k0 hpl
      have hi0 : (0 : Int) ≤ (i : Int) := by omega
      have hi1 : (i : Int) < (mm : Int) := by omega
      have HS := Lib.hid hs
      by_cases hin : s ∈ (ns.take i).foldl tput tl
      · have HNI := Lib.hid (nm_in hs hin ht ho)
        rw [tplace_in hin] at hpl
        have HPL := Lib.hid hpl
        generalize tnum ((ns.take i).foldl tput tl) s = q at HPL
        have hq0 : decide ((q : Int) < 0) = false := decide_eq_false (by omega)
        generalize hT0 : ((ns.take i).foldl tput tl).length = nT at *
        generalize hF0 : (freshL tl (ns.take i)).length = nF at *
        clear hcx ht ho hon hin hpl hs hf1 hf2 hT0 hF0
        go_wp2_with fail
        refine HPL.out.mono ?_
        rintro e w6 ⟨rfl, rfl⟩
        go_wp2
        exact ⟨⟨i + 1, _, _, rfl, rfl, by rw [← HMM.out]; omega, by go_num, HNI.out.1, HNI.out.2, HONr.out, HAP1.out, HAP2.out, HBr.out⟩, by simp [intOf]; omega⟩
      · have HNE := Lib.hid (nm_new hs hin)
        rw [tplace_out hin] at hpl
        have HPL := Lib.hid hpl
        have hadd : ∀ W : World, (Op.stringOp .add { data := #[0] } (tx s)).run Try.prog W = .ok (.string (tx (0 :: s))) W := fun W => add_tx W [0] s (by simp; omega)
        have HPUT := Lib.hid (fun W hb hl => iput_any B0 (.slice L1 ((ns.take i).foldl tput tl).length c1) ((ns.take i).foldl tput tl) s (by omega) W hb hl)
        unfold tsv at HPUT
        obtain ⟨nT, hnT⟩ : ∃ nT, nT = ((ns.take i).foldl tput tl).length := ⟨_, rfl⟩
        obtain ⟨nF, hnF⟩ : ∃ nF, nF = (freshL tl (ns.take i)).length := ⟨_, rfl⟩
        have HNT := Lib.hid hnT
        have HNF := Lib.hid hnF
        have HTr2 : Hid (Own wr B0 (.slice L1 nT c1) ((ns.take i).foldl tput tl)) := by rw [hnT]; exact ht
        have HOr2 : Hid (wr.ownsRow (w.heap.size + 1) 9 1 (.slice L9 nF c9) nF ((freshL tl (ns.take i)).map tsv)) := by rw [hnF]; exact ho
        have HONr2 : Hid (Own wr 0 (.slice (some adn) mm cn) ns) := hon
        have HA1 : Hid (Apart (.slice L9 nF c9) (.slice L1 nT c1)) := by rw [hnF, hnT]; exact HAP1.out
        have HA2 : Hid (Apart (.slice L9 nF c9) (.slice (some adn) mm cn)) := by rw [hnF]; exact HAP2.out
        rw [← hnT] at HPL HPUT
        rw [← hnF] at hf1
        rw [← hnT, ← hnF]
        have hnF2 : nF ≤ 100 := by omega
        clear hcx ht ho hon hin hpl hs hf1 hf2 hnT hnF HTr HOr HONr HAP1 HAP2
        go_wp2_with fail
        refine HPL.out.mono ?_
        rintro e w6 ⟨rfl, rfl⟩
        have HO2 := Lib.hid (World.ownsRow.alloc HOr2.out (.cells #[.string (tx (0 :: s))] 9))
        have HR2 := Lib.hid (reads_one_row wr 9 (.string (tx (0 :: s))))
        have HB2 := Lib.hid (HBr.out.alloc (HZ.out _ HBr.out) (.cells #[.string (tx (0 :: s))] 9))
        go_wp2_with (at_builtin; refine wpList_append_told _ rfl (.tmp 48) (.tmp 54) 22 rfl (w.heap.size + 1) 9 i0 _ 1 16 Try.underlying22 ii0 iz0 iz1 iz2 rfl (by decide) _ nF _ rfl HO2.out (some ⟨wr.heap.size, 0, none⟩) 1 1 (wr.heap.size + 1) [.string (tx (0 :: s))] rfl (by simp) HR2.out (fun u hu => by obtain rfl := List.mem_singleton.1 hu; rfl) (by unfold maxLen; omega) (by omega) (HZ.out _ HB2.out) ?_; intro v7 w7 ho7 hg7 hv7; have hv7b : v7.ownBlock = (Value.slice L9 nF c9).ownBlock ∨ v7.ownBlock = some (wr.alloc (.cells #[.string (tx (0 :: s))] 9)).heap.size := hv7; have hg7b : (wr.alloc (.cells #[.string (tx (0 :: s))] 9)).grownBy w7 (Value.slice L9 nF c9).ownBlock := hg7; have HO7 := Lib.hid ho7; have HB7 := Lib.hid (HB2.out.grown hg7b (HZ.out _ HB2.out) (own_block HO2.out)); have HT7 := Lib.hid (own_kept (World.ownsRow.alloc HTr2.out (.cells #[.string (tx (0 :: s))] 9)) HA1.out hg7b); have HN7 := Lib.hid (own_kept (World.ownsRow.alloc HONr2.out (.cells #[.string (tx (0 :: s))] 9)) HA2.out hg7b); have HA71 := Lib.hid (apart_told HA1.out (World.ownsRow.alloc HTr2.out (.cells #[.string (tx (0 :: s))] 9)) hv7b); have HA72 := Lib.hid (apart_told HA2.out (World.ownsRow.alloc HONr2.out (.cells #[.string (tx (0 :: s))] 9)) hv7b); have k7 := HNC.out _ HN7.out; clear ho7 hg7 hv7 hv7b hg7b)
        refine (HPUT.out w7 (by have := HZ.out _ HB7.out; omega) HT7.out).mono ?_
        rintro e w8 ⟨v8, rfl, ho8, hv8, hb8⟩
        obtain ⟨L8, c8, rfl, _⟩ := own_slice ho8
        have HB8 := Lib.hid (HB7.out.trans (hb8.mono (HZ.out _ HB7.out)))
        have HA81 : Hid (Apart v7 (.slice L8 (tput ((ns.take i).foldl tput tl) s).length c8)) := by
          rcases hv8 with h | h
          · rw [h]; exact HA71.out
          · exact apart_up HO7.out h
        have HO8 := Lib.hid ho8
        have HO78 := Lib.hid (own_below HO7.out hb8)
        have HN8 := Lib.hid (own_below HN7.out hb8)
        clear ho8 hv8 hb8
        go_wp2
        exact ⟨⟨i + 1, _, _, rfl, rfl, by rw [← HMM.out]; omega, by go_num, by rw [HNE.out.1]; exact HO8.out, by rw [HNE.out.2]; unfold Own; rw [List.length_append, List.map_append, ← HNF.out]; exact HO78.out, HN8.out, HA81.out, HA72.out, HB8.out⟩, by simp [intOf]; omega⟩
    · obtain rfl : i = mm := by omega
      have htk : ns.take i = ns := List.take_of_length_le (by rw [← HMM.out]; omega)
      rw [htk] at ht ho HAP1 HTr HOr
      rw [htk]
      rw [← htab.out] at ht HAP1 HTr ⊢
      obtain ⟨nT, hnT⟩ : ∃ nT, nT = T.length := ⟨_, rfl⟩
      obtain ⟨nO, hnO⟩ : ∃ nO, nO = (freshL tl ns).length := ⟨_, rfl⟩
      have HNT := Lib.hid hnT
      have HNO := Lib.hid hnO
      have HTT : Hid (wr.ownsRow B0 9 1 (.slice L1 nT c1) nT (T.map tsv)) := by rw [hnT]; exact ht
      have HOO : Hid (wr.ownsRow (w.heap.size + 1) 9 1 (.slice L9 nO c9) nO ((freshL tl ns).map tsv)) := by rw [hnO]; exact ho
      have HAP : Hid (Apart (.slice L9 nO c9) (.slice L1 nT c1)) := by rw [hnO, hnT]; exact HAP1.out
      have hnT2 : nT ≤ 200000 := by rw [hnT]; exact hT2
      have hnO2 : nO ≤ 100 := by rw [hnO]; have := freshL_len ns tl; rw [← HMM.out] at this; omega
      rw [← hnT, ← hnO]
      obtain ⟨LT, rfl⟩ : ∃ LT, LT = L1 := ⟨_, rfl⟩
      obtain ⟨LO, rfl⟩ : ∃ LO, LO = L9 := ⟨_, rfl⟩
      obtain ⟨cX, rfl⟩ : ∃ cX, cX = c1 := ⟨_, rfl⟩
      obtain ⟨cO, rfl⟩ : ∃ cO, cO = c9 := ⟨_, rfl⟩
      clear ht ho hon HTr HOr HONr HAP1 HAP2 hf1 hf2 htk hnT hnO
      have hbx := HBX.out wr HBr.out
      have p0 := at_cell (i := 0) hbx rfl
      have p1 := at_cell (i := 1) hbx rfl
      have p2 := at_cell (i := 2) hbx rfl
      have p3 := at_cell (i := 3) hbx rfl
      have p4 := at_cell (i := 4) hbx rfl
      have p5 := at_cell (i := 5) hbx rfl
      have p6 := at_cell (i := 6) hbx rfl
      clear hbx
      obtain ⟨s1, hs1⟩ : ∃ s1, s1 = bk ++ nm := ⟨_, rfl⟩
      have ls1 : s1.length ≤ 100 := by rw [hs1, List.length_append]; omega
      have as1 := fun W : World => add_tx (P := Try.prog) W bk nm (by omega)
      rw [← hs1] at as1
      have Hs1 := Lib.hid hs1
      clear hs1
      have HBC := HBr
      go_wp2_with fail
      refine wp_region_held (S := fun W => Below wr.heap.size wr W) (by kernel_rfl) ?_
      have hS : Below wr.heap.size wr wr.drew := (Below.refl _ _).drew
      refine h_take 0 (.pointer (some ⟨w.heap.size, 0, none⟩)) rfl (by kernel_rfl) (by kernel_rfl) (by kernel_rfl) (fun _ _ _ h => h) (by kernel_rfl) hS (fun _ _ => by kernel_rfl) ?_
      refine h_take 1 (.int .i64 1) rfl (by kernel_rfl) (by kernel_rfl) (by kernel_rfl) (fun _ _ _ h => h) (by kernel_rfl) hS (by intro v hv; have q := (hv.cell (p := ⟨w.heap.size, 0, none⟩) (by have := HZ.out _ HBC.out; show w.heap.size < _; omega)).trans p0; go_simp) ?_
      refine h_take 2 (.int .u64 1) rfl (by kernel_rfl) (by kernel_rfl) (by kernel_rfl) (fun _ _ _ h => h) (by kernel_rfl) hS (fun _ _ => by kernel_rfl) ?_
      refine h_take 4 (.int .i64 3) rfl (by kernel_rfl) (by kernel_rfl) (by kernel_rfl) (fun _ _ _ h => h) (by kernel_rfl) hS (fun _ _ => by kernel_rfl) ?_
      refine h_take 5 (.slice LT nT cX) rfl (by kernel_rfl) (by kernel_rfl) (by kernel_rfl) (fun _ _ _ h => h) (by kernel_rfl) hS (fun _ _ => by kernel_rfl) ?_
      refine h_take 6 (.pointer (some ⟨w.heap.size, 1, none⟩)) rfl (by kernel_rfl) (by kernel_rfl) (by kernel_rfl) (fun _ _ _ h => h) (by kernel_rfl) hS (fun _ _ => by kernel_rfl) ?_
      refine h_take 7 (.string (tx t)) rfl (by kernel_rfl) (by kernel_rfl) (by kernel_rfl) (fun _ _ _ h => h) (by kernel_rfl) hS (by intro v hv; have q := (hv.cell (p := ⟨w.heap.size, 1, none⟩) (by have := HZ.out _ HBC.out; show w.heap.size < _; omega)).trans p1; go_simp) ?_
      refine h_one 3 rfl (by kernel_rfl) (by kernel_rfl) (fun K hK => ?_)
      go_simp
      refine (HK.out _).mono ?_
      rintro e w10 ⟨rfl, hb⟩
      have hS2 : Below wr.heap.size wr w10 := hS.trans (hb.mono hS.size)
      refine hK _ _ hS2 ?_
      clear hK K hb
      refine h_one 8 rfl (by kernel_rfl) (by kernel_rfl) (fun K hK => ?_)
      go_simp
      refine (doctext_any 3 (by omega) LT nT cX T t (by omega) HINT.out (by omega) w10 (((Reads.of_own HTT.out).below hS2).more hS2.size)).mono ?_
      rintro e w11 ⟨rfl, hb⟩
      rw [← HNME.out]
      have hS3 : Below wr.heap.size wr w11 := hS2.trans (hb.mono hS2.size)
      refine hK _ _ hS3 ?_
      clear hK K hb
      refine h_take 9 (.string (tx s1)) rfl (by kernel_rfl) (by kernel_rfl) (by kernel_rfl) (fun _ _ _ h => h) (by kernel_rfl) hS3 (by intro v hv; go_simp) ?_
      refine h_take 10 (.string (tx s1)) rfl (by kernel_rfl) (by kernel_rfl) (by kernel_rfl) (fun _ _ _ h => h) (by kernel_rfl) hS3 (fun _ _ => by kernel_rfl) ?_
      refine wpAnyH_done (by kernel_rfl) ?_ _
      go_simp
      clear hS hS2 HBC
      have HB21 := Lib.hid (HBr.out.trans (hS3.mono (HZ.out _ HBr.out)))
      have HTT21 := Lib.hid (own_below HTT.out hS3)
      have HOO21 := Lib.hid (own_below HOO.out hS3)
      clear hS3
      clear p0 p1 p2 p3 p4 p5 p6
      have hbx := HBX.out w11 HB21.out
      have p0 := at_cell (i := 0) hbx rfl
      have p1 := at_cell (i := 1) hbx rfl
      have p2 := at_cell (i := 2) hbx rfl
      have p3 := at_cell (i := 3) hbx rfl
      have p4 := at_cell (i := 4) hbx rfl
      have p5 := at_cell (i := 5) hbx rfl
      have p6 := at_cell (i := 6) hbx rfl
      clear hbx
      obtain ⟨s2, hs2⟩ : ∃ s2, s2 = s1 ++ bu := ⟨_, rfl⟩
      have ls2 : s2.length ≤ 200 := by rw [hs2, List.length_append]; omega
      have as2 := fun W : World => add_tx (P := Try.prog) W s1 bu (by omega)
      rw [← hs2] at as2
      have Hs2 := Lib.hid hs2
      clear hs2
      obtain ⟨s3, hs3⟩ : ∃ s3, s3 = s2 ++ bn := ⟨_, rfl⟩
      have ls3 : s3.length ≤ 300 := by rw [hs3, List.length_append]; omega
      have as3 := fun W : World => add_tx (P := Try.prog) W s2 bn (by omega)
      rw [← hs3] at as3
      have Hs3 := Lib.hid hs3
      clear hs3
      have HBC := HB21
      go_wp2_with fail
      refine wp_region_held (S := fun W => Below w11.heap.size w11 W) (by kernel_rfl) ?_
      have hS : Below w11.heap.size w11 w11.drew := (Below.refl _ _).drew
      refine h_take 0 (.string (tx s1)) rfl (by kernel_rfl) (by kernel_rfl) (by kernel_rfl) (fun _ _ _ h => h) (by kernel_rfl) hS (fun _ _ => by kernel_rfl) ?_
      refine h_take 1 (.pointer (some ⟨w.heap.size, 2, none⟩)) rfl (by kernel_rfl) (by kernel_rfl) (by kernel_rfl) (fun _ _ _ h => h) (by kernel_rfl) hS (fun _ _ => by kernel_rfl) ?_
      refine h_take 2 (.int .u64 u) rfl (by kernel_rfl) (by kernel_rfl) (by kernel_rfl) (fun _ _ _ h => h) (by kernel_rfl) hS (by intro v hv; have q := (hv.cell (p := ⟨w.heap.size, 2, none⟩) (by have := HZ.out _ HBC.out; show w.heap.size < _; omega)).trans p2; go_simp) ?_
      refine h_take 5 (.pointer (some ⟨w.heap.size, 3, none⟩)) rfl (by kernel_rfl) (by kernel_rfl) (by kernel_rfl) (fun _ _ _ h => h) (by kernel_rfl) hS (fun _ _ => by kernel_rfl) ?_
      refine h_take 6 (.slice A n c) rfl (by kernel_rfl) (by kernel_rfl) (by kernel_rfl) (fun _ _ _ h => h) (by kernel_rfl) hS (by intro v hv; have q := (hv.cell (p := ⟨w.heap.size, 3, none⟩) (by have := HZ.out _ HBC.out; show w.heap.size < _; omega)).trans p3; go_simp) ?_
      refine h_take 7 (.int .i64 (n : Int)) rfl (by kernel_rfl) (by kernel_rfl) (by kernel_rfl) (fun _ _ _ h => h) (by kernel_rfl) hS (by intro v hv; go_simp) ?_
      refine h_take 8 (.int .u64 (n : Int)) rfl (by kernel_rfl) (by kernel_rfl) (by kernel_rfl) (fun _ _ _ h => h) (by kernel_rfl) hS (by intro v hv; go_simp; rw [IntKind.wrap_u64]; omega) ?_
      refine h_one 3 rfl (by kernel_rfl) (by kernel_rfl) (fun K hK => ?_)
      go_simp
      refine (HU.out _).mono ?_
      rintro e w12 ⟨rfl, hb⟩
      have hS2 : Below w11.heap.size w11 w12 := hS.trans (hb.mono hS.size)
      refine hK _ _ hS2 ?_
      clear hK K hb
      refine h_take 4 (.string (tx s2)) rfl (by kernel_rfl) (by kernel_rfl) (by kernel_rfl) (fun _ _ _ h => h) (by kernel_rfl) hS2 (by intro v hv; go_simp) ?_
      refine h_one 9 rfl (by kernel_rfl) (by kernel_rfl) (fun K hK => ?_)
      go_simp
      refine (HN.out _).mono ?_
      rintro e w13 ⟨rfl, hb⟩
      have hS3 : Below w11.heap.size w11 w13 := hS2.trans (hb.mono hS2.size)
      refine hK _ _ hS3 ?_
      clear hK K hb
      refine h_take 10 (.string (tx s3)) rfl (by kernel_rfl) (by kernel_rfl) (by kernel_rfl) (fun _ _ _ h => h) (by kernel_rfl) hS3 (by intro v hv; go_simp) ?_
      refine h_take 11 (.string (tx s3)) rfl (by kernel_rfl) (by kernel_rfl) (by kernel_rfl) (fun _ _ _ h => h) (by kernel_rfl) hS3 (fun _ _ => by kernel_rfl) ?_
      refine wpAnyH_done (by kernel_rfl) ?_ _
      go_simp
      clear hS hS2 HBC as1 as2 as3
      have HB22 := Lib.hid (HB21.out.trans (hS3.mono (HZ.out _ HB21.out)))
      have HTT22 := Lib.hid (own_below HTT21.out hS3)
      have HOO22 := Lib.hid (own_below HOO21.out hS3)
      clear hS3
      clear p0 p1 p2 p3 p4 p5 p6
      have hbx := HBX.out w13 HB22.out
      have p0 := at_cell (i := 0) hbx rfl
      have p1 := at_cell (i := 1) hbx rfl
      have p2 := at_cell (i := 2) hbx rfl
      have p3 := at_cell (i := 3) hbx rfl
      have p4 := at_cell (i := 4) hbx rfl
      have p5 := at_cell (i := 5) hbx rfl
      have p6 := at_cell (i := 6) hbx rfl
      clear hbx
      clear p0 p1 p2 p3 p4 p5 p6
      have H6 : Hid (DqRel 3 T s3 l w13 (.string (tx s3)) (.int .i64 0) w13) := ⟨0, by omega, rfl, by simp, Below.refl _ _⟩
      have HLN := hln2
      go_wp2
      go_loopw [12, 13] (fun v12 v13 wr => DqRel 3 T s3 l w13 v12 v13 wr) (fun _ v13 _ => n - (intOf v13).toNat)
      case atStart => exact H6.out
      case round =>
        obtain ⟨j, hj, rfl, rfl, hbr⟩ := hrel
        clear H6
        rw [HLN.out] at hj
        have HBQ := Lib.hid (HB22.out.trans (hbr.mono (HZ.out _ HB22.out)))
        have HTQ := Lib.hid (own_below HTT22.out hbr)
        have HOQ := Lib.hid (own_below HOO22.out hbr)
        have HBRQ := Lib.hid hbr
        clear hbr
        have hfl := HFL.out j
        have hbx := HBX.out _ HBQ.out
        have p0 := at_cell (i := 0) hbx rfl
        have p1 := at_cell (i := 1) hbx rfl
        have p2 := at_cell (i := 2) hbx rfl
        have p3 := at_cell (i := 3) hbx rfl
        have p4 := at_cell (i := 4) hbx rfl
        have p5 := at_cell (i := 5) hbx rfl
        have p6 := at_cell (i := 6) hbx rfl
        clear hbx
        by_cases hlt : j < n
        · obtain ⟨x, hx⟩ : ∃ x, l[j]? = some x := ⟨_, List.getElem?_eq_getElem (by rw [HLN.out]; exact hlt)⟩
          have hmx := List.mem_of_getElem? hx
          obtain ⟨ad, rfl, _, hcx⟩ := (HRW.out _ HBQ.out).2 (by omega)
          obtain ⟨x0, x1, x2⟩ := dps_at l j x hx
          have k0 := hcx _ _ x0
          have k1 := hcx _ _ x1
          have k2 := hcx _ _ x2
          rw [add_one] at k1
          rw [add_two] at k2
          have hxn := HN4.out x hmx
          have hxd := HIND.out x hmx
          have hxh := HNU.out.2.2.2 x hmx
          have hsn := dq_snoc (ver := 3) (T := T) (s := s3) hx
          obtain ⟨xn, xh, xo⟩ := x
          simp only at k0 k1 k2 hxn hxd hxh
          unfold rsv at k0
          obtain ⟨cs, hcs⟩ : ∃ cs, cs = s3 ++ (l.take j).flatMap (fDep 3 T) := ⟨_, rfl⟩
          have lcs : cs.length ≤ 2000 := by rw [hcs, List.length_append]; omega
          rw [← hcs] at hsn ⊢
          obtain ⟨bh, hbh⟩ : ∃ bh, bh = vb xh.toNat := ⟨_, rfl⟩
          have lbh : bh.length ≤ 10 := by rw [hbh]; exact vb_len _ (num_nat hxh).2
          have HH := Lib.hid (fun W => refput_any xh.toNat (num_nat hxh).2 W)
          rw [← hbh, ← (num_nat hxh).1] at HH
          have HBXD := Lib.hid (one_new wr (.cells #[.string (tx xn), .int .u64 xh, .bool xo] 56))
          have HBD := Lib.hid (HBQ.out.alloc (HZ.out _ HBQ.out) (.cells #[.string (tx xn), .int .u64 xh, .bool xo] 56))
          have HBRD := Lib.hid (HBRQ.out.alloc HBRQ.out.size (.cells #[.string (tx xn), .int .u64 xh, .bool xo] 56))
          have HTD := Lib.hid (World.ownsRow.alloc HTQ.out (.cells #[.string (tx xn), .int .u64 xh, .bool xo] 56))
          have d0 := at_cell (i := 0) HBXD.out rfl
          have d1 := at_cell (i := 1) HBXD.out rfl
          have d2 := at_cell (i := 2) HBXD.out rfl
          have hi0 : (0 : Int) ≤ (j : Int) := by omega
          have hi1 : (j : Int) < (n : Int) := by omega
          clear hx hmx hcx x0 x1 x2 hfl hcs
          have hxin := hxd.resolve_left (by omega)
          have htn := tnum_lt hxin
          obtain ⟨kk, hkk⟩ : ∃ kk, kk = 2 * tnum T xn + if xo then 1 else 0 := ⟨_, rfl⟩
          have hkk2 : kk ≤ 2 * tnum T xn + 1 := by rw [hkk]; split <;> omega
          obtain ⟨dn, hdn⟩ : ∃ dn, dn = vb kk := ⟨_, rfl⟩
          have hnb : dn.length ≤ 10 := by rw [hdn]; exact vb_len _ (by unfold top; omega)
          have H1 := Lib.hid (fun W => refput_any kk (by unfold top; omega) W)
          rw [← hdn] at H1
          have hse : s3 ++ (l.take (j + 1)).flatMap (fDep 3 T) = (cs ++ dn) ++ bh := by rw [hsn, hdn, hbh, hkk]; unfold fDep depB; rw [if_neg (by omega)]; simp
          obtain ⟨c1, hc1⟩ : ∃ c1, c1 = cs ++ dn := ⟨_, rfl⟩
          obtain ⟨c2, hc2⟩ : ∃ c2, c2 = c1 ++ bh := ⟨_, rfl⟩
          have lc1 : c1.length ≤ 3000 := by rw [hc1, List.length_append]; omega
          have ac1 := fun W : World => add_tx (P := Try.prog) W cs dn (by omega)
          have ac2 := fun W : World => add_tx (P := Try.prog) W c1 bh (by omega)
          rw [← hc1] at ac1 hse
          rw [← hc2] at ac2 hse
          have HSE := Lib.hid hse
          have hpx := place_any LT nT cX T xn (by omega) _ (Reads.of_own HTD.out)
          rw [tplace_in hxin] at hpx
          unfold tsv at hpx
          have HPX := Lib.hid hpx
          obtain ⟨tn, htne⟩ : ∃ tn, tn = tnum T xn := ⟨_, rfl⟩
          rw [← htne] at HPX htn hkk hkk2
          have htn2 : tn ≤ 200000 := by omega
          clear hse hsn hdn hc1 hc2 hbh hxd hxh hxin hpx htne
          cases xo with
          | true =>
            obtain rfl : kk = 2 * tn + 1 := by rw [hkk]; rfl
            have hkc : (((2 * tn + 1 : Nat)) : Int) = 2 * (tn : Int) + 1 := by omega
            rw [hkc] at H1
            clear hkk hkc hkk2
            go_wp2_with fail
            refine HPX.out.mono ?_
            rintro e w14 ⟨rfl, rfl⟩
            go_wp2_with fail
            refine (H1.out _).mono ?_
            rintro e w15 ⟨rfl, hb⟩
            have hd14 := (hb.block wr.heap.size (by simp)).trans HBXD.out
            have e1 := at_cell (i := 1) hd14 rfl
            have HB14 := Lib.hid (HBRD.out.trans (hb.mono HBRD.out.size))
            clear hd14 hb d0 d1 d2
            go_wp2_with fail
            refine (HH.out _).mono ?_
            rintro e w16 ⟨rfl, hb⟩
            have HB15 := Lib.hid (HB14.out.trans (hb.mono HB14.out.size))
            clear hb
            go_wp2
            exact ⟨⟨j + 1, by rw [HLN.out]; omega, by go_num, by rw [HSE.out], HB15.out⟩, by simp [intOf]; omega⟩
          | false =>
            obtain rfl : kk = 2 * tn := by rw [hkk]; rfl
            have hkc : (((2 * tn : Nat)) : Int) = 2 * (tn : Int) := by omega
            rw [hkc] at H1
            clear hkk hkc hkk2
            go_wp2_with fail
            refine HPX.out.mono ?_
            rintro e w14 ⟨rfl, rfl⟩
            go_wp2_with fail
            refine (H1.out _).mono ?_
            rintro e w15 ⟨rfl, hb⟩
            have hd14 := (hb.block wr.heap.size (by simp)).trans HBXD.out
            have e1 := at_cell (i := 1) hd14 rfl
            have HB14 := Lib.hid (HBRD.out.trans (hb.mono HBRD.out.size))
            clear hd14 hb d0 d1 d2
            go_wp2_with fail
            refine (HH.out _).mono ?_
            rintro e w16 ⟨rfl, hb⟩
            have HB15 := Lib.hid (HB14.out.trans (hb.mono HB14.out.size))
            clear hb
            go_wp2
            exact ⟨⟨j + 1, by rw [HLN.out]; omega, by go_num, by rw [HSE.out], HB15.out⟩, by simp [intOf]; omega⟩
        · obtain rfl : j = n := by omega
          rw [List.take_of_length_le (by rw [HLN.out]; exact Nat.le_refl _)]
          have hfl2 := HFL.out l.length
          rw [List.take_length] at hfl2
          rw [HLN.out] at hfl2
          obtain ⟨fl, hfle⟩ : ∃ fl, fl = l.flatMap (fDep 3 T) := ⟨_, rfl⟩
          rw [← hfle] at hfl2
          obtain ⟨s4, hs4⟩ : ∃ s4, s4 = s3 ++ fl := ⟨_, rfl⟩
          have ls4 : s4.length ≤ 2000 := by rw [hs4, List.length_append]; omega
          rw [← hfle, ← hs4]
          have Hs4 := Lib.hid hs4
          have HFLE := Lib.hid hfle
          clear hfl hs4 hfle hfl2
          obtain ⟨s5, hs5⟩ : ∃ s5, s5 = s4 ++ bo := ⟨_, rfl⟩
          have ls5 : s5.length ≤ 3500 := by rw [hs5, List.length_append]; omega
          have as5 := fun W : World => add_tx (P := Try.prog) W s4 bo (by omega)
          rw [← hs5] at as5
          have Hs5 := Lib.hid hs5
          clear hs5
          go_wp2_with fail
          refine (HO.out _).mono ?_
          rintro e wq ⟨rfl, hb⟩
          obtain ⟨ws5, rfl⟩ : ∃ ws5, ws5 = wq := ⟨_, rfl⟩
          have HB61 := Lib.hid (HBQ.out.trans (hb.mono (HZ.out _ HBQ.out)))
          have HTT61 := Lib.hid (own_below HTQ.out hb)
          have HOO61 := Lib.hid (own_below HOQ.out hb)
          clear hb
          clear p0 p1 p2 p3 p4 p5 p6
          have hbx := HBX.out ws5 HB61.out
          have p0 := at_cell (i := 0) hbx rfl
          have p1 := at_cell (i := 1) hbx rfl
          have p2 := at_cell (i := 2) hbx rfl
          have p3 := at_cell (i := 3) hbx rfl
          have p4 := at_cell (i := 4) hbx rfl
          have p5 := at_cell (i := 5) hbx rfl
          have p6 := at_cell (i := 6) hbx rfl
          clear hbx
          obtain ⟨s6, hs6⟩ : ∃ s6, s6 = s5 ++ bm := ⟨_, rfl⟩
          have ls6 : s6.length ≤ 3600 := by rw [hs6, List.length_append]; omega
          have as6 := fun W : World => add_tx (P := Try.prog) W s5 bm (by omega)
          rw [← hs6] at as6
          have Hs6 := Lib.hid hs6
          clear hs6
          go_wp2_with fail
          refine (HM.out _).mono ?_
          rintro e wq ⟨rfl, hb⟩
          obtain ⟨ws6, rfl⟩ : ∃ ws6, ws6 = wq := ⟨_, rfl⟩
          have HB62 := Lib.hid (HB61.out.trans (hb.mono (HZ.out _ HB61.out)))
          have HTT62 := Lib.hid (own_below HTT61.out hb)
          have HOO62 := Lib.hid (own_below HOO61.out hb)
          clear hb
          clear p0 p1 p2 p3 p4 p5 p6
          have hbx := HBX.out ws6 HB62.out
          have p0 := at_cell (i := 0) hbx rfl
          have p1 := at_cell (i := 1) hbx rfl
          have p2 := at_cell (i := 2) hbx rfl
          have p3 := at_cell (i := 3) hbx rfl
          have p4 := at_cell (i := 4) hbx rfl
          have p5 := at_cell (i := 5) hbx rfl
          have p6 := at_cell (i := 6) hbx rfl
          clear hbx
          have t1 : (tx []).toList.isEmpty = true := by rw [tx_toList]; rfl
          obtain ⟨s7, hs7⟩ : ∃ s7, s7 = s6 ++ bg := ⟨_, rfl⟩
          have ls7 : s7.length ≤ 3700 := by rw [hs7, List.length_append]; omega
          have as7 := fun W : World => add_tx (P := Try.prog) W s6 bg (by omega)
          rw [← hs7] at as7
          have Hs7 := Lib.hid hs7
          clear hs7
          go_wp2_with fail
          refine (HGG.out _).mono ?_
          rintro e wq ⟨rfl, hb⟩
          obtain ⟨ws7, rfl⟩ : ∃ ws7, ws7 = wq := ⟨_, rfl⟩
          have HB63 := Lib.hid (HB62.out.trans (hb.mono (HZ.out _ HB62.out)))
          have HTT63 := Lib.hid (own_below HTT62.out hb)
          have HOO63 := Lib.hid (own_below HOO62.out hb)
          clear hb
          clear p0 p1 p2 p3 p4 p5 p6
          have hbx := HBX.out ws7 HB63.out
          have p0 := at_cell (i := 0) hbx rfl
          have p1 := at_cell (i := 1) hbx rfl
          have p2 := at_cell (i := 2) hbx rfl
          have p3 := at_cell (i := 3) hbx rfl
          have p4 := at_cell (i := 4) hbx rfl
          have p5 := at_cell (i := 5) hbx rfl
          have p6 := at_cell (i := 6) hbx rfl
          clear hbx
          obtain ⟨nO1, hO1⟩ : ∃ nO1, nO1 = nO + 1 := ⟨_, rfl⟩
          clear hO1
          have HO2 := Lib.hid (World.ownsRow.alloc HOO63.out (.cells #[.string (tx s7)] 9))
          have HT2 := Lib.hid (World.ownsRow.alloc HTT63.out (.cells #[.string (tx s7)] 9))
          have HR2 := Lib.hid (reads_one_row ws7 9 (.string (tx s7)))
          have HB2 := Lib.hid (HB63.out.alloc (HZ.out _ HB63.out) (.cells #[.string (tx s7)] 9))
          go_wp2_with (at_builtin; refine wpList_append_told _ rfl (.tmp 164) (.tmp 166) 22 rfl (w.heap.size + 1) 9 i0 _ 1 16 Try.underlying22 ii0 iz0 iz1 iz2 rfl (by decide) _ nO _ rfl HO2.out (some ⟨ws7.heap.size, 0, none⟩) 1 1 (ws7.heap.size + 1) [.string (tx s7)] rfl (by simp) HR2.out (fun u hu => by obtain rfl := List.mem_singleton.1 hu; rfl) (by unfold maxLen; omega) (by omega) (HZ.out _ HB2.out) ?_; intro v7 w7 ho7 hg7 hv7; have hg7b : (ws7.alloc (.cells #[.string (tx s7)] 9)).grownBy w7 (Value.slice LO nO cO).ownBlock := hg7; have HO7 := Lib.hid ho7; have HB7 := Lib.hid (HB2.out.grown hg7b (HZ.out _ HB2.out) (own_block HO2.out)); have HT7 := Lib.hid (own_kept HT2.out HAP.out hg7b); clear ho7 hg7 hv7 hg7b)
          go_ret3
          refine ⟨_, _, rfl, ?_, ?_, HW0.out.trans (HB7.out.mono (by omega))⟩
          · rw [hpl.out, hfre.out, hfin.out, ← Hs1.out, ← Hs2.out, ← Hs3.out, ← HFLE.out, ← Hs4.out, ← Hs5.out, ← Hs6.out, ← Hs7.out]
            unfold Own
            rw [List.length_append, List.map_append, ← HNO.out]
            exact own_less HO7.out (by omega)
          · unfold Own
            rw [← HNT.out]
            exact HT7.out

end Go.Proofs.Ytfidfhajnobonaa

/- The document's Put of a record that may be. -/
namespace Go.Proofs.Ytfidfhajnobonaa
open Go.RowKit

set_option maxRecDepth 100000 in
set_option maxHeartbeats 4000000 in
theorem rp31n (tl : List (List UInt8)) (t g : List UInt8) (u o m : Int) (hg : g ≠ []) (A : Option Addr) (n c : Nat) (l : List Dp) (hm : MayP 3 ⟨1, t, u, o, m, g⟩ l) (hnu : Nums ⟨1, t, u, o, m, g⟩ l) (hfit : Fits ⟨1, t, u, o, m, g⟩ l) (tv : Value) (htl : tl.length ≤ 100000) (w : World) (B0 : Nat) (hB0 : B0 ≤ w.heap.size) (hT : Own w B0 tv tl) (hr : Reads w w.heap.size 3 A n (dps l)) :
    Calls Try.prog 12 #[.int .i64 3, tv, .agg #[.int .i64 1, .string (tx t), .int .u64 u, .slice A n c, .int .u64 o, .int .u64 m, .string (tx g)]] w fun e w' => ∃ v1 v2, e = .returned (.tuple #[v1, v2, .int .i64 0]) ∧ Own w' w.heap.size v1 (payL 3 tl ⟨1, t, u, o, m, g⟩ l) ∧ Own w' B0 v2 (tabT 3 tl ⟨1, t, u, o, m, g⟩ l) ∧ Below w.heap.size w w' := by
  obtain ⟨i0, ii0, iz0, iz1, iz2⟩ := info_parts (show (Try.prog.info? 9).map (fun i => (i.zero, i.size, i.bytes)) = some (some (.string { data := #[] }), 1, 16) from by kernel_rfl)
  obtain ⟨n1, n2, n3, n4⟩ := may_names hm
  have hln : l.length = n := by have := hr.1; rw [dps_len] at this; omega
  have hn16 : n ≤ 16 := by omega
  have hTL := tabT_len (tl := tl) hm
  have hin := tabT_mem 3 tl ⟨1, t, u, o, m, g⟩ l
  obtain ⟨T, hTe⟩ : ∃ T, T = tabT 3 tl ⟨1, t, u, o, m, g⟩ l := ⟨_, rfl⟩
  rw [← hTe] at hin hTL
  have hT2 : T.length ≤ 200000 := by omega
  have hnm : (nmB 3 T t).length ≤ 74 := nmB_len n1 (by omega)
  have hinT : (3 : Int) < 2 ∨ t ∈ T := hin.imp id fun h => h _ (tnew_mem (by simp))
  have hinD : ∀ d ∈ l, (3 : Int) < 2 ∨ d.name ∈ T := fun d hd => hin.imp id fun h => h _ (tnew_mem (by
    refine List.mem_append.2 (.inl (List.mem_cons.2 (.inr ?_)))
    exact List.mem_map.2 ⟨d, hd, rfl⟩))
  have hinG : g ∈ T := (hin.resolve_left (by omega)) _ (tnew_mem (by rw [if_neg hg]; simp))
  obtain ⟨nm, hnme⟩ : ∃ nm, nm = nmB 3 T t := ⟨_, rfl⟩
  rw [← hnme] at hnm
  obtain ⟨bk, hbk⟩ : ∃ bk, bk = vb 1 := ⟨_, rfl⟩
  have lbk : bk.length ≤ 10 := by rw [hbk]; exact vb_len _ (by unfold top; omega)
  have HK := Lib.hid (fun W => refput_any 1 (by unfold top; omega) W)
  rw [← hbk] at HK
  have hFL := fun k => fDeps_take (ver := 3) (tl := T) (l := l) (m := k) n4 hnu.2.2.2 (by omega)
  obtain ⟨bu, hbu⟩ : ∃ bu, bu = vb u.toNat := ⟨_, rfl⟩
  have lbu : bu.length ≤ 10 := by rw [hbu]; exact vb_len _ (num_nat hnu.1).2
  have HU := Lib.hid (fun W => refput_any u.toNat (num_nat hnu.1).2 W)
  rw [← hbu, ← (num_nat hnu.1).1] at HU
  obtain ⟨bn, hbn⟩ : ∃ bn, bn = vb n := ⟨_, rfl⟩
  have lbn : bn.length ≤ 10 := by rw [hbn]; exact vb_len _ (by unfold top; omega)
  have HN := Lib.hid (fun W => refput_any n (by unfold top; omega) W)
  rw [← hbn] at HN
  obtain ⟨bo, hbo⟩ : ∃ bo, bo = vb o.toNat := ⟨_, rfl⟩
  have lbo : bo.length ≤ 10 := by rw [hbo]; exact vb_len _ (num_nat hnu.2.1).2
  have HO := Lib.hid (fun W => refput_any o.toNat (num_nat hnu.2.1).2 W)
  rw [← hbo, ← (num_nat hnu.2.1).1] at HO
  obtain ⟨bm, hbm⟩ : ∃ bm, bm = vb m.toNat := ⟨_, rfl⟩
  have lbm : bm.length ≤ 10 := by rw [hbm]; exact vb_len _ (num_nat hnu.2.2.1).2
  have HM := Lib.hid (fun W => refput_any m.toNat (num_nat hnu.2.2.1).2 W)
  rw [← hbm, ← (num_nat hnu.2.2.1).1] at HM
  obtain ⟨bg, hbg⟩ : ∃ bg, bg = vb (tnum T g + 1) := ⟨_, rfl⟩
  have htg := tnum_lt hinG
  have lbg : bg.length ≤ 10 := by rw [hbg]; exact vb_len _ (by unfold top; omega)
  have HGG := Lib.hid (fun W => refput_any (tnum T g + 1) (by unfold top; omega) W)
  rw [← hbg] at HGG
  have hfin : Hid (payB 3 T ⟨1, t, u, o, m, g⟩ l = ((((((bk ++ nm) ++ bu) ++ bn) ++ l.flatMap (fDep 3 T)) ++ bo) ++ bm) ++ bg) := by
    show _ = _
    rw [hbk, hnme, hbu, hbn, hbo, hbm, hbg]
    unfold payB fDeps fTag
    rw [vb_lt (show 1 < 128 by omega), hln]
    simp [hg]
  have hpl : Hid (payL 3 tl ⟨1, t, u, o, m, g⟩ l = freT 3 tl ⟨1, t, u, o, m, g⟩ l ++ [payB 3 T ⟨1, t, u, o, m, g⟩ l]) := by show _ = _; unfold payL; rw [← hTe]
  have hfre : Hid (freT 3 tl ⟨1, t, u, o, m, g⟩ l = freshL tl (rnames ⟨1, t, u, o, m, g⟩ l)) := by show _ = _; unfold freT; rw [if_neg (by omega)]
  have htab : Hid (T = (rnames ⟨1, t, u, o, m, g⟩ l).foldl tput tl) := by show _ = _; rw [hTe]; unfold tabT; rw [if_neg (by omega)]
  rw [← hTe]
  have hmay := Lib.hid (fun W hw => rmay_any 3 ⟨1, t, u, o, m, g⟩ A n c l (by omega) hfit W hw)
  have HMAY := Lib.hid hm
  have HR := Lib.hid hr
  obtain ⟨L, cT, rfl, hLc⟩ := own_slice hT
  have HT := Lib.hid hT
  have HNM := Lib.hid (fun W hw => rnames_any ⟨1, t, u, o, m, g⟩ A n c l (by omega) W hw)
  have hnl := rnames_le hm
  obtain ⟨X0, hX0⟩ : ∃ X0, X0 = w.alloc (.cells #[.int .i64 1, .string (tx t), .int .u64 u, .slice A n c, .int .u64 o, .int .u64 m, .string (tx g)] 26) := ⟨_, rfl⟩
  have hz0 : Hid (X0.heap.size = w.heap.size + 1) := by show _ = _; rw [hX0]; simp
  have hbx0 := one_new w (.cells #[.int .i64 1, .string (tx t), .int .u64 u, .slice A n c, .int .u64 o, .int .u64 m, .string (tx g)] 26)
  rw [← hX0] at hbx0
  have HBX : Hid (∀ W, Below (w.heap.size + 1) X0 W → W.heap[w.heap.size]? = some (.cells #[.int .i64 1, .string (tx t), .int .u64 u, .slice A n c, .int .u64 o, .int .u64 m, .string (tx g)] 26 (0, 0))) := fun W h => (h.block _ (by omega)).trans hbx0
  have HW0 : Hid (Below w.heap.size w X0) := by rw [hX0]; exact (Below.refl w.heap.size w).alloc (Nat.le_refl _) _
  have HB3 : Hid (Below (w.heap.size + 1) X0 (X0.alloc (.cells #[] 9))) := (Below.refl _ _).alloc (by rw [hz0.out]; exact Nat.le_refl _) _
  have HZ : Hid (∀ W, Below (w.heap.size + 1) X0 W → w.heap.size + 1 ≤ W.heap.size) := fun W h => by have h1 := h.size; rw [hz0.out] at h1; exact h1
  have HRW : Hid (∀ W, Below (w.heap.size + 1) X0 W → Reads W W.heap.size 3 A n (dps l)) := fun W h => (HR.out.below (HW0.out.trans (h.mono (by omega)))).more (by have h1 := h.size; rw [hz0.out] at h1; omega)
  have HO3 : Hid (Own (X0.alloc (.cells #[] 9)) (w.heap.size + 1) (.slice (some ⟨w.heap.size + 1, 0, none⟩) 0 0) []) := by
    have h1 := own_empty X0 9
    rw [hz0.out] at h1
    exact h1
  have HT3 : Hid (Own (X0.alloc (.cells #[] 9)) B0 (.slice L tl.length cT) tl) := HT.out.below (HW0.out.trans (HB3.out.mono (by omega)))
  rw [hX0] at HBX HW0 HB3 HZ HRW HO3 HT3
  unfold rcv rsv at hmay HNM
  clear hm hr hfit hTe hbx0 hz0 HR hX0 hbk hin hLc
  have hln2 : Hid (l.length = n) := hln
  clear hln
  have HNME := Lib.hid hnme
  clear hnme
  have HNU := Lib.hid hnu
  have HN4 := Lib.hid n4
  have HIND := Lib.hid hinD
  clear hnu n4 hinD
  have HFL := Lib.hid hFL
  clear hFL hbu hbn hbo hbm hbg
  have HING := Lib.hid hinG
  have HG0 := Lib.hid hg
  clear htg hinG hg
  have HTLT : Hid (∀ gg, (Value.slice L tl.length cT).ownBlock = some gg → gg < w.heap.size) := own_lt HT.out
  clear hT
  have HINT := Lib.hid hinT
  clear hinT
  have hbx := HBX.out ((w.alloc (.cells #[.int .i64 1, .string (tx t), .int .u64 u, .slice A n c, .int .u64 o, .int .u64 m, .string (tx g)] 26)).alloc (.cells #[] 9)) HB3.out
  have p0 := at_cell (i := 0) hbx rfl
  have p1 := at_cell (i := 1) hbx rfl
  have p2 := at_cell (i := 2) hbx rfl
  have p3 := at_cell (i := 3) hbx rfl
  have p4 := at_cell (i := 4) hbx rfl
  have p5 := at_cell (i := 5) hbx rfl
  have p6 := at_cell (i := 6) hbx rfl
  clear hbx
  go_enter Try.func12, Try.ntmps12
  go_wp2_with fail
  refine (hmay.out _ (HRW.out _ HB3.out)).mono ?_
  rintro e w4 ⟨he, hb⟩
  obtain rfl := he.yes HMAY.out
  have HB4 := Lib.hid (HB3.out.trans (hb.mono (HZ.out _ HB3.out)))
  have HO4 := Lib.hid (HO3.out.below hb)
  have HT4 := Lib.hid (HT3.out.below hb)
  clear he hb hmay HMAY HO3 HT3
  clear p0 p1 p2 p3 p4 p5 p6
  have hbx := HBX.out w4 HB4.out
  have p0 := at_cell (i := 0) hbx rfl
  have p1 := at_cell (i := 1) hbx rfl
  have p2 := at_cell (i := 2) hbx rfl
  have p3 := at_cell (i := 3) hbx rfl
  have p4 := at_cell (i := 4) hbx rfl
  have p5 := at_cell (i := 5) hbx rfl
  have p6 := at_cell (i := 6) hbx rfl
  clear hbx
  go_wp2_with fail
  refine (HNM.out _ (HRW.out _ HB4.out)).mono ?_
  rintro e w5 ⟨vn, rfl, hvn, hb⟩
  obtain ⟨ns, hns⟩ : ∃ ns, ns = rnames ⟨1, t, u, o, m, g⟩ l := ⟨_, rfl⟩
  rw [← hns] at hvn htab hfre hnl
  obtain ⟨An, cn, rfl, hAn⟩ := own_slice hvn
  have HB5 := Lib.hid (HB4.out.trans (hb.mono (HZ.out _ HB4.out)))
  obtain ⟨mm, hmm⟩ : ∃ mm, mm = ns.length := ⟨_, rfl⟩
  have HMM := Lib.hid hmm
  have H5 : Hid (DnRel B0 (w.heap.size + 1) (w.alloc (.cells #[.int .i64 1, .string (tx t), .int .u64 u, .slice A n c, .int .u64 o, .int .u64 m, .string (tx g)] 26)) tl ns (.slice An ns.length cn) (.slice L tl.length cT) (.slice (some ⟨w.heap.size + 1, 0, none⟩) 0 0) (.int .i64 0) w5) := by
    refine ⟨0, _, _, rfl, rfl, by omega, rfl, HT4.out.below hb, HO4.out.below hb, hvn.less (by omega), fun gg e1 e2 => ?_, fun gg e1 e2 => ?_, HB5.out⟩
    · have h1 := HTLT.out _ e2
      obtain rfl : w.heap.size + 1 = gg := by simpa [Value.ownBlock] using e1
      omega
    · have h1 := own_block hvn _ e2
      obtain rfl : w.heap.size + 1 = gg := by simpa [Value.ownBlock] using e1
      have h2 := own_lt HO4.out _ e1
      omega
  have HNL := Lib.hid hnl.1
  have hm18 : mm ≤ 18 := by rw [hmm]; exact hnl.2
  rw [← hmm] at H5 ⊢
  clear hvn hb hns hnl hmm HNM HT4 HO4 HB4 HTLT
  clear p0 p1 p2 p3 p4 p5 p6
  go_wp2
  go_loopw [1, 9, 11] (fun v1 v9 v11 wr => DnRel B0 (w.heap.size + 1) (w.alloc (.cells #[.int .i64 1, .string (tx t), .int .u64 u, .slice A n c, .int .u64 o, .int .u64 m, .string (tx g)] 26)) tl ns (.slice An mm cn) v1 v9 v11 wr) (fun _ _ v11 _ => mm - (intOf v11).toNat)
  case atStart => exact H5.out
  case round =>
    obtain ⟨i, a1, a9, rfl, rfl, hi, rfl, ht, ho, hon, hap1, hap2, hbr⟩ := hrel
    clear H5
    rw [← HMM.out] at hi
    obtain ⟨L1, c1, rfl, hL1⟩ := own_slice ht
    obtain ⟨L9, c9, rfl, hL9⟩ := own_slice ho
    have HTr := Lib.hid ht
    have HOr := Lib.hid ho
    have HONr := Lib.hid hon
    have HAP1 := Lib.hid hap1
    have HAP2 := Lib.hid hap2
    have HBr := Lib.hid hbr
    have hf1 := freshL_len (ns.take i) tl
    have hf2 := tfold_len (ns.take i) tl
    rw [List.length_take] at hf1 hf2
    clear hap1 hap2 hbr
    by_cases hlt : i < mm
    · obtain ⟨s, hs⟩ : ∃ s, ns[i]? = some s := ⟨_, List.getElem?_eq_getElem (by rw [← HMM.out]; exact hlt)⟩
      have hon2 : wr.ownsRow 0 9 1 (.slice An mm cn) mm (ns.map tsv) := by have h := hon; unfold Own at h; rwa [← HMM.out] at h
      obtain ⟨adn, rfl, _, hcx⟩ := (Reads.of_own hon2).2 (by omega)
      clear hon2
      have k0 := hcx i (tsv s) (by rw [List.getElem?_map, hs]; rfl)
      have HNC : Hid (∀ W, Own W 0 (.slice (some adn) mm cn) ns → W.cell? (adn.add i) = some (.string (tx s))) := fun W h => by
        have h2 : W.ownsRow 0 9 1 (.slice (some adn) mm cn) mm (ns.map tsv) := by unfold Own at h; rwa [← HMM.out] at h
        obtain ⟨ad2, e2, _, hc2⟩ := (Reads.of_own h2).2 (by omega)
        obtain rfl : adn = ad2 := Option.some.inj e2
        exact hc2 i (tsv s) (by rw [List.getElem?_map, hs]; rfl)
      have hsl := HNL.out s (List.mem_of_getElem? hs)
      have hpl := place_any L1 ((ns.take i).foldl tput tl).length c1 ((ns.take i).foldl tput tl) s (by omega) wr (Reads.of_own ht)
      unfold tsv at k0 hpl
      have hi0 : (0 : Int) ≤ (i : Int) := by omega
      have hi1 : (i : Int) < (mm : Int) := by omega
      have HS := Lib.hid hs
      by_cases hin : s ∈ (ns.take i).foldl tput tl
      · have HNI := Lib.hid (nm_in hs hin ht ho)
        rw [tplace_in hin] at hpl
        have HPL := Lib.hid hpl
        generalize tnum ((ns.take i).foldl tput tl) s = q at HPL
        have hq0 : decide ((q : Int) < 0) = false := decide_eq_false (by omega)
        generalize hT0 : ((ns.take i).foldl tput tl).length = nT at *
        generalize hF0 : (freshL tl (ns.take i)).length = nF at *
        clear hcx ht ho hon hin hpl hs hf1 hf2 hT0 hF0
        go_wp2_with fail
        refine HPL.out.mono ?_
        rintro e w6 ⟨rfl, rfl⟩
        go_wp2
        exact ⟨⟨i + 1, _, _, rfl, rfl, by rw [← HMM.out]; omega, by go_num, HNI.out.1, HNI.out.2, HONr.out, HAP1.out, HAP2.out, HBr.out⟩, by simp [intOf]; omega⟩
      · have HNE := Lib.hid (nm_new hs hin)
        rw [tplace_out hin] at hpl
        have HPL := Lib.hid hpl
        have hadd : ∀ W : World, (Op.stringOp .add { data := #[0] } (tx s)).run Try.prog W = .ok (.string (tx (0 :: s))) W := fun W => add_tx W [0] s (by simp; omega)
        have HPUT := Lib.hid (fun W hb hl => iput_any B0 (.slice L1 ((ns.take i).foldl tput tl).length c1) ((ns.take i).foldl tput tl) s (by omega) W hb hl)
        unfold tsv at HPUT
        obtain ⟨nT, hnT⟩ : ∃ nT, nT = ((ns.take i).foldl tput tl).length := ⟨_, rfl⟩
        obtain ⟨nF, hnF⟩ : ∃ nF, nF = (freshL tl (ns.take i)).length := ⟨_, rfl⟩
        have HNT := Lib.hid hnT
        have HNF := Lib.hid hnF
        have HTr2 : Hid (Own wr B0 (.slice L1 nT c1) ((ns.take i).foldl tput tl)) := by rw [hnT]; exact ht
        have HOr2 : Hid (wr.ownsRow (w.heap.size + 1) 9 1 (.slice L9 nF c9) nF ((freshL tl (ns.take i)).map tsv)) := by rw [hnF]; exact ho
        have HONr2 : Hid (Own wr 0 (.slice (some adn) mm cn) ns) := hon
        have HA1 : Hid (Apart (.slice L9 nF c9) (.slice L1 nT c1)) := by rw [hnF, hnT]; exact HAP1.out
        have HA2 : Hid (Apart (.slice L9 nF c9) (.slice (some adn) mm cn)) := by rw [hnF]; exact HAP2.out
        rw [← hnT] at HPL HPUT
        rw [← hnF] at hf1
        rw [← hnT, ← hnF]
        have hnF2 : nF ≤ 100 := by omega
        clear hcx ht ho hon hin hpl hs hf1 hf2 hnT hnF HTr HOr HONr HAP1 HAP2
        go_wp2_with fail
        refine HPL.out.mono ?_
        rintro e w6 ⟨rfl, rfl⟩
        have HO2 := Lib.hid (World.ownsRow.alloc HOr2.out (.cells #[.string (tx (0 :: s))] 9))
        have HR2 := Lib.hid (reads_one_row wr 9 (.string (tx (0 :: s))))
        have HB2 := Lib.hid (HBr.out.alloc (HZ.out _ HBr.out) (.cells #[.string (tx (0 :: s))] 9))
        go_wp2_with (at_builtin; refine wpList_append_told _ rfl (.tmp 48) (.tmp 54) 22 rfl (w.heap.size + 1) 9 i0 _ 1 16 Try.underlying22 ii0 iz0 iz1 iz2 rfl (by decide) _ nF _ rfl HO2.out (some ⟨wr.heap.size, 0, none⟩) 1 1 (wr.heap.size + 1) [.string (tx (0 :: s))] rfl (by simp) HR2.out (fun u hu => by obtain rfl := List.mem_singleton.1 hu; rfl) (by unfold maxLen; omega) (by omega) (HZ.out _ HB2.out) ?_; intro v7 w7 ho7 hg7 hv7; have hv7b : v7.ownBlock = (Value.slice L9 nF c9).ownBlock ∨ v7.ownBlock = some (wr.alloc (.cells #[.string (tx (0 :: s))] 9)).heap.size := hv7; have hg7b : (wr.alloc (.cells #[.string (tx (0 :: s))] 9)).grownBy w7 (Value.slice L9 nF c9).ownBlock := hg7; have HO7 := Lib.hid ho7; have HB7 := Lib.hid (HB2.out.grown hg7b (HZ.out _ HB2.out) (own_block HO2.out)); have HT7 := Lib.hid (own_kept (World.ownsRow.alloc HTr2.out (.cells #[.string (tx (0 :: s))] 9)) HA1.out hg7b); have HN7 := Lib.hid (own_kept (World.ownsRow.alloc HONr2.out (.cells #[.string (tx (0 :: s))] 9)) HA2.out hg7b); have HA71 := Lib.hid (apart_told HA1.out (World.ownsRow.alloc HTr2.out (.cells #[.string (tx (0 :: s))] 9)) hv7b); have HA72 := Lib.hid (apart_told HA2.out (World.ownsRow.alloc HONr2.out (.cells #[.string (tx (0 :: s))] 9)) hv7b); have k7 := HNC.out _ HN7.out; clear ho7 hg7 hv7 hv7b hg7b)
        refine (HPUT.out w7 (by have := HZ.out _ HB7.out; omega) HT7.out).mono ?_
        rintro e w8 ⟨v8, rfl, ho8, hv8, hb8⟩
        obtain ⟨L8, c8, rfl, _⟩ := own_slice ho8
        have HB8 := Lib.hid (HB7.out.trans (hb8.mono (HZ.out _ HB7.out)))
        have HA81 : Hid (Apart v7 (.slice L8 (tput ((ns.take i).foldl tput tl) s).length c8)) := by
          rcases hv8 with h | h
          · rw [h]; exact HA71.out
          · exact apart_up HO7.out h
        have HO8 := Lib.hid ho8
        have HO78 := Lib.hid (own_below HO7.out hb8)
        have HN8 := Lib.hid (own_below HN7.out hb8)
        clear ho8 hv8 hb8
        go_wp2
        exact ⟨⟨i + 1, _, _, rfl, rfl, by rw [← HMM.out]; omega, by go_num, by rw [HNE.out.1]; exact HO8.out, by rw [HNE.out.2]; unfold Own; rw [List.length_append, List.map_append, ← HNF.out]; exact HO78.out, HN8.out, HA81.out, HA72.out, HB8.out⟩, by simp [intOf]; omega⟩
    · obtain rfl : i = mm := by omega
      have htk : ns.take i = ns := List.take_of_length_le (by rw [← HMM.out]; omega)
      rw [htk] at ht ho HAP1 HTr HOr
      rw [htk]
      rw [← htab.out] at ht HAP1 HTr ⊢
      obtain ⟨nT, hnT⟩ : ∃ nT, nT = T.length := ⟨_, rfl⟩
      obtain ⟨nO, hnO⟩ : ∃ nO, nO = (freshL tl ns).length := ⟨_, rfl⟩
      have HNT := Lib.hid hnT
      have HNO := Lib.hid hnO
      have HTT : Hid (wr.ownsRow B0 9 1 (.slice L1 nT c1) nT (T.map tsv)) := by rw [hnT]; exact ht
      have HOO : Hid (wr.ownsRow (w.heap.size + 1) 9 1 (.slice L9 nO c9) nO ((freshL tl ns).map tsv)) := by rw [hnO]; exact ho
      have HAP : Hid (Apart (.slice L9 nO c9) (.slice L1 nT c1)) := by rw [hnO, hnT]; exact HAP1.out
      have hnT2 : nT ≤ 200000 := by rw [hnT]; exact hT2
      have hnO2 : nO ≤ 100 := by rw [hnO]; have := freshL_len ns tl; rw [← HMM.out] at this; omega
      rw [← hnT, ← hnO]
      obtain ⟨LT, rfl⟩ : ∃ LT, LT = L1 := ⟨_, rfl⟩
      obtain ⟨LO, rfl⟩ : ∃ LO, LO = L9 := ⟨_, rfl⟩
      obtain ⟨cX, rfl⟩ : ∃ cX, cX = c1 := ⟨_, rfl⟩
      obtain ⟨cO, rfl⟩ : ∃ cO, cO = c9 := ⟨_, rfl⟩
      clear ht ho hon HTr HOr HONr HAP1 HAP2 hf1 hf2 htk hnT hnO
      have hbx := HBX.out wr HBr.out
      have p0 := at_cell (i := 0) hbx rfl
      have p1 := at_cell (i := 1) hbx rfl
      have p2 := at_cell (i := 2) hbx rfl
      have p3 := at_cell (i := 3) hbx rfl
      have p4 := at_cell (i := 4) hbx rfl
      have p5 := at_cell (i := 5) hbx rfl
      have p6 := at_cell (i := 6) hbx rfl
      clear hbx
      obtain ⟨s1, hs1⟩ : ∃ s1, s1 = bk ++ nm := ⟨_, rfl⟩
      have ls1 : s1.length ≤ 100 := by rw [hs1, List.length_append]; omega
      have as1 := fun W : World => add_tx (P := Try.prog) W bk nm (by omega)
      rw [← hs1] at as1
      have Hs1 := Lib.hid hs1
      clear hs1
      have HBC := HBr
      go_wp2_with fail
      refine wp_region_held (S := fun W => Below wr.heap.size wr W) (by kernel_rfl) ?_
      have hS : Below wr.heap.size wr wr.drew := (Below.refl _ _).drew
      refine h_take 0 (.pointer (some ⟨w.heap.size, 0, none⟩)) rfl (by kernel_rfl) (by kernel_rfl) (by kernel_rfl) (fun _ _ _ h => h) (by kernel_rfl) hS (fun _ _ => by kernel_rfl) ?_
      refine h_take 1 (.int .i64 1) rfl (by kernel_rfl) (by kernel_rfl) (by kernel_rfl) (fun _ _ _ h => h) (by kernel_rfl) hS (by intro v hv; have q := (hv.cell (p := ⟨w.heap.size, 0, none⟩) (by have := HZ.out _ HBC.out; show w.heap.size < _; omega)).trans p0; go_simp) ?_
      refine h_take 2 (.int .u64 1) rfl (by kernel_rfl) (by kernel_rfl) (by kernel_rfl) (fun _ _ _ h => h) (by kernel_rfl) hS (fun _ _ => by kernel_rfl) ?_
      refine h_take 4 (.int .i64 3) rfl (by kernel_rfl) (by kernel_rfl) (by kernel_rfl) (fun _ _ _ h => h) (by kernel_rfl) hS (fun _ _ => by kernel_rfl) ?_
      refine h_take 5 (.slice LT nT cX) rfl (by kernel_rfl) (by kernel_rfl) (by kernel_rfl) (fun _ _ _ h => h) (by kernel_rfl) hS (fun _ _ => by kernel_rfl) ?_
      refine h_take 6 (.pointer (some ⟨w.heap.size, 1, none⟩)) rfl (by kernel_rfl) (by kernel_rfl) (by kernel_rfl) (fun _ _ _ h => h) (by kernel_rfl) hS (fun _ _ => by kernel_rfl) ?_
      refine h_take 7 (.string (tx t)) rfl (by kernel_rfl) (by kernel_rfl) (by kernel_rfl) (fun _ _ _ h => h) (by kernel_rfl) hS (by intro v hv; have q := (hv.cell (p := ⟨w.heap.size, 1, none⟩) (by have := HZ.out _ HBC.out; show w.heap.size < _; omega)).trans p1; go_simp) ?_
      refine h_one 3 rfl (by kernel_rfl) (by kernel_rfl) (fun K hK => ?_)
      go_simp
      refine (HK.out _).mono ?_
      rintro e w10 ⟨rfl, hb⟩
      have hS2 : Below wr.heap.size wr w10 := hS.trans (hb.mono hS.size)
      refine hK _ _ hS2 ?_
      clear hK K hb
      refine h_one 8 rfl (by kernel_rfl) (by kernel_rfl) (fun K hK => ?_)
      go_simp
      refine (doctext_any 3 (by omega) LT nT cX T t (by omega) HINT.out (by omega) w10 (((Reads.of_own HTT.out).below hS2).more hS2.size)).mono ?_
      rintro e w11 ⟨rfl, hb⟩
      rw [← HNME.out]
      have hS3 : Below wr.heap.size wr w11 := hS2.trans (hb.mono hS2.size)
      refine hK _ _ hS3 ?_
      clear hK K hb
      refine h_take 9 (.string (tx s1)) rfl (by kernel_rfl) (by kernel_rfl) (by kernel_rfl) (fun _ _ _ h => h) (by kernel_rfl) hS3 (by intro v hv; go_simp) ?_
      refine h_take 10 (.string (tx s1)) rfl (by kernel_rfl) (by kernel_rfl) (by kernel_rfl) (fun _ _ _ h => h) (by kernel_rfl) hS3 (fun _ _ => by kernel_rfl) ?_
      refine wpAnyH_done (by kernel_rfl) ?_ _
      go_simp
      clear hS hS2 HBC
      have HB21 := Lib.hid (HBr.out.trans (hS3.mono (HZ.out _ HBr.out)))
      have HTT21 := Lib.hid (own_below HTT.out hS3)
      have HOO21 := Lib.hid (own_below HOO.out hS3)
      clear hS3
      clear p0 p1 p2 p3 p4 p5 p6
      have hbx := HBX.out w11 HB21.out
      have p0 := at_cell (i := 0) hbx rfl
      have p1 := at_cell (i := 1) hbx rfl
      have p2 := at_cell (i := 2) hbx rfl
      have p3 := at_cell (i := 3) hbx rfl
      have p4 := at_cell (i := 4) hbx rfl
      have p5 := at_cell (i := 5) hbx rfl
      have p6 := at_cell (i := 6) hbx rfl
      clear hbx
      obtain ⟨s2, hs2⟩ : ∃ s2, s2 = s1 ++ bu := ⟨_, rfl⟩
      have ls2 : s2.length ≤ 200 := by rw [hs2, List.length_append]; omega
      have as2 := fun W : World => add_tx (P := Try.prog) W s1 bu (by omega)
      rw [← hs2] at as2
      have Hs2 := Lib.hid hs2
      clear hs2
      obtain ⟨s3, hs3⟩ : ∃ s3, s3 = s2 ++ bn := ⟨_, rfl⟩
      have ls3 : s3.length ≤ 300 := by rw [hs3, List.length_append]; omega
      have as3 := fun W : World => add_tx (P := Try.prog) W s2 bn (by omega)
      rw [← hs3] at as3
      have Hs3 := Lib.hid hs3
      clear hs3
      have HBC := HB21
      go_wp2_with fail
      refine wp_region_held (S := fun W => Below w11.heap.size w11 W) (by kernel_rfl) ?_
      have hS : Below w11.heap.size w11 w11.drew := (Below.refl _ _).drew
      refine h_take 0 (.string (tx s1)) rfl (by kernel_rfl) (by kernel_rfl) (by kernel_rfl) (fun _ _ _ h => h) (by kernel_rfl) hS (fun _ _ => by kernel_rfl) ?_
      refine h_take 1 (.pointer (some ⟨w.heap.size, 2, none⟩)) rfl (by kernel_rfl) (by kernel_rfl) (by kernel_rfl) (fun _ _ _ h => h) (by kernel_rfl) hS (fun _ _ => by kernel_rfl) ?_
      refine h_take 2 (.int .u64 u) rfl (by kernel_rfl) (by kernel_rfl) (by kernel_rfl) (fun _ _ _ h => h) (by kernel_rfl) hS (by intro v hv; have q := (hv.cell (p := ⟨w.heap.size, 2, none⟩) (by have := HZ.out _ HBC.out; show w.heap.size < _; omega)).trans p2; go_simp) ?_
      refine h_take 5 (.pointer (some ⟨w.heap.size, 3, none⟩)) rfl (by kernel_rfl) (by kernel_rfl) (by kernel_rfl) (fun _ _ _ h => h) (by kernel_rfl) hS (fun _ _ => by kernel_rfl) ?_
      refine h_take 6 (.slice A n c) rfl (by kernel_rfl) (by kernel_rfl) (by kernel_rfl) (fun _ _ _ h => h) (by kernel_rfl) hS (by intro v hv; have q := (hv.cell (p := ⟨w.heap.size, 3, none⟩) (by have := HZ.out _ HBC.out; show w.heap.size < _; omega)).trans p3; go_simp) ?_
      refine h_take 7 (.int .i64 (n : Int)) rfl (by kernel_rfl) (by kernel_rfl) (by kernel_rfl) (fun _ _ _ h => h) (by kernel_rfl) hS (by intro v hv; go_simp) ?_
      refine h_take 8 (.int .u64 (n : Int)) rfl (by kernel_rfl) (by kernel_rfl) (by kernel_rfl) (fun _ _ _ h => h) (by kernel_rfl) hS (by intro v hv; go_simp; rw [IntKind.wrap_u64]; omega) ?_
      refine h_one 3 rfl (by kernel_rfl) (by kernel_rfl) (fun K hK => ?_)
      go_simp
      refine (HU.out _).mono ?_
      rintro e w12 ⟨rfl, hb⟩
      have hS2 : Below w11.heap.size w11 w12 := hS.trans (hb.mono hS.size)
      refine hK _ _ hS2 ?_
      clear hK K hb
      refine h_take 4 (.string (tx s2)) rfl (by kernel_rfl) (by kernel_rfl) (by kernel_rfl) (fun _ _ _ h => h) (by kernel_rfl) hS2 (by intro v hv; go_simp) ?_
      refine h_one 9 rfl (by kernel_rfl) (by kernel_rfl) (fun K hK => ?_)
      go_simp
      refine (HN.out _).mono ?_
      rintro e w13 ⟨rfl, hb⟩
      have hS3 : Below w11.heap.size w11 w13 := hS2.trans (hb.mono hS2.size)
      refine hK _ _ hS3 ?_
      clear hK K hb
      refine h_take 10 (.string (tx s3)) rfl (by kernel_rfl) (by kernel_rfl) (by kernel_rfl) (fun _ _ _ h => h) (by kernel_rfl) hS3 (by intro v hv; go_simp) ?_
      refine h_take 11 (.string (tx s3)) rfl (by kernel_rfl) (by kernel_rfl) (by kernel_rfl) (fun _ _ _ h => h) (by kernel_rfl) hS3 (fun _ _ => by kernel_rfl) ?_
      refine wpAnyH_done (by kernel_rfl) ?_ _
      go_simp
      clear hS hS2 HBC as1 as2 as3
      have HB22 := Lib.hid (HB21.out.trans (hS3.mono (HZ.out _ HB21.out)))
      have HTT22 := Lib.hid (own_below HTT21.out hS3)
      have HOO22 := Lib.hid (own_below HOO21.out hS3)
      clear hS3
      clear p0 p1 p2 p3 p4 p5 p6
      have hbx := HBX.out w13 HB22.out
      have p0 := at_cell (i := 0) hbx rfl
      have p1 := at_cell (i := 1) hbx rfl
      have p2 := at_cell (i := 2) hbx rfl
      have p3 := at_cell (i := 3) hbx rfl
      have p4 := at_cell (i := 4) hbx rfl
      have p5 := at_cell (i := 5) hbx rfl
      have p6 := at_cell (i := 6) hbx rfl
      clear hbx
      clear p0 p1 p2 p3 p4 p5 p6
      have H6 : Hid (DqRel 3 T s3 l w13 (.string (tx s3)) (.int .i64 0) w13) := ⟨0, by omega, rfl, by simp, Below.refl _ _⟩
      have HLN := hln2
      go_wp2
      go_loopw [12, 13] (fun v12 v13 wr => DqRel 3 T s3 l w13 v12 v13 wr) (fun _ v13 _ => n - (intOf v13).toNat)
      case atStart => exact H6.out
      case round =>
        obtain ⟨j, hj, rfl, rfl, hbr⟩ := hrel
        clear H6
        rw [HLN.out] at hj
        have HBQ := Lib.hid (HB22.out.trans (hbr.mono (HZ.out _ HB22.out)))
        have HTQ := Lib.hid (own_below HTT22.out hbr)
        have HOQ := Lib.hid (own_below HOO22.out hbr)
        have HBRQ := Lib.hid hbr
        clear hbr
        have hfl := HFL.out j
        have hbx := HBX.out _ HBQ.out
        have p0 := at_cell (i := 0) hbx rfl
        have p1 := at_cell (i := 1) hbx rfl
        have p2 := at_cell (i := 2) hbx rfl
        have p3 := at_cell (i := 3) hbx rfl
        have p4 := at_cell (i := 4) hbx rfl
        have p5 := at_cell (i := 5) hbx rfl
        have p6 := at_cell (i := 6) hbx rfl
        clear hbx
        by_cases hlt : j < n
        · obtain ⟨x, hx⟩ : ∃ x, l[j]? = some x := ⟨_, List.getElem?_eq_getElem (by rw [HLN.out]; exact hlt)⟩
          have hmx := List.mem_of_getElem? hx
          obtain ⟨ad, rfl, _, hcx⟩ := (HRW.out _ HBQ.out).2 (by omega)
          obtain ⟨x0, x1, x2⟩ := dps_at l j x hx
          have k0 := hcx _ _ x0
          have k1 := hcx _ _ x1
          have k2 := hcx _ _ x2
          rw [add_one] at k1
          rw [add_two] at k2
          have hxn := HN4.out x hmx
          have hxd := HIND.out x hmx
          have hxh := HNU.out.2.2.2 x hmx
          have hsn := dq_snoc (ver := 3) (T := T) (s := s3) hx
          obtain ⟨xn, xh, xo⟩ := x
          simp only at k0 k1 k2 hxn hxd hxh
          unfold rsv at k0
          obtain ⟨cs, hcs⟩ : ∃ cs, cs = s3 ++ (l.take j).flatMap (fDep 3 T) := ⟨_, rfl⟩
          have lcs : cs.length ≤ 2000 := by rw [hcs, List.length_append]; omega
          rw [← hcs] at hsn ⊢
          obtain ⟨bh, hbh⟩ : ∃ bh, bh = vb xh.toNat := ⟨_, rfl⟩
          have lbh : bh.length ≤ 10 := by rw [hbh]; exact vb_len _ (num_nat hxh).2
          have HH := Lib.hid (fun W => refput_any xh.toNat (num_nat hxh).2 W)
          rw [← hbh, ← (num_nat hxh).1] at HH
          have HBXD := Lib.hid (one_new wr (.cells #[.string (tx xn), .int .u64 xh, .bool xo] 56))
          have HBD := Lib.hid (HBQ.out.alloc (HZ.out _ HBQ.out) (.cells #[.string (tx xn), .int .u64 xh, .bool xo] 56))
          have HBRD := Lib.hid (HBRQ.out.alloc HBRQ.out.size (.cells #[.string (tx xn), .int .u64 xh, .bool xo] 56))
          have HTD := Lib.hid (World.ownsRow.alloc HTQ.out (.cells #[.string (tx xn), .int .u64 xh, .bool xo] 56))
          have d0 := at_cell (i := 0) HBXD.out rfl
          have d1 := at_cell (i := 1) HBXD.out rfl
          have d2 := at_cell (i := 2) HBXD.out rfl
          have hi0 : (0 : Int) ≤ (j : Int) := by omega
          have hi1 : (j : Int) < (n : Int) := by omega
          clear hx hmx hcx x0 x1 x2 hfl hcs
          have hxin := hxd.resolve_left (by omega)
          have htn := tnum_lt hxin
          obtain ⟨kk, hkk⟩ : ∃ kk, kk = 2 * tnum T xn + if xo then 1 else 0 := ⟨_, rfl⟩
          have hkk2 : kk ≤ 2 * tnum T xn + 1 := by rw [hkk]; split <;> omega
          obtain ⟨dn, hdn⟩ : ∃ dn, dn = vb kk := ⟨_, rfl⟩
          have hnb : dn.length ≤ 10 := by rw [hdn]; exact vb_len _ (by unfold top; omega)
          have H1 := Lib.hid (fun W => refput_any kk (by unfold top; omega) W)
          rw [← hdn] at H1
          have hse : s3 ++ (l.take (j + 1)).flatMap (fDep 3 T) = (cs ++ dn) ++ bh := by rw [hsn, hdn, hbh, hkk]; unfold fDep depB; rw [if_neg (by omega)]; simp
          obtain ⟨c1, hc1⟩ : ∃ c1, c1 = cs ++ dn := ⟨_, rfl⟩
          obtain ⟨c2, hc2⟩ : ∃ c2, c2 = c1 ++ bh := ⟨_, rfl⟩
          have lc1 : c1.length ≤ 3000 := by rw [hc1, List.length_append]; omega
          have ac1 := fun W : World => add_tx (P := Try.prog) W cs dn (by omega)
          have ac2 := fun W : World => add_tx (P := Try.prog) W c1 bh (by omega)
          rw [← hc1] at ac1 hse
          rw [← hc2] at ac2 hse
          have HSE := Lib.hid hse
          have hpx := place_any LT nT cX T xn (by omega) _ (Reads.of_own HTD.out)
          rw [tplace_in hxin] at hpx
          unfold tsv at hpx
          have HPX := Lib.hid hpx
          obtain ⟨tn, htne⟩ : ∃ tn, tn = tnum T xn := ⟨_, rfl⟩
          rw [← htne] at HPX htn hkk hkk2
          have htn2 : tn ≤ 200000 := by omega
          clear hse hsn hdn hc1 hc2 hbh hxd hxh hxin hpx htne
          cases xo with
          | true =>
            obtain rfl : kk = 2 * tn + 1 := by rw [hkk]; rfl
            have hkc : (((2 * tn + 1 : Nat)) : Int) = 2 * (tn : Int) + 1 := by omega
            rw [hkc] at H1
            clear hkk hkc hkk2
            go_wp2_with fail
            refine HPX.out.mono ?_
            rintro e w14 ⟨rfl, rfl⟩
            go_wp2_with fail
            refine (H1.out _).mono ?_
            rintro e w15 ⟨rfl, hb⟩
            have hd14 := (hb.block wr.heap.size (by simp)).trans HBXD.out
            have e1 := at_cell (i := 1) hd14 rfl
            have HB14 := Lib.hid (HBRD.out.trans (hb.mono HBRD.out.size))
            clear hd14 hb d0 d1 d2
            go_wp2_with fail
            refine (HH.out _).mono ?_
            rintro e w16 ⟨rfl, hb⟩
            have HB15 := Lib.hid (HB14.out.trans (hb.mono HB14.out.size))
            clear hb
            go_wp2
            exact ⟨⟨j + 1, by rw [HLN.out]; omega, by go_num, by rw [HSE.out], HB15.out⟩, by simp [intOf]; omega⟩
          | false =>
            obtain rfl : kk = 2 * tn := by rw [hkk]; rfl
            have hkc : (((2 * tn : Nat)) : Int) = 2 * (tn : Int) := by omega
            rw [hkc] at H1
            clear hkk hkc hkk2
            go_wp2_with fail
            refine HPX.out.mono ?_
            rintro e w14 ⟨rfl, rfl⟩
            go_wp2_with fail
            refine (H1.out _).mono ?_
            rintro e w15 ⟨rfl, hb⟩
            have hd14 := (hb.block wr.heap.size (by simp)).trans HBXD.out
            have e1 := at_cell (i := 1) hd14 rfl
            have HB14 := Lib.hid (HBRD.out.trans (hb.mono HBRD.out.size))
            clear hd14 hb d0 d1 d2
            go_wp2_with fail
            refine (HH.out _).mono ?_
            rintro e w16 ⟨rfl, hb⟩
            have HB15 := Lib.hid (HB14.out.trans (hb.mono HB14.out.size))
            clear hb
            go_wp2
            exact ⟨⟨j + 1, by rw [HLN.out]; omega, by go_num, by rw [HSE.out], HB15.out⟩, by simp [intOf]; omega⟩
        · obtain rfl : j = n := by omega
          rw [List.take_of_length_le (by rw [HLN.out]; exact Nat.le_refl _)]
          have hfl2 := HFL.out l.length
          rw [List.take_length] at hfl2
          rw [HLN.out] at hfl2
          obtain ⟨fl, hfle⟩ : ∃ fl, fl = l.flatMap (fDep 3 T) := ⟨_, rfl⟩
          rw [← hfle] at hfl2
          obtain ⟨s4, hs4⟩ : ∃ s4, s4 = s3 ++ fl := ⟨_, rfl⟩
          have ls4 : s4.length ≤ 2000 := by rw [hs4, List.length_append]; omega
          rw [← hfle, ← hs4]
          have Hs4 := Lib.hid hs4
          have HFLE := Lib.hid hfle
          clear hfl hs4 hfle hfl2
          obtain ⟨s5, hs5⟩ : ∃ s5, s5 = s4 ++ bo := ⟨_, rfl⟩
          have ls5 : s5.length ≤ 3500 := by rw [hs5, List.length_append]; omega
          have as5 := fun W : World => add_tx (P := Try.prog) W s4 bo (by omega)
          rw [← hs5] at as5
          have Hs5 := Lib.hid hs5
          clear hs5
          go_wp2_with fail
          refine (HO.out _).mono ?_
          rintro e wq ⟨rfl, hb⟩
          obtain ⟨ws5, rfl⟩ : ∃ ws5, ws5 = wq := ⟨_, rfl⟩
          have HB61 := Lib.hid (HBQ.out.trans (hb.mono (HZ.out _ HBQ.out)))
          have HTT61 := Lib.hid (own_below HTQ.out hb)
          have HOO61 := Lib.hid (own_below HOQ.out hb)
          clear hb
          clear p0 p1 p2 p3 p4 p5 p6
          have hbx := HBX.out ws5 HB61.out
          have p0 := at_cell (i := 0) hbx rfl
          have p1 := at_cell (i := 1) hbx rfl
          have p2 := at_cell (i := 2) hbx rfl
          have p3 := at_cell (i := 3) hbx rfl
          have p4 := at_cell (i := 4) hbx rfl
          have p5 := at_cell (i := 5) hbx rfl
          have p6 := at_cell (i := 6) hbx rfl
          clear hbx
          obtain ⟨s6, hs6⟩ : ∃ s6, s6 = s5 ++ bm := ⟨_, rfl⟩
          have ls6 : s6.length ≤ 3600 := by rw [hs6, List.length_append]; omega
          have as6 := fun W : World => add_tx (P := Try.prog) W s5 bm (by omega)
          rw [← hs6] at as6
          have Hs6 := Lib.hid hs6
          clear hs6
          go_wp2_with fail
          refine (HM.out _).mono ?_
          rintro e wq ⟨rfl, hb⟩
          obtain ⟨ws6, rfl⟩ : ∃ ws6, ws6 = wq := ⟨_, rfl⟩
          have HB62 := Lib.hid (HB61.out.trans (hb.mono (HZ.out _ HB61.out)))
          have HTT62 := Lib.hid (own_below HTT61.out hb)
          have HOO62 := Lib.hid (own_below HOO61.out hb)
          clear hb
          clear p0 p1 p2 p3 p4 p5 p6
          have hbx := HBX.out ws6 HB62.out
          have p0 := at_cell (i := 0) hbx rfl
          have p1 := at_cell (i := 1) hbx rfl
          have p2 := at_cell (i := 2) hbx rfl
          have p3 := at_cell (i := 3) hbx rfl
          have p4 := at_cell (i := 4) hbx rfl
          have p5 := at_cell (i := 5) hbx rfl
          have p6 := at_cell (i := 6) hbx rfl
          clear hbx
          have t1 : (tx g).toList.isEmpty = false := by rw [tx_toList]; cases g with
            | nil => exact absurd rfl HG0.out
            | cons a b => rfl
          have t2 : (!(tx g).toList.isEmpty) = true := by rw [t1]; rfl
          have hpl2 := place_any LT nT cX T g (by omega) ws6 (Reads.of_own HTT62.out)
          rw [tplace_in HING.out] at hpl2
          unfold tsv at hpl2
          have HP2 := Lib.hid hpl2
          obtain ⟨tn, htn⟩ : ∃ tn, tn = tnum T g := ⟨_, rfl⟩
          have htn2 : tn ≤ 1000000 := by have := tnum_lt HING.out; omega
          rw [← htn] at HP2 HGG
          clear hpl2 htn
          obtain ⟨s7, hs7⟩ : ∃ s7, s7 = s6 ++ bg := ⟨_, rfl⟩
          have ls7 : s7.length ≤ 4000 := by rw [hs7, List.length_append]; omega
          have as7 := fun W : World => add_tx (P := Try.prog) W s6 bg (by omega)
          rw [← hs7] at as7
          have Hs7 := Lib.hid hs7
          clear hs7
          go_wp2_with fail
          refine HP2.out.mono ?_
          rintro e wp ⟨rfl, rfl⟩
          go_wp2_with fail
          refine (HGG.out _).mono ?_
          rintro e wq ⟨rfl, hb⟩
          have HB63 := Lib.hid (HB62.out.trans (hb.mono (HZ.out _ HB62.out)))
          have HTT63 := Lib.hid (own_below HTT62.out hb)
          have HOO63 := Lib.hid (own_below HOO62.out hb)
          clear hb
          clear p0 p1 p2 p3 p4 p5 p6
          have hbx := HBX.out wq HB63.out
          have p0 := at_cell (i := 0) hbx rfl
          have p1 := at_cell (i := 1) hbx rfl
          have p2 := at_cell (i := 2) hbx rfl
          have p3 := at_cell (i := 3) hbx rfl
          have p4 := at_cell (i := 4) hbx rfl
          have p5 := at_cell (i := 5) hbx rfl
          have p6 := at_cell (i := 6) hbx rfl
          clear hbx
          obtain ⟨nO1, hO1⟩ : ∃ nO1, nO1 = nO + 1 := ⟨_, rfl⟩
          clear hO1
          have HO2 := Lib.hid (World.ownsRow.alloc HOO63.out (.cells #[.string (tx s7)] 9))
          have HT2 := Lib.hid (World.ownsRow.alloc HTT63.out (.cells #[.string (tx s7)] 9))
          have HR2 := Lib.hid (reads_one_row wq 9 (.string (tx s7)))
          have HB2 := Lib.hid (HB63.out.alloc (HZ.out _ HB63.out) (.cells #[.string (tx s7)] 9))
          go_wp2_with (at_builtin; refine wpList_append_told _ rfl (.tmp 164) (.tmp 166) 22 rfl (w.heap.size + 1) 9 i0 _ 1 16 Try.underlying22 ii0 iz0 iz1 iz2 rfl (by decide) _ nO _ rfl HO2.out (some ⟨wq.heap.size, 0, none⟩) 1 1 (wq.heap.size + 1) [.string (tx s7)] rfl (by simp) HR2.out (fun u hu => by obtain rfl := List.mem_singleton.1 hu; rfl) (by unfold maxLen; omega) (by omega) (HZ.out _ HB2.out) ?_; intro v7 w7 ho7 hg7 hv7; have hg7b : (wq.alloc (.cells #[.string (tx s7)] 9)).grownBy w7 (Value.slice LO nO cO).ownBlock := hg7; have HO7 := Lib.hid ho7; have HB7 := Lib.hid (HB2.out.grown hg7b (HZ.out _ HB2.out) (own_block HO2.out)); have HT7 := Lib.hid (own_kept HT2.out HAP.out hg7b); clear ho7 hg7 hv7 hg7b)
          go_ret3
          refine ⟨_, _, rfl, ?_, ?_, HW0.out.trans (HB7.out.mono (by omega))⟩
          · rw [hpl.out, hfre.out, hfin.out, ← Hs1.out, ← Hs2.out, ← Hs3.out, ← HFLE.out, ← Hs4.out, ← Hs5.out, ← Hs6.out, ← Hs7.out]
            unfold Own
            rw [List.length_append, List.map_append, ← HNO.out]
            exact own_less HO7.out (by omega)
          · unfold Own
            rw [← HNT.out]
            exact HT7.out

end Go.Proofs.Ytfidfhajnobonaa

/- The document's Put, and schema.Put, of a record that may not be; of any. -/
namespace Go.Proofs.Ytfidfhajnobonaa
open Go.RowKit

/-- Why there is none. -/
def whyNo (ver : Int) : Int := if 1 ≤ ver ∧ ver ≤ 3 then 1 else 11

theorem put_why (bt : Nat) (ver : Int) (r : Rc) (A : Option Addr) (n c : Nat) (l : List Dp) (hm : ¬ MayP ver r l) (hn : n ≤ 1000) (hfit : Fits r l) (w : World) (hr : Reads w w.heap.size 3 A n (dps l)) :
    Calls Try.prog 11 #[.int .i64 ver, .pointer (some ⟨bt, 0, none⟩), .agg #[.int .i64 r.kind, .string (tx r.target), .int .u64 r.rule, .slice A n c, .int .u64 r.out, .int .u64 r.time, .string (tx r.tag)]] w fun e w' => e = .returned (.tuple #[.slice none 0 0, .int .i64 (whyNo ver)]) ∧ Below w.heap.size w w' := by
  unfold whyNo
  by_cases hv : 1 ≤ ver ∧ ver ≤ 3
  · rw [if_pos hv]
    refine put_arg ver hv bt n c r A w (Lib.hid fun W hb => ?_)
    refine (may_any ver r A n c l hn hfit W ((hr.below hb).more hb.size)).mono fun e w' ⟨⟨q, h1, h2⟩, h3⟩ => ⟨?_, h3⟩
    cases q with
    | false => exact h2
    | true => exact absurd (h1.1 rfl) hm
  · rw [if_neg hv]
    exact put_way ver hv (some ⟨bt, 0, none⟩) n c r A w

set_option maxRecDepth 100000 in
set_option maxHeartbeats 1000000 in
theorem rp_no (ver : Int) (k : Int) (t g : List UInt8) (u o m : Int) (A : Option Addr) (n c : Nat) (l : List Dp) (hm : ¬ MayP ver ⟨k, t, u, o, m, g⟩ l) (hn : n ≤ 1000) (hfit : Fits ⟨k, t, u, o, m, g⟩ l) (L : Option Addr) (nT cT : Nat) (w : World) (hr : Reads w w.heap.size 3 A n (dps l)) :
    Calls Try.prog 12 #[.int .i64 ver, .slice L nT cT, .agg #[.int .i64 k, .string (tx t), .int .u64 u, .slice A n c, .int .u64 o, .int .u64 m, .string (tx g)]] w fun e w' => ∃ v1, e = .returned (.tuple #[v1, .slice L nT cT, .int .i64 (whyNo ver)]) ∧ Own w' w.heap.size v1 [] ∧ Below w.heap.size w w' := by
  have hb0 := (Below.refl w.heap.size w).alloc (Nat.le_refl _) (.cells #[.int .i64 k, .string (tx t), .int .u64 u, .slice A n c, .int .u64 o, .int .u64 m, .string (tx g)] 26)
  have hb1 := hb0.alloc (by simp) (.cells #[] 9)
  have ho := own_less (own_empty (w.alloc (.cells #[.int .i64 k, .string (tx t), .int .u64 u, .slice A n c, .int .u64 o, .int .u64 m, .string (tx g)] 26)) 9) (base' := w.heap.size) (by simp)
  have hz : (w.alloc (.cells #[.int .i64 k, .string (tx t), .int .u64 u, .slice A n c, .int .u64 o, .int .u64 m, .string (tx g)] 26)).heap.size = w.heap.size + 1 := by simp
  rw [hz] at ho
  have hbx := (Below.heap_alloc (w.alloc (.cells #[.int .i64 k, .string (tx t), .int .u64 u, .slice A n c, .int .u64 o, .int .u64 m, .string (tx g)] 26)) (.cells #[] 9) w.heap.size (by simp)).trans (one_new w (.cells #[.int .i64 k, .string (tx t), .int .u64 u, .slice A n c, .int .u64 o, .int .u64 m, .string (tx g)] 26))
  have q0 := at_cell (i := 0) hbx rfl
  have q1 := at_cell (i := 1) hbx rfl
  have q2 := at_cell (i := 2) hbx rfl
  have q3 := at_cell (i := 3) hbx rfl
  have q4 := at_cell (i := 4) hbx rfl
  have q5 := at_cell (i := 5) hbx rfl
  have q6 := at_cell (i := 6) hbx rfl
  have HB1 := Lib.hid hb1
  have HO := Lib.hid ho
  have HM := Lib.hid hm
  have HR := Lib.hid (fun W hb => rmay_any ver ⟨k, t, u, o, m, g⟩ A n c l hn hfit W ((hr.below hb).more hb.size))
  unfold rcv rsv at HR
  clear hb0 hb1 ho hz hbx hm hr hfit
  unfold whyNo
  by_cases hv : 1 ≤ ver ∧ ver ≤ 3
  · rw [if_pos hv]
    obtain ⟨hv1, hv3⟩ := hv
    have d1 : decide (ver < 1) = false := decide_eq_false (by omega)
    have d2 : decide (3 < ver) = false := decide_eq_false (by omega)
    go_enter Try.func12, Try.ntmps12
    go_wp2_with fail
    refine (HR.out _ HB1.out).mono ?_
    rintro e w4 ⟨he, hb⟩
    obtain rfl := he.no HM.out
    have HB4 := Lib.hid (HB1.out.trans (hb.mono HB1.out.size))
    have HO4 : Hid (Own w4 w.heap.size (.slice (some ⟨w.heap.size + 1, 0, none⟩) 0 0) []) := own_below HO.out hb
    clear he hb
    go_wp2
    go_ret3
    exact ⟨_, rfl, HO4.out, HB4.out⟩
  · rw [if_neg hv]
    have HO4 : Hid (Own ((w.alloc (.cells #[.int .i64 k, .string (tx t), .int .u64 u, .slice A n c, .int .u64 o, .int .u64 m, .string (tx g)] 26)).alloc (.cells #[] 9)) w.heap.size (.slice (some ⟨w.heap.size + 1, 0, none⟩) 0 0) []) := HO.out
    by_cases hv1 : ver < 1
    · have d1 : decide (ver < 1) = true := decide_eq_true hv1
      clear hv
      go_enter Try.func12, Try.ntmps12
      go_wp2
      go_ret3
      exact ⟨_, rfl, HO4.out, HB1.out⟩
    · have hv3 : 3 < ver := by omega
      have d1 : decide (ver < 1) = false := decide_eq_false (by omega)
      have d2 : decide (3 < ver) = true := decide_eq_true hv3
      clear hv
      go_enter Try.func12, Try.ntmps12
      go_wp2
      go_ret3
      exact ⟨_, rfl, HO4.out, HB1.out⟩

/-- Of a record that may be. -/
theorem rp_yes (ver : Int) (tl : List (List UInt8)) (r : Rc) (A : Option Addr) (n c : Nat) (l : List Dp) (hm : MayP ver r l) (hnu : Nums r l) (hfit : Fits r l) (tv : Value) (htl : tl.length ≤ 100000) (w : World) (B0 : Nat) (hB0 : B0 ≤ w.heap.size) (hT : Own w B0 tv tl) (hr : Reads w w.heap.size 3 A n (dps l)) :
    Calls Try.prog 12 #[.int .i64 ver, tv, .agg #[.int .i64 r.kind, .string (tx r.target), .int .u64 r.rule, .slice A n c, .int .u64 r.out, .int .u64 r.time, .string (tx r.tag)]] w fun e w' => ∃ v1 v2, e = .returned (.tuple #[v1, v2, .int .i64 0]) ∧ Own w' w.heap.size v1 (payL ver tl r l) ∧ Own w' B0 v2 (tabT ver tl r l) ∧ Below w.heap.size w w' := by
  obtain ⟨k, t, u, o, m, g⟩ := r
  have hv : ver = 1 ∨ ver = 2 ∨ ver = 3 := by have := hm.1; have := hm.2.1; omega
  have hk : k = 1 ∨ k = 2 := hm.2.2.2.imp (fun h => h.1) (fun h => h.1)
  rcases hv with rfl | rfl | rfl <;> rcases hk with rfl | rfl
  · exact rp11 tl t g u o m A n c l hm hnu hfit tv htl w B0 hT hr
  · exact rp12 tl t g u o m A n c l hm hnu hfit tv htl w B0 hT hr
  · exact rp21 tl t g u o m A n c l hm hnu hfit tv htl w B0 hB0 hT hr
  · exact rp22 tl t g u o m A n c l hm hnu hfit tv htl w B0 hB0 hT hr
  · by_cases hg : g = []
    · subst hg; exact rp31e tl t u o m A n c l hm hnu hfit tv htl w B0 hB0 hT hr
    · exact rp31n tl t g u o m hg A n c l hm hnu hfit tv htl w B0 hB0 hT hr
  · exact rp32 tl t g u o m A n c l hm hnu hfit tv htl w B0 hB0 hT hr

end Go.Proofs.Ytfidfhajnobonaa

/- SchemaPuts. -/
namespace Go.Proofs.Ytfidfhajnobonaa
open Go.RowKit

theorem pls_of_rows {w : World} {base : Nat} {S : Nat → Prop} {A : Option Addr} {c : Nat} {ps : List (List UInt8)} {vs : List Value} (h : RowsV w base S (.slice A ps.length c) ps vs) : Pls w w.heap.size A ps.length ps := by
  obtain ⟨h1, h2, h3, h4⟩ := h
  refine ⟨vs, Reads.of_own h1, rfl, fun i p hp => ?_⟩
  obtain ⟨v, h5, h6, h7⟩ := h4 i p hp
  obtain ⟨A', c', rfl, _⟩ := own_slice h6
  exact ⟨A', c', h5, Reads.of_own h6⟩
theorem own_one (w : World) (e : TypeId) (v : Value) : (w.alloc (.cells #[v] e)).ownsRow w.heap.size e 1 (.slice (some ⟨w.heap.size, 0, none⟩) 1 1) 1 [v] :=
  ⟨rfl, .inr ⟨w.heap.size, 1, #[v], rfl, Nat.le_refl _, by show (w.heap.push _)[w.heap.size]? = _; simp, Nat.le_refl _, by unfold maxLen; omega, rfl, rfl⟩⟩

set_option maxRecDepth 100000 in
set_option maxHeartbeats 4000000 in
theorem sputs_few (ver k u o m : Int) (t g : List UInt8) (A : Option Addr) (n c : Nat) (l : List Dp) (L : Option Addr) (nL cL : Nat) (ts : List (List UInt8)) (hn : n ≤ maxLen) (hfit : Fits ⟨k, t, u, o, m, g⟩ l) (hnL : nL ≤ maxLen) (hts : ∀ s ∈ ts, s.length ≤ maxLen) (w : World) (hr : Reads w w.heap.size 3 A n (dps l)) (hrL : Reads w w.heap.size 1 L nL (ts.map tsv)) (hf : ¬ fewP ts) :
    Calls Try.prog 3 #[.int .i64 ver, .slice L nL cL, .agg #[.int .i64 k, .string (tx t), .int .u64 u, .slice A n c, .int .u64 o, .int .u64 m, .string (tx g)]] w fun e w' => e = .returned (.bool true) ∧ Below w.heap.size w w' := by
  have hb0 := (Below.refl w.heap.size w).alloc (Nat.le_refl _) (.cells #[.int .i64 k, .string (tx t), .int .u64 u, .slice A n c, .int .u64 o, .int .u64 m, .string (tx g)] 26)
  have hbx := one_new w (.cells #[.int .i64 k, .string (tx t), .int .u64 u, .slice A n c, .int .u64 o, .int .u64 m, .string (tx g)] 26)
  have HBX := Lib.hid hbx
  have HB0 := Lib.hid hb0
  have HFEW := Lib.hid (fun W hb => few_any L nL cL ts hnL hts W ((hrL.below hb).more hb.size))
  have HGR := Lib.hid (fun W hb => great_says ⟨k, t, u, o, m, g⟩ A n c l W hn hfit.2.2 hfit.1 hfit.2.1 ((hr.below hb).more hb.size))
  unfold rcv rsv at HGR
  have p0 := at_cell (i := 0) hbx rfl
  have p1 := at_cell (i := 1) hbx rfl
  have p2 := at_cell (i := 2) hbx rfl
  have p3 := at_cell (i := 3) hbx rfl
  have p4 := at_cell (i := 4) hbx rfl
  have p5 := at_cell (i := 5) hbx rfl
  have p6 := at_cell (i := 6) hbx rfl
  have HF := Lib.hid hf
  clear hb0 hbx hf hr hrL hfit hts
  go_enter Try.func3, Try.ntmps3
  go_wp2_with fail
  refine (HFEW.out _ HB0.out).mono ?_
  rintro e w3 ⟨he, rfl⟩
  obtain rfl := he.no HF.out
  clear he
  go_wp2_with fail
  refine (sfixed_any _).mono ?_
  rintro e w4 ⟨rfl, hb⟩
  have HB4 := Lib.hid (HB0.out.trans (hb.mono HB0.out.size))
  clear hb
  go_wp2
  go_ret
  exact ⟨rfl, HB4.out⟩

set_option maxRecDepth 100000 in
set_option maxHeartbeats 4000000 in
theorem sputs_great (ver k u o m : Int) (t g : List UInt8) (A : Option Addr) (n c : Nat) (l : List Dp) (L : Option Addr) (nL cL : Nat) (ts : List (List UInt8)) (hn : n ≤ maxLen) (hfit : Fits ⟨k, t, u, o, m, g⟩ l) (hnL : nL ≤ maxLen) (hts : ∀ s ∈ ts, s.length ≤ maxLen) (w : World) (hr : Reads w w.heap.size 3 A n (dps l)) (hrL : Reads w w.heap.size 1 L nL (ts.map tsv)) (hf : fewP ts) (hs : ¬ small ⟨k, t, u, o, m, g⟩ l) :
    Calls Try.prog 3 #[.int .i64 ver, .slice L nL cL, .agg #[.int .i64 k, .string (tx t), .int .u64 u, .slice A n c, .int .u64 o, .int .u64 m, .string (tx g)]] w fun e w' => e = .returned (.bool true) ∧ Below w.heap.size w w' := by
  have hb0 := (Below.refl w.heap.size w).alloc (Nat.le_refl _) (.cells #[.int .i64 k, .string (tx t), .int .u64 u, .slice A n c, .int .u64 o, .int .u64 m, .string (tx g)] 26)
  have hbx := one_new w (.cells #[.int .i64 k, .string (tx t), .int .u64 u, .slice A n c, .int .u64 o, .int .u64 m, .string (tx g)] 26)
  have HBX := Lib.hid hbx
  have HB0 := Lib.hid hb0
  have HFEW := Lib.hid (fun W hb => few_any L nL cL ts hnL hts W ((hrL.below hb).more hb.size))
  have HGR := Lib.hid (fun W hb => great_says ⟨k, t, u, o, m, g⟩ A n c l W hn hfit.2.2 hfit.1 hfit.2.1 ((hr.below hb).more hb.size))
  unfold rcv rsv at HGR
  have p0 := at_cell (i := 0) hbx rfl
  have p1 := at_cell (i := 1) hbx rfl
  have p2 := at_cell (i := 2) hbx rfl
  have p3 := at_cell (i := 3) hbx rfl
  have p4 := at_cell (i := 4) hbx rfl
  have p5 := at_cell (i := 5) hbx rfl
  have p6 := at_cell (i := 6) hbx rfl
  have HF := Lib.hid hf
  have HS := Lib.hid hs
  clear hb0 hbx hf hs hr hrL hfit hts
  go_enter Try.func3, Try.ntmps3
  go_wp2_with fail
  refine (HFEW.out _ HB0.out).mono ?_
  rintro e w3 ⟨he, rfl⟩
  obtain rfl := he.yes HF.out
  clear he
  go_wp2_with fail
  refine (HGR.out _ HB0.out).mono ?_
  rintro e w3 ⟨he, hb⟩
  obtain rfl := he.yes HS.out
  have HB3 := Lib.hid (HB0.out.trans (hb.mono HB0.out.size))
  clear he hb
  go_wp2_with fail
  refine (sfixed_any _).mono ?_
  rintro e w4 ⟨rfl, hb⟩
  have HB4 := Lib.hid (HB3.out.trans (hb.mono HB3.out.size))
  clear hb
  go_wp2
  go_ret
  exact ⟨rfl, HB4.out⟩

set_option maxRecDepth 100000 in
set_option maxHeartbeats 4000000 in
theorem sputs_no (ver k u o m : Int) (t g : List UInt8) (A : Option Addr) (n c : Nat) (l : List Dp) (L : Option Addr) (nL cL : Nat) (ts : List (List UInt8)) (hn : n ≤ maxLen) (hnu : Nums ⟨k, t, u, o, m, g⟩ l) (hfit : Fits ⟨k, t, u, o, m, g⟩ l) (hnL : nL ≤ maxLen) (hts : ∀ s ∈ ts, s.length ≤ maxLen) (w : World) (hr : Reads w w.heap.size 3 A n (dps l)) (hrL : Reads w w.heap.size 1 L nL (ts.map tsv)) (hf : fewP ts) (hs : small ⟨k, t, u, o, m, g⟩ l) (hm : ¬ MayP ver ⟨k, t, u, o, m, g⟩ l) :
    Calls Try.prog 3 #[.int .i64 ver, .slice L nL cL, .agg #[.int .i64 k, .string (tx t), .int .u64 u, .slice A n c, .int .u64 o, .int .u64 m, .string (tx g)]] w fun e w' => e = .returned (.bool true) ∧ Below w.heap.size w w' := by
  have hb0 := (Below.refl w.heap.size w).alloc (Nat.le_refl _) (.cells #[.int .i64 k, .string (tx t), .int .u64 u, .slice A n c, .int .u64 o, .int .u64 m, .string (tx g)] 26)
  have hbx := one_new w (.cells #[.int .i64 k, .string (tx t), .int .u64 u, .slice A n c, .int .u64 o, .int .u64 m, .string (tx g)] 26)
  have HBX := Lib.hid hbx
  have HB0 := Lib.hid hb0
  have HFEW := Lib.hid (fun W hb => few_any L nL cL ts hnL hts W ((hrL.below hb).more hb.size))
  have HGR := Lib.hid (fun W hb => great_says ⟨k, t, u, o, m, g⟩ A n c l W hn hfit.2.2 hfit.1 hfit.2.1 ((hr.below hb).more hb.size))
  unfold rcv rsv at HGR
  have p0 := at_cell (i := 0) hbx rfl
  have p1 := at_cell (i := 1) hbx rfl
  have p2 := at_cell (i := 2) hbx rfl
  have p3 := at_cell (i := 3) hbx rfl
  have p4 := at_cell (i := 4) hbx rfl
  have p5 := at_cell (i := 5) hbx rfl
  have p6 := at_cell (i := 6) hbx rfl
  have HF := Lib.hid hf
  have HS := Lib.hid hs
  have hts2 : ∀ s ∈ ts, s.length ≤ 3000 := hf.1
  have hln : ts.length = nL := by have := hrL.1; simpa using this
  have hn40 : nL ≤ 40 := by have := hf.2; omega
  have hn60 : n ≤ 60 := by have h1 := hs.2.1; have h2 := hr.1; rw [dps_len] at h2; omega
  have HNEW := Lib.hid (fun W (hb : Below w.heap.size w W) => New_any L nL cL W.heap.size ts (by omega) hts W (Nat.le_refl _) ((hrL.below hb).more hb.size))
  have HRNEW := Lib.hid (fun W (hb : Below w.heap.size w W) => rnew_any L nL cL ts (by omega) W ((hrL.below hb).more hb.size))
  have HR := Lib.hid hr
  have HFIT := Lib.hid hfit
  have HNU := Lib.hid hnu
  have HMAY := Lib.hid hm
  obtain ⟨tl, htl⟩ : ∃ tl, tl = tnew ts := ⟨_, rfl⟩
  have htl40 : tl.length ≤ 40 := by rw [htl]; have := tnew_len ts; omega
  rw [← htl] at HNEW HRNEW
  clear hb0 hbx hf hs hr hrL hfit hnu hm hts hts2 hln htl
  go_enter Try.func3, Try.ntmps3
  go_wp2_with fail
  refine (HFEW.out _ HB0.out).mono ?_
  rintro e w3 ⟨he, rfl⟩
  obtain rfl := he.yes HF.out
  clear he
  go_wp2_with fail
  refine (HGR.out _ HB0.out).mono ?_
  rintro e w3 ⟨he, hb⟩
  obtain rfl := he.no (fun h => h HS.out)
  have HB3 := Lib.hid (HB0.out.trans (hb.mono HB0.out.size))
  have hbx := (hb.block w.heap.size (by simp)).trans HBX.out
  have HX3 := Lib.hid hbx
  clear he hb hbx
  clear p0 p1 p2 p3 p4 p5 p6
  go_wp2_with fail
  refine (HNEW.out _ HB3.out).mono ?_
  rintro e w4 ⟨rfl, ht4, hb⟩
  have HB4 := Lib.hid (HB3.out.trans (hb.mono HB3.out.size))
  have HX4 := Lib.hid ((hb.block w.heap.size (Array.getElem?_eq_some_iff.1 HX3.out).1).trans HX3.out)
  have HS34 : Hid (w3.heap.size ≤ w4.heap.size) := hb.size
  have HT4 : Hid (Tab w4 (fun k => w3.heap.size ≤ k ∧ k < w4.heap.size) w3.heap.size nL tl) := ht4.wide (fun k h1 h2 => ⟨h1, h2⟩)
  clear ht4 hb
  go_wp2_with fail
  refine (HNEW.out _ HB4.out).mono ?_
  rintro e w5 ⟨rfl, ht5, hb⟩
  have HB5 := Lib.hid (HB4.out.trans (hb.mono HB4.out.size))
  have HX5 := Lib.hid ((hb.block w.heap.size (Array.getElem?_eq_some_iff.1 HX4.out).1).trans HX4.out)
  have HS45 : Hid (w4.heap.size ≤ w5.heap.size) := hb.size
  have HT5 : Hid (Tab w5 (fun k => w3.heap.size ≤ k ∧ k < w4.heap.size) w3.heap.size nL tl) := HT4.out.keep (fun k _ hk => hb.block k hk)
  have HU5 : Hid (Tab w5 (fun k => w4.heap.size ≤ k ∧ k < w5.heap.size) w4.heap.size nL tl) := ht5.wide (fun k h1 h2 => ⟨h1, h2⟩)
  clear ht5 hb
  have hxx := HX5.out
  have p0 := at_cell (i := 0) hxx rfl
  have p1 := at_cell (i := 1) hxx rfl
  have p2 := at_cell (i := 2) hxx rfl
  have p3 := at_cell (i := 3) hxx rfl
  have p4 := at_cell (i := 4) hxx rfl
  have p5 := at_cell (i := 5) hxx rfl
  have p6 := at_cell (i := 6) hxx rfl
  clear hxx
  obtain ⟨bt, hbt⟩ : ∃ bt, bt = w3.heap.size := ⟨_, rfl⟩
  obtain ⟨bu, hbu⟩ : ∃ bu, bu = w4.heap.size := ⟨_, rfl⟩
  obtain ⟨S, hSe⟩ : ∃ S : Nat → Prop, S = fun k => w3.heap.size ≤ k ∧ k < w4.heap.size := ⟨_, rfl⟩
  obtain ⟨U, hUe⟩ : ∃ U : Nat → Prop, U = fun k => w4.heap.size ≤ k ∧ k < w5.heap.size := ⟨_, rfl⟩
  have HSL : Hid (∀ k, S k → w.heap.size < k ∧ k < w5.heap.size) := fun k hk => by
    rw [hSe] at hk
    have h1 := (Array.getElem?_eq_some_iff.1 HX3.out).1
    have h2 := HS45.out
    omega
  have HUL : Hid (∀ k, U k → w.heap.size < k ∧ k < w5.heap.size) := fun k hk => by
    rw [hUe] at hk
    have h1 := (Array.getElem?_eq_some_iff.1 HX4.out).1
    omega
  have HDIS : Hid (∀ k, S k → ¬ U k) := fun k h1 h2 => by
    rw [hSe] at h1
    rw [hUe] at h2
    omega
  rw [← hSe, ← hbt] at HT5
  rw [← hUe, ← hbu] at HU5
  rw [← hbt, ← hbu]
  have HRW : Hid (∀ W, Below w.heap.size w W → Reads W W.heap.size 3 A n (dps l)) := fun W h => (HR.out.below h).more h.size
  clear hbt hbu hSe hUe HS34 HS45 HX3 HX4 HT4 HBX HB0 HB3 HB4 HFEW HGR HNEW HF HS
  go_wp2_with fail
  refine (put_why bt ver ⟨k, t, u, o, m, g⟩ A n c l HMAY.out (by omega) HFIT.out w5 (HRW.out _ HB5.out)).mono ?_
  rintro e w6 ⟨rfl, hb⟩
  have HB6 := Lib.hid (HB5.out.trans (hb.mono HB5.out.size))
  have HX6 := Lib.hid ((hb.block w.heap.size (Array.getElem?_eq_some_iff.1 HX5.out).1).trans HX5.out)
  have HT6 : Hid (Tab w6 S bt nL tl) := HT5.out.keep (fun k _ hk => hb.block k hk)
  clear hb
  clear p0 p1 p2 p3 p4 p5 p6
  have hxx := HX6.out
  have p0 := at_cell (i := 0) hxx rfl
  have p1 := at_cell (i := 1) hxx rfl
  have p2 := at_cell (i := 2) hxx rfl
  have p3 := at_cell (i := 3) hxx rfl
  have p4 := at_cell (i := 4) hxx rfl
  have p5 := at_cell (i := 5) hxx rfl
  have p6 := at_cell (i := 6) hxx rfl
  clear hxx
  go_wp2_with fail
  refine wp_region_held (S := fun W => Below w6.heap.size w6 W) (by kernel_rfl) ?_
  have hS : Below w6.heap.size w6 w6.drew := (Below.refl _ _).drew
  refine h_take 0 (.int .i64 ver) rfl (by kernel_rfl) (by kernel_rfl) (by kernel_rfl) (fun _ _ _ h => h) (by kernel_rfl) hS (fun _ _ => by kernel_rfl) ?_
  refine h_take 1 (.slice L nL cL) rfl (by kernel_rfl) (by kernel_rfl) (by kernel_rfl) (fun _ _ _ h => h) (by kernel_rfl) hS (fun _ _ => by kernel_rfl) ?_
  refine h_take 3 (.agg #[.int .i64 k, .string (tx t), .int .u64 u, .slice A n c, .int .u64 o, .int .u64 m, .string (tx g)]) rfl (by kernel_rfl) (by kernel_rfl) (by kernel_rfl) (fun _ _ _ h => h) (by kernel_rfl) hS (by intro v hv; have hxx := (hv.block w.heap.size (Array.getElem?_eq_some_iff.1 HX6.out).1).trans HX6.out; have z0 := at_cell (i := 0) hxx rfl; have z1 := at_cell (i := 1) hxx rfl; have z2 := at_cell (i := 2) hxx rfl; have z3 := at_cell (i := 3) hxx rfl; have z4 := at_cell (i := 4) hxx rfl; have z5 := at_cell (i := 5) hxx rfl; have z6 := at_cell (i := 6) hxx rfl; go_simp) ?_
  refine h_one 2 rfl (by kernel_rfl) (by kernel_rfl) (fun K hK => ?_)
  go_simp
  refine (HRNEW.out _ (HB6.out.trans (hS.mono HB6.out.size))).mono ?_
  rintro e w7 ⟨v7, rfl, ho7, hb⟩
  have hS2 : Below w6.heap.size w6 w7 := hS.trans (hb.mono hS.size)
  obtain ⟨L7, c7, rfl, _⟩ := own_slice ho7
  have HO7 : Hid (Own w7 w6.heap.size (.slice L7 tl.length c7) tl) := ho7.less (Nat.le_refl _)
  refine hK _ _ hS2 ?_
  clear hK K hb ho7
  refine h_one 4 rfl (by kernel_rfl) (by kernel_rfl) (fun K hK => ?_)
  go_simp
  refine (rp_no ver k t g u o m A n c l HMAY.out (by omega) HFIT.out L7 tl.length c7 w7 (HRW.out _ (HB6.out.trans (hS2.mono HB6.out.size)))).mono ?_
  rintro e w8 ⟨v8, rfl, ho8, hb⟩
  have hS3 : Below w6.heap.size w6 w8 := hS2.trans (hb.mono hS2.size)
  obtain ⟨L8, c8, rfl, _⟩ := own_slice ho8
  have HO8 := Lib.hid ho8
  have HO7b := Lib.hid (HO7.out.below hb)
  clear ho8
  refine hK _ _ hS3 ?_
  clear hK K hb
  refine h_take 5 (.tuple #[.slice L8 ([] : List (List UInt8)).length c8, .slice L7 tl.length c7, .int .i64 (whyNo ver)]) rfl (by kernel_rfl) (by kernel_rfl) (by kernel_rfl) (fun _ _ _ h => h) (by kernel_rfl) hS3 (fun _ _ => by kernel_rfl) ?_
  refine h_take 6 (.slice L8 ([] : List (List UInt8)).length c8) rfl (by kernel_rfl) (by kernel_rfl) (by kernel_rfl) (fun _ _ _ h => h) (by kernel_rfl) hS3 (fun _ _ => by kernel_rfl) ?_
  refine h_take 7 (.slice L7 tl.length c7) rfl (by kernel_rfl) (by kernel_rfl) (by kernel_rfl) (fun _ _ _ h => h) (by kernel_rfl) hS3 (fun _ _ => by kernel_rfl) ?_
  refine h_take 8 (.int .i64 (whyNo ver)) rfl (by kernel_rfl) (by kernel_rfl) (by kernel_rfl) (fun _ _ _ h => h) (by kernel_rfl) hS3 (fun _ _ => by kernel_rfl) ?_
  refine h_take 9 (.slice L8 ([] : List (List UInt8)).length c8) rfl (by kernel_rfl) (by kernel_rfl) (by kernel_rfl) (fun _ _ _ h => h) (by kernel_rfl) hS3 (fun _ _ => by kernel_rfl) ?_
  refine h_take 10 (.slice L7 tl.length c7) rfl (by kernel_rfl) (by kernel_rfl) (by kernel_rfl) (fun _ _ _ h => h) (by kernel_rfl) hS3 (fun _ _ => by kernel_rfl) ?_
  refine h_take 11 (.int .i64 (whyNo ver)) rfl (by kernel_rfl) (by kernel_rfl) (by kernel_rfl) (fun _ _ _ h => h) (by kernel_rfl) hS3 (fun _ _ => by kernel_rfl) ?_
  refine wpAnyH_done (by kernel_rfl) ?_ _
  go_simp
  have HB8 := Lib.hid (HB6.out.trans (hS3.mono HB6.out.size))
  have HT8 : Hid (Tab w8 S bt nL tl) := HT6.out.keep (fun k _ hk => hS3.block k hk)
  clear hS hS2 hS3
  clear p0 p1 p2 p3 p4 p5 p6
  obtain ⟨yn, hyn, hy1⟩ : ∃ yn, yn = whyNo ver ∧ (yn == 0) = false := ⟨_, rfl, by unfold whyNo; split <;> rfl⟩
  rw [← hyn]
  have dyy : (yn == yn) = true := by simp
  have dy2 : (yn != yn) = false := by rw [bne, dyy]; rfl
  have dy3 : (yn != 0) = true := by rw [bne, hy1]; rfl
  clear hyn
  go_wp2_with fail
  refine (strings_any none 0 0 [] (by omega) w8 ⟨[], ⟨by simp, fun h => absurd h (by omega)⟩, rfl, by simp⟩).mono ?_
  rintro e w9 ⟨A9, c9, rfl, hr9, hb⟩
  have HB9 := Lib.hid (HB8.out.trans (hb.mono HB8.out.size))
  have HT9 : Hid (Tab w9 S bt nL tl) := HT8.out.keep (fun k _ hk => hb.block k hk)
  have HO9 := Lib.hid (HO8.out.below hb)
  have HO79 := Lib.hid (HO7b.out.below hb)
  have HR9 := Lib.hid hr9
  clear hb hr9
  go_wp2_with fail
  refine (texts_same A9 L8 0 c9 c8 w9.heap.size w9.heap.size [] (by omega) w9 (Nat.le_refl _) (Nat.le_refl _) HR9.out (Reads.of_own HO9.out)).mono ?_
  rintro e w10 ⟨rfl, hb⟩
  have HB10 := Lib.hid (HB9.out.trans (hb.mono HB9.out.size))
  have HT10 : Hid (Tab w10 S bt nL tl) := HT9.out.keep (fun k _ hk => hb.block k hk)
  have HO10 := Lib.hid (HO79.out.below hb)
  clear hb
  go_wp2_with fail
  refine (alltexts_any S bt nL tl (by omega) w10 HT10.out).mono ?_
  rintro e w11 ⟨A11, c11, rfl, hr11, hb⟩
  have HB11 := Lib.hid (HB10.out.trans (hb.mono HB10.out.size))
  have HO11 := Lib.hid (HO10.out.below hb)
  have HR11 := Lib.hid hr11
  clear hb hr11
  go_wp2_with fail
  refine (texts_same A11 L7 tl.length c11 c7 w11.heap.size w11.heap.size tl (by omega) w11 (Nat.le_refl _) (Nat.le_refl _) HR11.out (Reads.of_own HO11.out)).mono ?_
  rintro e w12 ⟨rfl, hb⟩
  have HB12 := Lib.hid (HB11.out.trans (hb.mono HB11.out.size))
  clear hb
  go_wp2_with fail
  refine (sfixed_any _).mono ?_
  rintro e w13 ⟨rfl, hb⟩
  have HB13 := Lib.hid (HB12.out.trans (hb.mono HB12.out.size))
  clear hb
  go_wp2
  go_ret
  exact ⟨rfl, HB13.out⟩

set_option maxRecDepth 100000 in
set_option maxHeartbeats 4000000 in
theorem sputs_yes (ver k u o m : Int) (t g : List UInt8) (A : Option Addr) (n c : Nat) (l : List Dp) (L : Option Addr) (nL cL : Nat) (ts : List (List UInt8)) (hn : n ≤ maxLen) (hnu : Nums ⟨k, t, u, o, m, g⟩ l) (hfit : Fits ⟨k, t, u, o, m, g⟩ l) (hnL : nL ≤ maxLen) (hts : ∀ s ∈ ts, s.length ≤ maxLen) (w : World) (hr : Reads w w.heap.size 3 A n (dps l)) (hrL : Reads w w.heap.size 1 L nL (ts.map tsv)) (hf : fewP ts) (hs : small ⟨k, t, u, o, m, g⟩ l) (hm : MayP ver ⟨k, t, u, o, m, g⟩ l) :
    Calls Try.prog 3 #[.int .i64 ver, .slice L nL cL, .agg #[.int .i64 k, .string (tx t), .int .u64 u, .slice A n c, .int .u64 o, .int .u64 m, .string (tx g)]] w fun e w' => e = .returned (.bool true) ∧ Below w.heap.size w w' := by
  have hb0 := (Below.refl w.heap.size w).alloc (Nat.le_refl _) (.cells #[.int .i64 k, .string (tx t), .int .u64 u, .slice A n c, .int .u64 o, .int .u64 m, .string (tx g)] 26)
  have hbx := one_new w (.cells #[.int .i64 k, .string (tx t), .int .u64 u, .slice A n c, .int .u64 o, .int .u64 m, .string (tx g)] 26)
  have HBX := Lib.hid hbx
  have HB0 := Lib.hid hb0
  have HFEW := Lib.hid (fun W hb => few_any L nL cL ts hnL hts W ((hrL.below hb).more hb.size))
  have HGR := Lib.hid (fun W hb => great_says ⟨k, t, u, o, m, g⟩ A n c l W hn hfit.2.2 hfit.1 hfit.2.1 ((hr.below hb).more hb.size))
  unfold rcv rsv at HGR
  have p0 := at_cell (i := 0) hbx rfl
  have p1 := at_cell (i := 1) hbx rfl
  have p2 := at_cell (i := 2) hbx rfl
  have p3 := at_cell (i := 3) hbx rfl
  have p4 := at_cell (i := 4) hbx rfl
  have p5 := at_cell (i := 5) hbx rfl
  have p6 := at_cell (i := 6) hbx rfl
  have HF := Lib.hid hf
  have HS := Lib.hid hs
  have hts2 : ∀ s ∈ ts, s.length ≤ 3000 := hf.1
  have hln : ts.length = nL := by have := hrL.1; simpa using this
  have hn40 : nL ≤ 40 := by have := hf.2; omega
  have hn60 : n ≤ 60 := by have h1 := hs.2.1; have h2 := hr.1; rw [dps_len] at h2; omega
  have HNEW := Lib.hid (fun W (hb : Below w.heap.size w W) => New_any L nL cL W.heap.size ts (by omega) hts W (Nat.le_refl _) ((hrL.below hb).more hb.size))
  have HRNEW := Lib.hid (fun W (hb : Below w.heap.size w W) => rnew_any L nL cL ts (by omega) W ((hrL.below hb).more hb.size))
  have HR := Lib.hid hr
  have HFIT := Lib.hid hfit
  have HNU := Lib.hid hnu
  have HMAY := Lib.hid hm
  obtain ⟨tl, htl⟩ : ∃ tl, tl = tnew ts := ⟨_, rfl⟩
  have htl40 : tl.length ≤ 40 := by rw [htl]; have := tnew_len ts; omega
  rw [← htl] at HNEW HRNEW
  clear hb0 hbx hf hs hr hrL hfit hnu hm hts hts2 hln htl
  go_enter Try.func3, Try.ntmps3
  go_wp2_with fail
  refine (HFEW.out _ HB0.out).mono ?_
  rintro e w3 ⟨he, rfl⟩
  obtain rfl := he.yes HF.out
  clear he
  go_wp2_with fail
  refine (HGR.out _ HB0.out).mono ?_
  rintro e w3 ⟨he, hb⟩
  obtain rfl := he.no (fun h => h HS.out)
  have HB3 := Lib.hid (HB0.out.trans (hb.mono HB0.out.size))
  have hbx := (hb.block w.heap.size (by simp)).trans HBX.out
  have HX3 := Lib.hid hbx
  clear he hb hbx
  clear p0 p1 p2 p3 p4 p5 p6
  go_wp2_with fail
  refine (HNEW.out _ HB3.out).mono ?_
  rintro e w4 ⟨rfl, ht4, hb⟩
  have HB4 := Lib.hid (HB3.out.trans (hb.mono HB3.out.size))
  have HX4 := Lib.hid ((hb.block w.heap.size (Array.getElem?_eq_some_iff.1 HX3.out).1).trans HX3.out)
  have HS34 : Hid (w3.heap.size ≤ w4.heap.size) := hb.size
  have HT4 : Hid (Tab w4 (fun k => w3.heap.size ≤ k ∧ k < w4.heap.size) w3.heap.size nL tl) := ht4.wide (fun k h1 h2 => ⟨h1, h2⟩)
  clear ht4 hb
  go_wp2_with fail
  refine (HNEW.out _ HB4.out).mono ?_
  rintro e w5 ⟨rfl, ht5, hb⟩
  have HB5 := Lib.hid (HB4.out.trans (hb.mono HB4.out.size))
  have HX5 := Lib.hid ((hb.block w.heap.size (Array.getElem?_eq_some_iff.1 HX4.out).1).trans HX4.out)
  have HS45 : Hid (w4.heap.size ≤ w5.heap.size) := hb.size
  have HT5 : Hid (Tab w5 (fun k => w3.heap.size ≤ k ∧ k < w4.heap.size) w3.heap.size nL tl) := HT4.out.keep (fun k _ hk => hb.block k hk)
  have HU5 : Hid (Tab w5 (fun k => w4.heap.size ≤ k ∧ k < w5.heap.size) w4.heap.size nL tl) := ht5.wide (fun k h1 h2 => ⟨h1, h2⟩)
  clear ht5 hb
  have hxx := HX5.out
  have p0 := at_cell (i := 0) hxx rfl
  have p1 := at_cell (i := 1) hxx rfl
  have p2 := at_cell (i := 2) hxx rfl
  have p3 := at_cell (i := 3) hxx rfl
  have p4 := at_cell (i := 4) hxx rfl
  have p5 := at_cell (i := 5) hxx rfl
  have p6 := at_cell (i := 6) hxx rfl
  clear hxx
  obtain ⟨bt, hbt⟩ : ∃ bt, bt = w3.heap.size := ⟨_, rfl⟩
  obtain ⟨bu, hbu⟩ : ∃ bu, bu = w4.heap.size := ⟨_, rfl⟩
  obtain ⟨S, hSe⟩ : ∃ S : Nat → Prop, S = fun k => w3.heap.size ≤ k ∧ k < w4.heap.size := ⟨_, rfl⟩
  obtain ⟨U, hUe⟩ : ∃ U : Nat → Prop, U = fun k => w4.heap.size ≤ k ∧ k < w5.heap.size := ⟨_, rfl⟩
  have HSL : Hid (∀ k, S k → w.heap.size < k ∧ k < w5.heap.size) := fun k hk => by
    rw [hSe] at hk
    have h1 := (Array.getElem?_eq_some_iff.1 HX3.out).1
    have h2 := HS45.out
    omega
  have HUL : Hid (∀ k, U k → w.heap.size < k ∧ k < w5.heap.size) := fun k hk => by
    rw [hUe] at hk
    have h1 := (Array.getElem?_eq_some_iff.1 HX4.out).1
    omega
  have HDIS : Hid (∀ k, S k → ¬ U k) := fun k h1 h2 => by
    rw [hSe] at h1
    rw [hUe] at h2
    omega
  rw [← hSe, ← hbt] at HT5
  rw [← hUe, ← hbu] at HU5
  rw [← hbt, ← hbu]
  have HRW : Hid (∀ W, Below w.heap.size w W → Reads W W.heap.size 3 A n (dps l)) := fun W h => (HR.out.below h).more h.size
  clear hbt hbu hSe hUe HS34 HS45 HX3 HX4 HT4 HBX HB0 HB3 HB4 HFEW HGR HNEW HF HS
  go_wp2_with fail
  refine (put_ok S bt nL n c ver tl ⟨k, t, u, o, m, g⟩ A l HMAY.out HFIT.out HNU.out (by omega) (by omega) w5 HT5.out (fun ad e hn0 h2 => by
      obtain ⟨ad', e', h3, _⟩ := HR.out.2 hn0
      obtain rfl : ad = ad' := Option.some.inj (e.symm.trans e')
      have := HSL.out _ h2
      omega) (HRW.out _ HB5.out)).mono ?_
  rintro e w6 ⟨va, S6, rfl, ht6, hs6, ⟨vs, hv6⟩, htu⟩
  obtain ⟨Al, cl, rfl, hAl⟩ := own_slice hv6.1
  have HB6 := Lib.hid (HB5.out.trans (htu.below (fun k hk => Nat.le_of_lt (HSL.out k hk).1) HB5.out.size))
  have HX6 := Lib.hid ((htu.2.2.2.2 w.heap.size (Array.getElem?_eq_some_iff.1 HX5.out).1 (fun h => by have := (HSL.out _ h).1; omega)).trans HX5.out)
  have HT6 := Lib.hid ht6
  have HU6 : Hid (Tab w6 U bu nL tl) := HU5.out.turn htu (fun k h1 _ h2 => HDIS.out k h2 h1)
  have HV6 := Lib.hid hv6
  have h56 : Hid (w5.heap.size ≤ w6.heap.size) := htu.2.2.2.1
  obtain ⟨ps, hps⟩ : ∃ ps, ps = payL ver tl ⟨k, t, u, o, m, g⟩ l := ⟨_, rfl⟩
  obtain ⟨T, hTT⟩ : ∃ T, T = tabT ver tl ⟨k, t, u, o, m, g⟩ l := ⟨_, rfl⟩
  have hps19 := payL_len (tl := tl) HMAY.out
  have hT58 := tabT_len (tl := tl) HMAY.out
  rw [← hps] at HV6 hps19 ⊢
  rw [← hTT] at HT6 hT58
  have HPS := Lib.hid hps
  have HTE := Lib.hid hTT
  obtain ⟨q, hq⟩ : ∃ q, q = ps.length := ⟨_, rfl⟩
  have HQ := Lib.hid hq
  rw [← hq] at hps19 ⊢
  clear ht6 hs6 hv6 htu hps hTT hq
  clear p0 p1 p2 p3 p4 p5 p6
  have hxx := HX6.out
  have p0 := at_cell (i := 0) hxx rfl
  have p1 := at_cell (i := 1) hxx rfl
  have p2 := at_cell (i := 2) hxx rfl
  have p3 := at_cell (i := 3) hxx rfl
  have p4 := at_cell (i := 4) hxx rfl
  have p5 := at_cell (i := 5) hxx rfl
  have p6 := at_cell (i := 6) hxx rfl
  clear hxx
  go_wp2_with fail
  refine wp_region_held (S := fun W => Below w6.heap.size w6 W) (by kernel_rfl) ?_
  have hS : Below w6.heap.size w6 w6.drew := (Below.refl _ _).drew
  refine h_take 0 (.int .i64 ver) rfl (by kernel_rfl) (by kernel_rfl) (by kernel_rfl) (fun _ _ _ h => h) (by kernel_rfl) hS (fun _ _ => by kernel_rfl) ?_
  refine h_take 1 (.slice L nL cL) rfl (by kernel_rfl) (by kernel_rfl) (by kernel_rfl) (fun _ _ _ h => h) (by kernel_rfl) hS (fun _ _ => by kernel_rfl) ?_
  refine h_take 3 (.agg #[.int .i64 k, .string (tx t), .int .u64 u, .slice A n c, .int .u64 o, .int .u64 m, .string (tx g)]) rfl (by kernel_rfl) (by kernel_rfl) (by kernel_rfl) (fun _ _ _ h => h) (by kernel_rfl) hS (by intro v hv; have hxx := (hv.block w.heap.size (Array.getElem?_eq_some_iff.1 HX6.out).1).trans HX6.out; have z0 := at_cell (i := 0) hxx rfl; have z1 := at_cell (i := 1) hxx rfl; have z2 := at_cell (i := 2) hxx rfl; have z3 := at_cell (i := 3) hxx rfl; have z4 := at_cell (i := 4) hxx rfl; have z5 := at_cell (i := 5) hxx rfl; have z6 := at_cell (i := 6) hxx rfl; go_simp) ?_
  refine h_one 2 rfl (by kernel_rfl) (by kernel_rfl) (fun K hK => ?_)
  go_simp
  refine (HRNEW.out _ (HB6.out.trans (hS.mono HB6.out.size))).mono ?_
  rintro e w7 ⟨v7, rfl, ho7, hb⟩
  have hS2 : Below w6.heap.size w6 w7 := hS.trans (hb.mono hS.size)
  obtain ⟨L7, c7, rfl, _⟩ := own_slice ho7
  have HO7 : Hid (Own w7 w6.heap.size (.slice L7 tl.length c7) tl) := ho7.less (Nat.le_refl _)
  refine hK _ _ hS2 ?_
  clear hK K hb ho7
  refine h_one 4 rfl (by kernel_rfl) (by kernel_rfl) (fun K hK => ?_)
  go_simp
  refine (rp_yes ver tl ⟨k, t, u, o, m, g⟩ A n c l HMAY.out HNU.out HFIT.out (.slice L7 tl.length c7) (by omega) w7 w6.heap.size hS2.size HO7.out (HRW.out _ (HB6.out.trans (hS2.mono HB6.out.size)))).mono ?_
  rintro e w8 ⟨v8, v8b, rfl, ho8, ho8b, hb⟩
  rw [← HPS.out] at ho8
  rw [← HTE.out] at ho8b
  have hS3 : Below w6.heap.size w6 w8 := hS2.trans (hb.mono hS2.size)
  obtain ⟨L8, c8, rfl, _⟩ := own_slice ho8
  obtain ⟨L9, c9b, rfl, _⟩ := own_slice ho8b
  have HO8 : Hid (w8.ownsRow w7.heap.size 9 1 (.slice L8 q c8) q (ps.map tsv)) := by have h1 := ho8; unfold Own at h1; rw [← HQ.out] at h1; exact h1
  have HO8b := Lib.hid ho8b
  have HLB : Hid (∀ gg, (Value.slice L9 T.length c9b).ownBlock = some gg → w6.heap.size ≤ gg) := own_block ho8b
  rw [← HQ.out]
  clear ho8 ho8b
  refine hK _ _ hS3 ?_
  clear hK K hb
  refine h_take 5 (.tuple #[.slice L8 q c8, .slice L9 T.length c9b, .int .i64 0]) rfl (by kernel_rfl) (by kernel_rfl) (by kernel_rfl) (fun _ _ _ h => h) (by kernel_rfl) hS3 (fun _ _ => by kernel_rfl) ?_
  refine h_take 6 (.slice L8 q c8) rfl (by kernel_rfl) (by kernel_rfl) (by kernel_rfl) (fun _ _ _ h => h) (by kernel_rfl) hS3 (fun _ _ => by kernel_rfl) ?_
  refine h_take 7 (.slice L9 T.length c9b) rfl (by kernel_rfl) (by kernel_rfl) (by kernel_rfl) (fun _ _ _ h => h) (by kernel_rfl) hS3 (fun _ _ => by kernel_rfl) ?_
  refine h_take 8 (.int .i64 0) rfl (by kernel_rfl) (by kernel_rfl) (by kernel_rfl) (fun _ _ _ h => h) (by kernel_rfl) hS3 (fun _ _ => by kernel_rfl) ?_
  refine h_take 9 (.slice L8 q c8) rfl (by kernel_rfl) (by kernel_rfl) (by kernel_rfl) (fun _ _ _ h => h) (by kernel_rfl) hS3 (fun _ _ => by kernel_rfl) ?_
  refine h_take 10 (.slice L9 T.length c9b) rfl (by kernel_rfl) (by kernel_rfl) (by kernel_rfl) (fun _ _ _ h => h) (by kernel_rfl) hS3 (fun _ _ => by kernel_rfl) ?_
  refine h_take 11 (.int .i64 0) rfl (by kernel_rfl) (by kernel_rfl) (by kernel_rfl) (fun _ _ _ h => h) (by kernel_rfl) hS3 (fun _ _ => by kernel_rfl) ?_
  refine wpAnyH_done (by kernel_rfl) ?_ _
  go_simp
  have HB8 := Lib.hid (HB6.out.trans (hS3.mono HB6.out.size))
  have HT8 : Hid (Tab w8 S6 bt (nL + 18) T) := HT6.out.keep (fun k _ hk => hS3.block k hk)
  have HU8 : Hid (Tab w8 U bu nL tl) := HU6.out.keep (fun k _ hk => hS3.block k hk)
  have HX8 := Lib.hid ((hS3.block w.heap.size (Array.getElem?_eq_some_iff.1 HX6.out).1).trans HX6.out)
  have HV8 := Lib.hid (HV6.out.below hS3)
  have h68 : Hid (w5.heap.size ≤ w8.heap.size) := Nat.le_trans h56.out hS3.size
  clear hS hS2 hS3
  clear p0 p1 p2 p3 p4 p5 p6
  go_wp2_with fail
  refine (strings_any Al q cl ps (by omega) w8 (by
      have h1 := HV8.out
      rw [HQ.out]
      exact pls_of_rows h1)).mono ?_
  rintro e w9 ⟨A9, c9, rfl, hr9, hb⟩
  have HB9 := Lib.hid (HB8.out.trans (hb.mono HB8.out.size))
  have HB89 := Lib.hid hb
  have HR9 := Lib.hid hr9
  clear hb hr9
  go_wp2_with fail
  refine (texts_same A9 L8 q c9 c8 w9.heap.size w9.heap.size ps (by omega) w9 (Nat.le_refl _) (Nat.le_refl _) HR9.out (Reads.of_own (own_below HO8.out HB89.out))).mono ?_
  rintro e w10 ⟨rfl, hb⟩
  have HB10 := Lib.hid (HB89.out.trans (hb.mono HB89.out.size))
  clear hb
  go_wp2_with fail
  refine (alltexts_any S6 bt (nL + 18) T (by omega) w10 (HT8.out.keep (fun k _ hk => HB10.out.block k hk))).mono ?_
  rintro e w11 ⟨A11, c11, rfl, hr11, hb⟩
  have HB11 := Lib.hid (HB10.out.trans (hb.mono HB10.out.size))
  have HR11 := Lib.hid hr11
  clear hb hr11
  go_wp2_with fail
  refine (texts_same A11 L9 T.length c11 c9b w11.heap.size w11.heap.size T (by omega) w11 (Nat.le_refl _) (Nat.le_refl _) HR11.out (Reads.of_own (own_below HO8b.out HB11.out))).mono ?_
  rintro e w12 ⟨rfl, hb⟩
  have HB12 := Lib.hid (HB11.out.trans (hb.mono HB11.out.size))
  clear hb HR9 HR11 HB89 HB10 HB11
  have hxx := (HB12.out.block w.heap.size (Array.getElem?_eq_some_iff.1 HX8.out).1).trans HX8.out
  have p0 := at_cell (i := 0) hxx rfl
  have p1 := at_cell (i := 1) hxx rfl
  have p2 := at_cell (i := 2) hxx rfl
  have p3 := at_cell (i := 3) hxx rfl
  have p4 := at_cell (i := 4) hxx rfl
  have p5 := at_cell (i := 5) hxx rfl
  have p6 := at_cell (i := 6) hxx rfl
  clear hxx
  obtain ⟨i1, ji0, jz0, jz1, jz2⟩ := info_parts (show (Try.prog.info? 44).map (fun i => (i.zero, i.size, i.bytes)) = some (some (.slice none 0 0), 1, 24) from by kernel_rfl)
  have kc := fun (w : World) (C : Array Value) (n c : Nat) => Lib.run_convert_bytes_const (P := Try.prog) w 44 5 C n c Try.underlying44 Try.underlying5
  obtain ⟨X1, hX1⟩ : ∃ X1, X1 = w12.alloc (.cells #[.int .u8 120] 5 (1, 2)) := ⟨_, rfl⟩
  have hbX1 : Below w12.heap.size w12 X1 := by rw [hX1]; exact (Below.refl _ _).alloc (Nat.le_refl _) _
  have hsX1 : X1.heap.size = w12.heap.size + 1 := by rw [hX1]; simp
  have HXC : Hid (∀ W, Below X1.heap.size X1 W → Reads W W.heap.size 1 (some ⟨w12.heap.size, 0, none⟩) 1 ([(120 : UInt8)].map bv)) := fun W h => by
    have h1 := reads_one_row w12 5 (.int .u8 120)
    refine ⟨rfl, fun _ => ⟨_, rfl, by have := h.size; show w12.heap.size < _; omega, fun j x hx => ?_⟩⟩
    have hj : j = 0 := by
      rcases Nat.lt_or_ge j 1 with h2 | h2
      · omega
      · rw [List.getElem?_eq_none (by simpa using h2)] at hx; cases hx
    subst hj
    obtain rfl : Value.int .u8 120 = x := by simpa [bv] using hx
    refine (h.cell (p := (⟨w12.heap.size, 0, none⟩ : Addr).add 0) (by rw [block_of_add]; show w12.heap.size < _; omega)).trans ?_
    rw [hX1]
    exact (World.cell?_alloc_mark w12 #[.int .u8 120] 5 (1, 2) 0).trans rfl
  have HBX1 := Lib.hid hbX1
  have HSX1 := Lib.hid hsX1
  have hown := own_one X1 44 (.slice (some ⟨w12.heap.size, 0, none⟩) 1 1)
  rw [hsX1] at hown
  have HOW := Lib.hid hown
  have HBB := Lib.hid (HB12.out.trans ((HBX1.out.trans (((Below.refl X1.heap.size X1).alloc (Nat.le_refl _) (.cells #[.slice (some ⟨w12.heap.size, 0, none⟩) 1 1] 44)).mono HBX1.out.size)).mono HB12.out.size))
  have HRV := Lib.hid (Reads.of_own (HV8.out.below HBB.out).1)
  have HONE := Lib.hid (rowsV_one HV8.out)
  rw [← HQ.out] at HRV
  rw [hX1] at HOW HBB HRV
  have HX1E := Lib.hid hX1
  clear hbX1 hsX1 hown hX1
  go_wp2_with (at_builtin; refine wpList_append_told _ rfl (.tmp 76) (.tmp 77) 32 rfl (w12.heap.size + 1) 44 i1 _ 1 24 Try.underlying32 ji0 jz0 jz1 jz2 rfl (by decide) _ 1 _ rfl HOW.out Al q cl _ vs rfl hAl HRV.out HONE.out (by unfold maxLen; omega) (by omega) (by simp) ?_; intro v13 w13 ho13 hg13 hv13; obtain ⟨A13, c13, rfl, _⟩ := own_slice ho13; have HO13 := Lib.hid ho13; have HG13 : Hid (((w12.alloc (.cells #[.int .u8 120] 5 (1, 2))).alloc (.cells #[.slice (some ⟨w12.heap.size, 0, none⟩) 1 1] 44)).grownBy w13 (some (w12.heap.size + 1))) := hg13; clear ho13 hg13 hv13)
  have hbx13 : Below (w12.heap.size + 1) (w12.alloc (.cells #[.int .u8 120] 5 (1, 2))) w13 := ((Below.refl _ _).alloc (by simp) (.cells #[.slice (some ⟨w12.heap.size, 0, none⟩) 1 1] 44)).grown HG13.out (by simp) (fun kk e => by have : w12.heap.size + 1 = kk := Option.some.inj e; omega)
  have hb12 : Below w12.heap.size w12 w13 := ((Below.refl _ w12).alloc (Nat.le_refl _) (.cells #[.int .u8 120] 5 (1, 2))).trans (hbx13.mono (by omega))
  have HB13 := Lib.hid (HB12.out.trans (hb12.mono HB12.out.size))
  have hxr := HXC.out w13 (by rw [HSX1.out, HX1E.out]; exact hbx13)
  have HXR := Lib.hid hxr
  have hV13 := HV8.out.below HB13.out
  have hU13 : Tab w13 U bu nL tl := HU8.out.keep (fun kk _ hk => HB13.out.block kk hk)
  have hUlt : ∀ kk, w5.heap.size ≤ kk → ¬ U kk := fun kk h1 h2 => by have := (HUL.out kk h2).2; omega
  have h512 : w5.heap.size ≤ w12.heap.size := Nat.le_trans h68.out HB12.out.size
  have hpl : PlsT w13 w13.heap.size U A13 (1 + q) c13 ([[120]] ++ (payL ver tl ⟨k, t, u, o, m, g⟩ l ++ [])) := by
    rw [List.append_nil, ← HPS.out]
    refine ⟨own_room HO13.out, by simp [← HQ.out]; omega, _, Reads.of_own HO13.out, fun ad e hn0 => ?_, fun i p hp => ?_⟩
    · subst e
      have h1 := own_block HO13.out ad.block rfl
      exact hUlt _ (by omega)
    · cases i with
      | zero =>
        obtain rfl : [120] = p := by simpa using hp
        exact ⟨some ⟨w12.heap.size, 0, none⟩, 1, rfl, Nat.le_refl _, HXR.out, fun ad e _ => by
          obtain rfl : (⟨w12.heap.size, 0, none⟩ : Addr) = ad := Option.some.inj e
          exact hUlt _ h512⟩
      | succ i =>
        have hp2 : ps[i]? = some p := by simpa using hp
        obtain ⟨v, h5, h6, h7⟩ := hV13.2.2.2 i p hp2
        obtain ⟨A', c', rfl, _⟩ := own_slice h6
        refine ⟨A', c', by simpa using h5, own_room h6, Reads.of_own h6, fun ad e _ => ?_⟩
        subst e
        exact hUlt _ (own_block h6 ad.block rfl)
  have HX13 := Lib.hid ((HB13.out.block w.heap.size (Array.getElem?_eq_some_iff.1 HX8.out).1).trans HX8.out)
  have HBW13 := Lib.hid (HB8.out.trans (HB13.out.mono HB8.out.size))
  have HGET := Lib.hid (get_ok U bu w13.heap.size nL (1 + q) c13 1 ver tl ⟨k, t, u, o, m, g⟩ l [[120]] [] A13 HMAY.out HFIT.out HNU.out (by omega) (by omega) (by omega) rfl w13 (Nat.le_refl _) hU13 hpl)
  rw [← HPS.out, ← HQ.out, ← HTE.out] at HGET
  unfold rcv rsv at HGET
  have HO13b : Hid (Own w13 w6.heap.size (.slice L9 T.length c9b) T) := HO8b.out.below HB13.out
  have HL13 : Hid (∀ gg, (Value.slice L9 T.length c9b).ownBlock = some gg → ¬ U gg) := fun gg hg => hUlt gg (Nat.le_trans h56.out (HLB.out gg hg))
  clear hbx13 hb12 hxr hV13 hU13 hpl
  go_wp2_with fail
  refine HGET.out.mono ?_
  rintro e w14 ⟨A9, n9, c9, U9, rfl, hd9, hap9, ⟨M9, hM9, ht9⟩, hs9, htu9⟩
  have HD14 := Lib.hid (World.ownsRow.alloc hd9.1 (.cells #[.int .i64 k, .string (tx t), .int .u64 u, .slice A9 n9 c9, .int .u64 o, .int .u64 m, .string (tx g)] 26))
  have hn9 : Hid (n9 ≤ 60) := by have h1 := hd9.1.1; rw [dps_len] at h1; have h2 := HR.out.1; rw [dps_len] at h2; show _ ≤ _; omega
  have HT14 : Hid (Tab (w14.alloc (.cells #[.int .i64 k, .string (tx t), .int .u64 u, .slice A9 n9 c9, .int .u64 o, .int .u64 m, .string (tx g)] 26)) U9 bu M9 T) := ht9.keep (fun kk _ hk => Below.heap_alloc _ _ _ hk)
  have HM9 : Hid (M9 ≤ nL + 36) := hM9
  have hbw14 : Below w.heap.size w (w14.alloc (.cells #[.int .i64 k, .string (tx t), .int .u64 u, .slice A9 n9 c9, .int .u64 o, .int .u64 m, .string (tx g)] 26)) := (HBW13.out.trans (htu9.below (fun kk hk => Nat.le_of_lt (HUL.out kk hk).1) HBW13.out.size)).alloc (by have h1 := htu9.2.2.2.1; have h2 := HBW13.out.size; omega) _
  have HBW14 := Lib.hid hbw14
  have hxo : (w14.alloc (.cells #[.int .i64 k, .string (tx t), .int .u64 u, .slice A9 n9 c9, .int .u64 o, .int .u64 m, .string (tx g)] 26)).heap[w.heap.size]? = some (.cells #[.int .i64 k, .string (tx t), .int .u64 u, .slice A n c, .int .u64 o, .int .u64 m, .string (tx g)] 26 (0, 0)) := (Below.heap_alloc w14 (.cells #[.int .i64 k, .string (tx t), .int .u64 u, .slice A9 n9 c9, .int .u64 o, .int .u64 m, .string (tx g)] 26) w.heap.size (Nat.lt_of_lt_of_le (Array.getElem?_eq_some_iff.1 HX13.out).1 htu9.2.2.2.1)).trans ((htu9.2.2.2.2 w.heap.size (Array.getElem?_eq_some_iff.1 HX13.out).1 (fun h => by have := (HUL.out _ h).1; omega)).trans HX13.out)
  have hxn := one_new w14 (.cells #[.int .i64 k, .string (tx t), .int .u64 u, .slice A9 n9 c9, .int .u64 o, .int .u64 m, .string (tx g)] 26)
  have HXO := Lib.hid hxo
  have HXN := Lib.hid hxn
  have HO14 : Hid (Own (w14.alloc (.cells #[.int .i64 k, .string (tx t), .int .u64 u, .slice A9 n9 c9, .int .u64 o, .int .u64 m, .string (tx g)] 26)) w6.heap.size (.slice L9 T.length c9b) T) := World.ownsRow.alloc (own_heap HO13b.out (fun gg hg => htu9.2.2.2.2 gg (own_lt HO13b.out gg hg) (HL13.out gg hg))) _
  clear hd9 hap9 ht9 hs9 htu9 hM9 hbw14 HGET
  clear p0 p1 p2 p3 p4 p5 p6
  have HJ5 := Lib.hid (fun (v : World) (h : Below (w14.alloc (.cells #[.int .i64 k, .string (tx t), .int .u64 u, .slice A9 n9 c9, .int .u64 o, .int .u64 m, .string (tx g)] 26)).heap.size (w14.alloc (.cells #[.int .i64 k, .string (tx t), .int .u64 u, .slice A9 n9 c9, .int .u64 o, .int .u64 m, .string (tx g)] 26)) v) => (h.block w.heap.size (Array.getElem?_eq_some_iff.1 HXO.out).1).trans HXO.out)
  have HJ14 := Lib.hid (fun (v : World) (h : Below (w14.alloc (.cells #[.int .i64 k, .string (tx t), .int .u64 u, .slice A9 n9 c9, .int .u64 o, .int .u64 m, .string (tx g)] 26)).heap.size (w14.alloc (.cells #[.int .i64 k, .string (tx t), .int .u64 u, .slice A9 n9 c9, .int .u64 o, .int .u64 m, .string (tx g)] 26)) v) => (h.block w14.heap.size (Array.getElem?_eq_some_iff.1 HXN.out).1).trans HXN.out)
  clear hxo hxn
  go_wp2_with fail
  refine (sfixed_any _).mono ?_
  rintro e w15 ⟨rfl, hb⟩
  have HB15 := Lib.hid hb
  have hx5 := HJ5.out _ hb
  have hx14 := HJ14.out _ hb
  have p0 := at_cell (i := 0) hx5 rfl
  have p1 := at_cell (i := 1) hx5 rfl
  have p2 := at_cell (i := 2) hx5 rfl
  have p3 := at_cell (i := 3) hx5 rfl
  have p4 := at_cell (i := 4) hx5 rfl
  have p5 := at_cell (i := 5) hx5 rfl
  have p6 := at_cell (i := 6) hx5 rfl
  have r0 := at_cell (i := 0) hx14 rfl
  have r1 := at_cell (i := 1) hx14 rfl
  have r2 := at_cell (i := 2) hx14 rfl
  have r3 := at_cell (i := 3) hx14 rfl
  have r4 := at_cell (i := 4) hx14 rfl
  have r5 := at_cell (i := 5) hx14 rfl
  have r6 := at_cell (i := 6) hx14 rfl
  have HSAME := Lib.hid (rsame_any ⟨k, t, u, o, m, g⟩ ⟨k, t, u, o, m, g⟩ A9 A n9 n c9 c l l (by have := hn9.out; omega) w15 (Reads.of_own (own_below HD14.out hb)) (HRW.out _ (HBW14.out.trans (hb.mono HBW14.out.size))))
  unfold rcv rsv at HSAME
  clear hb hx5 hx14
  go_wp2_with fail
  refine HSAME.out.mono ?_
  rintro e w16 ⟨qq, hqq, rfl, hb⟩
  obtain rfl : qq = true := by simpa using hqq
  have HB16 := Lib.hid (HB15.out.trans (hb.mono HB15.out.size))
  clear hb hqq
  go_wp2_with fail
  refine (alltexts_any U9 bu M9 T (by omega) w16 (HT14.out.keep (fun kk _ hk => HB16.out.block kk hk))).mono ?_
  rintro e w17 ⟨A17, c17, rfl, hr17, hb⟩
  have HB17 := Lib.hid (HB16.out.trans (hb.mono HB16.out.size))
  have HR17 := Lib.hid hr17
  clear hb hr17
  go_wp2_with fail
  refine (texts_same A17 L9 T.length c17 c9b w17.heap.size w17.heap.size T (by omega) w17 (Nat.le_refl _) (Nat.le_refl _) HR17.out (Reads.of_own (own_below HO14.out HB17.out))).mono ?_
  rintro e w18 ⟨rfl, hb⟩
  have HB18 := Lib.hid (HBW14.out.trans ((HB17.out.trans (hb.mono HB17.out.size)).mono HBW14.out.size))
  clear hb
  go_wp2
  go_ret
  exact ⟨rfl, HB18.out⟩

end Go.Proofs.Ytfidfhajnobonaa

/- The way down: a slice of texts that came in, no text longer than there can be one. -/
namespace Go.Proofs.Ytfidfhajnobonaa
open Go.ChangeShapes Go.WideShapes Go.ChangeAt Go.RowKit

theorem tx_back0 (s : ByteArray) : tx s.data.toList = s := by
  cases s
  simp [tx]

theorem open_textsL {H : Type} {enc : TypeId × Value → H} {P : Program} {W : World} {t e : TypeId} {v : Value} {d : DataW H} {ps : List MemPlace} {r : Reach} {b0 : Nat} (ht : P.underlying t = some (.slice e)) (he : P.underlying e = some .string) (hc : P.cellsOf e = 1)
    (hval : Value.okWide P W r b0 t v) (hd : DataW.Trod enc P W 0 (fun _ => true) true t v d ps) :
    ∃ (A : Option Addr) (n c : Nat) (ts : List (List UInt8)), v = .slice A n c ∧ n ≤ c ∧ Reads W W.heap.size 1 A n (ts.map tsv) ∧ ∀ s ∈ ts, s.length ≤ maxLen := by
  obtain ⟨a, n, c, rfl⟩ := okWide_slice ht hval
  obtain ⟨fuel, hf⟩ := hd
  rcases open_strings ht he hc hf with ⟨hcs, hx⟩ | ⟨ad, len, cap, zs, hcs, _, hl, hm, hz, hx, hcell, hwz⟩
  · have h0 : Value.slice a n c = .slice none 0 0 := by simpa [Value.cells] using hcs
    cases h0
    exact ⟨none, 0, 0, [], rfl, Nat.le_refl _, Reads.none_, by simp⟩
  · have h0 : Value.slice a n c = .slice (some ad) len cap := by simpa [Value.cells] using hcs
    cases h0
    simp only [if_true] at hz
    refine ⟨some ad, n, c, (zs.take n).map (fun s => s.data.toList), rfl, hl, ⟨by simp [hz, Nat.min_eq_left hl], fun hn => ⟨ad, rfl, ?_, fun j u hu => ?_⟩⟩, fun s hs => ?_⟩
    · have := cell_lt (hcell 0 (by omega))
      rwa [block_of_add] at this
    · rw [List.map_map, List.getElem?_map, List.getElem?_take] at hu
      split at hu
      · rename_i hj
        have hjl : j < zs.length := by omega
        rw [List.getElem?_eq_getElem hjl] at hu
        have hu' : tsv (zs[j].data.toList) = u := by simpa using hu
        rw [hcell j hjl, ← hu', tsv, tx_back0]
        simp [List.getD, List.getElem?_eq_getElem hjl]
      · cases hu
    · obtain ⟨z, hz1, rfl⟩ := List.mem_map.1 hs
      have := hwz z (List.mem_of_mem_take hz1)
      rw [Array.length_toList]
      exact this

end Go.Proofs.Ytfidfhajnobonaa

/- The way down: a slice of texts that came in, and how many there can be. -/
namespace Go.Proofs.Ytfidfhajnobonaa
open Go.ChangeShapes Go.WideShapes Go.ChangeAt Go.RowKit

theorem open_textsM {H : Type} {enc : TypeId × Value → H} {P : Program} {W : World} {t e : TypeId} {v : Value} {d : DataW H} {ps : List MemPlace} {r : Reach} {b0 : Nat} (ht : P.underlying t = some (.slice e)) (he : P.underlying e = some .string) (hc : P.cellsOf e = 1)
    (hval : Value.okWide P W r b0 t v) (hd : DataW.Trod enc P W 0 (fun _ => true) true t v d ps) :
    ∃ (A : Option Addr) (n c : Nat) (ts : List (List UInt8)), v = .slice A n c ∧ n ≤ c ∧ n ≤ maxLen ∧ Reads W W.heap.size 1 A n (ts.map tsv) ∧ ∀ s ∈ ts, s.length ≤ maxLen := by
  obtain ⟨a, n, c, rfl⟩ := okWide_slice ht hval
  obtain ⟨fuel, hf⟩ := hd
  rcases open_strings ht he hc hf with ⟨hcs, hx⟩ | ⟨ad, len, cap, zs, hcs, _, hl, hm, hz, hx, hcell, hwz⟩
  · have h0 : Value.slice a n c = .slice none 0 0 := by simpa [Value.cells] using hcs
    cases h0
    exact ⟨none, 0, 0, [], rfl, Nat.le_refl _, by omega, Reads.none_, by simp⟩
  · have h0 : Value.slice a n c = .slice (some ad) len cap := by simpa [Value.cells] using hcs
    cases h0
    simp only [if_true] at hz
    refine ⟨some ad, n, c, (zs.take n).map (fun s => s.data.toList), rfl, hl, Nat.le_trans hl hm, ⟨by simp [hz, Nat.min_eq_left hl], fun hn => ⟨ad, rfl, ?_, fun j u hu => ?_⟩⟩, fun s hs => ?_⟩
    · have := cell_lt (hcell 0 (by omega))
      rwa [block_of_add] at this
    · rw [List.map_map, List.getElem?_map, List.getElem?_take] at hu
      split at hu
      · rename_i hj
        have hjl : j < zs.length := by omega
        rw [List.getElem?_eq_getElem hjl] at hu
        have hu' : tsv (zs[j].data.toList) = u := by simpa using hu
        rw [hcell j hjl, ← hu', tsv, tx_back0]
        simp [List.getD, List.getElem?_eq_getElem hjl]
      · cases hu
    · obtain ⟨z, hz1, rfl⟩ := List.mem_map.1 hs
      have := hwz z (List.mem_of_mem_take hz1)
      rw [Array.length_toList]
      exact this

end Go.Proofs.Ytfidfhajnobonaa

/- SchemaPuts, whole; the way down with numbers of 64 bits. -/
namespace Go.Proofs.Ytfidfhajnobonaa
open Go.ChangeShapes Go.WideShapes Go.ChangeAt Go.RowKit

set_option maxRecDepth 100000 in
theorem open_recordN {H : Type} {enc : TypeId × Value → H} {W : World} {v : Value} {d : DataW H} {ps : List MemPlace} {r0 : Reach} {b0 : Nat} (hval : Value.okWide Try.prog W r0 b0 26 v) (hd : DataW.Trod enc Try.prog W 0 (fun _ => true) true 26 v d ps) :
    ∃ (r : Rc) (A : Option Addr) (n c : Nat) (l : List Dp), v = rcv r A n c ∧ n ≤ maxLen ∧ (A = none → c = 0) ∧ Fits r l ∧ Nums r l ∧ Reads W W.heap.size 3 A n (dps l) := by
  obtain ⟨cs, rfl, _⟩ := okWide_struct Try.underlying26 hval
  obtain ⟨fuel, hf⟩ := hd
  obtain ⟨r, A, n, c, l, h1, h2, h3, h4, h5⟩ := open_rcells hf
  have e : cs = rcells r A n c := by
    apply Array.ext'
    simpa [Value.cells] using h1
  subst e
  exact ⟨r, A, n, c, l, rfl, h2, h3, h4, rcells_nums hf h5, h5⟩

theorem sputs_any (ver : Int) (r : Rc) (A : Option Addr) (n c : Nat) (l : List Dp) (L : Option Addr) (nL cL : Nat) (ts : List (List UInt8)) (hn : n ≤ maxLen) (hnu : Nums r l) (hfit : Fits r l) (hnL : nL ≤ maxLen) (hts : ∀ s ∈ ts, s.length ≤ maxLen) (w : World) (hr : Reads w w.heap.size 3 A n (dps l)) (hrL : Reads w w.heap.size 1 L nL (ts.map tsv)) :
    Calls Try.prog 3 #[.int .i64 ver, .slice L nL cL, rcv r A n c] w fun e w' => e = .returned (.bool true) ∧ Below w.heap.size w w' := by
  obtain ⟨k, t, u, o, m, g⟩ := r
  unfold rcv rsv
  by_cases hf : fewP ts
  · by_cases hs : small ⟨k, t, u, o, m, g⟩ l
    · by_cases hm : MayP ver ⟨k, t, u, o, m, g⟩ l
      · exact sputs_yes ver k u o m t g A n c l L nL cL ts hn hnu hfit hnL hts w hr hrL hf hs hm
      · exact sputs_no ver k u o m t g A n c l L nL cL ts hn hnu hfit hnL hts w hr hrL hf hs hm
    · exact sputs_great ver k u o m t g A n c l L nL cL ts hn hfit hnL hts w hr hrL hf hs
  · exact sputs_few ver k u o m t g A n c l L nL cL ts hn hfit hnL hts w hr hrL hf

end Go.Proofs.Ytfidfhajnobonaa
