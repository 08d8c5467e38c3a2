/- The walk of FrameTold, in one of its ways (its length takes one byte, or two; it is the first frame, or not). -/
import Derived.Test.YtoanmbhnhofoiaaDoorFs
namespace Go.Proofs.YtoanmbhnhofoiaaDoor
open Go.RowKit Go.Shelf

set_option maxRecDepth 100000 in
set_option maxHeartbeats 2000000 in
theorem ftold_a (L : Option Addr) (m d n0 k x0 x1 y : Nat) (vs : List Value) (ps : List (List UInt8)) (p : List UInt8) (hs : smalls ps) (hm : 0 < m) (hx0 : x0 < 65536) (hx1 : x1 < 65536) (hy : y < 4294967296) (hk : k = x0 % m) (hp : ps[k]? = some p)
    (hbig : 128 ≤ p.length) (hpos : 0 < k) (w : World) (hn0 : w.heap.size = n0) (hl : Laid w) (hr : Reads w n0 1 L m vs) (hrows : WRows w n0 vs ps) :
    Calls Tryd.prog 7 #[.slice L m d, .agg #[.int .u16 (x0 : Int), .int .u16 (x1 : Int)], .int .u32 (y : Int)] w fun e w' => e = .returned (.bool true) ∧ Below n0 w w' := by
  have hml : ps.length = m := by have := hr.1; have := hrows.1; omega
  have hsz0 : n0 ≤ w.heap.size := by omega
  have hkm : k < m := by rw [hk]; exact Nat.mod_lt _ hm
  have hpl := hs.2 p (List.mem_of_getElem? hp)
  have hmod : (x0 : Int).tmod (m : Int) = (k : Int) := by rw [Int.tmod_eq_emod_of_nonneg (by omega), hk]; simp
  have hm20 : m ≤ 20 := by have := hs.1; omega
  have HP := Lib.hid hp
  have HS := Lib.hid hs
  have HML := Lib.hid hml
  have HR := Lib.hid hr
  have HROWS := Lib.hid hrows
  have HL := Lib.hid hl
  have HN0 := Lib.hid hn0
  have HY := Lib.hid hy
  have HPL := Lib.hid hpl
  have HBIG := Lib.hid hbig
  have hw0 : IntKind.i64.wrap (x0 : Int) = (x0 : Int) := by rw [IntKind.wrap_i64]; omega
  have hw1 : IntKind.i64.wrap (x1 : Int) = (x1 : Int) := by rw [IntKind.wrap_i64]; omega
  have hm0 : ((m : Int) == 0) = false := by rw [beq_eq_false_iff_ne]; omega
  have HSM : Hid (∀ W, Below n0 w W → Calls Tryd.prog 20 #[.slice L m d] W fun e w' => e = .returned (.bool true) ∧ W = w') := by
    intro W hb
    refine (small_any L m d vs ps W ((hr.below hb).more (by have := hb.size; omega)) ⟨hrows.1, fun i v hv => by obtain ⟨bs, h1, A, n, c, h2, h3, h4⟩ := hrows.2 i v hv; exact ⟨bs, h1, A, n, c, h2, h3, (h4.below hb).more (by have := hb.size; omega)⟩⟩).mono ?_
    rintro e w' ⟨h | h, rfl⟩
    · exact ⟨h.2, rfl⟩
    · exact absurd hs h.1
  clear hp hs hml hr hrows hl hy hpl hbig hk
  have hpair : ∀ i v, ([Value.int .u16 (x0 : Int), .int .u16 (x1 : Int)] : List Value)[i]? = some v → (w.alloc (.cells #[.int .u16 (x0 : Int), .int .u16 (x1 : Int)] 55)).cell? ⟨w.heap.size, i, none⟩ = some v := by
    intro i v hv
    simp only [World.cell?, World.alloc, Array.getElem?_push_size]
    simpa using hv
  have HPAIR := Lib.hid hpair
  have HB0 : Hid (Below n0 w (w.alloc (.cells #[.int .u16 (x0 : Int), .int .u16 (x1 : Int)] 55))) := (Below.refl _ w).alloc hsz0 _
  have HW0 : Hid ((w.alloc (.cells #[.int .u16 (x0 : Int), .int .u16 (x1 : Int)] 55)).heap.size = n0 + 1) := by show _ = _; simp [hn0]
  clear hpair hn0
  go_enter Tryd.func7, Tryd.ntmps7
  go_wp2_with fail
  refine (HSM.out _ HB0.out).mono ?_
  rintro e w0 ⟨rfl, rfl⟩
  obtain ⟨W0, hW0⟩ : ∃ W0, W0 = w.alloc (.cells #[.int .u16 (x0 : Int), .int .u16 (x1 : Int)] 55) := ⟨_, rfl⟩
  rw [← hW0] at HPAIR HB0 HW0 ⊢
  clear hW0
  have hld := laid_any2 L m d (n0 + 1) vs ps HS.out W0 HW0.out (HL.out.below (by rw [HN0.out]; exact HB0.out)) ((HR.out.below HB0.out).more (by omega))
    ⟨HROWS.out.1, fun i v hv => by obtain ⟨bs, h1, A, n, c, h2, h3, h4⟩ := HROWS.out.2 i v hv; exact ⟨bs, h1, A, n, c, h2, h3, (h4.below HB0.out).more (by omega)⟩⟩
  have HLD := Lib.hid hld
  clear hld HSM
  go_wp2_with fail
  refine HLD.out.mono ?_
  rintro e w1 ⟨b, en, rfl, ho1, ho2, hb1⟩
  clear HLD
  obtain ⟨K, hK⟩ : ∃ K, K = (frs ps).length := ⟨_, rfl⟩
  rw [← hK] at ho1
  have hKpos : 0 < K := by
    rw [hK, frs_split HP.out, List.length_append, List.length_append]
    have := fr_pos p
    omega
  obtain ⟨g, cap, rfl, hgb, hgl⟩ := ho1.form hKpos
  obtain ⟨E1, e1, rfl, he1, hr2⟩ := own_reads ho2
  have HR2 := Lib.hid hr2
  have HO1 := Lib.hid ho1
  have HO2 := Lib.hid ho2
  rw [HML.out] at he1 ⊢
  have hc0 : w1.cell? ⟨w.heap.size, 0, none⟩ = some (.int .u16 (x0 : Int)) := (hb1.cell (by show w.heap.size < n0 + 1; have := HN0.out; omega)).trans (HPAIR.out 0 _ rfl)
  have hc1 : w1.cell? ⟨w.heap.size, 1, none⟩ = some (.int .u16 (x1 : Int)) := (hb1.cell (by show w.heap.size < n0 + 1; have := HN0.out; omega)).trans (HPAIR.out 1 _ rfl)
  obtain ⟨ad, u, rfl, _, hu, hcl⟩ := ((HR.out.below HB0.out).below (hb1.mono (by omega))).at_ hkm
  obtain ⟨p2, hp2, A6, n6, c6, rfl, _, hr6⟩ := HROWS.out.2 k u hu
  obtain rfl : p2 = p := by rw [HP.out] at hp2; exact (Option.some.inj hp2).symm
  have hn6 : n6 = p2.length := by have := hr6.1; simpa using this.symm
  obtain ⟨PL, hPL⟩ : ∃ PL, PL = (frs (ps.take k)).length := ⟨_, rfl⟩
  obtain ⟨FL, hFL⟩ : ∃ FL, FL = (fr p2).length := ⟨_, rfl⟩
  have hFLb : (vb p2.length).length + 4 < FL := by
    rw [hFL, fr_len, blob_len]; have := HPL.out.1; omega
  have hvb : (vb p2.length).length = 2 := vb_two HBIG.out HPL.out.2
  have hfe : fend ps k = PL + FL := by rw [fend_at HP.out, hPL, hFL]
  have hKs : K = PL + FL + (frs (ps.drop (k + 1))).length := by
    rw [hK, frs_split HP.out, List.length_append, List.length_append, hPL, hFL]; omega
  have hK20 : K ≤ 4280 := by
    have h1 := frs_small ps (fun q hq => (HS.out.2 q hq).2)
    have h3 : 214 * ps.length ≤ 214 * 20 := Nat.mul_le_mul_left _ HS.out.1
    omega
  obtain ⟨ek, hek⟩ : ∃ ek, ek = PL + FL := ⟨_, rfl⟩
  have hcE : ∀ ad2, E1 = some ad2 → w1.cell? (ad2.add k) = some (.int .i64 (ek : Int)) := by
    intro ad2 e
    obtain ⟨ad3, u3, e3, _, hu3, h3⟩ := HR2.out.at_ (k := k) (by rw [HML.out]; exact hkm)
    rw [e] at e3
    cases e3
    rw [List.getElem?_map, told_at HP.out] at hu3
    have : u3 = .int .i64 (ek : Int) := by rw [hek, ← hfe]; simpa [tn] using hu3.symm
    rw [h3, this]
  obtain ⟨ad2, rfl, _, _⟩ := HR2.out.2 (by rw [HML.out]; omega)
  have hcEk := hcE ad2 rfl
  obtain ⟨k1, hk1⟩ : ∃ k1, k = k1 + 1 := ⟨k - 1, by omega⟩
  have hki : (k : Int) - 1 = (k1 : Int) := by omega
  have hkpos : decide (0 < (k : Int)) = true := by rw [decide_eq_true_iff]; omega
  have hcP : w1.cell? (ad2.add k1) = some (.int .i64 (PL : Int)) := by
    obtain ⟨ad3, u3, e3, _, hu3, h3⟩ := HR2.out.at_ (k := k1) (by rw [HML.out]; omega)
    cases e3
    obtain ⟨pk, hpk⟩ : ∃ pk, ps[k1]? = some pk := ⟨_, List.getElem?_eq_getElem (by rw [HML.out]; omega)⟩
    rw [List.getElem?_map, told_at hpk] at hu3
    have : u3 = .int .i64 (PL : Int) := by rw [hPL, hk1]; simpa [tn, fend] using hu3.symm
    rw [h3, this]
  have hk1m : k1 < m := by omega
  have HK1 := Lib.hid hk1
  clear hk1
  obtain ⟨fr0, hfr0⟩ : ∃ fr0, fr0 = 2 + PL := ⟨_, rfl⟩
  obtain ⟨dl, hdl⟩ : ∃ dl, dl = FL - 2 := ⟨_, rfl⟩
  have hdl0 : 0 < dl := by omega
  obtain ⟨z, hz⟩ : ∃ z, z = x1 % (8 * dl) := ⟨_, rfl⟩
  have hzl : z < 8 * dl := by rw [hz]; exact Nat.mod_lt _ (by omega)
  obtain ⟨a8, ha8⟩ : ∃ a8, a8 = 8 * fr0 := ⟨_, rfl⟩
  obtain ⟨d8, hd8⟩ : ∃ d8, d8 = 8 * dl := ⟨_, rfl⟩
  obtain ⟨first, hfirst⟩ : ∃ first, first = a8 + z := ⟨_, rfl⟩
  have i1 : 8 * (fr0 : Int) = (a8 : Int) := by omega
  have i2 : (ek : Int) - (fr0 : Int) = (dl : Int) := by omega
  have i3 : 8 * (dl : Int) = (d8 : Int) := by omega
  have i4 : (x1 : Int).tmod (d8 : Int) = (z : Int) := by rw [Int.tmod_eq_emod_of_nonneg (by omega), hz, hd8]; simp
  have i5 : (a8 : Int) + (z : Int) = (first : Int) := by omega
  have i6 : ¬ d8 = 0 := by omega
  have i7 : decide (ek ≤ fr0) = false := by rw [decide_eq_false_iff_not]; omega
  have i8 : decide (K < ek) = false := by rw [decide_eq_false_iff_not]; omega
  have i9 : decide (128 ≤ (n6 : Int)) = true := by rw [decide_eq_true_iff]; have := HBIG.out; omega
  have hfb : first ≤ 70000 := by omega
  have hPLb : PL ≤ 70000 := by omega
  have i0 : (2 : Int) + (PL : Int) = (fr0 : Int) := by omega
  have hab : a8 ≤ 70000 := by omega
  have hdb : d8 ≤ 70000 := by omega
  have hzb : z ≤ 70000 := by omega
  have hdlb : dl ≤ 70000 := by omega
  have hfr0b : fr0 ≤ 70000 := by omega
  have hekb : ek ≤ 70000 := by omega
  have hwr : ∀ q : Nat, q ≤ 70000 → IntKind.i64.wrap (q : Int) = (q : Int) := fun q h => by rw [IntKind.wrap_i64]; omega
  have q1 := hwr a8 hab
  have q2 := hwr dl hdlb
  have q3 := hwr d8 hdb
  have q4 := hwr z hzb
  have q5 := hwr first hfb
  clear hwr
  have HEQ : Hid (ek = PL + FL ∧ fr0 = 2 + PL ∧ dl = FL - 2 ∧ a8 = 8 * fr0 ∧ d8 = 8 * dl ∧ first = a8 + z ∧ z < 8 * dl ∧ K = PL + FL + (frs (ps.drop (k + 1))).length ∧ (vb p2.length).length = 2 ∧ (vb p2.length).length + 4 < FL) := ⟨hek, hfr0, hdl, ha8, hd8, hfirst, hzl, hKs, hvb, hFLb⟩
  have HPLl := Lib.hid hPL
  have HFLl := Lib.hid hFL
  have HKl := Lib.hid hK
  have HB1 := Lib.hid hb1
  have HN6 := Lib.hid hn6
  clear hu hp2 hr6 hr2 ho1 ho2 hcE hfe hek hfr0 hdl hz ha8 hd8 hfirst hzl hKs hvb hFLb hPL hFL hK hb1 hn6 hKpos
  go_wp2_with fail
  have hS : w1.drew = w1.drew := rfl
  refine wp_region_held (S := fun W => W = w1.drew) (by kernel_rfl) ?_
  refine h_take 0 (.int .i64 (fr0 : Int)) rfl (by kernel_rfl) (by kernel_rfl) (by kernel_rfl) (fun _ _ _ h => h) (by kernel_rfl) hS (fun _ _ => by kernel_rfl) ?_
  refine h_take 1 (.int .i64 (a8 : Int)) rfl (by kernel_rfl) (by kernel_rfl) (by kernel_rfl) (fun _ _ _ h => h) (by kernel_rfl) hS (by rintro w' rfl; go_simp) ?_
  refine h_take 2 (.pointer (some ⟨w.heap.size, 1, none⟩)) rfl (by kernel_rfl) (by kernel_rfl) (by kernel_rfl) (fun _ _ _ h => h) (by kernel_rfl) hS (by rintro w' rfl; go_simp) ?_
  refine h_take 3 (.int .u16 (x1 : Int)) rfl (by kernel_rfl) (by kernel_rfl) (by kernel_rfl) (fun _ _ _ h => h) (by kernel_rfl) hS (by rintro w' rfl; go_simp) ?_
  refine h_take 4 (.int .i64 (x1 : Int)) rfl (by kernel_rfl) (by kernel_rfl) (by kernel_rfl) (fun _ _ _ h => h) (by kernel_rfl) hS (by rintro w' rfl; go_simp) ?_
  refine h_take 5 (.slice (some ad2) m e1) rfl (by kernel_rfl) (by kernel_rfl) (by kernel_rfl) (fun _ _ _ h => h) (by kernel_rfl) hS (fun _ _ => by kernel_rfl) ?_
  refine h_take 6 (.int .i64 (k : Int)) rfl (by kernel_rfl) (by kernel_rfl) (by kernel_rfl) (fun _ _ _ h => h) (by kernel_rfl) hS (fun _ _ => by kernel_rfl) ?_
  refine h_take 7 (.pointer (some (ad2.add k))) rfl (by kernel_rfl) (by kernel_rfl) (by kernel_rfl) (fun _ _ _ h => h) (by kernel_rfl) hS (by rintro w' rfl; go_simp) ?_
  refine h_take 8 (.int .i64 (ek : Int)) rfl (by kernel_rfl) (by kernel_rfl) (by kernel_rfl) (fun _ _ _ h => h) (by kernel_rfl) hS (by rintro w' rfl; go_simp) ?_
  refine h_take 9 (.int .i64 (fr0 : Int)) rfl (by kernel_rfl) (by kernel_rfl) (by kernel_rfl) (fun _ _ _ h => h) (by kernel_rfl) hS (fun _ _ => by kernel_rfl) ?_
  refine h_take 10 (.int .i64 (dl : Int)) rfl (by kernel_rfl) (by kernel_rfl) (by kernel_rfl) (fun _ _ _ h => h) (by kernel_rfl) hS (by rintro w' rfl; go_simp) ?_
  refine h_take 11 (.int .i64 (d8 : Int)) rfl (by kernel_rfl) (by kernel_rfl) (by kernel_rfl) (fun _ _ _ h => h) (by kernel_rfl) hS (by rintro w' rfl; go_simp) ?_
  refine h_take 12 (.int .i64 (z : Int)) rfl (by kernel_rfl) (by kernel_rfl) (by kernel_rfl) (fun _ _ _ h => h) (by kernel_rfl) hS (by rintro w' rfl; go_simp) ?_
  refine h_take 13 (.int .i64 (first : Int)) rfl (by kernel_rfl) (by kernel_rfl) (by kernel_rfl) (fun _ _ _ h => h) (by kernel_rfl) hS (by rintro w' rfl; go_simp) ?_
  refine h_take 14 (.int .i64 (first : Int)) rfl (by kernel_rfl) (by kernel_rfl) (by kernel_rfl) (fun _ _ _ h => h) (by kernel_rfl) hS (fun _ _ => by kernel_rfl) ?_
  refine wpAnyH_done (by kernel_rfl) ?_ _
  go_simp
  clear i0 i1 i2 i3 i4 i5 i6 i7 i8 i9 q1 q2 q3 q4 q5 hw0 hw1 hm0 hmod hc0 hc1 hcl hkpos hx0 hx1 hab hdb hzb hdlb hfr0b hPLb hcP hki
  obtain ⟨Ev, hEv⟩ : ∃ Ev, Ev = Value.slice (some ad2) m e1 := ⟨_, rfl⟩
  have HEV := Lib.hid hEv
  have HC : Hid (frs ps = frs (ps.take k) ++ (fr p2 ++ frs (ps.drop (k + 1)))) := frs_split HP.out
  obtain ⟨pre, hpre⟩ : ∃ pre, pre = frs (ps.take k) := ⟨_, rfl⟩
  obtain ⟨tail, htail⟩ : ∃ tail, tail = frs (ps.drop (k + 1)) := ⟨_, rfl⟩
  obtain ⟨ends, hends⟩ : ∃ ends, ends = (told 0 ps).map tn := ⟨_, rfl⟩
  have hel : ends.length = m := by rw [hends, List.length_map, told_len, HML.out]
  have hO1 := HO1.out
  have hO2 := HO2.out
  rw [HC.out, ← hpre, ← htail] at hO1
  rw [← hends, HML.out, ← hEv] at hO2
  have HCe : Hid (ends[k]? = some (.int .i64 (ek : Int))) := by
    show _ = _
    rw [hends, List.getElem?_map, told_at HP.out]
    show some (tn (p2, fend ps k)) = _
    rw [fend_at HP.out, ← HPLl.out, ← HFLl.out, ← HEQ.out.1]; rfl
  have HPRE := Lib.hid hpre
  have HTAIL := Lib.hid htail
  have HEL := Lib.hid hel
  have HO1' := Lib.hid hO1
  have HO2' : Hid (w1.ownsRow (n0 + 1) 3 1 Ev ends.length ends) := by show w1.ownsRow _ _ _ _ _ _; rw [hel]; exact hO2
  clear HO1 HO2 hO1 hO2 hpre htail hends hel hEv HR2
  have hszn : n0 + 1 ≤ w1.heap.size := by have := HB1.out.size; have := HW0.out; omega
  go_wp2_with fail
  go_loopw [13, 85] (fun tv idx wr => TRel (n0 + 1) W0 pre tail p2 2 (8 * 2 + z) g K cap Ev ends tv idx wr) (fun _ idx wr => 32 - (intOf idx).toNat)
  case atStart => exact ⟨0, 0, fr p2, by omega, rfl, rfl, HO1'.out.drew, Turned.start _ _, by rw [← HEQ.out.2.2.2.2.2.2.2.2.1]; exact fr_prefix p2, fun _ => rfl, HO2'.out.drew, HB1.out.drew⟩
  case round =>
    obtain ⟨i, q, c, hi, rfl, rfl, ho, ht, hpre, hkeep, hoE, hb⟩ := hrel
    have HT := Lib.hid ht
    have HPRF := Lib.hid hpre
    have HKEEP := Lib.hid hkeep
    have HOE := Lib.hid hoE
    have hlen : (pre ++ (c ++ tail)).length = K := by
      rw [List.length_append, List.length_append, ht.1, HPRE.out, HTAIL.out, ← HPLl.out, ← HFLl.out]
      have := HEQ.out
      omega
    have HLEN := Lib.hid hlen
    by_cases hi32 : i < 32
    · have hcell2 : ∀ ad2', Ev = .slice (some ad2') m e1 → wr.cell? (ad2'.add k) = some (.int .i64 (ek : Int)) := by
        intro ad2' e
        have h := own_reads hoE
        obtain ⟨A', c', e', _, hr'⟩ := h
        rw [e] at e'
        injection e' with e1' e2' e3'
        subst e1'
        obtain ⟨ad3, u3, e3, _, hu3, h3⟩ := hr'.at_ (k := k) (by rw [HEL.out]; exact hkm)
        cases e3
        rw [HCe.out] at hu3
        rw [h3]
        exact hu3.symm
      have hcE2 := hcell2 ad2 HEV.out
      obtain ⟨pos, hpos'⟩ : ∃ pos, pos = first + i := ⟨_, rfl⟩
      have j1 : (first : Int) + (i : Int) = (pos : Int) := by omega
      have hposb : pos ≤ 70032 := by omega
      obtain ⟨t, ht1⟩ : ∃ t, t = y / 2 ^ i % 2 := ⟨_, rfl⟩
      have j2 : bits .and .u32 ((y : Int) / 2 ^ i) 1 = (t : Int) := and_one y i t HY.out ht1
      have t2 : t = 0 ∨ t = 1 := by omega
      obtain ⟨e8, he8⟩ : ∃ e8, e8 = 8 * ek := ⟨_, rfl⟩
      have j3 : 8 * (ek : Int) = (e8 : Int) := by omega
      have he8b : e8 ≤ 560000 := by omega
      have HPOS := Lib.hid hpos'
      have HE8 := Lib.hid he8
      clear hpos' ht1 ht hpre hkeep hoE hcell2 he8 hlen
      by_cases htk : t = 1 ∧ pos < e8
      · obtain ⟨rfl, hple⟩ := htk
        obtain ⟨ib, hib⟩ : ∃ ib, ib = pos / 8 := ⟨_, rfl⟩
        obtain ⟨b8, hb8⟩ : ∃ b8, b8 = pos % 8 := ⟨_, rfl⟩
        have j4 : (pos : Int) / 8 = (ib : Int) := by omega
        have j5 : (pos : Int) % 8 = (b8 : Int) := by omega
        have hEQ := HEQ.out
        have hE8 := HE8.out
        have hPOS := HPOS.out
        have hiK : ib < K := by omega
        have hb8' : b8 < 8 := by omega
        obtain ⟨jc, hjc⟩ : ∃ jc, jc = ib - PL := ⟨_, rfl⟩
        have hclen : c.length = FL := by rw [HT.out.1, ← HFLl.out]
        have hjcl : jc < c.length := by omega
        have hidx : ib = pre.length + jc := by rw [HPRE.out, ← HPLl.out]; omega
        have hrow : (pre ++ (c ++ tail))[ib]? = some c[jc] := by rw [hidx]; exact mid_at hjcl
        have hcellb : wr.cell? ⟨g, ib, none⟩ = some (.int .u8 (c[jc].toNat : Int)) := by
          rw [ho.cellAt ib (by omega), List.getElem?_map, hrow]
          rfl
        have hfz : wr.frozen? ⟨g, ib, none⟩ = false := ho.frozenAt ib
        obtain ⟨xo, hxo⟩ : ∃ xo, xo = c[jc].toNat := ⟨_, rfl⟩
        rw [← hxo] at hcellb
        have HXO := Lib.hid hxo
        have HO := Lib.hid ho
        have HI := Lib.hid (And.intro hib (And.intro hb8 (And.intro hjc hidx)))
        clear hxo ho hib hb8 hjc hidx hrow hEQ hE8 hPOS hclen
        go_wp2_with fail
        have hp := HPOS.out
        obtain ⟨hib, hb8, hjc, hidx⟩ := HI.out
        have hEQ := HEQ.out
        have hE8 := HE8.out
        have hst := HO.out.stored ib (bv (c[jc] ^^^ UInt8.ofNat (2 ^ b8)))
        have hset : ((pre ++ (c ++ tail)).map bv).set ib (bv (c[jc] ^^^ UInt8.ofNat (2 ^ b8))) = (pre ++ (c.set jc (c[jc] ^^^ UInt8.ofNat (2 ^ b8)) ++ tail)).map bv := by
          rw [← List.map_set, hidx, set_mid hjcl]
        have hv : bv (c[jc] ^^^ UInt8.ofNat (2 ^ b8)) = .int .u8 (bits .xor .u8 (xo : Int) (2 ^ b8 % 256)) := by rw [HXO.out]; exact flip_val _ b8 hb8'
        have hx := x32_flip c[jc] b8 hb8'
        rw [hset] at hst
        have hgr := hb.grown hst.2 (by have := hb.size; have := HW0.out; omega) (by intro g' hg'; injection hg' with hg'; omega)
        have hoE2 := own_unlike (v1 := .slice (some ⟨g, 0, none⟩) K cap) HO.out HOE.out (by decide) hst.2
        rw [hv] at hst hgr hoE2
        refine ⟨⟨i + 1, q + 2 ^ i, c.set jc (c[jc] ^^^ UInt8.ofNat (2 ^ b8)), by omega, by go_num, ?_, hst.1, ?_, ?_, ?_, hoE2, hgr⟩, by simp [intOf]; omega⟩
        · have : 0 < 2 ^ i := Nat.two_pow_pos i
          rw [decide_eq_true (by omega)]
        · have e1 : jc = (8 * 2 + z + i) / 8 := by omega
          have e2 : b8 = (8 * 2 + z + i) % 8 := by omega
          subst e1
          subst e2
          exact HT.out.turn hi32 (by rw [← HFLl.out]; omega) _ hjcl hx
        · rw [take_set (by omega)]
          exact HPRF.out
        · intro h0
          have : 0 < 2 ^ i := Nat.two_pow_pos i
          omega
      · have hkeep := HT.out.keep
        have HK := Lib.hid hkeep
        have HO := Lib.hid ho
        clear hkeep ho
        rcases t2 with rfl | rfl
        · go_wp2_with fail
          exact ⟨⟨i + 1, q, c, by omega, by go_num, rfl, HO.out, HK.out, HPRF.out, HKEEP.out, HOE.out, hb⟩, by simp [intOf]; omega⟩
        · have hple : ¬ pos < e8 := fun h => htk ⟨rfl, h⟩
          clear htk
          go_wp2_with fail
          exact ⟨⟨i + 1, q, c, by omega, by go_num, rfl, HO.out, HK.out, HPRF.out, HKEEP.out, HOE.out, hb⟩, by simp [intOf]; omega⟩
    · obtain rfl : i = 32 := by omega
      have hrd := Reads.of_own ho
      have hcap : K ≤ cap := by
        obtain ⟨_, ⟨h, _⟩ | ⟨g', cap', cur, h, _, _, hle, _⟩⟩ := ho
        · cases h
        · cases h
          exact hle
      have hbW : Below n0 w wr := HB0.out.trans (hb.mono (by omega))
      have hld := HL.out.below (by rw [HN0.out]; exact hbW)
      have hrun0 := run_in (some ⟨g, 0, none⟩) K cap 0 (pre ++ (c ++ tail)) hcap (by omega) (by omega) wr hld hrd
      have hpay : ∀ r ∈ ps, pay r := fun r hr => ⟨(HS.out.2 r hr).1, by have := (HS.out.2 r hr).2; omega⟩
      have hBW := Lib.hid hbW
      by_cases hq0 : q = 0
      · subst hq0
        have hc := HKEEP.out rfl
        have hfr : frun (K + 1) 0 (pre ++ (c ++ tail)) = told 0 ps := by
          rw [hc, HPRE.out, HTAIL.out, ← HC.out, HKl.out]
          exact run_whole ps hpay
        rw [hfr] at hrun0
        have HRN : Hid (Calls Tryd.prog 17 #[.slice (some ⟨g, 0, none⟩) K cap, .int .i64 0] wr _) := hrun0
        clear hrun0 hfr hc hpay hbW hrd ho ht hpre hkeep hoE HT HPRF HKEEP HOE hlen HLEN
        go_wp2_with fail
        refine HRN.out.mono ?_
        rintro e w2 ⟨v1, v2, xs, rfl, hxs, -, hg1, hg2, hb2⟩
        have hxl : xs.length = m := by rw [← HML.out, ← told_len 0 ps, ← hxs, List.length_map]
        rw [hxl] at hg1 hg2
        obtain ⟨A3, c3, rfl, -, -⟩ := own_reads hg1
        obtain ⟨A4, c4, rfl, -, -⟩ := own_reads hg2
        have hB2 : Below n0 w w2 := hBW.out.trans (hb2.mono (by have := hBW.out.size; omega))
        have HFX := Lib.hid (frame_fixed w2 (HL.out.below (by rw [HN0.out]; exact hB2)))
        have HB2 := Lib.hid hB2
        have hmm : ((m : Int) == (m : Int)) = true := by simp
        clear hxs hg1 hg2 hxl hB2
        go_wp2_with fail
        refine HFX.out.mono ?_
        rintro e w6 ⟨rfl, hb6⟩
        go_wp2
        go_ret
        exact ⟨rfl, HB2.out.trans (hb6.mono (by have := HB2.out.size; omega))⟩
      · have hfr : frun (K + 1) 0 (pre ++ (c ++ tail)) = told 0 (ps.take k) := by
          rw [HPRE.out]
          exact run_turned ps k tail p2 c _ q K hpay (hpay p2 (List.mem_of_getElem? HP.out)) ht hq0 (by rw [HEQ.out.2.2.2.2.2.2.2.2.1]; exact hpre) (by rw [← HPRE.out]; exact hlen)
        rw [hfr] at hrun0
        have HRN : Hid (Calls Tryd.prog 17 #[.slice (some ⟨g, 0, none⟩) K cap, .int .i64 0] wr _) := hrun0
        have hqt : decide (q ≠ 0) = true := by rw [decide_eq_true_iff]; exact hq0
        rw [hqt]
        clear hrun0 hfr hpay hbW hrd ho ht hpre hkeep hoE HT HPRF HKEEP HOE hlen HLEN hq0 hqt
        go_wp2_with fail
        refine HRN.out.mono ?_
        rintro e w2 ⟨v1, v2, xs, rfl, hxs, -, hg1, hg2, hb2⟩
        have hxl : xs.length = k := by
          have h1 : (told 0 (ps.take k)).length = k := by rw [told_len, List.length_take, HML.out]; omega
          rw [← h1, ← hxs, List.length_map]
        rw [hxl] at hg1 hg2
        obtain ⟨A3, c3, rfl, -, -⟩ := own_reads hg1
        obtain ⟨A4, c4, rfl, -, -⟩ := own_reads hg2
        have hB2 : Below n0 w w2 := hBW.out.trans (hb2.mono (by have := hBW.out.size; omega))
        have HFX := Lib.hid (frame_fixed w2 (HL.out.below (by rw [HN0.out]; exact hB2)))
        have HB2 := Lib.hid hB2
        have hkk : ((k : Int) == (k : Int)) = true := by simp
        clear hxs hg1 hg2 hxl hB2
        go_wp2_with fail
        refine HFX.out.mono ?_
        rintro e w6 ⟨rfl, hb6⟩
        go_wp2
        go_ret
        exact ⟨rfl, HB2.out.trans (hb6.mono (by have := HB2.out.size; omega))⟩

end Go.Proofs.YtoanmbhnhofoiaaDoor
