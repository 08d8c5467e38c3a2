/- crew.Waves. -/
import Derived.Test.YtcfmpajdhbcimaaQd0
import Derived.Test.YtcfmpajdhbcimaaXp0
import Derived.Test.YtcfmpajdhbcimaaH3
namespace Go.Proofs.Ytcfmpajdhbcimaa
open Go.RowKit Go.Sort Go.Maps

theorem lt_heapq {W : World} {a : Nat} {o : Obj} (h : W.heap[a]? = some o) : a < W.heap.size := (Array.getElem?_eq_some_iff.1 h).1
/-- What stands at a place of the order. -/
theorem at_order {xs : List Nw} (hc : chk (nds xs) = 0) {i : Nat} (hi : i < (nds xs).length) : ∃ x : Nw, x ∈ xs ∧ (pk xs (ord (nds xs)))[i]? = some x ∧ (nmO (nds xs))[i]? = some x.d.name ∧ (∀ d ∈ x.d.deps, d ∈ (nmO (nds xs)).take i) ∧ lev (nds xs) x.d.name = levOf (lev (nds xs)) x.d.deps ∧ lev (nds xs) x.d.name ≤ wvN (nds xs) i := by
  obtain ⟨j, y, hj, hy, hnm, hds⟩ := lv_node hc hi
  have hjl := (ord_good (nds xs) (nds xs).length).1 j (List.mem_of_getElem? hj)
  obtain ⟨x, hx⟩ : ∃ x, xs[j]? = some x := ⟨_, List.getElem?_eq_getElem (by rw [← nds_len]; exact hjl)⟩
  have e : y = x.d := by rw [nds_at hx] at hy; exact (Option.some.inj hy).symm
  subst e
  refine ⟨x, List.mem_of_getElem? hx, pk_at (fun k hk => by rw [← nds_len]; exact (ord_good (nds xs) (nds xs).length).1 k hk) hj hx, hnm, fun d hd => ?_, lev_at hc hi hj hy, lev_le hc hi hj hy⟩
  exact mem_ahead (nmO_all hc ((chk_ok.1 hc).2.2.2.1 x.d (List.mem_of_getElem? hy) d hd)) (hds d hd)
theorem order_badw (A : Option Addr) (n c : Nat) (xs : List Nw) (hn : n ≤ 1000000) (hok : NOk xs) (hc : chk (nds xs) ≠ 0) (w : World) (h : Nodes w w.heap.size A n xs) :
    Calls Try.prog 9 #[.slice A n c] w fun e w' => e = .returned (.tuple #[.slice none 0 0, .int .i64 (chk (nds xs))]) ∧ Below w.heap.size w w' :=
  Calls.mono (order_any A n c xs hn hok w h) (fun e w' ⟨⟨v, he, hv⟩, hb2⟩ => by
    rcases hv with ⟨_, h1⟩ | ⟨h0, _⟩
    · subst h1
      exact ⟨he, hb2⟩
    · exact absurd h0 hc)
theorem cwaves_bad (A : Option Addr) (n c : Nat) (xs : List Nw) (hn : n ≤ 1000) (hok : NOk xs) (hc0 : chk (nds xs) ≠ 0) (w : World) (h : Nodes w w.heap.size A n xs) :
    Calls Try.prog 6 #[.slice A n c] w fun e w' => e = .returned (.tuple #[.slice none 0 0, .int .i64 (chk (nds xs))]) ∧ Below w.heap.size w w' := by
  have HOR := Lib.hid (order_badw A n c xs (by omega) hok hc0 w h)
  obtain ⟨z, hz⟩ : ∃ z, z = chk (nds xs) := ⟨_, rfl⟩
  rw [← hz] at HOR hc0 ⊢
  have hz0 : (z == 0) = false := by rw [beq_eq_false_iff_ne]; exact hc0
  have hy0 : (z != 0) = true := by rw [bne_iff_ne]; exact hc0
  clear hz hc0 h hok
  go_enter Try.func6, Try.ntmps6
  go_wp2_with (go_at_call 9; refine HOR.out.mono ?_; rintro e w1 ⟨rfl, hb1⟩; have HB1 := Lib.hid hb1; clear hb1)
  go_ret2
  exact ⟨rfl, HB1.out⟩

set_option maxRecDepth 100000 in
set_option maxHeartbeats 8000000 in
theorem cwaves_ok (A : Option Addr) (n c : Nat) (xs : List Nw) (hn : n ≤ 1000) (hok : NOk xs) (hxn : ∀ x ∈ xs, x.n ≤ 1000) (hc0 : chk (nds xs) = 0) (w : World) (h : Nodes w w.heap.size A n xs) :
    Calls Try.prog 6 #[.slice A n c] w fun e w' => (∃ v vs, e = .returned (.tuple #[v, .int .i64 0]) ∧ RR w' w.heap.size v (wavesOf (nds xs)) vs) ∧ Below w.heap.size w w' := by
  have HLD : Hid ((nds xs).length = n) := by show _ = _; rw [nds_len]; exact h.len
  have HNS := Lib.hid h
  have HF := Lib.hid hok
  have HXN := Lib.hid hxn
  have HOR := Lib.hid (order_ok A n c xs (by omega) hok hc0 w h)
  have HORD : Hid (∀ j ∈ ord (nds xs), j < n) := fun j hj => by rw [← HLD.out]; exact (ord_good (nds xs) _).1 j hj
  have HAT0 := Lib.hid (fun (i : Nat) (hi : i < (nds xs).length) => at_order (xs := xs) hc0 hi)
  have HWN : Hid (∀ i, i ≤ n → wvN (nds xs) i ≤ i) := fun i hi => wvN_le (nds xs) hc0 i (by rw [HLD.out]; exact hi)
  have HSOME : Hid (∀ k, k < wvN (nds xs) n → wv (nds xs) n k ≠ []) := fun k hk e => by
    rw [← HLD.out] at hk e
    exact wave_some hc0 hk (by rw [e]; simp [srt])
  have HDONE : Hid (wvS (nds xs) n (wvN (nds xs) n) = wavesOf (nds xs)) := by show _ = _; unfold wavesOf; rw [HLD.out]
  obtain ⟨i1, s0, s1, s2, s3⟩ := info_parts info_textq
  obtain ⟨i2, r0, r1, r2, r3⟩ := info_parts info_rows
  have hmm := @run_makeMap Try.prog
  clear h hok hxn hc0
  go_enter Try.func6, Try.ntmps6
  go_wp2_with (first
    | (go_at_call 10; refine (inOrder_any A n c xs A6 n c6 (ord (nds xs)) (by omega) HORD.out _ ((HNS.out.below HB2.out).more HB2.out.size) ((HR1.out.below HA2.out).more HA2.out.size)).mono ?_; rintro e w4 ⟨⟨A7, c7, rfl, hy4⟩, hb4⟩; have HY4 := Lib.hid hy4; have HA4 := Lib.hid hb4; have HB4 := Lib.hid (HB2.out.trans (hb4.mono HB2.out.size)); clear hy4 hb4)
    | (go_at_call 9; refine HOR.out.mono ?_; rintro e w1 ⟨⟨A6, c6, rfl, hr1⟩, hb1⟩; have HR1 := Lib.hid hr1; have HA2 := Lib.hid ((Below.refl w1.heap.size w1).alloc (Nat.le_refl _) (.map #[] 0)); have HB2 := Lib.hid (hb1.trans (HA2.out.mono hb1.size)); have HBW : Hid (w.heap.size ≤ w1.heap.size) := hb1.size; clear hb1 hr1))
  have HT4 := Lib.hid (((tmap_start w1).below HA4.out).same (levF_start (nds xs)))
  have hsz1 : (w1.alloc (.map #[] 0)).heap.size = w1.heap.size + 1 := by simp
  have HSZ4 : Hid (w1.heap.size < w4.heap.size) := by show _ < _; have := HA4.out.size; omega
  rw [hsz1] at HY4
  obtain ⟨b, hb⟩ : ∃ b, b = w1.heap.size := ⟨_, rfl⟩
  rw [← hb] at HT4 HY4 HSZ4 HBW ⊢
  obtain ⟨ys, hys⟩ : ∃ ys, ys = pk xs (ord (nds xs)) := ⟨_, rfl⟩
  rw [← hys] at HY4 HAT0
  obtain ⟨l, hl⟩ : ∃ l, l = nds xs := ⟨_, rfl⟩
  rw [← hl] at HT4 HAT0 HWN HSOME HLD
  have HLN := Lib.hid hl
  have HBB : Hid (w.heap.size ≤ b) := HBW.out
  have HNIL : Hid (RR w4 (b + 1) (.slice none 0 0) (wvs l 0) []) := by
    have e : wvs l 0 = [] := by simp [wvs, wvN, levOf]
    show RR _ _ _ _ _
    rw [e]
    exact rr_nil _ _
  clear hsz1 hb hys hl HA4 HA2 HR1 HBW HORD HOR
  go_loopw [28, 6] (fun idx v wr => ∃ (i : Nat) (vs : List Value), i ≤ n ∧ idx = .int .i64 (i : Int) ∧ RR wr (b + 1) v (wvs l i) vs ∧ wr.ownsRow (b + 1) 36 4 (.slice A7 n c7) n (nws ys) ∧ TMap wr b i (levF l i) ∧ b < wr.heap.size ∧ Below w.heap.size w wr) (fun idx _ _ => n - (intOf idx).toNat)
  case atStart => exact ⟨0, [], by omega, rfl, HNIL.out, HY4.out, HT4.out, HSZ4.out, HB4.out⟩
  case round =>
    obtain ⟨i, vs, hi, rfl, hrr, hyo, htm, hsz, hb⟩ := hrel
    obtain ⟨A6, cap, rfl, _⟩ := own_slice hrr.1
    obtain ⟨m, hm⟩ : ∃ m, m = (wvs l i).length := ⟨_, rfl⟩
    have hmn : m = wvN l i := by rw [hm, wvs_len]
    rw [← hm] at ⊢ hrr
    by_cases hlt : i < n
    · obtain ⟨x, hmx, hx, hnm, hdp, hlv, hle⟩ := HAT0.out i (by rw [HLD.out]; exact hlt)
      obtain ⟨ad, rfl, hab, k0, k1, k2, k3⟩ := nodes_cells (Reads.of_own hyo) i x hx
      have HX := Lib.hid (show Reads w w.heap.size 1 x.A x.n (x.d.deps.map tsv) from HNS.out.2 x hmx)
      have HDL : Hid (x.d.deps.length = x.n) := (HNS.out.2 x hmx).len
      have HDM : Hid (∀ d ∈ x.d.deps, d.length ≤ maxLen) := (HF.out x hmx).1.2
      have HXL : Hid (x.d.name.length ≤ maxLen) := (HF.out x hmx).1.1
      have hxn : x.n ≤ 1000 := HXN.out x hmx
      have HNM := Lib.hid hnm
      have HDP := Lib.hid hdp
      have HLV := Lib.hid hlv
      rw [← hmn] at hle
      have HLE := Lib.hid hle
      have HLST : Hid (∀ u, fput (levF l i) x.d.name (.int .i64 (lev l x.d.name : Nat)) u = levF l (i + 1) u) := levF_step hnm
      have hmi : m ≤ i := by rw [hmn]; exact HWN.out i hi
      have HM := Lib.hid hm
      have HMN := Lib.hid hmn
      have HI : Hid (i < n) := hlt
      have HRR0 := Lib.hid hrr
      have HY0 := Lib.hid hyo
      have HTM0 := Lib.hid htm
      have HSZ0 := Lib.hid hsz
      have HB0 := Lib.hid hb
      obtain ⟨⟨nm, sc, ru, ds⟩, xA, xn, xc⟩ := x
      simp only at k0 k1 k2 k3 HX HDL HDM HXL hxn HNM HDP HLV HLE HLST
      have hi0 : (0 : Int) ≤ (i : Int) := by omega
      have hi1 : (i : Int) < (n : Int) := by omega
      clear hmx hx hnm hdp hlv hle hrr hyo htm hsz hb hm hmn hlt
      have HNB5 := Lib.hid (one_new wr (.cells #[.string (tx nm), .bool sc, .int .u64 ru, .slice xA xn xc] 36))
      have HAL5 : Hid (Below wr.heap.size wr (wr.alloc (.cells #[.string (tx nm), .bool sc, .int .u64 ru, .slice xA xn xc] 36))) := (Below.refl _ _).alloc (Nat.le_refl _) _
      have HRR5 := Lib.hid (HRR0.out.below HAL5.out)
      have HYO5 := Lib.hid (own_below HY0.out HAL5.out)
      have HTM5 := Lib.hid (HTM0.out.below HAL5.out)
      have HB5 := Lib.hid (HB0.out.trans (HAL5.out.mono HB0.out.size))
      have HSZ5 : Hid (b < (wr.alloc (.cells #[.string (tx nm), .bool sc, .int .u64 ru, .slice xA xn xc] 36)).heap.size) := Nat.lt_of_lt_of_le HSZ0.out HAL5.out.size
      have p3 := at_cell (i := 3) HNB5.out rfl
      obtain ⟨nb, hnb⟩ : ∃ nb, nb = wr.heap.size := ⟨_, rfl⟩
      have HNBB : Hid (b < nb) := by show b < nb; rw [hnb]; exact HSZ0.out
      go_wp2
      rw [← hnb] at HNB5 p3 ⊢
      generalize (wr.alloc (.cells #[.string (tx nm), .bool sc, .int .u64 ru, .slice xA xn xc] 36)) = w5 at HNB5 HRR5 HYO5 HTM5 HB5 HSZ5 p3 ⊢
      clear HRR0 HY0 HTM0 HSZ0 HB0 HAL5 k0 k1 k2 k3 hnb hab
      go_loopw [35, 10] (fun v35 v10 w6 => ∃ k : Nat, k ≤ xn ∧ v35 = .int .i64 (k : Int) ∧ v10 = .int .i64 ((levOf (lev l) (ds.take k) : Nat) : Int) ∧ w5 = w6) (fun v35 _ _ => xn - (intOf v35).toNat)
      case atStart => exact ⟨0, by omega, rfl, rfl, rfl⟩
      case round =>
        obtain ⟨k, hk, rfl, rfl, rfl⟩ := hrel
        by_cases hlt : k < xn
        · obtain ⟨d, hd⟩ : ∃ d, ds[k]? = some d := ⟨_, List.getElem?_eq_getElem (by rw [HDL.out]; exact hlt)⟩
          obtain ⟨ax, sv, rfl, hxb, hsv, hsc⟩ := (HX.out.below HB5.out).at_ hlt
          obtain rfl : sv = tsv d := by rw [List.getElem?_map, hd] at hsv; simpa using hsv.symm
          unfold tsv at hsc
          have hdm := List.mem_of_getElem? hd
          have hah := HDP.out d hdm
          have hlook := HTM5.out.look (HDM.out d hdm) Try.underlying31 (zeroI w5)
          rw [levF_get hah] at hlook
          have hsn := levOf_snoc (lev l) hd
          have hdl := lev_lt hah
          rw [← HMN.out] at hdl
          obtain ⟨e, he⟩ : ∃ e, e = lev l d := ⟨_, rfl⟩
          rw [← he] at hlook hsn hdl
          have hcap : levOf (lev l) (ds.take k) ≤ m := levOf_bound fun u hu => by rw [HMN.out]; exact lev_lt (HDP.out u (List.mem_of_mem_take hu))
          obtain ⟨a0, ha0⟩ : ∃ a0, a0 = levOf (lev l) (ds.take k) := ⟨_, rfl⟩
          rw [← ha0] at hsn hcap ⊢
          have hj0 : (0 : Int) ≤ (k : Int) := by omega
          have hj1 : (k : Int) < (xn : Int) := by omega
          have HLT : Hid (k < xn) := hlt
          have HSN := Lib.hid hsn
          clear hd hsv hdm hah he ha0 hlt hsn
          go_wp2
          exact ⟨⟨k + 1, HLT.out, by go_num, by rw [HSN.out]; congr 1; omega, by first | trivial | rfl⟩, by have := HLT.out; simp [intOf]; omega⟩
        · obtain rfl : k = xn := by omega
          rw [List.take_of_length_le (by rw [HDL.out]; exact Nat.le_refl _), ← HLV.out]
          obtain ⟨at_, hat⟩ : ∃ a, a = lev l nm := ⟨_, rfl⟩
          rw [← hat] at HLE HLST ⊢
          have HATL := Lib.hid hat
          have p0 := at_cell (i := 0) HNB5.out rfl
          have hatm : at_ ≤ m := HLE.out
          clear hk
          by_cases hne : at_ = m
          · have HEQ : Hid (at_ = m) := hne
            have hnn := wvs_new HNM.out (by rw [← hat, ← HMN.out]; exact hne)
            rw [← hat] at hnn
            obtain ⟨GA, hGA⟩ : ∃ GA : List (List UInt8), GA = [] := ⟨_, rfl⟩
            have HQ : Hid (GA.length ≤ 1000) := by show _ ≤ _; rw [hGA]; simp
            have HGN : Hid (wvs l (i + 1) = (wvs l i ++ [[]]).set at_ (GA ++ [nm])) := by show _ = _; rw [hGA]; exact hnn.1
            have HGL : Hid ((wvs l i ++ [[]]).length = m + 1) := by show _ = _; rw [List.length_append, ← HM.out]; rfl
            have HGA : Hid ((wvs l i ++ [[]])[at_]? = some GA) := by show _ = _; rw [hGA, hne, HM.out]; simp
            have hbe : ((at_ : Int) == (m : Int)) = true := by rw [hne]; exact beq_self_eq_true _
            have HV5 := Lib.hid HRR5.out.1
            rw [← HM.out] at HV5
            have HRW := Lib.hid (reads_one_row w5 33 (.slice none 0 0))
            have HAL6 : Hid (Below w5.heap.size w5 (w5.alloc (.cells #[.slice none 0 0] 33))) := (Below.refl _ _).alloc (Nat.le_refl _) _
            have HAT : Hid (at_ < m + 1) := by show _ < _; omega
            clear hnn hat hne hGA
            go_wp2_with (first
              | (at_mapUpdate; refine wpList_tput _ rfl _ _ _ 31 rfl 3 Try.underlying31 b i _ rfl HTM5.out (by unfold maxLen; omega) nm (.int .i64 (at_ : Int)) rfl rfl HXL.out ?_; intro w7 ht7 hg7; have HTM := Lib.hid (ht7.same HLST.out); have HRR := Lib.hid (HRR5.out.kept hg7 (.inr (fun e => by have := own_block HRR5.out.1 b e; omega)) (fun k x hk => .inr (fun e => by obtain ⟨r, _, ho⟩ := HRR5.out.2.1 k x hk; have := own_block ho b e; omega))); have HYO := Lib.hid (HYO5.out.kept hg7 (.inr (fun e => by have := own_block HYO5.out b e; omega))); have HB := Lib.hid (HB5.out.grown hg7 HB5.out.size (fun j hj => by cases hj; exact HBB.out)); have HSZ : Hid (b < w7.heap.size) := Nat.lt_of_lt_of_le HSZ5.out hg7.size; have HNB := Lib.hid ((hg7.block nb (lt_heapq HNB5.out) (fun e => by have := Option.some.inj e; have := HNBB.out; omega)).trans HNB5.out); clear ht7 hg7)
              | (at_builtin; refine wpList_append_many _ rfl (.tmp 50) (.tmp 51) 25 rfl (b + 1) 33 i2 _ 1 24 Try.underlying25 r0 r1 r2 r3 rfl (by decide) (.slice A6 m cap) m _ rfl (HV5.out.alloc _) (some ⟨w5.heap.size, 0, none⟩) 1 1 (w5.heap.size + 1) [.slice none 0 0] rfl (by intro h; cases h) HRW.out (by intro u hu; simp at hu; subst hu; rfl) (by unfold maxLen; omega) (by omega) (by have := HSZ5.out; simp; omega) ?_; intro v6 w6 ho6 hg6; obtain ⟨A8, cap, rfl, _⟩ := own_slice ho6; have HRR6 := Lib.hid (rr_add (HRR5.out.below HAL6.out) (x := .slice none 0 0) (r := []) (World.ownsRow_nil _ _ _ _) (fun k y hy g h => by cases h) hg6 (by rw [← HM.out]; exact ho6)); have HTM5 := Lib.hid ((HTM5.out.below HAL6.out).kept hg6 (fun e => by have := own_block HV5.out b e.symm; omega)); have HYO5 := Lib.hid (own_kept (own_below HYO5.out HAL6.out) (own_apart HV5.out HYO5.out (by decide)) hg6); have HNB5 := Lib.hid ((hg6.block nb (Nat.lt_of_lt_of_le (lt_heapq HNB5.out) HAL6.out.size) (fun e => own_cells HV5.out HNB5.out (by decide) e.symm)).trans ((HAL6.out.block nb (lt_heapq HNB5.out)).trans HNB5.out)); have HB5 := Lib.hid ((HB5.out.trans (HAL6.out.mono HB5.out.size)).grown hg6 (Nat.le_trans HB5.out.size HAL6.out.size) (fun j hj => by have := own_block HV5.out j hj; have := HBB.out; omega)); have HSZ5 : Hid (b < w6.heap.size) := Nat.lt_of_lt_of_le HSZ5.out (Nat.le_trans HAL6.out.size hg6.size); have p0 := at_cell (i := 0) HNB5.out rfl; obtain ⟨G, hG⟩ : ∃ G, G = wvs l i ++ [[]] := ⟨_, rfl⟩; obtain ⟨vs, hvs⟩ : ∃ v, v = vs ++ [Value.slice none 0 0] := ⟨_, rfl⟩; rw [← hG, ← hvs] at HRR6; rw [← hG] at HGN HGL HGA; obtain ⟨m2, hm2⟩ : ∃ m2, m2 = m + 1 := ⟨_, rfl⟩; rw [← hm2] at HGL HAT HRR6 ⊢; have HM : Hid (m2 = G.length) := HGL.out.symm; have HRR5 := HRR6; have hm3 : m2 ≤ 1001 := (by omega); clear hG hvs ho6 hg6 hm2 HRR6 HV5))
            obtain ⟨m, hmm2⟩ : ∃ m, m = m2 := ⟨_, rfl⟩
            rw [← hmm2] at HGL HAT HM HRR hm3 ⊢
            clear hmm2
            obtain ⟨xv, hxv, hxo⟩ := HRR.out.row HGA.out
            obtain ⟨q, hq⟩ : ∃ q, q = GA.length := ⟨_, rfl⟩
            rw [← hq] at hxo
            have hq1 : q ≤ 1000 := by rw [hq]; exact HQ.out
            obtain ⟨A4, c4, rfl, _⟩ := own_slice hxo
            have HXV := Lib.hid hxv
            have hvo := HRR.out.1
            rw [← HM.out] at hvo
            obtain ⟨g, cap2, hgv, hgb, hgl⟩ := own_pos hvo (by have := HAT.out; omega)
            injection hgv with e1 _ e3
            subst e1 e3
            have hpc : w7.cell? ⟨g, at_, none⟩ = some (.slice A4 q c4) := by
              exact own_cellq hvo at_ hxv
            have HPC := Lib.hid hpc
            have HXO := Lib.hid hxo
            have HVO := Lib.hid hvo
            have HGB : Hid (b + 1 ≤ g) := hgb
            have HAX : Hid (Apart (.slice A4 q c4) (.slice (some ⟨g, 0, none⟩) m cap)) := (HRR.out.apart hxv).symm
            have HSET : Hid (∀ (W W1 W2 : World) (x' : Value), RR W (b + 1) (.slice (some ⟨g, 0, none⟩) m cap) G vs → W.grownBy W1 (Value.ownBlock (.slice A4 q c4)) → W1.ownsRow (b + 1) 9 1 x' (q + 1) (GA.map tsv ++ [.string (tx nm)]) → (x'.ownBlock = Value.ownBlock (.slice A4 q c4) ∨ x'.ownBlock = some W.heap.size) → W1.grownBy W2 (some g) → W2.ownsRow (b + 1) 33 1 (.slice (some ⟨g, 0, none⟩) m cap) m (vs.set at_ x') → RR W2 (b + 1) (.slice (some ⟨g, 0, none⟩) m cap) (wvs l (i + 1)) (vs.set at_ x')) := fun W W1 W2 x' h1 h2 h3 h4 h5 h6 => by
              rw [HGN.out]
              refine rr_set h1 hxv h2 ?_ h4 h5 (by rw [← HM.out]; exact h6)
              rw [List.length_append, ← hq, List.map_append]
              exact h3
            clear hxv hxo hvo hq hgb hgl hpc
            refine wp_region_held (S := fun _ => True) (by kernel_rfl) (show wpAnyH _ _ _ _ _ _ _ _ (w7.drew) from ?_)
            have hpc := (show (w7.drew).cell? ⟨g, at_, none⟩ = some (.slice A4 q c4) from HPC.out)
            have hnc := (show (w7.drew).cell? ⟨nb, 0, none⟩ = some (.string (tx nm)) from at_cell (i := 0) HNB.out rfl)
            have HRR : Hid (RR w7.drew (b + 1) (.slice (some ⟨g, 0, none⟩) m cap) G vs) := HRR.out
            have HTM : Hid (TMap w7.drew b (i + 1) (levF l (i + 1))) := HTM.out
            have HB : Hid (Below w.heap.size w w7.drew) := HB.out.drew
            have HSZ : Hid (b < w7.drew.heap.size) := HSZ.out
            have HXO : Hid (w7.drew.ownsRow (b + 1) 9 1 (.slice A4 q c4) q (GA.map tsv)) := HXO.out
            have HVO : Hid (w7.drew.ownsRow (b + 1) 33 1 (.slice (some ⟨g, 0, none⟩) m cap) m vs) := HVO.out
            have HYO : Hid (w7.drew.ownsRow (b + 1) 36 4 (.slice (some ad) n c7) n (nws ys)) := HYO.out
            have hg1 : ¬ (at_ : Int) < 0 := by omega
            have hg2 : (at_ : Int) < (m : Int) := by have := HAT.out; omega
            have hg3 : ¬ (at_ : Int) ≥ (m : Int) := by have := HAT.out; omega
            have hg4 : (0 : Int) ≤ (at_ : Int) := by omega
            clear HPC HNB
            generalize w7.drew = w7 at *
            refine h_take 0 (.slice (some ⟨g, 0, none⟩) m cap) rfl (by kernel_rfl) (by kernel_rfl) (by kernel_rfl) (fun _ _ _ h => h) (by kernel_rfl) trivial (fun _ _ => by kernel_rfl) ?_
            refine h_take 1 (.int .i64 (at_ : Int)) rfl (by kernel_rfl) (by kernel_rfl) (by kernel_rfl) (fun _ _ _ h => h) (by kernel_rfl) trivial (fun _ _ => by kernel_rfl) ?_
            refine h_take 2 (.slice (some ⟨g, 0, none⟩) m cap) rfl (by kernel_rfl) (by kernel_rfl) (by kernel_rfl) (fun _ _ _ h => h) (by kernel_rfl) trivial (fun _ _ => by kernel_rfl) ?_
            refine h_take 3 (.int .i64 (at_ : Int)) rfl (by kernel_rfl) (by kernel_rfl) (by kernel_rfl) (fun _ _ _ h => h) (by kernel_rfl) trivial (fun _ _ => by kernel_rfl) ?_
            refine h_take 4 (.pointer (some ⟨g, at_, none⟩)) rfl (by kernel_rfl) (by kernel_rfl) (by kernel_rfl) (fun _ _ _ h => h) (by kernel_rfl) trivial (fun _ _ => by go_simp) ?_
            refine h_take 6 (.pointer (some ⟨nb, 0, none⟩)) rfl (by kernel_rfl) (by kernel_rfl) (by kernel_rfl) (fun _ _ _ h => h) (by kernel_rfl) trivial (fun _ _ => by go_simp) ?_
            refine h_either 5 7 rfl rfl (by kernel_rfl) (by kernel_rfl) (by kernel_rfl) (fun K hK => ?_) (fun K hK => ?_)
            · go_simp
              refine hK _ _ trivial ?_
              clear hK K
              refine h_one 7 rfl (by kernel_rfl) (by kernel_rfl) (fun K hK => ?_)
              go_simp
              refine hK _ _ trivial ?_
              clear hK K
              have HAL : Hid (Below w7.heap.size w7 (w7.alloc (.cells #[.string (tx nm)] 9))) := (Below.refl _ _).alloc (Nat.le_refl _) _
              have HX8 : Hid (World.ownsRow (w7.alloc (.cells #[.string (tx nm)] 9)) (b + 1) 9 1 (.slice A4 q c4) q (GA.map tsv)) := own_below HXO.out HAL.out
              have HV8 : Hid (World.ownsRow (w7.alloc (.cells #[.string (tx nm)] 9)) (b + 1) 33 1 (.slice (some ⟨g, 0, none⟩) m cap) m vs) := own_below HVO.out HAL.out
              have HY8 : Hid (World.ownsRow (w7.alloc (.cells #[.string (tx nm)] 9)) (b + 1) 36 4 (.slice (some ad) n c7) n (nws ys)) := own_below HYO.out HAL.out
              have HR8 : Hid (RR (w7.alloc (.cells #[.string (tx nm)] 9)) (b + 1) (.slice (some ⟨g, 0, none⟩) m cap) G vs) := HRR.out.below HAL.out
              have HRD8 := Lib.hid (reads_one_row w7 9 (.string (tx nm)))
              have HTM8 := Lib.hid (HTM.out.below HAL.out)
              have HB8 := Lib.hid (HB.out.trans (HAL.out.mono HB.out.size))
              have HSZ8 : Hid (b < (w7.alloc (.cells #[.string (tx nm)] 9)).heap.size) := Nat.lt_of_lt_of_le HSZ.out HAL.out.size
              refine h_one 8 rfl (by kernel_rfl) (by kernel_rfl) (fun K hK => ?_)
              go_simp
              refine hK _ _ trivial ?_
              clear hK K
              refine h_one 9 rfl (by kernel_rfl) (by kernel_rfl) (fun K hK => ?_)
              refine wp_append_many (.tmp 62) (.tmp 65) 33 rfl (b + 1) 9 i1 _ 1 16 Try.underlying33 s0 s1 s2 s3 rfl (by decide) (.slice A4 q c4) q _ rfl HX8.out (some ⟨w7.heap.size, 0, none⟩) 1 1 (w7.heap.size + 1) [.string (tx nm)] rfl (by intro h; cases h) HRD8.out (by intro u hu; simp at hu; subst hu; rfl) (by unfold maxLen; omega) (by omega) (by have := HSZ8.out; omega) ?_
              intro v9 w9 ho9 hg9 ht9
              obtain ⟨A9, c9, rfl, _⟩ := own_slice ho9
              have HO9 := Lib.hid ho9
              have HG9 := Lib.hid hg9
              have HT9 := Lib.hid ht9
              have HV9 := Lib.hid (own_kept HV8.out HAX.out hg9)
              clear ho9 hg9 ht9
              refine hK _ _ trivial ?_
              clear hK K
              refine h_take 10 (.pointer (some ⟨g, at_, none⟩)) rfl (by kernel_rfl) (by kernel_rfl) (by kernel_rfl) (fun _ _ _ h => h) (by kernel_rfl) trivial (fun _ _ => by go_simp) ?_
              refine h_one 11 rfl (by kernel_rfl) (by kernel_rfl) (fun K hK => ?_)
              refine wp_store_rowcell (.tmp 67) (.tmp 66) rfl g at_ A9 (q + 1) c9 rfl rfl (b + 1) m cap vs HV9.out HAT.out ?_
              intro w10 ho10 hg10
              have HR10 := Lib.hid (HSET.out (w7.alloc (.cells #[.string (tx nm)] 9)) w9 w10 (.slice A9 (q + 1) c9) HR8.out HG9.out HO9.out HT9.out hg10 ho10)
              have HY10 := Lib.hid (own_kept (own_kept HY8.out (own_apart HX8.out HY8.out (by decide)) HG9.out) (own_apart HV8.out HY8.out (by decide)) hg10)
              have HT10 := Lib.hid ((HTM8.out.kept HG9.out (fun e => by have := own_block HX8.out b e.symm; omega)).kept hg10 (fun e => by have := Option.some.inj e; have := HGB.out; omega))
              have HB10 := Lib.hid ((HB8.out.grown HG9.out HB8.out.size (fun j hj => by have := own_block HX8.out j hj; have := HBB.out; omega)).grown hg10 (Nat.le_trans HB8.out.size HG9.out.size) (fun j hj => by cases hj; have := HGB.out; have := HBB.out; omega))
              have HSZ10 : Hid (b < w10.heap.size) := by show b < _; have h1 := HSZ8.out; have h2 := HG9.out.size; have h3 := hg10.size; omega
              clear ho10 hg10
              refine hK _ _ trivial ?_
              clear hK K
              refine wpAnyH_done (by kernel_rfl) ?_ _
              go_simp
              go_wp2
              exact ⟨⟨i + 1, _, by have := HI.out; omega, by go_num, HR10.out, HY10.out, HT10.out, HSZ10.out, HB10.out⟩, by have := HI.out; simp [intOf]; omega⟩
            · go_simp
              refine hK _ _ trivial ?_
              clear hK K
              refine h_either 5 8 rfl rfl (by kernel_rfl) (by kernel_rfl) (by kernel_rfl) (fun K hK => ?_) (fun K hK => ?_)
              · go_simp
                refine hK _ _ trivial ?_
                clear hK K
                have HAL : Hid (Below w7.heap.size w7 (w7.alloc (.cells #[.string (tx nm)] 9))) := (Below.refl _ _).alloc (Nat.le_refl _) _
                have HX8 : Hid (World.ownsRow (w7.alloc (.cells #[.string (tx nm)] 9)) (b + 1) 9 1 (.slice A4 q c4) q (GA.map tsv)) := own_below HXO.out HAL.out
                have HV8 : Hid (World.ownsRow (w7.alloc (.cells #[.string (tx nm)] 9)) (b + 1) 33 1 (.slice (some ⟨g, 0, none⟩) m cap) m vs) := own_below HVO.out HAL.out
                have HY8 : Hid (World.ownsRow (w7.alloc (.cells #[.string (tx nm)] 9)) (b + 1) 36 4 (.slice (some ad) n c7) n (nws ys)) := own_below HYO.out HAL.out
                have HR8 : Hid (RR (w7.alloc (.cells #[.string (tx nm)] 9)) (b + 1) (.slice (some ⟨g, 0, none⟩) m cap) G vs) := HRR.out.below HAL.out
                have HRD8 := Lib.hid (reads_one_row w7 9 (.string (tx nm)))
                have HTM8 := Lib.hid (HTM.out.below HAL.out)
                have HB8 := Lib.hid (HB.out.trans (HAL.out.mono HB.out.size))
                have HSZ8 : Hid (b < (w7.alloc (.cells #[.string (tx nm)] 9)).heap.size) := Nat.lt_of_lt_of_le HSZ.out HAL.out.size
                refine h_one 8 rfl (by kernel_rfl) (by kernel_rfl) (fun K hK => ?_)
                go_simp
                refine hK _ _ trivial ?_
                clear hK K
                refine h_one 9 rfl (by kernel_rfl) (by kernel_rfl) (fun K hK => ?_)
                refine wp_append_many (.tmp 62) (.tmp 65) 33 rfl (b + 1) 9 i1 _ 1 16 Try.underlying33 s0 s1 s2 s3 rfl (by decide) (.slice A4 q c4) q _ rfl HX8.out (some ⟨w7.heap.size, 0, none⟩) 1 1 (w7.heap.size + 1) [.string (tx nm)] rfl (by intro h; cases h) HRD8.out (by intro u hu; simp at hu; subst hu; rfl) (by unfold maxLen; omega) (by omega) (by have := HSZ8.out; omega) ?_
                intro v9 w9 ho9 hg9 ht9
                obtain ⟨A9, c9, rfl, _⟩ := own_slice ho9
                have HO9 := Lib.hid ho9
                have HG9 := Lib.hid hg9
                have HT9 := Lib.hid ht9
                have HV9 := Lib.hid (own_kept HV8.out HAX.out hg9)
                clear ho9 hg9 ht9
                refine hK _ _ trivial ?_
                clear hK K
                refine h_take 10 (.pointer (some ⟨g, at_, none⟩)) rfl (by kernel_rfl) (by kernel_rfl) (by kernel_rfl) (fun _ _ _ h => h) (by kernel_rfl) trivial (fun _ _ => by go_simp) ?_
                refine h_one 11 rfl (by kernel_rfl) (by kernel_rfl) (fun K hK => ?_)
                refine wp_store_rowcell (.tmp 67) (.tmp 66) rfl g at_ A9 (q + 1) c9 rfl rfl (b + 1) m cap vs HV9.out HAT.out ?_
                intro w10 ho10 hg10
                have HR10 := Lib.hid (HSET.out (w7.alloc (.cells #[.string (tx nm)] 9)) w9 w10 (.slice A9 (q + 1) c9) HR8.out HG9.out HO9.out HT9.out hg10 ho10)
                have HY10 := Lib.hid (own_kept (own_kept HY8.out (own_apart HX8.out HY8.out (by decide)) HG9.out) (own_apart HV8.out HY8.out (by decide)) hg10)
                have HT10 := Lib.hid ((HTM8.out.kept HG9.out (fun e => by have := own_block HX8.out b e.symm; omega)).kept hg10 (fun e => by have := Option.some.inj e; have := HGB.out; omega))
                have HB10 := Lib.hid ((HB8.out.grown HG9.out HB8.out.size (fun j hj => by have := own_block HX8.out j hj; have := HBB.out; omega)).grown hg10 (Nat.le_trans HB8.out.size HG9.out.size) (fun j hj => by cases hj; have := HGB.out; have := HBB.out; omega))
                have HSZ10 : Hid (b < w10.heap.size) := by show b < _; have h1 := HSZ8.out; have h2 := HG9.out.size; have h3 := hg10.size; omega
                clear ho10 hg10
                refine hK _ _ trivial ?_
                clear hK K
                refine wpAnyH_done (by kernel_rfl) ?_ _
                go_simp
                go_wp2
                exact ⟨⟨i + 1, _, by have := HI.out; omega, by go_num, HR10.out, HY10.out, HT10.out, HSZ10.out, HB10.out⟩, by have := HI.out; simp [intOf]; omega⟩
              · have HAL : Hid (Below w7.heap.size w7 (w7.alloc (.cells #[.string (tx nm)] 9))) := (Below.refl _ _).alloc (Nat.le_refl _) _
                have HX8 : Hid (World.ownsRow (w7.alloc (.cells #[.string (tx nm)] 9)) (b + 1) 9 1 (.slice A4 q c4) q (GA.map tsv)) := own_below HXO.out HAL.out
                have HV8 : Hid (World.ownsRow (w7.alloc (.cells #[.string (tx nm)] 9)) (b + 1) 33 1 (.slice (some ⟨g, 0, none⟩) m cap) m vs) := own_below HVO.out HAL.out
                have HY8 : Hid (World.ownsRow (w7.alloc (.cells #[.string (tx nm)] 9)) (b + 1) 36 4 (.slice (some ad) n c7) n (nws ys)) := own_below HYO.out HAL.out
                have HR8 : Hid (RR (w7.alloc (.cells #[.string (tx nm)] 9)) (b + 1) (.slice (some ⟨g, 0, none⟩) m cap) G vs) := HRR.out.below HAL.out
                have HRD8 := Lib.hid (reads_one_row w7 9 (.string (tx nm)))
                have HTM8 := Lib.hid (HTM.out.below HAL.out)
                have HB8 := Lib.hid (HB.out.trans (HAL.out.mono HB.out.size))
                have HSZ8 : Hid (b < (w7.alloc (.cells #[.string (tx nm)] 9)).heap.size) := Nat.lt_of_lt_of_le HSZ.out HAL.out.size
                have hpc8 : World.cell? (w7.alloc (.cells #[.string (tx nm)] 9)) ⟨g, at_, none⟩ = some (.slice A4 q c4) := by
                  have e := HAL.out.block g (own_lt HVO.out g rfl)
                  unfold World.cell? at hpc ⊢
                  rw [e]
                  exact hpc
                go_simp
                refine hK _ _ trivial ?_
                clear hK K
                refine h_one 5 rfl (by kernel_rfl) (by kernel_rfl) (fun K hK => ?_)
                go_simp
                refine hK _ _ trivial ?_
                clear hK K
                refine h_one 9 rfl (by kernel_rfl) (by kernel_rfl) (fun K hK => ?_)
                refine wp_append_many (.tmp 62) (.tmp 65) 33 rfl (b + 1) 9 i1 _ 1 16 Try.underlying33 s0 s1 s2 s3 rfl (by decide) (.slice A4 q c4) q _ rfl HX8.out (some ⟨w7.heap.size, 0, none⟩) 1 1 (w7.heap.size + 1) [.string (tx nm)] rfl (by intro h; cases h) HRD8.out (by intro u hu; simp at hu; subst hu; rfl) (by unfold maxLen; omega) (by omega) (by have := HSZ8.out; omega) ?_
                intro v9 w9 ho9 hg9 ht9
                obtain ⟨A9, c9, rfl, _⟩ := own_slice ho9
                have HO9 := Lib.hid ho9
                have HG9 := Lib.hid hg9
                have HT9 := Lib.hid ht9
                have HV9 := Lib.hid (own_kept HV8.out HAX.out hg9)
                clear ho9 hg9 ht9
                refine hK _ _ trivial ?_
                clear hK K
                refine h_take 10 (.pointer (some ⟨g, at_, none⟩)) rfl (by kernel_rfl) (by kernel_rfl) (by kernel_rfl) (fun _ _ _ h => h) (by kernel_rfl) trivial (fun _ _ => by go_simp) ?_
                refine h_one 11 rfl (by kernel_rfl) (by kernel_rfl) (fun K hK => ?_)
                refine wp_store_rowcell (.tmp 67) (.tmp 66) rfl g at_ A9 (q + 1) c9 rfl rfl (b + 1) m cap vs HV9.out HAT.out ?_
                intro w10 ho10 hg10
                have HR10 := Lib.hid (HSET.out (w7.alloc (.cells #[.string (tx nm)] 9)) w9 w10 (.slice A9 (q + 1) c9) HR8.out HG9.out HO9.out HT9.out hg10 ho10)
                have HY10 := Lib.hid (own_kept (own_kept HY8.out (own_apart HX8.out HY8.out (by decide)) HG9.out) (own_apart HV8.out HY8.out (by decide)) hg10)
                have HT10 := Lib.hid ((HTM8.out.kept HG9.out (fun e => by have := own_block HX8.out b e.symm; omega)).kept hg10 (fun e => by have := Option.some.inj e; have := HGB.out; omega))
                have HB10 := Lib.hid ((HB8.out.grown HG9.out HB8.out.size (fun j hj => by have := own_block HX8.out j hj; have := HBB.out; omega)).grown hg10 (Nat.le_trans HB8.out.size HG9.out.size) (fun j hj => by cases hj; have := HGB.out; have := HBB.out; omega))
                have HSZ10 : Hid (b < w10.heap.size) := by show b < _; have h1 := HSZ8.out; have h2 := HG9.out.size; have h3 := hg10.size; omega
                clear ho10 hg10
                refine hK _ _ trivial ?_
                clear hK K
                refine wpAnyH_done (by kernel_rfl) ?_ _
                go_simp
                go_wp2
                exact ⟨⟨i + 1, _, by have := HI.out; omega, by go_num, HR10.out, HY10.out, HT10.out, HSZ10.out, HB10.out⟩, by have := HI.out; simp [intOf]; omega⟩
          · have HGN0 := wvs_in HNM.out (by rw [← hat, ← HMN.out]; omega)
            rw [← hat] at HGN0
            obtain ⟨GA, hGA⟩ : ∃ GA, GA = wv l i at_ := ⟨_, rfl⟩
            obtain ⟨G, hG⟩ : ∃ G, G = wvs l i := ⟨_, rfl⟩
            have HGA : Hid (G[at_]? = some GA) := by show _ = _; rw [hG, hGA]; exact wvs_get (by rw [← HMN.out]; omega)
            rw [← hGA, ← hG] at HGN0
            have HGN : Hid (wvs l (i + 1) = G.set at_ (GA ++ [nm])) := HGN0.1
            have HQ : Hid (GA.length ≤ 1000) := by show _ ≤ _; rw [hGA]; have := wv_len l i at_; omega
            rw [← hG] at HRR5 HM
            have HAT : Hid (at_ < m) := by show _ < _; omega
            have hbe : ((at_ : Int) == (m : Int)) = false := by rw [beq_eq_false_iff_ne]; omega
            clear HGN0 hG hGA hat hne
            go_wp2_with (at_mapUpdate; refine wpList_tput _ rfl _ _ _ 31 rfl 3 Try.underlying31 b i _ rfl HTM5.out (by unfold maxLen; omega) nm (.int .i64 (at_ : Int)) rfl rfl HXL.out ?_; intro w7 ht7 hg7; have HTM := Lib.hid (ht7.same HLST.out); have HRR := Lib.hid (HRR5.out.kept hg7 (.inr (fun e => by have := own_block HRR5.out.1 b e; omega)) (fun k x hk => .inr (fun e => by obtain ⟨r, _, ho⟩ := HRR5.out.2.1 k x hk; have := own_block ho b e; omega))); have HYO := Lib.hid (HYO5.out.kept hg7 (.inr (fun e => by have := own_block HYO5.out b e; omega))); have HB := Lib.hid (HB5.out.grown hg7 HB5.out.size (fun j hj => by cases hj; exact HBB.out)); have HSZ : Hid (b < w7.heap.size) := Nat.lt_of_lt_of_le HSZ5.out hg7.size; have HNB := Lib.hid ((hg7.block nb (lt_heapq HNB5.out) (fun e => by have := Option.some.inj e; have := HNBB.out; omega)).trans HNB5.out); clear ht7 hg7)
            obtain ⟨xv, hxv, hxo⟩ := HRR.out.row HGA.out
            obtain ⟨q, hq⟩ : ∃ q, q = GA.length := ⟨_, rfl⟩
            rw [← hq] at hxo
            have hq1 : q ≤ 1000 := by rw [hq]; exact HQ.out
            obtain ⟨A4, c4, rfl, _⟩ := own_slice hxo
            have HXV := Lib.hid hxv
            have hvo := HRR.out.1
            rw [← HM.out] at hvo
            obtain ⟨g, cap2, hgv, hgb, hgl⟩ := own_pos hvo (by have := HAT.out; omega)
            injection hgv with e1 _ e3
            subst e1 e3
            have hpc : w7.cell? ⟨g, at_, none⟩ = some (.slice A4 q c4) := by
              exact own_cellq hvo at_ hxv
            have HPC := Lib.hid hpc
            have HXO := Lib.hid hxo
            have HVO := Lib.hid hvo
            have HGB : Hid (b + 1 ≤ g) := hgb
            have HAX : Hid (Apart (.slice A4 q c4) (.slice (some ⟨g, 0, none⟩) m cap)) := (HRR.out.apart hxv).symm
            have HSET : Hid (∀ (W W1 W2 : World) (x' : Value), RR W (b + 1) (.slice (some ⟨g, 0, none⟩) m cap) G vs → W.grownBy W1 (Value.ownBlock (.slice A4 q c4)) → W1.ownsRow (b + 1) 9 1 x' (q + 1) (GA.map tsv ++ [.string (tx nm)]) → (x'.ownBlock = Value.ownBlock (.slice A4 q c4) ∨ x'.ownBlock = some W.heap.size) → W1.grownBy W2 (some g) → W2.ownsRow (b + 1) 33 1 (.slice (some ⟨g, 0, none⟩) m cap) m (vs.set at_ x') → RR W2 (b + 1) (.slice (some ⟨g, 0, none⟩) m cap) (wvs l (i + 1)) (vs.set at_ x')) := fun W W1 W2 x' h1 h2 h3 h4 h5 h6 => by
              rw [HGN.out]
              refine rr_set h1 hxv h2 ?_ h4 h5 (by rw [← HM.out]; exact h6)
              rw [List.length_append, ← hq, List.map_append]
              exact h3
            clear hxv hxo hvo hq hgb hgl hpc
            refine wp_region_held (S := fun _ => True) (by kernel_rfl) (show wpAnyH _ _ _ _ _ _ _ _ (w7.drew) from ?_)
            have hpc := (show (w7.drew).cell? ⟨g, at_, none⟩ = some (.slice A4 q c4) from HPC.out)
            have hnc := (show (w7.drew).cell? ⟨nb, 0, none⟩ = some (.string (tx nm)) from at_cell (i := 0) HNB.out rfl)
            have HRR : Hid (RR w7.drew (b + 1) (.slice (some ⟨g, 0, none⟩) m cap) G vs) := HRR.out
            have HTM : Hid (TMap w7.drew b (i + 1) (levF l (i + 1))) := HTM.out
            have HB : Hid (Below w.heap.size w w7.drew) := HB.out.drew
            have HSZ : Hid (b < w7.drew.heap.size) := HSZ.out
            have HXO : Hid (w7.drew.ownsRow (b + 1) 9 1 (.slice A4 q c4) q (GA.map tsv)) := HXO.out
            have HVO : Hid (w7.drew.ownsRow (b + 1) 33 1 (.slice (some ⟨g, 0, none⟩) m cap) m vs) := HVO.out
            have HYO : Hid (w7.drew.ownsRow (b + 1) 36 4 (.slice (some ad) n c7) n (nws ys)) := HYO.out
            have hg1 : ¬ (at_ : Int) < 0 := by omega
            have hg2 : (at_ : Int) < (m : Int) := by have := HAT.out; omega
            have hg3 : ¬ (at_ : Int) ≥ (m : Int) := by have := HAT.out; omega
            have hg4 : (0 : Int) ≤ (at_ : Int) := by omega
            clear HPC HNB
            generalize w7.drew = w7 at *
            refine h_take 0 (.slice (some ⟨g, 0, none⟩) m cap) rfl (by kernel_rfl) (by kernel_rfl) (by kernel_rfl) (fun _ _ _ h => h) (by kernel_rfl) trivial (fun _ _ => by kernel_rfl) ?_
            refine h_take 1 (.int .i64 (at_ : Int)) rfl (by kernel_rfl) (by kernel_rfl) (by kernel_rfl) (fun _ _ _ h => h) (by kernel_rfl) trivial (fun _ _ => by kernel_rfl) ?_
            refine h_take 2 (.slice (some ⟨g, 0, none⟩) m cap) rfl (by kernel_rfl) (by kernel_rfl) (by kernel_rfl) (fun _ _ _ h => h) (by kernel_rfl) trivial (fun _ _ => by kernel_rfl) ?_
            refine h_take 3 (.int .i64 (at_ : Int)) rfl (by kernel_rfl) (by kernel_rfl) (by kernel_rfl) (fun _ _ _ h => h) (by kernel_rfl) trivial (fun _ _ => by kernel_rfl) ?_
            refine h_take 4 (.pointer (some ⟨g, at_, none⟩)) rfl (by kernel_rfl) (by kernel_rfl) (by kernel_rfl) (fun _ _ _ h => h) (by kernel_rfl) trivial (fun _ _ => by go_simp) ?_
            refine h_take 6 (.pointer (some ⟨nb, 0, none⟩)) rfl (by kernel_rfl) (by kernel_rfl) (by kernel_rfl) (fun _ _ _ h => h) (by kernel_rfl) trivial (fun _ _ => by go_simp) ?_
            refine h_either 5 7 rfl rfl (by kernel_rfl) (by kernel_rfl) (by kernel_rfl) (fun K hK => ?_) (fun K hK => ?_)
            · go_simp
              refine hK _ _ trivial ?_
              clear hK K
              refine h_one 7 rfl (by kernel_rfl) (by kernel_rfl) (fun K hK => ?_)
              go_simp
              refine hK _ _ trivial ?_
              clear hK K
              have HAL : Hid (Below w7.heap.size w7 (w7.alloc (.cells #[.string (tx nm)] 9))) := (Below.refl _ _).alloc (Nat.le_refl _) _
              have HX8 : Hid (World.ownsRow (w7.alloc (.cells #[.string (tx nm)] 9)) (b + 1) 9 1 (.slice A4 q c4) q (GA.map tsv)) := own_below HXO.out HAL.out
              have HV8 : Hid (World.ownsRow (w7.alloc (.cells #[.string (tx nm)] 9)) (b + 1) 33 1 (.slice (some ⟨g, 0, none⟩) m cap) m vs) := own_below HVO.out HAL.out
              have HY8 : Hid (World.ownsRow (w7.alloc (.cells #[.string (tx nm)] 9)) (b + 1) 36 4 (.slice (some ad) n c7) n (nws ys)) := own_below HYO.out HAL.out
              have HR8 : Hid (RR (w7.alloc (.cells #[.string (tx nm)] 9)) (b + 1) (.slice (some ⟨g, 0, none⟩) m cap) G vs) := HRR.out.below HAL.out
              have HRD8 := Lib.hid (reads_one_row w7 9 (.string (tx nm)))
              have HTM8 := Lib.hid (HTM.out.below HAL.out)
              have HB8 := Lib.hid (HB.out.trans (HAL.out.mono HB.out.size))
              have HSZ8 : Hid (b < (w7.alloc (.cells #[.string (tx nm)] 9)).heap.size) := Nat.lt_of_lt_of_le HSZ.out HAL.out.size
              refine h_one 8 rfl (by kernel_rfl) (by kernel_rfl) (fun K hK => ?_)
              go_simp
              refine hK _ _ trivial ?_
              clear hK K
              refine h_one 9 rfl (by kernel_rfl) (by kernel_rfl) (fun K hK => ?_)
              refine wp_append_many (.tmp 62) (.tmp 65) 33 rfl (b + 1) 9 i1 _ 1 16 Try.underlying33 s0 s1 s2 s3 rfl (by decide) (.slice A4 q c4) q _ rfl HX8.out (some ⟨w7.heap.size, 0, none⟩) 1 1 (w7.heap.size + 1) [.string (tx nm)] rfl (by intro h; cases h) HRD8.out (by intro u hu; simp at hu; subst hu; rfl) (by unfold maxLen; omega) (by omega) (by have := HSZ8.out; omega) ?_
              intro v9 w9 ho9 hg9 ht9
              obtain ⟨A9, c9, rfl, _⟩ := own_slice ho9
              have HO9 := Lib.hid ho9
              have HG9 := Lib.hid hg9
              have HT9 := Lib.hid ht9
              have HV9 := Lib.hid (own_kept HV8.out HAX.out hg9)
              clear ho9 hg9 ht9
              refine hK _ _ trivial ?_
              clear hK K
              refine h_take 10 (.pointer (some ⟨g, at_, none⟩)) rfl (by kernel_rfl) (by kernel_rfl) (by kernel_rfl) (fun _ _ _ h => h) (by kernel_rfl) trivial (fun _ _ => by go_simp) ?_
              refine h_one 11 rfl (by kernel_rfl) (by kernel_rfl) (fun K hK => ?_)
              refine wp_store_rowcell (.tmp 67) (.tmp 66) rfl g at_ A9 (q + 1) c9 rfl rfl (b + 1) m cap vs HV9.out HAT.out ?_
              intro w10 ho10 hg10
              have HR10 := Lib.hid (HSET.out (w7.alloc (.cells #[.string (tx nm)] 9)) w9 w10 (.slice A9 (q + 1) c9) HR8.out HG9.out HO9.out HT9.out hg10 ho10)
              have HY10 := Lib.hid (own_kept (own_kept HY8.out (own_apart HX8.out HY8.out (by decide)) HG9.out) (own_apart HV8.out HY8.out (by decide)) hg10)
              have HT10 := Lib.hid ((HTM8.out.kept HG9.out (fun e => by have := own_block HX8.out b e.symm; omega)).kept hg10 (fun e => by have := Option.some.inj e; have := HGB.out; omega))
              have HB10 := Lib.hid ((HB8.out.grown HG9.out HB8.out.size (fun j hj => by have := own_block HX8.out j hj; have := HBB.out; omega)).grown hg10 (Nat.le_trans HB8.out.size HG9.out.size) (fun j hj => by cases hj; have := HGB.out; have := HBB.out; omega))
              have HSZ10 : Hid (b < w10.heap.size) := by show b < _; have h1 := HSZ8.out; have h2 := HG9.out.size; have h3 := hg10.size; omega
              clear ho10 hg10
              refine hK _ _ trivial ?_
              clear hK K
              refine wpAnyH_done (by kernel_rfl) ?_ _
              go_simp
              go_wp2
              exact ⟨⟨i + 1, _, by have := HI.out; omega, by go_num, HR10.out, HY10.out, HT10.out, HSZ10.out, HB10.out⟩, by have := HI.out; simp [intOf]; omega⟩
            · go_simp
              refine hK _ _ trivial ?_
              clear hK K
              refine h_either 5 8 rfl rfl (by kernel_rfl) (by kernel_rfl) (by kernel_rfl) (fun K hK => ?_) (fun K hK => ?_)
              · go_simp
                refine hK _ _ trivial ?_
                clear hK K
                have HAL : Hid (Below w7.heap.size w7 (w7.alloc (.cells #[.string (tx nm)] 9))) := (Below.refl _ _).alloc (Nat.le_refl _) _
                have HX8 : Hid (World.ownsRow (w7.alloc (.cells #[.string (tx nm)] 9)) (b + 1) 9 1 (.slice A4 q c4) q (GA.map tsv)) := own_below HXO.out HAL.out
                have HV8 : Hid (World.ownsRow (w7.alloc (.cells #[.string (tx nm)] 9)) (b + 1) 33 1 (.slice (some ⟨g, 0, none⟩) m cap) m vs) := own_below HVO.out HAL.out
                have HY8 : Hid (World.ownsRow (w7.alloc (.cells #[.string (tx nm)] 9)) (b + 1) 36 4 (.slice (some ad) n c7) n (nws ys)) := own_below HYO.out HAL.out
                have HR8 : Hid (RR (w7.alloc (.cells #[.string (tx nm)] 9)) (b + 1) (.slice (some ⟨g, 0, none⟩) m cap) G vs) := HRR.out.below HAL.out
                have HRD8 := Lib.hid (reads_one_row w7 9 (.string (tx nm)))
                have HTM8 := Lib.hid (HTM.out.below HAL.out)
                have HB8 := Lib.hid (HB.out.trans (HAL.out.mono HB.out.size))
                have HSZ8 : Hid (b < (w7.alloc (.cells #[.string (tx nm)] 9)).heap.size) := Nat.lt_of_lt_of_le HSZ.out HAL.out.size
                refine h_one 8 rfl (by kernel_rfl) (by kernel_rfl) (fun K hK => ?_)
                go_simp
                refine hK _ _ trivial ?_
                clear hK K
                refine h_one 9 rfl (by kernel_rfl) (by kernel_rfl) (fun K hK => ?_)
                refine wp_append_many (.tmp 62) (.tmp 65) 33 rfl (b + 1) 9 i1 _ 1 16 Try.underlying33 s0 s1 s2 s3 rfl (by decide) (.slice A4 q c4) q _ rfl HX8.out (some ⟨w7.heap.size, 0, none⟩) 1 1 (w7.heap.size + 1) [.string (tx nm)] rfl (by intro h; cases h) HRD8.out (by intro u hu; simp at hu; subst hu; rfl) (by unfold maxLen; omega) (by omega) (by have := HSZ8.out; omega) ?_
                intro v9 w9 ho9 hg9 ht9
                obtain ⟨A9, c9, rfl, _⟩ := own_slice ho9
                have HO9 := Lib.hid ho9
                have HG9 := Lib.hid hg9
                have HT9 := Lib.hid ht9
                have HV9 := Lib.hid (own_kept HV8.out HAX.out hg9)
                clear ho9 hg9 ht9
                refine hK _ _ trivial ?_
                clear hK K
                refine h_take 10 (.pointer (some ⟨g, at_, none⟩)) rfl (by kernel_rfl) (by kernel_rfl) (by kernel_rfl) (fun _ _ _ h => h) (by kernel_rfl) trivial (fun _ _ => by go_simp) ?_
                refine h_one 11 rfl (by kernel_rfl) (by kernel_rfl) (fun K hK => ?_)
                refine wp_store_rowcell (.tmp 67) (.tmp 66) rfl g at_ A9 (q + 1) c9 rfl rfl (b + 1) m cap vs HV9.out HAT.out ?_
                intro w10 ho10 hg10
                have HR10 := Lib.hid (HSET.out (w7.alloc (.cells #[.string (tx nm)] 9)) w9 w10 (.slice A9 (q + 1) c9) HR8.out HG9.out HO9.out HT9.out hg10 ho10)
                have HY10 := Lib.hid (own_kept (own_kept HY8.out (own_apart HX8.out HY8.out (by decide)) HG9.out) (own_apart HV8.out HY8.out (by decide)) hg10)
                have HT10 := Lib.hid ((HTM8.out.kept HG9.out (fun e => by have := own_block HX8.out b e.symm; omega)).kept hg10 (fun e => by have := Option.some.inj e; have := HGB.out; omega))
                have HB10 := Lib.hid ((HB8.out.grown HG9.out HB8.out.size (fun j hj => by have := own_block HX8.out j hj; have := HBB.out; omega)).grown hg10 (Nat.le_trans HB8.out.size HG9.out.size) (fun j hj => by cases hj; have := HGB.out; have := HBB.out; omega))
                have HSZ10 : Hid (b < w10.heap.size) := by show b < _; have h1 := HSZ8.out; have h2 := HG9.out.size; have h3 := hg10.size; omega
                clear ho10 hg10
                refine hK _ _ trivial ?_
                clear hK K
                refine wpAnyH_done (by kernel_rfl) ?_ _
                go_simp
                go_wp2
                exact ⟨⟨i + 1, _, by have := HI.out; omega, by go_num, HR10.out, HY10.out, HT10.out, HSZ10.out, HB10.out⟩, by have := HI.out; simp [intOf]; omega⟩
              · have HAL : Hid (Below w7.heap.size w7 (w7.alloc (.cells #[.string (tx nm)] 9))) := (Below.refl _ _).alloc (Nat.le_refl _) _
                have HX8 : Hid (World.ownsRow (w7.alloc (.cells #[.string (tx nm)] 9)) (b + 1) 9 1 (.slice A4 q c4) q (GA.map tsv)) := own_below HXO.out HAL.out
                have HV8 : Hid (World.ownsRow (w7.alloc (.cells #[.string (tx nm)] 9)) (b + 1) 33 1 (.slice (some ⟨g, 0, none⟩) m cap) m vs) := own_below HVO.out HAL.out
                have HY8 : Hid (World.ownsRow (w7.alloc (.cells #[.string (tx nm)] 9)) (b + 1) 36 4 (.slice (some ad) n c7) n (nws ys)) := own_below HYO.out HAL.out
                have HR8 : Hid (RR (w7.alloc (.cells #[.string (tx nm)] 9)) (b + 1) (.slice (some ⟨g, 0, none⟩) m cap) G vs) := HRR.out.below HAL.out
                have HRD8 := Lib.hid (reads_one_row w7 9 (.string (tx nm)))
                have HTM8 := Lib.hid (HTM.out.below HAL.out)
                have HB8 := Lib.hid (HB.out.trans (HAL.out.mono HB.out.size))
                have HSZ8 : Hid (b < (w7.alloc (.cells #[.string (tx nm)] 9)).heap.size) := Nat.lt_of_lt_of_le HSZ.out HAL.out.size
                have hpc8 : World.cell? (w7.alloc (.cells #[.string (tx nm)] 9)) ⟨g, at_, none⟩ = some (.slice A4 q c4) := by
                  have e := HAL.out.block g (own_lt HVO.out g rfl)
                  unfold World.cell? at hpc ⊢
                  rw [e]
                  exact hpc
                go_simp
                refine hK _ _ trivial ?_
                clear hK K
                refine h_one 5 rfl (by kernel_rfl) (by kernel_rfl) (fun K hK => ?_)
                go_simp
                refine hK _ _ trivial ?_
                clear hK K
                refine h_one 9 rfl (by kernel_rfl) (by kernel_rfl) (fun K hK => ?_)
                refine wp_append_many (.tmp 62) (.tmp 65) 33 rfl (b + 1) 9 i1 _ 1 16 Try.underlying33 s0 s1 s2 s3 rfl (by decide) (.slice A4 q c4) q _ rfl HX8.out (some ⟨w7.heap.size, 0, none⟩) 1 1 (w7.heap.size + 1) [.string (tx nm)] rfl (by intro h; cases h) HRD8.out (by intro u hu; simp at hu; subst hu; rfl) (by unfold maxLen; omega) (by omega) (by have := HSZ8.out; omega) ?_
                intro v9 w9 ho9 hg9 ht9
                obtain ⟨A9, c9, rfl, _⟩ := own_slice ho9
                have HO9 := Lib.hid ho9
                have HG9 := Lib.hid hg9
                have HT9 := Lib.hid ht9
                have HV9 := Lib.hid (own_kept HV8.out HAX.out hg9)
                clear ho9 hg9 ht9
                refine hK _ _ trivial ?_
                clear hK K
                refine h_take 10 (.pointer (some ⟨g, at_, none⟩)) rfl (by kernel_rfl) (by kernel_rfl) (by kernel_rfl) (fun _ _ _ h => h) (by kernel_rfl) trivial (fun _ _ => by go_simp) ?_
                refine h_one 11 rfl (by kernel_rfl) (by kernel_rfl) (fun K hK => ?_)
                refine wp_store_rowcell (.tmp 67) (.tmp 66) rfl g at_ A9 (q + 1) c9 rfl rfl (b + 1) m cap vs HV9.out HAT.out ?_
                intro w10 ho10 hg10
                have HR10 := Lib.hid (HSET.out (w7.alloc (.cells #[.string (tx nm)] 9)) w9 w10 (.slice A9 (q + 1) c9) HR8.out HG9.out HO9.out HT9.out hg10 ho10)
                have HY10 := Lib.hid (own_kept (own_kept HY8.out (own_apart HX8.out HY8.out (by decide)) HG9.out) (own_apart HV8.out HY8.out (by decide)) hg10)
                have HT10 := Lib.hid ((HTM8.out.kept HG9.out (fun e => by have := own_block HX8.out b e.symm; omega)).kept hg10 (fun e => by have := Option.some.inj e; have := HGB.out; omega))
                have HB10 := Lib.hid ((HB8.out.grown HG9.out HB8.out.size (fun j hj => by have := own_block HX8.out j hj; have := HBB.out; omega)).grown hg10 (Nat.le_trans HB8.out.size HG9.out.size) (fun j hj => by cases hj; have := HGB.out; have := HBB.out; omega))
                have HSZ10 : Hid (b < w10.heap.size) := by show b < _; have h1 := HSZ8.out; have h2 := HG9.out.size; have h3 := hg10.size; omega
                clear ho10 hg10
                refine hK _ _ trivial ?_
                clear hK K
                refine wpAnyH_done (by kernel_rfl) ?_ _
                go_simp
                go_wp2
                exact ⟨⟨i + 1, _, by have := HI.out; omega, by go_num, HR10.out, HY10.out, HT10.out, HSZ10.out, HB10.out⟩, by have := HI.out; simp [intOf]; omega⟩
    · obtain rfl : i = n := by omega
      have HBF := Lib.hid hb
      have HRRF := Lib.hid hrr
      have hmi : m ≤ 1000 := by have := HWN.out i hi; omega
      have HMN := Lib.hid hmn
      have HM := Lib.hid hm
      obtain ⟨w5, hw5⟩ : ∃ x, x = wr := ⟨_, rfl⟩
      subst hw5
      clear hrr hyo htm hsz hb hm hmn hlt hi HAT0 HNIL HY4 HT4 HSZ4
      go_wp2
      go_loopw [71] (fun v wr => ∃ k : Nat, k ≤ m ∧ v = .int .i64 (k : Int) ∧ RR wr (b + 1) (.slice A6 m cap) (wvS l i k) vs ∧ Below w.heap.size w wr) (fun v _ => m - (intOf v).toNat)
      case atStart => exact ⟨0, by omega, rfl, by rw [wvS_start]; exact HRRF.out, HBF.out⟩
      case round =>
        obtain ⟨k, hk, rfl, hrr, hb⟩ := hrel
        have HRR := Lib.hid hrr
        have HB := Lib.hid hb
        by_cases hlt : k < m
        · have hgk := wvS_get (l := l) (n := i) (j := k) (k := k) (by rw [← HMN.out]; exact hlt)
          rw [if_neg (Nat.lt_irrefl k)] at hgk
          obtain ⟨xv, hxv, hxo⟩ := hrr.row hgk
          have hne := HSOME.out k (by rw [← HMN.out]; exact hlt)
          obtain ⟨ss, hss⟩ : ∃ ss, ss = wv l i k := ⟨_, rfl⟩
          have hqb := wv_len l i k
          rw [← hss] at hxo hne hqb
          obtain ⟨q, hq⟩ : ∃ q, q = ss.length := ⟨_, rfl⟩
          rw [← hq] at hxo hqb
          have HQ := Lib.hid hq
          have hq0 : 0 < q := by rw [hq]; exact List.length_pos_iff.2 hne
          obtain ⟨A4, c4, rfl, _⟩ := own_slice hxo
          have hvo := hrr.1
          rw [wvS_len, ← HMN.out] at hvo
          obtain ⟨g, cap2, hgv, hgb, hgl⟩ := own_pos hvo (by omega)
          injection hgv with e1 _ e3
          subst e1 e3
          have hpc := own_cellq hvo k hxv
          have HSO := Lib.hid (sortrow_any (b + 1) q (.slice A4 q c4) ss hq0 (by omega) wr hxo)
          have HXV := Lib.hid hxv
          have HST : Hid (wvS l i (k + 1) = (wvS l i k).set k (srt ss)) := by show _ = _; rw [hss]; exact wvS_step (by rw [← HMN.out]; exact hlt)
          have HLT : Hid (k < m) := hlt
          have hj0 : (0 : Int) ≤ (k : Int) := by omega
          have hj1 : (k : Int) < (m : Int) := by omega
          have HXB := Lib.hid (own_block hxo)
          clear hgk hxv hxo hne hss hqb hq hvo hgb hgl hrr hb hlt hq0
          go_wp2_with (go_at_call 11; refine HSO.out.mono ?_; rintro e w9 ⟨rfl, ho9, hg9⟩; have HR9 := Lib.hid (rr_in (r := srt ss) HRR.out HXV.out hg9 (by rw [show (srt ss).length = q by unfold srt; rw [List.length_mergeSort]; exact HQ.out.symm]; exact ho9)); have HB9 := Lib.hid (HB.out.grown hg9 HB.out.size (fun j hj => by have := HXB.out j hj; have := HBB.out; omega)); clear ho9 hg9)
          exact ⟨⟨k + 1, HLT.out, by go_num, by rw [HST.out]; exact HR9.out, HB9.out⟩, by have := HLT.out; simp [intOf]; omega⟩
        · obtain rfl : k = m := by omega
          have HE : Hid (wvS l i k = wavesOf (nds xs)) := by show _ = _; rw [HMN.out, HLN.out]; exact HDONE.out
          have HR9 := Lib.hid (HRR.out.less (base' := w.heap.size) (by have := HBB.out; omega))
          rw [HE.out] at HR9
          clear hrr hb hlt
          go_wp2
          go_ret2
          exact ⟨⟨_, vs, rfl, HR9.out⟩, HB.out⟩

end Go.Proofs.Ytcfmpajdhbcimaa
