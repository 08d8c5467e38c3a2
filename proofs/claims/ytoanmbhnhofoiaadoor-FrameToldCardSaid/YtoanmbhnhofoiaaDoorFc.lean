/- The walks of frame.Head, frame.Version and frame.Put. -/
import Derived.ArgAppend
import Derived.Lib.SlBytesConst
import Derived.Test.YtoanmbhnhofoiaaDoorFb
import Derived.Test.YtoanmbhnhofoiaaDoorFa
import Derived.Test.YtoanmbhnhofoiaaDoorBb
namespace Go.Proofs.YtoanmbhnhofoiaaDoor
open Go.RowKit Go.Shelf

theorem own_more {w : World} {base base' : Nat} {e : TypeId} {size : Nat} {v : Value} {n : Nat} {xs : List Value} (h : w.ownsRow base e size v n xs) (hb : base' ≤ base) : w.ownsRow base' e size v n xs :=
  ⟨h.1, h.2.imp id fun ⟨g, cap, cur, hv, hg, r⟩ => ⟨g, cap, cur, hv, Nat.le_trans hb hg, r⟩⟩

theorem reads_vals (W : World) (e : TypeId) (vs : List Value) : Reads (W.alloc (.cells vs.toArray e)) (W.heap.size + 1) 1 (some ⟨W.heap.size, 0, none⟩) vs.length vs :=
  ⟨by simp, fun _ => ⟨_, rfl, by simp, fun j u hu => by
    have h0 : Addr.add ⟨W.heap.size, 0, none⟩ j = ⟨W.heap.size, j, none⟩ := by
      unfold Addr.add
      split
      · rename_i h; rw [h]
      · simp
    rw [h0]
    simp only [World.cell?, World.alloc, Array.getElem?_push_size]
    simpa using hu⟩⟩

/-- A version's head, without its sum; and with it. -/
def hb (v : Nat) : List UInt8 := [84, 80, 72, UInt8.ofNat v]
def hd (v : Nat) : List UInt8 := hb v ++ lb (crc (hb v))

theorem u8_val {v : Nat} (h : v < 256) : (bv (UInt8.ofNat v)) = .int .u8 (v : Int) := bv_ofNat h

set_option maxRecDepth 100000 in
set_option maxHeartbeats 400000 in
theorem head_bad (v : Int) (h : ver v = false) (w : World) : Calls Tryd.prog 9 #[.int .i64 v] w fun e w' => e = .returned (.tuple #[.slice none 0 0, .int .i64 11]) ∧ w = w' := by
  go_enter Tryd.func9, Tryd.ntmps9
  go_wp2_with (go_at_call 22; refine (isv_any _ _).mono ?_; rintro e w1 ⟨rfl, rfl⟩)
  go_ret2
  exact ⟨rfl, rfl⟩

set_option maxRecDepth 100000 in
set_option maxHeartbeats 400000 in
theorem head_ok (v : Nat) (h : 1 ≤ v ∧ v ≤ 3) (w : World) (hl : Laid w) : Calls Tryd.prog 9 #[.int .i64 (v : Int)] w fun e w' => ∃ u, e = .returned (.tuple #[u, .int .i64 0]) ∧ w'.ownsRow w.heap.size 5 1 u 8 ((hd v).map bv) ∧ Below w.heap.size w w' := by
  obtain ⟨i0, hi, hz0, hz1, hz2⟩ := info_parts crc_info5
  have kc := fun (w : World) (C : Array Value) (n c : Nat) => Lib.run_convert_bytes_const (P := Tryd.prog) w 22 5 C n c Tryd.underlying22 Tryd.underlying5
  have hv : ver (v : Int) = true := ver_yes (by omega)
  have hw1 : IntKind.u8.wrap (v : Int) = (v : Int) := by rw [IntKind.wrap_u8']; omega
  have hmap : (hb v).map bv = [Value.int .u8 84, .int .u8 80, .int .u8 72] ++ [.int .u8 (v : Int)] := by
    rw [← u8_val (by omega : v < 256)]; rfl
  have HMAP := Lib.hid hmap
  have HL := Lib.hid hl
  have HV := Lib.hid h
  clear hmap hl h
  have HTPH : Hid (∀ W : World, ∀ j u, [Value.int .u8 84, .int .u8 80, .int .u8 72][j]? = some u → ((W.alloc (.cells #[Value.int .u8 84, .int .u8 80, .int .u8 72] 5 (3, 4))).alloc (.cells #[.int .u8 (v : Int)] 5)).cell? ((⟨W.heap.size, 0, none⟩ : Addr).add j) = some u) := by
    intro W j u hj
    have h1 := (reads_lit W 5 [84, 80, 72] (3, 4)).alloc (by simp) (.cells #[.int .u8 (v : Int)] 5)
    have e : ([84, 80, 72] : List UInt8).map bv = [Value.int .u8 84, .int .u8 80, .int .u8 72] := by kernel_rfl
    rw [e] at h1
    obtain ⟨ad, e2, _, h3⟩ := h1.2 (by decide)
    cases e2
    exact h3 j u hj
  go_enter Tryd.func9, Tryd.ntmps9
  go_wp2_with (first
    | (go_at_call 22; refine (isv_any _ _).mono ?_; rintro e w1 ⟨rfl, rfl⟩)
    | (at_builtin; refine wpList_append_grows _ rfl (.tmp 8) (.tmp 11) 22 rfl 5 i0 (.int .u8 0) 1 1 Tryd.underlying22 hi hz0 hz1 hz2 rfl (by decide) (some ⟨w.heap.size, 0, none⟩) 3 3 [.int .u8 84, .int .u8 80, .int .u8 72] rfl (fun e => by cases e) rfl (fun b e => by cases e; exact HTPH.out w) ⟨w.heap.size + 1, 0, none⟩ 1 1 [.int .u8 (v : Int)] rfl rfl ?news (by simp [Value.oneCell']) (by omega) (by unfold maxLen; omega) (by omega) ?_)
    | fail)
  case news =>
    have h := cell_one_new (w.alloc (.cells #[Value.int .u8 84, .int .u8 80, .int .u8 72] 5 (3, 4))) (.int .u8 (v : Int)) 5
    rw [World.size_alloc] at h
    exact h
  intro v' w' ho hg
  have hb1 : Below w.heap.size w w' := (((Below.refl _ w).alloc (Nat.le_refl _) _).alloc (by simp) _).grown hg (by simp; omega) (by simp)
  have hls : Laid w' := HL.out.below hb1
  have ho2 : w'.ownsRow w.heap.size 5 1 v' 4 ((hb v).map bv) := by rw [HMAP.out]; exact own_more ho (by omega)
  have HO := Lib.hid (wsum_any w.heap.size v' 4 (hb v) (by omega) w' hb1.size hls ho2)
  clear ho hg hls ho2
  go_wp2_with (go_at_call 23; refine HO.out.mono ?_; rintro e w2 ⟨v2, rfl, ho2, hb2⟩; obtain ⟨A2, c2, rfl, hc2, -⟩ := own_reads ho2)
  go_ret2
  exact ⟨_, rfl, ho2, hb1.trans hb2⟩

/-- The version of the head with which bytes begin; the error's number. -/
def vg (bs : List UInt8) : Nat × Nat :=
  if bs.length < 8 then (0, 2)
  else if bs.take 3 ≠ [84, 80, 72] then (0, 3)
  else if lb (crc (bs.take 4)) ≠ (bs.drop 4).take 4 then (0, 4)
  else if ver ((bs.drop 3).headD 0).toNat = false then (0, 11)
  else (((bs.drop 3).headD 0).toNat, 0)

theorem tx_ne {a b : List UInt8} {s : ByteArray} (hs : tx b = s) (h : a ≠ b) : tx a ≠ s := fun e => h (tx_inj (e.trans hs.symm))

/-- The sum that is read is not the one that was made. -/
theorem sum_ne {t : List UInt8} (ht : t.length = 4) {s : W32} : le4 t = s ↔ lb s = t := by
  constructor
  · rintro rfl; exact lb_of ht
  · rintro rfl; exact le4_lb s

theorem wv_ne {a b : W32} (h : a ≠ b) : ((a.toNat : Int) = (b.toNat : Int)) = False := by
  apply eq_false
  intro e
  exact h (BitVec.eq_of_toNat_eq (by omega))

set_option maxRecDepth 100000 in
set_option maxHeartbeats 400000 in
theorem version_any (A : Option Addr) (n c : Nat) (bs : List UInt8) (hc : n ≤ c) (hn : n ≤ 1073741824) (w : World) (hl : Laid w) (hr : Reads w w.heap.size 1 A n (bs.map bv)) :
    Calls Tryd.prog 11 #[.slice A n c] w fun e w' => e = .returned (.tuple #[.int .i64 ((vg bs).1 : Int), .int .i64 ((vg bs).2 : Int)]) ∧ Below w.heap.size w w' := by
  have hbn : bs.length = n := by have := hr.1; simpa using this
  have HB := Lib.hid hbn
  have HL := Lib.hid hl
  clear hl
  by_cases h8 : n < 8
  · rw [vg, if_pos (by omega)]
    clear hbn
    go_enter Tryd.func11, Tryd.ntmps11
    go_wp2
    go_ret2
    exact ⟨rfl, Below.refl _ _⟩
  obtain ⟨ad, rfl, hadb, hcells⟩ := hr.2 (by omega)
  have ht3 := hr.take (k := 3) (by omega)
  rw [← List.map_take] at ht3
  have hcv : ∀ W : World, Hid (W = w) → (convert 22 9 (.slice (some ad) 3 c)).run Tryd.prog W = .ok (.string (tx (bs.take 3))) W := fun W hW => by
    cases hW
    exact conv_reads Tryd.underlying22 Tryd.underlying5 Tryd.underlying9 ht3
  have hcv0 := hcv w rfl
  by_cases h3 : bs.take 3 = [84, 80, 72]
  · obtain ⟨s, hs⟩ : ∃ s, s = tx (bs.take 3) := ⟨_, rfl⟩
    have hs3 : (s.toList == [84, 80, 72]) = true := by rw [hs, tx_toList, h3]; rfl
    rw [← hs] at hcv0
    clear hs hcv ht3
    have hrd := read_ok (some ad) n c 4 bs hn hc (by omega) w hr
    have hr4 := hr.take (k := 4) (by omega)
    rw [← List.map_take] at hr4
    have hsm := sum_one w (.slice (some ad) 4 c) (bs.take 4) HL.out ⟨some ad, 4, c, rfl, by omega, by omega, hr4⟩
    have hlen4 : ((bs.drop 4).take 4).length = 4 := by rw [List.length_take, List.length_drop]; omega
    obtain ⟨x, hx⟩ : ∃ x, bs[3]? = some x := ⟨_, List.getElem?_eq_getElem (by omega)⟩
    have hhd : (bs.drop 3).headD 0 = x := by
      have : (bs.drop 3)[0]? = some x := by rw [List.getElem?_drop]; exact hx
      rw [List.headD_eq_head?_getD, List.head?_eq_getElem?, this]; rfl
    have hcell : w.cell? (ad.add 3) = some (.int .u8 (x.toNat : Int)) := hcells 3 _ (by rw [List.getElem?_map, hx]; rfl)
    have hcell2 : w.cell? { block := ad.block, off := ad.off + 3 } = some (.int .u8 (x.toNat : Int)) := by simpa [Addr.add] using hcell
    have hx256 : x.toNat < 256 := x.toNat_lt
    rw [vg, if_neg (by omega), if_neg (by simpa using h3), hhd]
    obtain ⟨v, hv⟩ : ∃ v, v = x.toNat := ⟨_, rfl⟩
    rw [← hv] at hcell2 hx256 ⊢
    clear hcell
    have HRD := Lib.hid hrd
    have HSM := Lib.hid hsm
    have hwr : IntKind.i64.wrap (v : Int) = (v : Int) := by rw [IntKind.wrap_i64]; omega
    by_cases hc4 : le4 ((bs.drop 4).take 4) = crc (bs.take 4)
    · have e4 : lb (crc (bs.take 4)) = (bs.drop 4).take 4 := (sum_ne hlen4).1 hc4
      rw [if_neg (by simpa using e4)]
      rw [hc4] at HRD
      obtain ⟨q, hq⟩ : ∃ q, q = crc (bs.take 4) := ⟨_, rfl⟩
      rw [← hq] at HRD HSM
      obtain ⟨a, ha⟩ : ∃ a, a = q.toNat := ⟨_, rfl⟩
      have hwq : wv q = .int .u32 (a : Int) := by rw [wv, ha]
      rw [hwq] at HSM HRD
      clear hrd hsm hcells hr4 hlen4 hx hhd hc4 e4 hq hv h3 hbn ha hwq
      by_cases hvv : ver (v : Int) = true
      · rw [if_neg (by rw [hvv]; simp)]
        have HI := Lib.hid (fun W => isv_any (v : Int) W)
        rw [hvv] at HI
        clear hvv
        go_enter Tryd.func11, Tryd.ntmps11
        go_wp2_with (first
          | (go_at_call 26; refine HRD.out.mono ?_; rintro e w1 ⟨rfl, rfl⟩)
          | (go_at_call 27; refine HSM.out.mono ?_; rintro e w1 ⟨rfl, rfl⟩)
          | (go_at_call 22; refine (HI.out _).mono ?_; rintro e w1 ⟨rfl, rfl⟩))
        go_ret2
        exact ⟨rfl, (Below.refl _ _).alloc (Nat.le_refl _) _⟩
      · have hvf : ver (v : Int) = false := by simpa using hvv
        rw [if_pos hvf]
        have HI := Lib.hid (fun W => isv_any (v : Int) W)
        rw [hvf] at HI
        clear hvv hvf
        go_enter Tryd.func11, Tryd.ntmps11
        go_wp2_with (first
          | (go_at_call 26; refine HRD.out.mono ?_; rintro e w1 ⟨rfl, rfl⟩)
          | (go_at_call 27; refine HSM.out.mono ?_; rintro e w1 ⟨rfl, rfl⟩)
          | (go_at_call 22; refine (HI.out _).mono ?_; rintro e w1 ⟨rfl, rfl⟩))
        go_ret2
        exact ⟨rfl, (Below.refl _ _).alloc (Nat.le_refl _) _⟩
    · rw [if_pos (fun e4 => hc4 ((sum_ne hlen4).2 e4))]
      obtain ⟨q, hq⟩ : ∃ q, q = crc (bs.take 4) := ⟨_, rfl⟩
      obtain ⟨q2, hq2⟩ : ∃ q2, q2 = le4 ((bs.drop 4).take 4) := ⟨_, rfl⟩
      rw [← hq] at HSM hc4
      rw [← hq2] at HRD hc4
      have hne : ((q2.toNat : Int) == (q.toNat : Int)) = false := by
        rw [beq_eq_false_iff_ne]; intro e; exact hc4 (BitVec.eq_of_toNat_eq (by omega))
      obtain ⟨a, ha⟩ : ∃ a, a = q.toNat := ⟨_, rfl⟩
      obtain ⟨b, hb⟩ : ∃ b, b = q2.toNat := ⟨_, rfl⟩
      rw [← ha, ← hb] at hne
      have hwq : wv q = .int .u32 (a : Int) := by rw [wv, ha]
      have hwq2 : wv q2 = .int .u32 (b : Int) := by rw [wv, hb]
      rw [hwq] at HSM
      rw [hwq2] at HRD
      have hne2 : ¬ ((b : Int) = (a : Int)) := by simpa using hne
      have hne3 : ¬ (b = a) := by omega
      clear hrd hsm hcells hr4 hlen4 hx hhd hc4 hq hq2 ha hb hwq hwq2 hv h3 hbn hne
      go_enter Tryd.func11, Tryd.ntmps11
      go_wp2_with (first
        | (go_at_call 26; refine HRD.out.mono ?_; rintro e w1 ⟨rfl, rfl⟩)
        | (go_at_call 27; refine HSM.out.mono ?_; rintro e w1 ⟨rfl, rfl⟩))
      go_ret2
      exact ⟨rfl, (Below.refl _ _).alloc (Nat.le_refl _) _⟩
  · obtain ⟨s, hs⟩ : ∃ s, s = tx (bs.take 3) := ⟨_, rfl⟩
    have hne : (s.toList == [84, 80, 72]) = false := by rw [hs, tx_toList]; simpa using h3
    rw [vg, if_neg (by omega), if_pos h3]
    rw [← hs] at hcv0
    clear hs hcv ht3 hcells h3 hbn
    go_enter Tryd.func11, Tryd.ntmps11
    go_wp2
    go_ret2
    exact ⟨rfl, Below.refl _ _⟩

set_option maxRecDepth 100000 in
set_option maxHeartbeats 400000 in
theorem fput_bad (A L : Option Addr) (n c m d : Nat) (h : m = 0 ∨ 2048 < m) (w : World) :
    Calls Tryd.prog 13 #[.slice A n c, .slice L m d] w fun e w' => e = .returned (.tuple #[.slice none 0 0, .int .i64 1]) ∧ w = w' := by
  rcases h with rfl | h
  · go_enter Tryd.func13, Tryd.ntmps13
    go_wp2
    go_ret2
    exact ⟨rfl, rfl⟩
  · have h0 : ¬ m = 0 := by omega
    go_enter Tryd.func13, Tryd.ntmps13
    go_wp2
    go_ret2
    exact ⟨rfl, rfl⟩

set_option maxRecDepth 100000 in
set_option maxHeartbeats 400000 in
theorem fput_any (A L : Option Addr) (n c m d : Nat) (bs p : List UInt8) (hp : pay p) (hbig : n + 4096 ≤ 1073741824) (hc : n ≤ c) (hA : A = none → c = 0) (w : World) (hl : Laid w)
    (hr : Reads w w.heap.size 1 A n (bs.map bv)) (hq : Reads w w.heap.size 1 L m (p.map bv)) :
    Calls Tryd.prog 13 #[.slice A n c, .slice L m d] w fun e w' => ∃ v, e = .returned (.tuple #[v, .int .i64 0]) ∧ w'.ownsRow w.heap.size 5 1 v (bs ++ fr p).length ((bs ++ fr p).map bv) ∧ Below w.heap.size w w' := by
  have hml : p.length = m := by have := hq.1; simpa using this
  have hnl : bs.length = n := by have := hr.1; simpa using this
  obtain ⟨hp1, hp2⟩ := hp
  have h0 : ((m : Int) == 0) = false := by rw [beq_eq_false_iff_ne]; omega
  have h1 : decide (2048 < (m : Int)) = false := by rw [decide_eq_false_iff_not]; omega
  have hbl : (blob p).length ≤ 2048 + 10 := by rw [blob_len]; have := vb_len p.length (by unfold top; omega); omega
  have hcv : Hid ((convert 22 9 (.slice L m d)).run Tryd.prog w = .ok (.string (tx p)) w) := conv_reads Tryd.underlying22 Tryd.underlying5 Tryd.underlying9 hq
  have hcv0 := hcv.out
  have HPUT := Lib.hid (bput_nil p (by omega) w)
  have HBL := Lib.hid hbl
  have HL := Lib.hid hl
  have HR := Lib.hid hr
  have HNL := Lib.hid hnl
  obtain ⟨s, hs⟩ : ∃ s, s = tx p := ⟨_, rfl⟩
  rw [← hs] at hcv0 HPUT
  obtain ⟨q, hqq⟩ : ∃ q, q = blob p := ⟨_, rfl⟩
  have hfr : fr p = q ++ lb (crc q) := by rw [fr, hqq]
  rw [← hqq] at HPUT HBL
  rw [hfr]
  clear hq hcv hs hqq hfr hp1 hp2 hml hbl hl hr hnl
  have HC : Hid (∀ (w1 w2 : World) (v : Value), Below w.heap.size w w1 → Below w.heap.size w1 w2 → w2.ownsRow w.heap.size 5 1 v (q.length + 4) ((q ++ lb (crc q)).map bv) →
      Calls Tryd.prog 28 #[.slice (some ⟨w2.heap.size, 0, none⟩) 2 2] (w2.alloc (.cells #[.slice A n c, v] 22)) fun e w' => ∃ u, e = .returned u ∧ w'.ownsRow w.heap.size 5 1 u (bs ++ (q ++ lb (crc q))).length ((bs ++ (q ++ lb (crc q))).map bv) ∧ Below w.heap.size w w') := by
    intro w1 w2 v hb1 hb2 ho
    have hb : Below w.heap.size w w2 := hb1.trans hb2
    obtain ⟨A2, c2, rfl, hc2, hr2⟩ := own_reads ho
    have hA2 : A2 = none → c2 = 0 := fun e => absurd (by rw [e] at hr2; exact hr2.2 (by omega)) (by simp)
    have hR : Reads (w2.alloc (.cells #[.slice A n c, .slice A2 (q.length + 4) c2] 22)) (w2.heap.size + 1) 1 (some ⟨w2.heap.size, 0, none⟩) 2 [.slice A n c, .slice A2 (q.length + 4) c2] := reads_vals w2 _ [.slice A n c, .slice A2 (q.length + 4) c2]
    have hfl : [bs, q ++ lb (crc q)].flatten = bs ++ (q ++ lb (crc q)) := by simp
    have hlen4 : (q ++ lb (crc q)).length = q.length + 4 := by simp [lb_len]
    have hq4 : q.length + 4 ≤ 1073741824 := by have := HBL.out; omega
    have h := concat_any (some ⟨w2.heap.size, 0, none⟩) 2 2 [.slice A n c, .slice A2 (q.length + 4) c2] [bs, q ++ lb (crc q)] (by omega)
      (by rw [hfl, List.length_append, hlen4, HNL.out]; have := HBL.out; omega) _ (w2.heap.size + 1) (by simp) hR ⟨rfl, fun i v hi => by
        match i, hi with
        | 0, hi => cases hi; exact ⟨bs, rfl, A, n, c, rfl, hc, by omega, hA, ((HR.out.below hb).alloc hb.size _).more (by have := hb.size; omega)⟩
        | 1, hi => cases hi; exact ⟨_, rfl, A2, q.length + 4, c2, rfl, hc2, hq4, hA2, (hr2.alloc (Nat.le_refl _) _).more (by omega)⟩
        | k + 2, hi => simp at hi⟩
    rw [hfl] at h
    refine h.mono ?_
    rintro e w' ⟨u, rfl, hu, hbb⟩
    rw [World.size_alloc] at hu hbb
    exact ⟨u, rfl, own_more hu (by have := hb.size; omega), (hb.alloc hb.size _).trans (hbb.mono (by have := hb.size; omega))⟩
  have HB0 := HBL.out
  go_enter Tryd.func13, Tryd.ntmps13
  go_wp2_with (first
    | (go_at_call 29; refine HPUT.out.mono ?_; rintro e w1 ⟨v1, rfl, ho1, hb1⟩; have HW := Lib.hid (wsum_any w.heap.size v1 q.length q (by omega) w1 hb1.size (HL.out.below hb1) ho1); clear ho1)
    | (go_at_call 23; refine HW.out.mono ?_; rintro e w2 ⟨v2, rfl, ho2, hb2⟩; obtain ⟨A2, c2, rfl, hc2, -⟩ := own_reads ho2)
    | (go_at_call 28; refine (HC.out w1 w2 _ hb1 hb2 ho2).mono ?_; rintro e w3 ⟨v3, rfl, ho3, hb3⟩))
  go_ret2
  exact ⟨v3, rfl, ho3, hb3⟩

end Go.Proofs.YtoanmbhnhofoiaaDoor
