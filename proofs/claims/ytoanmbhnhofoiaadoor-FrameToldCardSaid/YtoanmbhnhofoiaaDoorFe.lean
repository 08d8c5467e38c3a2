/- The walks of Head, Version and Put of tephraref06. -/
import Derived.Test.YtoanmbhnhofoiaaDoorFc
import Derived.Test.YtoanmbhnhofoiaaDoorCy
import Derived.Test.YtoanmbhnhofoiaaDoorH
import Derived.Test.YtoanmbhnhofoiaaDoorBe
namespace Go.Proofs.YtoanmbhnhofoiaaDoor
open Go.RowKit Go.Shelf

set_option maxRecDepth 100000 in
set_option maxHeartbeats 400000 in
theorem rhead_bad (v : Int) (h : ver v = false) (w : World) : Calls Tryd.prog 10 #[.int .i64 v] w fun e w' => e = .returned (.tuple #[.string (tx []), .int .i64 11]) ∧ w = w' := by
  have hem : (tx ([] : List UInt8)) = ⟨#[]⟩ := rfl
  rw [hem]
  by_cases h1 : v < 1
  · clear h
    go_enter Tryd.func10, Tryd.ntmps10
    go_wp2
    go_ret2
    exact ⟨rfl, rfl⟩
  · have h3 : 3 < v := by
      by_cases h3 : 3 < v
      · exact h3
      · rw [ver_yes (by omega)] at h; cases h
    clear h
    go_enter Tryd.func10, Tryd.ntmps10
    go_wp2
    go_ret2
    exact ⟨rfl, rfl⟩

set_option maxRecDepth 100000 in
set_option maxHeartbeats 400000 in
theorem rhead_ok (v : Nat) (h : 1 ≤ v ∧ v ≤ 3) (w : World) : Calls Tryd.prog 10 #[.int .i64 (v : Int)] w fun e w' => e = .returned (.tuple #[.string (tx (hd v)), .int .i64 0]) ∧ Below w.heap.size w w' := by
  have n1 : ¬ ((v : Int) < 1) := by omega
  have n2 : ¬ (3 < (v : Int)) := by omega
  have hw1 : IntKind.u8.wrap (v : Int) = (v : Int) := by rw [IntKind.wrap_u8']; omega
  have hrow := reads_lit w 5 [UInt8.ofNat v] (0, 0)
  have hcv := conv_reads (P := Tryd.prog) (src := 22) (dst := 9) (c := 1) Tryd.underlying22 Tryd.underlying5 Tryd.underlying9 hrow
  have hm : ([UInt8.ofNat v].map bv) = [Value.int .u8 (v : Int)] := by rw [List.map_cons, u8_val (by omega)]; rfl
  rw [hm] at hcv
  have hcv2 : (convert 22 9 (.slice (some ⟨w.heap.size, 0, none⟩) 1 1)).run Tryd.prog (w.alloc (.cells #[.int .u8 (v : Int)] 5)) = .ok (.string (tx [UInt8.ofNat v])) (w.alloc (.cells #[.int .u8 (v : Int)] 5)) := hcv
  have hadd : ∀ W : World, (Op.stringOp .add ({ data := #[84, 80, 72] } : ByteArray) (tx [UInt8.ofNat v])).run Tryd.prog W = .ok (.string (tx (hb v))) W := fun W => add_tx W [84, 80, 72] [UInt8.ofNat v] (by simp)
  have HS : Hid (∀ W : World, Calls Tryd.prog 25 #[.string (tx (hb v))] W fun e w' => e = .returned (wv (crc (hb v))) ∧ W = w') := fun W => refsum_any (hb v) (by simp [hb]) W
  have hadd2 : ∀ W : World, (Op.stringOp .add (tx (hb v)) (tx (lb (crc (hb v))))).run Tryd.prog W = .ok (.string (tx (hd v))) W := fun W => add_tx W (hb v) (lb (crc (hb v))) (by simp [hb, lb_len])
  obtain ⟨q, hq⟩ : ∃ q, q = crc (hb v) := ⟨_, rfl⟩
  have HB : Hid (∀ W : World, Calls Tryd.prog 24 #[wv q] W fun e w' => e = .returned (.string (tx (lb q))) ∧ Below W.heap.size W w') := fun W => refbytes_any q W
  rw [← hq] at HS hadd2
  generalize tx (hd v) = t3 at hadd2 ⊢
  generalize tx (hb v) = t2 at HS hadd hadd2
  generalize tx [UInt8.ofNat v] = t1 at hcv2 hadd
  generalize tx (lb q) = t4 at HB hadd2
  generalize wv q = q2 at HS HB
  clear hq hcv hm hrow h
  go_enter Tryd.func10, Tryd.ntmps10
  go_wp2_with (first
    | (go_at_call 25; refine (HS.out _).mono ?_; rintro e w1 ⟨rfl, rfl⟩)
    | (go_at_call 24; refine (HB.out _).mono ?_; rintro e w2 ⟨rfl, hb2⟩))
  go_ret2
  exact ⟨rfl, ((Below.refl _ w).alloc (Nat.le_refl _) _).trans (hb2.mono (by simp))⟩

set_option maxRecDepth 100000 in
set_option maxHeartbeats 1000000 in
theorem rversion_any (bs : List UInt8) (hn : bs.length ≤ 1073741824) (w : World) :
    Calls Tryd.prog 12 #[.string (tx bs)] w fun e w' => e = .returned (.tuple #[.int .i64 ((vg bs).1 : Int), .int .i64 ((vg bs).2 : Int)]) ∧ Below w.heap.size w w' := by
  obtain ⟨n, hnl⟩ : ∃ n, n = bs.length := ⟨_, rfl⟩
  rw [← hnl] at hn
  obtain ⟨s, hs⟩ : ∃ s, s = tx bs := ⟨_, rfl⟩
  have hsz : s.size = n := by rw [hs, tx_size, hnl]
  rw [← hs]
  by_cases h8 : n < 8
  · rw [vg, if_pos (by omega)]
    clear hs hnl
    go_enter Tryd.func12, Tryd.ntmps12
    go_wp2
    go_ret2
    exact ⟨rfl, Below.refl _ _⟩
  have x3 : s.extract 0 3 = tx (bs.take 3) := by rw [hs, tx_extract]; rfl
  by_cases h3 : bs.take 3 = [84, 80, 72]
  · have hs3 : ((tx (bs.take 3)).toList == [84, 80, 72]) = true := by rw [tx_toList, h3]; rfl
    obtain ⟨t3, ht3⟩ : ∃ t, t = tx (bs.take 3) := ⟨_, rfl⟩
    rw [← ht3] at hs3 x3
    have x4 : s.extract 0 4 = tx (bs.take 4) := by rw [hs, tx_extract]; rfl
    have x8 : s.extract 4 8 = tx ((bs.drop 4).take 4) := by rw [hs, tx_extract]
    obtain ⟨x, hx⟩ : ∃ x, bs[3]? = some x := ⟨_, List.getElem?_eq_getElem (by omega)⟩
    have hhd : (bs.drop 3).headD 0 = x := by
      have : (bs.drop 3)[0]? = some x := by rw [List.getElem?_drop]; exact hx
      rw [List.headD_eq_head?_getD, List.head?_eq_getElem?, this]; rfl
    have p3 : 3 < s.size := by omega
    obtain ⟨y, hy, hyd⟩ := crc_drop_at hs 3 p3
    have hyx : y = x := by rw [hyd] at hhd; exact hhd
    have i3 : (s[3]'p3).toNat = x.toNat := by rw [← hy, hyx]
    have HS : Hid (∀ W : World, Calls Tryd.prog 25 #[.string (tx (bs.take 4))] W fun e w' => e = .returned (wv (crc (bs.take 4))) ∧ W = w') := fun W => refsum_any (bs.take 4) (by rw [List.length_take]; omega) W
    rw [vg, if_neg (by omega), if_neg (by simpa using h3), hhd]
    have hx256 : x.toNat < 256 := x.toNat_lt
    obtain ⟨v, hv⟩ : ∃ v, v = x.toNat := ⟨_, rfl⟩
    rw [← hv] at i3 hx256 ⊢
    have hwr : IntKind.i64.wrap (v : Int) = (v : Int) := by rw [IntKind.wrap_i64]; omega
    obtain ⟨q, hq⟩ : ∃ q, q = crc (bs.take 4) := ⟨_, rfl⟩
    rw [← hq] at HS ⊢
    have HB : Hid (∀ W : World, Calls Tryd.prog 24 #[wv q] W fun e w' => e = .returned (.string (tx (lb q))) ∧ Below W.heap.size W w') := fun W => refbytes_any q W
    by_cases hc4 : lb q = (bs.drop 4).take 4
    · rw [if_neg (by simpa using hc4)]
      rw [← hc4] at x8
      have hself : ((tx (lb q)).toList == (tx (lb q)).toList) = true := by simp
      generalize tx (lb q) = t8 at x8 HB hself
      generalize tx (bs.take 4) = t4 at x4 HS
      generalize wv q = q2 at HS HB
      clear hc4 hq hv hx hhd hy hyd hyx h3 ht3 hs hnl
      by_cases hvv : ver (v : Int) = true
      · rw [if_neg (by rw [hvv]; simp)]
        have n1 : ¬ ((v : Int) < 1) := fun h => by rw [ver_no (.inl (by omega))] at hvv; cases hvv
        have n2 : ¬ (3 < (v : Int)) := fun h => by rw [ver_no (.inr (by omega))] at hvv; cases hvv
        clear hvv
        go_enter Tryd.func12, Tryd.ntmps12
        go_wp2_with fail
        have hS0 : Below w.heap.size w w.drew := (Below.refl _ w).drew
        refine wp_region_held (S := fun W => Below w.heap.size w W) (by kernel_rfl) ?_
        refine h_take 0 (.string s) rfl (by kernel_rfl) (by kernel_rfl) (by kernel_rfl) (fun _ _ _ h => h) (by kernel_rfl) hS0 (fun _ _ => by kernel_rfl) ?_
        refine h_take 1 (.string t4) rfl (by kernel_rfl) (by kernel_rfl) (by kernel_rfl) (fun _ _ _ h => h) (by kernel_rfl) hS0 (by intro w' hb; go_simp <;> (intro hh; omega)) ?_
        refine h_take 4 (.string s) rfl (by kernel_rfl) (by kernel_rfl) (by kernel_rfl) (fun _ _ _ h => h) (by kernel_rfl) hS0 (fun _ _ => by kernel_rfl) ?_
        refine h_take 5 (.string t8) rfl (by kernel_rfl) (by kernel_rfl) (by kernel_rfl) (fun _ _ _ h => h) (by kernel_rfl) hS0 (by intro w' hb; go_simp <;> (intro hh; omega)) ?_
        refine h_one 2 rfl (by kernel_rfl) (by kernel_rfl) (fun K hK => ?_)
        go_simp
        refine (HS.out _).mono ?_
        rintro e w6 ⟨rfl, rfl⟩
        refine hK _ _ hS0 ?_
        clear hK K
        refine h_one 3 rfl (by kernel_rfl) (by kernel_rfl) (fun K hK => ?_)
        go_simp
        refine (HB.out _).mono ?_
        rintro e w5 ⟨rfl, hb5⟩
        have hS5 : Below w.heap.size w w5 := hS0.trans (hb5.mono hS0.size)
        clear hb5
        refine hK _ _ hS5 ?_
        clear hK K
        refine h_take 6 (.bool false) rfl (by kernel_rfl) (by kernel_rfl) (by kernel_rfl) (fun _ _ _ h => h) (by kernel_rfl) hS5 (by intro w' hb; go_simp) ?_
        refine wpAnyH_done (by kernel_rfl) ?_ _
        go_simp
        go_wp2
        go_ret2
        exact ⟨rfl, hS5⟩
      · have hvf : ver (v : Int) = false := by simpa using hvv
        rw [if_pos hvf]
        by_cases n1 : (v : Int) < 1
        · clear hvv hvf
          go_enter Tryd.func12, Tryd.ntmps12
          go_wp2_with fail
          have hS0 : Below w.heap.size w w.drew := (Below.refl _ w).drew
          refine wp_region_held (S := fun W => Below w.heap.size w W) (by kernel_rfl) ?_
          refine h_take 0 (.string s) rfl (by kernel_rfl) (by kernel_rfl) (by kernel_rfl) (fun _ _ _ h => h) (by kernel_rfl) hS0 (fun _ _ => by kernel_rfl) ?_
          refine h_take 1 (.string t4) rfl (by kernel_rfl) (by kernel_rfl) (by kernel_rfl) (fun _ _ _ h => h) (by kernel_rfl) hS0 (by intro w' hb; go_simp <;> (intro hh; omega)) ?_
          refine h_take 4 (.string s) rfl (by kernel_rfl) (by kernel_rfl) (by kernel_rfl) (fun _ _ _ h => h) (by kernel_rfl) hS0 (fun _ _ => by kernel_rfl) ?_
          refine h_take 5 (.string t8) rfl (by kernel_rfl) (by kernel_rfl) (by kernel_rfl) (fun _ _ _ h => h) (by kernel_rfl) hS0 (by intro w' hb; go_simp <;> (intro hh; omega)) ?_
          refine h_one 2 rfl (by kernel_rfl) (by kernel_rfl) (fun K hK => ?_)
          go_simp
          refine (HS.out _).mono ?_
          rintro e w6 ⟨rfl, rfl⟩
          refine hK _ _ hS0 ?_
          clear hK K
          refine h_one 3 rfl (by kernel_rfl) (by kernel_rfl) (fun K hK => ?_)
          go_simp
          refine (HB.out _).mono ?_
          rintro e w5 ⟨rfl, hb5⟩
          have hS5 : Below w.heap.size w w5 := hS0.trans (hb5.mono hS0.size)
          clear hb5
          refine hK _ _ hS5 ?_
          clear hK K
          refine h_take 6 (.bool false) rfl (by kernel_rfl) (by kernel_rfl) (by kernel_rfl) (fun _ _ _ h => h) (by kernel_rfl) hS5 (by intro w' hb; go_simp) ?_
          refine wpAnyH_done (by kernel_rfl) ?_ _
          go_simp
          go_wp2
          go_ret2
          exact ⟨rfl, hS5⟩
        · have n2 : 3 < (v : Int) := by
            by_cases h3 : 3 < (v : Int)
            · exact h3
            · rw [ver_yes (by omega)] at hvf; cases hvf
          clear hvv hvf
          go_enter Tryd.func12, Tryd.ntmps12
          go_wp2_with fail
          have hS0 : Below w.heap.size w w.drew := (Below.refl _ w).drew
          refine wp_region_held (S := fun W => Below w.heap.size w W) (by kernel_rfl) ?_
          refine h_take 0 (.string s) rfl (by kernel_rfl) (by kernel_rfl) (by kernel_rfl) (fun _ _ _ h => h) (by kernel_rfl) hS0 (fun _ _ => by kernel_rfl) ?_
          refine h_take 1 (.string t4) rfl (by kernel_rfl) (by kernel_rfl) (by kernel_rfl) (fun _ _ _ h => h) (by kernel_rfl) hS0 (by intro w' hb; go_simp <;> (intro hh; omega)) ?_
          refine h_take 4 (.string s) rfl (by kernel_rfl) (by kernel_rfl) (by kernel_rfl) (fun _ _ _ h => h) (by kernel_rfl) hS0 (fun _ _ => by kernel_rfl) ?_
          refine h_take 5 (.string t8) rfl (by kernel_rfl) (by kernel_rfl) (by kernel_rfl) (fun _ _ _ h => h) (by kernel_rfl) hS0 (by intro w' hb; go_simp <;> (intro hh; omega)) ?_
          refine h_one 2 rfl (by kernel_rfl) (by kernel_rfl) (fun K hK => ?_)
          go_simp
          refine (HS.out _).mono ?_
          rintro e w6 ⟨rfl, rfl⟩
          refine hK _ _ hS0 ?_
          clear hK K
          refine h_one 3 rfl (by kernel_rfl) (by kernel_rfl) (fun K hK => ?_)
          go_simp
          refine (HB.out _).mono ?_
          rintro e w5 ⟨rfl, hb5⟩
          have hS5 : Below w.heap.size w w5 := hS0.trans (hb5.mono hS0.size)
          clear hb5
          refine hK _ _ hS5 ?_
          clear hK K
          refine h_take 6 (.bool false) rfl (by kernel_rfl) (by kernel_rfl) (by kernel_rfl) (fun _ _ _ h => h) (by kernel_rfl) hS5 (by intro w' hb; go_simp) ?_
          refine wpAnyH_done (by kernel_rfl) ?_ _
          go_simp
          go_wp2
          go_ret2
          exact ⟨rfl, hS5⟩
    · rw [if_pos hc4]
      have hne : ((tx (lb q)).toList == (tx ((bs.drop 4).take 4)).toList) = false := by rw [tx_toList, tx_toList]; simpa using hc4
      generalize tx (lb q) = t9 at HB hne
      generalize tx ((bs.drop 4).take 4) = t8 at x8 hne
      generalize tx (bs.take 4) = t4 at x4 HS
      generalize wv q = q2 at HS HB
      clear hc4 hq hv hx hhd hy hyd hyx h3 ht3 hs hnl
      go_enter Tryd.func12, Tryd.ntmps12
      go_wp2_with fail
      have hS0 : Below w.heap.size w w.drew := (Below.refl _ w).drew
      refine wp_region_held (S := fun W => Below w.heap.size w W) (by kernel_rfl) ?_
      refine h_take 0 (.string s) rfl (by kernel_rfl) (by kernel_rfl) (by kernel_rfl) (fun _ _ _ h => h) (by kernel_rfl) hS0 (fun _ _ => by kernel_rfl) ?_
      refine h_take 1 (.string t4) rfl (by kernel_rfl) (by kernel_rfl) (by kernel_rfl) (fun _ _ _ h => h) (by kernel_rfl) hS0 (by intro w' hb; go_simp <;> (intro hh; omega)) ?_
      refine h_take 4 (.string s) rfl (by kernel_rfl) (by kernel_rfl) (by kernel_rfl) (fun _ _ _ h => h) (by kernel_rfl) hS0 (fun _ _ => by kernel_rfl) ?_
      refine h_take 5 (.string t8) rfl (by kernel_rfl) (by kernel_rfl) (by kernel_rfl) (fun _ _ _ h => h) (by kernel_rfl) hS0 (by intro w' hb; go_simp <;> (intro hh; omega)) ?_
      refine h_one 2 rfl (by kernel_rfl) (by kernel_rfl) (fun K hK => ?_)
      go_simp
      refine (HS.out _).mono ?_
      rintro e w6 ⟨rfl, rfl⟩
      refine hK _ _ hS0 ?_
      clear hK K
      refine h_one 3 rfl (by kernel_rfl) (by kernel_rfl) (fun K hK => ?_)
      go_simp
      refine (HB.out _).mono ?_
      rintro e w5 ⟨rfl, hb5⟩
      have hS5 : Below w.heap.size w w5 := hS0.trans (hb5.mono hS0.size)
      clear hb5
      refine hK _ _ hS5 ?_
      clear hK K
      refine h_take 6 (.bool true) rfl (by kernel_rfl) (by kernel_rfl) (by kernel_rfl) (fun _ _ _ h => h) (by kernel_rfl) hS5 (by intro w' hb; go_simp) ?_
      refine wpAnyH_done (by kernel_rfl) ?_ _
      go_simp
      go_wp2
      go_ret2
      exact ⟨rfl, hS5⟩
  · have hne : ((tx (bs.take 3)).toList == [84, 80, 72]) = false := by rw [tx_toList]; simpa using h3
    rw [vg, if_neg (by omega), if_pos h3]
    generalize tx (bs.take 3) = t3 at x3 hne
    clear h3 hs hnl
    go_enter Tryd.func12, Tryd.ntmps12
    go_wp2
    go_ret2
    exact ⟨rfl, Below.refl _ _⟩

set_option maxRecDepth 100000 in
set_option maxHeartbeats 400000 in
theorem rput_bad (p : List UInt8) (h : p = [] ∨ 2048 < p.length) (hn : p.length ≤ 1073741824) (w : World) :
    Calls Tryd.prog 14 #[.string (tx p)] w fun e w' => e = .returned (.tuple #[.string (tx []), .int .i64 1]) ∧ w = w' := by
  have hem : (tx ([] : List UInt8)) = ⟨#[]⟩ := rfl
  rcases h with rfl | h
  · rw [hem]
    go_enter Tryd.func14, Tryd.ntmps14
    go_wp2
    go_ret2
    exact ⟨rfl, rfl⟩
  · have hne : ((tx p).toList == []) = false := by
      rw [tx_toList]
      cases p with
      | nil => simp at h
      | cons a l => rfl
    have hsz : (tx p).size = p.length := tx_size p
    obtain ⟨m, hm⟩ : ∃ m, m = p.length := ⟨_, rfl⟩
    rw [← hm] at hsz h hn
    have hgt : decide (2048 < (m : Int)) = true := by rw [decide_eq_true_iff]; omega
    rw [hem]
    generalize tx p = s at hne hsz ⊢
    clear hm h
    go_enter Tryd.func14, Tryd.ntmps14
    go_wp2
    go_ret2
    exact ⟨rfl, rfl⟩

set_option maxRecDepth 100000 in
set_option maxHeartbeats 400000 in
theorem rput_any (p : List UInt8) (h : pay p) (w : World) :
    Calls Tryd.prog 14 #[.string (tx p)] w fun e w' => e = .returned (.tuple #[.string (tx (fr p)), .int .i64 0]) ∧ Below w.heap.size w w' := by
  have hsz : (tx p).size = p.length := tx_size p
  have hne : ((tx p).toList == []) = false := by rw [tx_toList]; simpa using pay_ne h
  obtain ⟨h1, h2⟩ := h
  have hbl : (blob p).length ≤ 2048 + 10 := by rw [blob_len]; have := vb_len p.length (by unfold top; omega); omega
  obtain ⟨m, hm⟩ : ∃ m, m = p.length := ⟨_, rfl⟩
  have HP : Hid (∀ W : World, Calls Tryd.prog 30 #[.string (tx p)] W fun e w' => e = .returned (.string (tx (blob p))) ∧ Below W.heap.size W w') := fun W => rbput_any p (by omega) W
  rw [← hm] at hsz h1 h2
  have hgt : decide (2048 < (m : Int)) = false := by rw [decide_eq_false_iff_not]; omega
  have HS : Hid (∀ W : World, Calls Tryd.prog 25 #[.string (tx (blob p))] W fun e w' => e = .returned (wv (crc (blob p))) ∧ W = w') := fun W => refsum_any (blob p) (by omega) W
  have HB : Hid (∀ W : World, Calls Tryd.prog 24 #[wv (crc (blob p))] W fun e w' => e = .returned (.string (tx (lb (crc (blob p))))) ∧ Below W.heap.size W w') := fun W => refbytes_any _ W
  have hadd2 : ∀ W : World, (Op.stringOp .add (tx (blob p)) (tx (lb (crc (blob p))))).run Tryd.prog W = .ok (.string (tx (fr p))) W := fun W => add_tx W (blob p) (lb (crc (blob p))) (by rw [lb_len]; omega)
  generalize tx (fr p) = t3 at hadd2 ⊢
  generalize tx (lb (crc (blob p))) = t4 at HB hadd2
  generalize wv (crc (blob p)) = q2 at HS HB
  generalize tx (blob p) = t2 at HP HS hadd2
  generalize tx p = s at hne hsz HP ⊢
  clear hm h1 h2 hbl
  go_enter Tryd.func14, Tryd.ntmps14
  go_wp2_with (first
    | (go_at_call 30; refine (HP.out _).mono ?_; rintro e w0 ⟨rfl, hb0⟩)
    | (go_at_call 25; refine (HS.out _).mono ?_; rintro e w1 ⟨rfl, rfl⟩)
    | (go_at_call 24; refine (HB.out _).mono ?_; rintro e w2 ⟨rfl, hb2⟩))
  go_ret2
  exact ⟨rfl, hb0.trans (hb2.mono hb0.size)⟩

end Go.Proofs.YtoanmbhnhofoiaaDoor
