/- The walk of FrameHeads: it returns true at any version and any bytes. -/
import Derived.Test.YtoanmbhnhofoiaaDoorFe
import Derived.Test.YtoanmbhnhofoiaaDoorFd
namespace Go.Proofs.YtoanmbhnhofoiaaDoor
open Go.RowKit Go.Shelf

theorem vg_head (v : Nat) (h : 1 ≤ v ∧ v ≤ 3) (bs : List UInt8) : vg (hd v ++ bs) = (v, 0) := by
  have h1 : (hd v ++ bs).take 3 = [84, 80, 72] := rfl
  have h2 : (hd v ++ bs).take 4 = hb v := rfl
  have h3 : ((hd v ++ bs).drop 4).take 4 = lb (crc (hb v)) := rfl
  have h4 : ((hd v ++ bs).drop 3).headD 0 = UInt8.ofNat v := rfl
  have h5 : (UInt8.ofNat v).toNat = v := by simp; omega
  have h6 : (hd v ++ bs).length = 8 + bs.length := by simp [hd, hb, lb_len]; omega
  rw [vg, if_neg (by omega), if_neg (by simpa using h1), h2, h3, if_neg (by simp), h4, h5, if_neg (by rw [ver_yes (by omega)]; simp)]

set_option maxRecDepth 100000 in
set_option maxHeartbeats 400000 in
theorem heads_long (A : Option Addr) (n c : Nat) (x : Int) (h : 100 < n) (w : World) (hl : Laid w) :
    Calls Tryd.prog 3 #[.int .i64 x, .slice A n c] w fun e w' => e = .returned (.bool true) ∧ Below w.heap.size w w' := by
  have HF := Lib.hid (frame_fixed w hl)
  clear hl
  go_enter Tryd.func3, Tryd.ntmps3
  go_wp2_with (go_at_call 8; refine HF.out.mono ?_; rintro e w3 ⟨rfl, hb3⟩)
  go_ret
  exact ⟨rfl, hb3⟩

set_option maxRecDepth 100000 in
set_option maxHeartbeats 1000000 in
theorem heads_bad (A : Option Addr) (n c : Nat) (x : Int) (bs : List UInt8) (hx : ver x = false) (hn : n ≤ 100) (hc : n ≤ c) (hA : A = none → c = 0) (w : World) (hl : Laid w) (hr : Reads w w.heap.size 1 A n (bs.map bv)) :
    Calls Tryd.prog 3 #[.int .i64 x, .slice A n c] w fun e w' => e = .returned (.bool true) ∧ Below w.heap.size w w' := by
  obtain ⟨i0, hi, hz0, hz1, hz2⟩ := info_parts crc_info5
  have hbn : bs.length = n := by have := hr.1; simpa using this
  have HR := Lib.hid hr
  have HL := Lib.hid hl
  have HV : Hid (∀ W, Below w.heap.size w W → Calls Tryd.prog 11 #[.slice A n c] W fun e w' => e = .returned (.tuple #[.int .i64 ((vg bs).1 : Int), .int .i64 ((vg bs).2 : Int)]) ∧ Below W.heap.size W w') :=
    fun W hb => version_any A n c bs hc (by omega) W (hl.below hb) ((hr.below hb).more hb.size)
  have HRV : Hid (∀ W, Calls Tryd.prog 12 #[.string (tx bs)] W fun e w' => e = .returned (.tuple #[.int .i64 ((vg bs).1 : Int), .int .i64 ((vg bs).2 : Int)]) ∧ Below W.heap.size W w') :=
    fun W => rversion_any bs (by omega) W
  have hem : (tx ([] : List UInt8)) = ⟨#[]⟩ := rfl
  have HX := Lib.hid hx
  have hkn : (∀ W : World, (convert 22 9 (.slice none 0 0)).run Tryd.prog W = .ok (.string ⟨#[]⟩) W) := fun W => by
    have h := conv_reads (P := Tryd.prog) (w := W) (src := 22) (dst := 9) (c := 0) (B := 0) (bs := []) Tryd.underlying22 Tryd.underlying5 Tryd.underlying9 (Reads.none_ (A := none))
    rwa [hem] at h
  obtain ⟨p, hp⟩ : ∃ p, p = (vg bs).1 := ⟨_, rfl⟩
  obtain ⟨q, hq⟩ : ∃ q, q = (vg bs).2 := ⟨_, rfl⟩
  rw [← hp, ← hq] at HV HRV
  clear hr hl hx hp hq hbn
  go_enter Tryd.func3, Tryd.ntmps3
  go_wp2_with fail
  refine (head_bad x HX.out _).mono ?_
  rintro e w1 ⟨rfl, rfl⟩
  go_wp2_with fail
  refine (rhead_bad x HX.out _).mono ?_
  rintro e w1 ⟨rfl, rfl⟩
  rw [hem]
  go_wp2_with fail
  refine (HV.out _ (Below.refl _ _)).mono ?_
  rintro e w3 ⟨rfl, hb3⟩
  have hcv : (convert 22 9 (.slice A n c)).run Tryd.prog w3 = .ok (.string (tx bs)) w3 := conv_reads Tryd.underlying22 Tryd.underlying5 Tryd.underlying9 (HR.out.below hb3)
  go_wp2_with fail
  refine (HRV.out _).mono ?_
  rintro e w4 ⟨rfl, hb4⟩
  clear hcv
  have hB4 : Below w.heap.size w w4 := hb3.trans (hb4.mono hb3.size)
  have hself : ((p : Int) == (p : Int)) = true := by simp
  have hself2 : ((q : Int) == (q : Int)) = true := by simp
  go_wp2_with (at_builtin; refine wpList_append_reads _ rfl (.tmp 60) (.tmp 61) 22 rfl w.heap.size 5 i0 (.int .u8 0) 1 Tryd.underlying22 hi hz0 hz1 hz2 rfl _ 0 [] rfl (World.ownsRow_nil _ _ _ _) A n c _ (bs.map bv) rfl hA (HR.out.below hB4) (bv_one _) (by unfold maxLen; omega) (by omega) hB4.size ?_; intro v5 w5 ho5 hg5)
  have hb5 : Below w.heap.size w w5 := hB4.grown hg5 hB4.size (fun k e => by have e2 : (none : Option Nat) = some k := e; cases e2)
  obtain ⟨A5, c5, rfl, hc5, hr5⟩ := own_reads ho5
  have HV5 := Lib.hid (version_any A5 (0 + n) c5 bs hc5 (by omega) w5 (HL.out.below hb5) (by simpa using hr5))
  clear ho5 hr5 hg5
  go_wp2_with fail
  refine HV5.out.mono ?_
  rintro e w6 ⟨rfl, hb6⟩
  have hB6 : Below w.heap.size w w6 := hb5.trans (hb6.mono hb5.size)
  go_wp2_with fail
  refine (frame_fixed w6 (HL.out.below hB6)).mono ?_
  rintro e w7 ⟨rfl, hb7⟩
  go_wp2
  go_ret
  exact ⟨rfl, hB6.trans (hb7.mono hB6.size)⟩

set_option maxRecDepth 100000 in
set_option maxHeartbeats 1000000 in
theorem heads_ok (A : Option Addr) (n c x : Nat) (bs : List UInt8) (hx : 1 ≤ x ∧ x ≤ 3) (hn : n ≤ 100) (hc : n ≤ c) (hA : A = none → c = 0) (w : World) (hl : Laid w) (hr : Reads w w.heap.size 1 A n (bs.map bv)) :
    Calls Tryd.prog 3 #[.int .i64 (x : Int), .slice A n c] w fun e w' => e = .returned (.bool true) ∧ Below w.heap.size w w' := by
  obtain ⟨i0, hi, hz0, hz1, hz2⟩ := info_parts crc_info5
  have hbn : bs.length = n := by have := hr.1; simpa using this
  have HBN := Lib.hid hbn
  have HR := Lib.hid hr
  have HL := Lib.hid hl
  have HV : Hid (∀ W, Below w.heap.size w W → Calls Tryd.prog 11 #[.slice A n c] W fun e w' => e = .returned (.tuple #[.int .i64 ((vg bs).1 : Int), .int .i64 ((vg bs).2 : Int)]) ∧ Below W.heap.size W w') :=
    fun W hb => version_any A n c bs hc (by omega) W (hl.below hb) ((hr.below hb).more hb.size)
  have HRV : Hid (∀ W, Calls Tryd.prog 12 #[.string (tx bs)] W fun e w' => e = .returned (.tuple #[.int .i64 ((vg bs).1 : Int), .int .i64 ((vg bs).2 : Int)]) ∧ Below W.heap.size W w') :=
    fun W => rversion_any bs (by omega) W
  have HX := Lib.hid hx
  obtain ⟨p, hp⟩ : ∃ p, p = (vg bs).1 := ⟨_, rfl⟩
  obtain ⟨q, hq⟩ : ∃ q, q = (vg bs).2 := ⟨_, rfl⟩
  rw [← hp, ← hq] at HV HRV
  have hself3 : ((tx (hd x)).toList == (tx (hd x)).toList) = true := by simp
  clear hr hl hx hp hq hbn
  go_enter Tryd.func3, Tryd.ntmps3
  go_wp2_with fail
  refine (head_ok x HX.out w HL.out).mono ?_
  rintro e w1 ⟨u, rfl, ho1, hb1⟩
  obtain ⟨A1, c1, rfl, hc1, hr1⟩ := own_reads ho1
  have HR1 := Lib.hid hr1
  clear hr1
  go_wp2_with fail
  refine (rhead_ok x HX.out _).mono ?_
  rintro e w2 ⟨rfl, hb2⟩
  have hB2 : Below w.heap.size w w2 := hb1.trans (hb2.mono hb1.size)
  go_wp2_with fail
  refine (HV.out _ hB2).mono ?_
  rintro e w3 ⟨rfl, hb3⟩
  have hB3 : Below w.heap.size w w3 := hB2.trans (hb3.mono hB2.size)
  have hcv : (convert 22 9 (.slice A n c)).run Tryd.prog w3 = .ok (.string (tx bs)) w3 := conv_reads Tryd.underlying22 Tryd.underlying5 Tryd.underlying9 (HR.out.below hB3)
  go_wp2_with fail
  refine (HRV.out _).mono ?_
  rintro e w4 ⟨rfl, hb4⟩
  clear hcv
  have hB4 : Below w.heap.size w w4 := hB3.trans (hb4.mono hB3.size)
  have hb14 : Below w1.heap.size w1 w4 := (hb2.trans (hb3.mono hb2.size)).trans (hb4.mono (by have := hb2.size; have := hb3.size; omega))
  have hcv : (convert 22 9 (.slice A1 8 c1)).run Tryd.prog w4 = .ok (.string (tx (hd x))) w4 := conv_reads Tryd.underlying22 Tryd.underlying5 Tryd.underlying9 (HR1.out.below hb14)
  have hself : ((p : Int) == (p : Int)) = true := by simp
  have hself2 : ((q : Int) == (q : Int)) = true := by simp
  have HO4 := Lib.hid (own_below ho1 hb14)
  have HOB := Lib.hid (own_block ho1)
  clear ho1
  go_wp2_with (at_builtin; refine wpList_append_reads _ rfl (.tmp 60) (.tmp 61) 22 rfl w.heap.size 5 i0 (.int .u8 0) 1 Tryd.underlying22 hi hz0 hz1 hz2 rfl _ 8 ((hd x).map bv) rfl HO4.out A n c _ (bs.map bv) rfl hA (HR.out.below hB4) (bv_one _) (by unfold maxLen; omega) (by omega) hB4.size ?_; intro v5 w5 ho5 hg5)
  clear hcv
  have hb5 : Below w.heap.size w w5 := hB4.grown hg5 hB4.size HOB.out
  obtain ⟨A5, c5, rfl, hc5, hr5⟩ := own_reads ho5
  have HV5 := version_any A5 (8 + n) c5 (hd x ++ bs) hc5 (by omega) w5 (HL.out.below hb5) (by simpa using hr5)
  rw [vg_head x HX.out] at HV5
  have HV6 := Lib.hid HV5
  have hx2 : ((x : Int) == (x : Int)) = true := by simp
  clear ho5 hr5 hg5 HV5
  go_wp2_with fail
  refine HV6.out.mono ?_
  rintro e w6 ⟨rfl, hb6⟩
  have hB6 : Below w.heap.size w w6 := hb5.trans (hb6.mono hb5.size)
  go_wp2_with fail
  refine (frame_fixed w6 (HL.out.below hB6)).mono ?_
  rintro e w7 ⟨rfl, hb7⟩
  go_wp2
  go_ret
  exact ⟨rfl, hB6.trans (hb7.mono hB6.size)⟩

theorem heads_any (A : Option Addr) (n c : Nat) (x : Int) (bs : List UInt8) (hc : n ≤ c) (hA : A = none → c = 0) (w : World) (hl : Laid w) (hr : Reads w w.heap.size 1 A n (bs.map bv)) :
    Calls Tryd.prog 3 #[.int .i64 x, .slice A n c] w fun e w' => e = .returned (.bool true) ∧ Below w.heap.size w w' := by
  by_cases h : 100 < n
  · exact heads_long A n c x h w hl
  · by_cases hx : ver x = true
    · obtain ⟨k, rfl⟩ : ∃ k : Nat, x = (k : Int) := ⟨x.toNat, by
        have : 1 ≤ x := by
          by_cases h1 : 1 ≤ x
          · exact h1
          · rw [ver_no (.inl h1)] at hx; cases hx
        omega⟩
      have h1 : 1 ≤ k ∧ k ≤ 3 := by
        by_cases h1 : 1 ≤ (k : Int)
        · by_cases h2 : (k : Int) ≤ 3
          · omega
          · rw [ver_no (.inr h2)] at hx; cases hx
        · rw [ver_no (.inl h1)] at hx; cases hx
      exact heads_ok A n c k bs h1 (by omega) hc hA w hl hr
    · exact heads_bad A n c x bs (by simpa using hx) (by omega) hc hA w hl hr

end Go.Proofs.YtoanmbhnhofoiaaDoor
