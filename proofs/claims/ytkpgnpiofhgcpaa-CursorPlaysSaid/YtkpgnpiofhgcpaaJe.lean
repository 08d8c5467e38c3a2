/- The walks of takeMany, of Numbers and of Texts. -/
import Derived.Test.YtkpgnpiofhgcpaaJd
namespace Go.Proofs.Ytkpgnpiofhgcpaa
open Go.RowKit

theorem own_wider {w : World} {base base' n size : Nat} {e : TypeId} {v : Value} {xs : List Value} (h : w.ownsRow base e size v n xs) (hb : base' ≤ base) : w.ownsRow base' e size v n xs := by
  obtain ⟨h1, h2 | ⟨g, cap, cur, hv, hbg, r⟩⟩ := h
  · exact ⟨h1, .inl h2⟩
  · exact ⟨h1, .inr ⟨g, cap, cur, hv, by omega, r⟩⟩

theorem info64 : (Try.prog.info? 40).map (fun i => (i.zero, i.size, i.bytes)) = some (some (.int .u64 0), 1, 8) := by kernel_rfl

/-- At the head of a round of takeMany. -/
def many_numRel (one : Cu → Nat × Cu) (m : Nat) (c2 : Cu) (B b : Nat) (w : World) (v idx : Value) (wr : World) : Prop :=
  ∃ (d : Cu) (l : List Nat) (k : Nat), idx = .int .u64 (k : Int) ∧ Hid (Cu.MInv one m c2 d l k) ∧ Hid (CurIn wr B b d) ∧ Hid (Only b w wr) ∧ Hid (wr.ownsRow w.heap.size 40 1 v l.length (l.map nv))

set_option maxRecDepth 100000 in
set_option maxHeartbeats 1600000 in
theorem many_num (B b : Nat) (c : Cu) (most : Int) (hm : most < 9223372036854775808) (w : World) (h : CurIn w B b c) :
    Calls Try.prog 37 #[.pointer (some ⟨b, 0, none⟩), .int .i64 most, .func (.func 13) #[.pointer (some ⟨b, 0, none⟩)] #[]] w fun e w' => ∃ v, e = .returned v ∧ w'.ownsRow w.heap.size 40 1 v (c.nums most).1.length ((c.nums most).1.map nv) ∧ CurIn w' B b (c.nums most).2 ∧ Only b w w' := by
  obtain ⟨i0, hi0, hz0, hz1, hz2⟩ := info_parts info64
  have hlt := h.lt
  have hrm := h.room
  have hmt : c.num.1 < top := Cu.num_lt
  have hcto := Cu.cnt_to h.ok most
  have hM : (most < 0 ∧ max most 0 = 0) ∨ (¬ most < 0 ∧ max most 0 = most) := by omega
  have hcm := Cu.cnt_many Cu.num c most
  obtain ⟨M, hMM⟩ : ∃ M, M = max most 0 := ⟨_, rfl⟩
  have hw : IntKind.u64.wrap M = M := by rw [IntKind.wrap_u64]; omega
  have hlim : (M < (c.num.1 : Int) ∧ (c.cnt most).2 = c.num.2.fail 5) ∨ (¬ M < (c.num.1 : Int) ∧ (c.cnt most).2 = c.num.2) := by
    by_cases hl : M < (c.num.1 : Int)
    · exact .inl ⟨hl, by rw [Cu.cnt, if_pos (by rw [← hMM]; exact hl)]⟩
    · exact .inr ⟨hl, by rw [Cu.cnt, if_neg (by rw [← hMM]; exact hl)]⟩
  rw [← hMM] at hM
  clear hMM
  have hnum := number_any B b c w h
  obtain ⟨m, hme⟩ : ∃ m, m = c.num.1 := ⟨_, rfl⟩
  rw [← hme] at hmt hlim hnum hcm
  have hres : ∀ (d : Cu) (l : List Nat) (k : Nat), Cu.MInv Cu.num m (c.cnt most).2 d l k → (d.e ≠ 0 ∨ m ≤ k) → (c.nums most) = (if d.e = 0 then l else [], d) := fun d l k hi hs => Cu.all_end hcm hi hs
  have hstart : Cu.MInv Cu.num m (c.cnt most).2 (c.cnt most).2 [] 0 := Cu.MInv.start hcto.good
  have hbs : (c.cnt most).2.bs = c.bs := hcto.bs
  generalize (c.cnt most).2 = c2 at *
  generalize (c.nums most) = sp at *
  generalize c.num.2 = c1 at *
  have HNUM := Lib.hid hnum
  have HRES := Lib.hid hres
  have HSTART := Lib.hid hstart
  have HRM : Hid (c2.bs.length ≤ 1000000) := by rw [hbs]; exact hrm
  have hmt' : m < 18446744073709551616 := hmt
  have HLT := Lib.hid hlt
  have HNIL := Lib.hid (fun W : World => World.ownsRow_nil W w.heap.size 40 1)
  clear hnum hres hstart hbs hrm hmt hcto hcm hme h hlt
  rcases hlim with ⟨hl, he2⟩ | ⟨hl, he2⟩
  all_goals
    rcases hM with ⟨hM0, hM1⟩ | ⟨hM0, hM1⟩
  all_goals
    subst hM1
    have HE2 := Lib.hid he2
    clear he2
    go_enter Try.func37, Try.ntmps37
    go_wp2_with fail
    refine HNUM.out.mono ?_
    rintro e w1 ⟨rfl, hc1, ho1⟩
    first
      | (go_wp2_with fail
         refine (fail_any B b c1 5 w1 hc1).mono ?_
         rintro e w2 ⟨rfl, hc2, ho2⟩
         rw [← HE2.out] at hc2
         replace ho1 := ho1.trans ho2
         clear ho2)
      | (rw [← HE2.out] at hc1
         obtain ⟨w2, hw2⟩ : ∃ w2, w2 = w1 := ⟨_, rfl⟩
         rw [← hw2] at hc1 ho1 ⊢
         have hc2 := hc1
         clear hw2)
    have HC2 := Lib.hid hc2
    have HO2 := Lib.hid ho1
    clear hc1 hc2 ho1
    go_wp2
    try (rename ¬0 < m => hbad; clear hbad)
    go_loopw [8, 9] (fun v idx wr => many_numRel Cu.num m c2 B b w v idx wr) (fun _ idx _ => m - (intOf idx).toNat)
    case atStart => exact ⟨c2, [], 0, rfl, HSTART.out, HC2.out, HO2.out, HNIL.out w2⟩
    case round =>
      obtain ⟨d, l, k, rfl, HI, HC, HO, HOWN⟩ := hrel
      clear HC2 HO2 HSTART HE2 HNUM hl hM0 hw
      have hle : k ≤ m := HI.out.le
      obtain ⟨_, _, _, _, _, _, _, _, f2, _, _⟩ := HC.out.cells
      by_cases he : d.e = 0
      · rw [he] at f2
        by_cases hk : k < m
        · have hone := number_any B b d wr HC.out
          have hlen : l.length ≤ 1000001 := by
            have h1 := HI.out.len1
            have h2 := HI.out.ok
            have h3 := HI.out.bs
            have h4 := HRM.out
            rw [← h3] at h4
            unfold Cu.ok at h2
            omega
          have hst := HI.out.step hk he (Cu.num_to HI.out.ok) (fun h => Cu.tk_on he (fun h1 => (Cu.nuR_in HI.out.ok h1).1) h)
          have HST := Lib.hid hst
          obtain ⟨x, hx⟩ : ∃ x, x = (Cu.num d).1 := ⟨_, rfl⟩
          obtain ⟨d2, hd2⟩ : ∃ d2, d2 = (Cu.num d).2 := ⟨_, rfl⟩
          have hd2' : ∀ dd : Cu, dd = (Cu.num d).2 → dd = d2 := fun dd h => h.trans hd2.symm
          rw [← hx, ← hd2] at HST
          replace hone := (show (Cu.num d).1 = x from hx.symm) ▸ (show (Cu.num d).2 = d2 from hd2.symm) ▸ hone
          have HONE := Lib.hid hone
          clear hone hst hx hd2 hd2' he
          go_wp2_with fail
          refine HONE.out.mono ?_
          rintro e w3 ⟨rfl, hc3, ho3⟩
          have hbase : w.heap.size ≤ w3.heap.size := Nat.le_trans HO.out.size ho3.size
          have hown3 := own_below (own_only HOWN.out ho3 HLT.out) ((Below.refl _ w3).alloc (Nat.le_refl _) (.cells #[.int .u64 (x : Int)] 40))
          have hal : Below w.heap.size w3 (w3.alloc (.cells #[.int .u64 (x : Int)] 40)) := (Below.refl _ w3).alloc hbase _
          have HOWN3 := Lib.hid hown3
          have HAL := Lib.hid hal
          have HC3 := Lib.hid hc3
          have HO3 := Lib.hid ho3
          clear hown3 hal hc3 ho3 f2
          go_wp2_with (at_builtin; refine wpList_append_reads _ rfl (.tmp 31) (.tmp 34) 44 rfl w.heap.size 40 i0 (.int .u64 0) 8 Try.underlying44 hi0 hz0 hz1 hz2 rfl _ l.length _ rfl HOWN3.out (some ⟨w3.heap.size, 0, none⟩) 1 1 (w3.heap.size + 1) [.int .u64 (x : Int)] rfl (by intro h; cases h) (reads_val w3 40 (.int .u64 (x : Int))) (by intro u hu; simp at hu; subst hu; rfl) (by unfold maxLen; omega) (by omega) (by simp; omega) ?_; intro v4 w4 ho4 hg4)
          have hb4 : Below w.heap.size w3 w4 := HAL.out.grown hg4 (by simp; omega) (own_block HOWN3.out)
          have hlt3 := HLT.out
          exact ⟨⟨d2, l ++ [x], k + 1, by go_num, HST.out, HC3.out.below hb4 hlt3, (HO.out.trans HO3.out).next hb4, by simpa [Hid, nv] using ho4⟩, by simp [intOf]; omega⟩
        · have hr := HRES.out d l k HI.out (.inr (by omega))
          rw [if_pos he] at hr
          have hkm : k = m := by omega
          have HR := Lib.hid hr
          clear hr hle
          go_wp2
          go_ret
          exact ⟨_, rfl, by rw [HR.out]; exact HOWN.out, by rw [HR.out]; exact HC.out, HO.out⟩
      · have hr := HRES.out d l k HI.out (.inl he)
        rw [if_neg he] at hr
        have HR := Lib.hid hr
        clear hr
        generalize d.e = x at f2 he
        by_cases hk : k < m
        · go_wp2
          go_ret
          exact ⟨_, rfl, by rw [HR.out]; exact HNIL.out wr, by rw [HR.out]; exact HC.out, HO.out⟩
        · have hkm : k = m := by omega
          go_wp2
          go_ret
          exact ⟨_, rfl, by rw [HR.out]; exact HNIL.out wr, by rw [HR.out]; exact HC.out, HO.out⟩

theorem cell_only {w w' : World} {b d : Nat} {u : Value} (ho : Only b w w') (h : w.cell? ⟨d, 0, none⟩ = some u) (hl : d < w.heap.size) (hn : d ≠ b) : w'.cell? ⟨d, 0, none⟩ = some u :=
  (World.cell?_of_block (w := w) (ho.block d hl hn)).trans h

theorem texts1_any (B b : Nat) (c : Cu) (each : Int) (hm : each < 9223372036854775808) (d1 d2 : Nat) (w : World) (h : CurIn w B b c) (h1 : w.cell? ⟨d1, 0, none⟩ = some (.pointer (some ⟨b, 0, none⟩))) (h2 : w.cell? ⟨d2, 0, none⟩ = some (.int .i64 each)) :
    Calls Try.prog 39 #[.pointer (some ⟨d1, 0, none⟩), .pointer (some ⟨d2, 0, none⟩)] w fun e w' => e = .returned (.string (tx (Cu.txt each c).1)) ∧ CurIn w' B b (Cu.txt each c).2 ∧ Only b w w' := by
  have ht := text_any B b c each hm w h
  rw [show c.text each = Cu.txt each c from rfl] at ht
  generalize tx (Cu.txt each c).1 = v at *
  have HT := Lib.hid ht
  clear ht h hm
  go_enter Try.func39, Try.ntmps39
  go_wp2_with fail
  refine HT.out.mono ?_
  rintro e w1 ⟨rfl, hc, ho⟩
  go_wp2
  go_ret
  exact ⟨rfl, hc, ho⟩

theorem infostr : (Try.prog.info? 9).map (fun i => (i.zero, i.size, i.bytes)) = some (some (.string ⟨#[]⟩), 1, 16) := by kernel_rfl

/-- At the head of a round of takeMany. -/
def many_textRel (one : Cu → (List UInt8) × Cu) (m : Nat) (c2 : Cu) (B b : Nat) (w : World) (v idx : Value) (wr : World) : Prop :=
  ∃ (d : Cu) (l : List (List UInt8)) (k : Nat), idx = .int .u64 (k : Int) ∧ Hid (Cu.MInv one m c2 d l k) ∧ Hid (CurIn wr B b d) ∧ Hid (Only b w wr) ∧ Hid (wr.ownsRow w.heap.size 9 1 v l.length (l.map sv))

set_option maxRecDepth 100000 in
set_option maxHeartbeats 1600000 in
theorem many_text (B b : Nat) (c : Cu) (most : Int) (hm : most < 9223372036854775808) (each : Int) (hmx : each < 9223372036854775808) (d1 d2 : Nat) (w : World) (h : CurIn w B b c) (h1 : w.cell? ⟨d1, 0, none⟩ = some (.pointer (some ⟨b, 0, none⟩))) (h2 : w.cell? ⟨d2, 0, none⟩ = some (.int .i64 each)) (l1 : d1 < w.heap.size) (l2 : d2 < w.heap.size) (n1 : d1 ≠ b) (n2 : d2 ≠ b) :
    Calls Try.prog 38 #[.pointer (some ⟨b, 0, none⟩), .int .i64 most, .func (.func 39) #[] #[.pointer (some ⟨d1, 0, none⟩), .pointer (some ⟨d2, 0, none⟩)]] w fun e w' => ∃ v, e = .returned v ∧ w'.ownsRow w.heap.size 9 1 v (c.texts most each).1.length ((c.texts most each).1.map sv) ∧ CurIn w' B b (c.texts most each).2 ∧ Only b w w' := by
  obtain ⟨i0, hi0, hz0, hz1, hz2⟩ := info_parts infostr
  have hlt := h.lt
  have hrm := h.room
  have hmt : c.num.1 < top := Cu.num_lt
  have hcto := Cu.cnt_to h.ok most
  have hM : (most < 0 ∧ max most 0 = 0) ∨ (¬ most < 0 ∧ max most 0 = most) := by omega
  have hcm := Cu.cnt_many (Cu.txt each) c most
  obtain ⟨M, hMM⟩ : ∃ M, M = max most 0 := ⟨_, rfl⟩
  have hw : IntKind.u64.wrap M = M := by rw [IntKind.wrap_u64]; omega
  have hlim : (M < (c.num.1 : Int) ∧ (c.cnt most).2 = c.num.2.fail 5) ∨ (¬ M < (c.num.1 : Int) ∧ (c.cnt most).2 = c.num.2) := by
    by_cases hl : M < (c.num.1 : Int)
    · exact .inl ⟨hl, by rw [Cu.cnt, if_pos (by rw [← hMM]; exact hl)]⟩
    · exact .inr ⟨hl, by rw [Cu.cnt, if_neg (by rw [← hMM]; exact hl)]⟩
  rw [← hMM] at hM
  clear hMM
  have hnum := number_any B b c w h
  obtain ⟨m, hme⟩ : ∃ m, m = c.num.1 := ⟨_, rfl⟩
  rw [← hme] at hmt hlim hnum hcm
  have hres : ∀ (d : Cu) (l : List (List UInt8)) (k : Nat), Cu.MInv (Cu.txt each) m (c.cnt most).2 d l k → (d.e ≠ 0 ∨ m ≤ k) → (c.texts most each) = (if d.e = 0 then l else [], d) := fun d l k hi hs => Cu.all_end hcm hi hs
  have hstart : Cu.MInv (Cu.txt each) m (c.cnt most).2 (c.cnt most).2 [] 0 := Cu.MInv.start hcto.good
  have hbs : (c.cnt most).2.bs = c.bs := hcto.bs
  generalize (c.cnt most).2 = c2 at *
  generalize (c.texts most each) = sp at *
  generalize c.num.2 = c1 at *
  have HNUM := Lib.hid hnum
  have HRES := Lib.hid hres
  have HSTART := Lib.hid hstart
  have HRM : Hid (c2.bs.length ≤ 1000000) := by rw [hbs]; exact hrm
  have hmt' : m < 18446744073709551616 := hmt
  have HLT := Lib.hid hlt
  have HNIL := Lib.hid (fun W : World => World.ownsRow_nil W w.heap.size 9 1)
  have HX := Lib.hid (fun (W : World) (ho : Only b w W) => And.intro (cell_only ho h1 l1 n1) (cell_only ho h2 l2 n2))
  clear h1 h2 l1 l2 n1 n2
  clear hnum hres hstart hbs hrm hmt hcto hcm hme h hlt
  rcases hlim with ⟨hl, he2⟩ | ⟨hl, he2⟩
  all_goals
    rcases hM with ⟨hM0, hM1⟩ | ⟨hM0, hM1⟩
  all_goals
    subst hM1
    have HE2 := Lib.hid he2
    clear he2
    go_enter Try.func38, Try.ntmps38
    go_wp2_with fail
    refine HNUM.out.mono ?_
    rintro e w1 ⟨rfl, hc1, ho1⟩
    first
      | (go_wp2_with fail
         refine (fail_any B b c1 5 w1 hc1).mono ?_
         rintro e w2 ⟨rfl, hc2, ho2⟩
         rw [← HE2.out] at hc2
         replace ho1 := ho1.trans ho2
         clear ho2)
      | (rw [← HE2.out] at hc1
         obtain ⟨w2, hw2⟩ : ∃ w2, w2 = w1 := ⟨_, rfl⟩
         rw [← hw2] at hc1 ho1 ⊢
         have hc2 := hc1
         clear hw2)
    have HC2 := Lib.hid hc2
    have HO2 := Lib.hid ho1
    clear hc1 hc2 ho1
    go_wp2
    try (rename ¬0 < m => hbad; clear hbad)
    go_loopw [8, 9] (fun v idx wr => many_textRel (Cu.txt each) m c2 B b w v idx wr) (fun _ idx _ => m - (intOf idx).toNat)
    case atStart => exact ⟨c2, [], 0, rfl, HSTART.out, HC2.out, HO2.out, HNIL.out w2⟩
    case round =>
      obtain ⟨d, l, k, rfl, HI, HC, HO, HOWN⟩ := hrel
      clear HC2 HO2 HSTART HE2 HNUM hl hM0 hw
      have hle : k ≤ m := HI.out.le
      obtain ⟨_, _, _, _, _, _, _, _, f2, _, _⟩ := HC.out.cells
      by_cases he : d.e = 0
      · rw [he] at f2
        by_cases hk : k < m
        · have hone := texts1_any B b d each hmx d1 d2 wr HC.out (HX.out wr HO.out).1 (HX.out wr HO.out).2
          have hlen : l.length ≤ 1000001 := by
            have h1 := HI.out.len1
            have h2 := HI.out.ok
            have h3 := HI.out.bs
            have h4 := HRM.out
            rw [← h3] at h4
            unfold Cu.ok at h2
            omega
          have hst := HI.out.step hk he (Cu.text_to HI.out.ok each) (fun h => Cu.tk_on he (fun h1 => (Cu.txR_in each h1).1) h)
          have HST := Lib.hid hst
          obtain ⟨x, hx⟩ : ∃ x, x = ((Cu.txt each) d).1 := ⟨_, rfl⟩
          obtain ⟨d2, hd2⟩ : ∃ d2, d2 = ((Cu.txt each) d).2 := ⟨_, rfl⟩
          have hd2' : ∀ dd : Cu, dd = ((Cu.txt each) d).2 → dd = d2 := fun dd h => h.trans hd2.symm
          rw [← hx, ← hd2] at HST
          replace hone := (show ((Cu.txt each) d).1 = x from hx.symm) ▸ (show ((Cu.txt each) d).2 = d2 from hd2.symm) ▸ hone
          have HONE := Lib.hid hone
          clear hone hst hx hd2 hd2' he
          go_wp2_with fail
          refine HONE.out.mono ?_
          rintro e w3 ⟨rfl, hc3, ho3⟩
          have hbase : w.heap.size ≤ w3.heap.size := Nat.le_trans HO.out.size ho3.size
          have hown3 := own_below (own_only HOWN.out ho3 HLT.out) ((Below.refl _ w3).alloc (Nat.le_refl _) (.cells #[.string (tx x)] 9))
          have hal : Below w.heap.size w3 (w3.alloc (.cells #[.string (tx x)] 9)) := (Below.refl _ w3).alloc hbase _
          have HOWN3 := Lib.hid hown3
          have HAL := Lib.hid hal
          have HC3 := Lib.hid hc3
          have HO3 := Lib.hid ho3
          clear hown3 hal hc3 ho3 f2
          go_wp2_with (at_builtin; refine wpList_append_reads _ rfl (.tmp 31) (.tmp 34) 46 rfl w.heap.size 9 i0 (.string ⟨#[]⟩) 16 Try.underlying46 hi0 hz0 hz1 hz2 rfl _ l.length _ rfl HOWN3.out (some ⟨w3.heap.size, 0, none⟩) 1 1 (w3.heap.size + 1) [.string (tx x)] rfl (by intro h; cases h) (reads_val w3 9 (.string (tx x))) (by intro u hu; simp at hu; subst hu; rfl) (by unfold maxLen; omega) (by omega) (by simp; omega) ?_; intro v4 w4 ho4 hg4)
          have hb4 : Below w.heap.size w3 w4 := HAL.out.grown hg4 (by simp; omega) (own_block HOWN3.out)
          have hlt3 := HLT.out
          exact ⟨⟨d2, l ++ [x], k + 1, by go_num, HST.out, HC3.out.below hb4 hlt3, (HO.out.trans HO3.out).next hb4, by simpa [Hid, sv] using ho4⟩, by simp [intOf]; omega⟩
        · have hr := HRES.out d l k HI.out (.inr (by omega))
          rw [if_pos he] at hr
          have hkm : k = m := by omega
          have HR := Lib.hid hr
          clear hr hle
          go_wp2
          go_ret
          exact ⟨_, rfl, by rw [HR.out]; exact HOWN.out, by rw [HR.out]; exact HC.out, HO.out⟩
      · have hr := HRES.out d l k HI.out (.inl he)
        rw [if_neg he] at hr
        have HR := Lib.hid hr
        clear hr
        generalize d.e = x at f2 he
        by_cases hk : k < m
        · go_wp2
          go_ret
          exact ⟨_, rfl, by rw [HR.out]; exact HNIL.out wr, by rw [HR.out]; exact HC.out, HO.out⟩
        · have hkm : k = m := by omega
          go_wp2
          go_ret
          exact ⟨_, rfl, by rw [HR.out]; exact HNIL.out wr, by rw [HR.out]; exact HC.out, HO.out⟩

set_option maxRecDepth 100000 in
theorem numbers_any (B b : Nat) (c : Cu) (most : Int) (hm : most < 9223372036854775808) (w : World) (h : CurIn w B b c) :
    Calls Try.prog 15 #[.pointer (some ⟨b, 0, none⟩), .int .i64 most] w fun e w' => ∃ v, e = .returned v ∧ w'.ownsRow w.heap.size 40 1 v (c.nums most).1.length ((c.nums most).1.map nv) ∧ CurIn w' B b (c.nums most).2 ∧ Only b w w' := by
  have hmf : ∀ (fn : Fn) (first cap : Array Value) (w : World), (Instr.makeFunc fn first cap).run Try.prog w = .ok (.func fn first cap) w := fun _ _ _ _ => rfl
  have HT := Lib.hid (many_num B b c most hm w h)
  clear h hm
  go_enter Try.func15, Try.ntmps15
  go_wp2_with fail
  refine HT.out.mono ?_
  rintro e w1 ⟨v, rfl, hr, hc, ho⟩
  go_wp2
  go_ret
  exact ⟨_, rfl, hr, hc, ho⟩

set_option maxRecDepth 100000 in
theorem texts_any (B b : Nat) (c : Cu) (most each : Int) (hm : most < 9223372036854775808) (hmx : each < 9223372036854775808) (w : World) (h : CurIn w B b c) :
    Calls Try.prog 16 #[.pointer (some ⟨b, 0, none⟩), .int .i64 most, .int .i64 each] w fun e w' => ∃ v, e = .returned v ∧ w'.ownsRow w.heap.size 9 1 v (c.texts most each).1.length ((c.texts most each).1.map sv) ∧ CurIn w' B b (c.texts most each).2 ∧ Only b w w' := by
  have hmf : ∀ (fn : Fn) (first cap : Array Value) (w : World), (Instr.makeFunc fn first cap).run Try.prog w = .ok (.func fn first cap) w := fun _ _ _ _ => rfl
  have hlt := h.lt
  obtain ⟨x1, hx1⟩ : ∃ x1, x1 = w.alloc (.cells #[.pointer (some ⟨b, 0, none⟩)] 25) := ⟨_, rfl⟩
  obtain ⟨x2, hx2⟩ : ∃ x2, x2 = x1.alloc (.cells #[.int .i64 each] 3) := ⟨_, rfl⟩
  have z1 : x1.heap.size = w.heap.size + 1 := by rw [hx1]; simp
  have z2 : x2.heap.size = w.heap.size + 2 := by rw [hx2]; simp [z1]
  have c1 : x2.cell? ⟨w.heap.size, 0, none⟩ = some (.pointer (some ⟨b, 0, none⟩)) := by
    rw [hx2, World.cell?_alloc_lt _ _ _ (by simp [z1]), hx1]
    simp only [World.cell?, World.alloc, Array.getElem?_push_size]
    rfl
  have c2 : x2.cell? ⟨w.heap.size + 1, 0, none⟩ = some (.int .i64 each) := by
    rw [hx2, ← z1]
    simp only [World.cell?, World.alloc, Array.getElem?_push_size]
    rfl
  have hb : Below w.heap.size w x2 := by
    rw [hx2, hx1]
    exact ((Below.refl _ w).alloc (Nat.le_refl _) _).alloc (by simp) _
  have ht := many_text B b c most hm each hmx w.heap.size (w.heap.size + 1) x2 (h.below hb hlt) c1 c2 (by omega) (by omega) (by omega) (by omega)
  rw [hx2, hx1] at ht
  have HT := Lib.hid ht
  have HZ := Lib.hid z2
  rw [hx2, hx1] at hb HZ
  have HB := Lib.hid hb
  clear h hm hmx c1 c2 hb ht hlt z1 z2 hx1 hx2 x1 x2
  go_enter Try.func16, Try.ntmps16
  go_wp2_with fail
  refine HT.out.mono ?_
  rintro e w1 ⟨v, rfl, hr, hc, ho⟩
  go_wp2
  go_ret
  exact ⟨_, rfl, own_wider hr HB.out.size, hc, (Only.of_below HB.out).trans ho⟩

end Go.Proofs.Ytkpgnpiofhgcpaa
