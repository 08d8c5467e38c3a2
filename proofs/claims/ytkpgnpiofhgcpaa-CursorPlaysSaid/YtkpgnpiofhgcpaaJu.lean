/- The walk of CursorPlays. -/
import Derived.Test.YtkpgnpiofhgcpaaJl
import Derived.Test.YtkpgnpiofhgcpaaJp
import Derived.Test.YtkpgnpiofhgcpaaJs
namespace Go.Proofs.Ytkpgnpiofhgcpaa
open Go.RowKit

theorem setC4 {w : World} {g : Nat} {t : TypeId} {p x y z : Value} (h : w.heap[g]? = some (.cells #[p, x, y, z] t (0, 0))) (a b c d : Value) :
    ((((w.setCell ⟨g, 0, none⟩ a).setCell ⟨g, 1, none⟩ b).setCell ⟨g, 2, none⟩ c).setCell ⟨g, 3, none⟩ d).heap[g]? = some (.cells #[a, b, c, d] t (0, 0)) :=
  heap_setCell_same _ _ 3 _ _ _ (heap_setCell_same _ _ 2 _ _ _ (heap_setCell_same _ _ 1 _ _ _ (heap_setCell_same _ _ 0 _ _ _ h)))
theorem setC4_only {w : World} {g : Nat} {a b c d : Value} : Only g w ((((w.setCell ⟨g, 0, none⟩ a).setCell ⟨g, 1, none⟩ b).setCell ⟨g, 2, none⟩ c).setCell ⟨g, 3, none⟩ d) :=
  (((Only.setCell (b := g) (i := 0) a).trans (Only.setCell (b := g) (i := 1) b)).trans (Only.setCell (b := g) (i := 2) c)).trans (Only.setCell (b := g) (i := 3) d)

/-- The block of a pair turns: no byte of the cursor's lies there. -/
theorem CurIn.pair {w w' : World} {B b p : Nat} {c c1 : Cu} {t : TypeId} (h : CurIn w B b c) (hp : w.heap[p]? = some (.cells (bothc b c1) t (0, 0))) (ho : Only p w w') (hn : b ≠ p) : CurIn w' B b c := by
  have hlt := h.lt
  have hno : ∀ (a : Addr) (x : UInt8), a.block = p → w.cell? a ≠ some (bv x) := by
    intro a x ha hx
    rw [World.cell?, ha, hp] at hx
    have h2 : (bothc b c1)[a.off]? = some (bv x) := by
      revert hx
      cases a.spot <;> simp
    have h4 : a.off < 4 := by
      have := (Array.getElem?_eq_some_iff.1 h2).1
      simpa [bothc] using this
    obtain h5 | h5 | h5 | h5 : a.off = 0 ∨ a.off = 1 ∨ a.off = 2 ∨ a.off = 3 := by omega
    all_goals
      rw [h5] at h2
      simp [bothc, bv] at h2
  obtain ⟨A, n, cap, h0, h1, h2⟩ := h.lies
  refine ⟨h.ok, h.room, h.le, A, n, cap, h0, ⟨h1.1, fun h3 => ?_⟩, (ho.block b hlt hn).trans h2⟩
  obtain ⟨ad, e, hb, hc⟩ := h1.2 h3
  refine ⟨ad, e, hb, fun j u hu => ?_⟩
  have hcj := hc j u hu
  have hbl : (ad.add j).block < w.heap.size := by
    rcases Nat.lt_or_ge (ad.add j).block w.heap.size with h6 | h6
    · exact h6
    · rw [World.cell?, Array.getElem?_eq_none h6] at hcj; cases hcj
  obtain ⟨x, rfl, _⟩ := byte_get hu
  have hne : (ad.add j).block ≠ p := fun e => hno _ x e hcj
  exact (World.cell?_of_block (w := w) (ho.block _ hbl hne)).trans hcj

section
variable {P : Program} {md : Region.Mode} {ops : Array Oper} {Q : Exit → Act → World → Prop} {S : World → Prop}
/-- Either of two may come up. -/
theorem h_two (i j : Nat) {oi oj : Oper} {fuel : Nat} {listed : Array Bool} {a : Act} {w : World} (hi : ops[i]? = some oi) (hj : ops[j]? = some oj)
    (hr : Region.ready md ops listed = [i, j]) (hwi : Region.wanted oi (yielded ops a.tmps) = true) (hwj : Region.wanted oj (yielded ops a.tmps) = true)
    (h1 : ∀ K : Act → World → Prop, (∀ a' w', S w' → wpAnyH P md ops Q S fuel (listed.setIfInBounds i true) a' w' → K a' w') → oi.wp P a w K Q)
    (h2 : ∀ K : Act → World → Prop, (∀ a' w', S w' → wpAnyH P md ops Q S fuel (listed.setIfInBounds j true) a' w' → K a' w') → oj.wp P a w K Q) : wpAnyH P md ops Q S (fuel + 1) listed a w := by
  refine wpAnyH_all hr (by simp) (fun k hk => ?_)
  rcases (by simpa using hk : k = i ∨ k = j) with rfl | rfl
  · unfold wpOp
    simp only [hi, hwi, if_true]
    exact .inl (h1 _ fun _ _ h1 h2 => ⟨h1, h2⟩)
  · unfold wpOp
    simp only [hj, hwj, if_true]
    exact .inl (h2 _ fun _ _ h1 h2 => ⟨h1, h2⟩)
end

/-- What stands where CursorPlays' loops begin. -/
structure PlaysIn (w w3 W : World) (v : Value) (n b p : Nat) (bs : List UInt8) (c : Cu) : Prop where
  own : W.ownsRow w.heap.size 5 1 v n (bs.map bv)
  cur : ∃ A1 c1, W.ownsRow w3.heap.size 5 1 (.slice A1 n c1) n (bs.map bv) ∧ n ≤ c1 ∧ W.heap[b]? = some (.cells (cuCells A1 n c1 c) 54 (0, 0)) ∧ (∀ g, (Value.slice A1 n c1).ownBlock = some g → g < b)
  pair : W.heap[p]? = some (.cells (bothc b c) 31 (0, 0))
  ne : b ≠ p
  lb : w3.heap.size ≤ b
  lp : w3.heap.size ≤ p
  below : Below w3.heap.size w3 W

/-- At the head of a round of the loop that turns the bytes behind New. -/
def URel (v : Value) (n : Nat) (w w5 : World) (idx : Value) (wr : World) : Prop :=
  ∃ (i : Nat) (ys : List UInt8), i ≤ n ∧ idx = .int .i64 (i : Int) ∧ Hid (wr.ownsRow w.heap.size 5 1 v n (ys.map bv)) ∧ Hid (w5.grownBy wr v.ownBlock)

/-- At the head of a round of CursorPlays. -/
def PRel (m b p : Nat) (w : World) (idx : Value) (wr : World) : Prop :=
  ∃ (c : Cu) (i : Nat), i ≤ m ∧ idx = .int .i64 (i : Int) ∧ Hid (CurIn wr b b c) ∧ Hid (wr.heap[p]? = some (.cells (bothc b c) 31 (0, 0))) ∧ Hid (Below w.heap.size w wr)

theorem plays_info : (Try.prog.info? 5).map (fun i => (i.zero, i.size, i.bytes)) = some (some (.int .u8 0), 1, 1) := by kernel_rfl

set_option maxRecDepth 100000 in
set_option maxHeartbeats 1600000 in
theorem plays_short (A L : Option Addr) (n cap m d : Nat) (at_ : Int) (bs : List UInt8) (ts : List Tk) (hn : n ≤ 500) (hA : A = none → cap = 0) (hm : m ≤ 40) (w : World) (hr : Reads w w.heap.size 1 A n (bs.map bv)) (hl : Reads w w.heap.size 3 L m (tks ts))
    (hstep : ∀ t ∈ ts, ∀ (B b : Nat) (c : Cu) (W : World), CurIn W B b c → ∃ c', Calls Try.prog 9 #[bothv b c, .agg #[.int .i64 t.kind, .int .i64 t.most, .int .i64 t.each]] W fun e w' => e = .returned (.tuple #[bothv b c', .bool true]) ∧ CurIn w' B b c' ∧ Only b W w') :
    Calls Try.prog 3 #[.slice A n cap, .int .i64 at_, .slice L m d] w fun e w' => e = .returned (.bool true) ∧ Below w.heap.size w w' := by
  obtain ⟨i0, hi0, hz0, hz1, hz2⟩ := info_parts plays_info
  have hbl : bs.length = n := by have := hr.1; simpa using this
  have htl : ts.length = m := by have := hl.1; rw [tks_len] at this; omega
  have hone := bv_one bs
  have HR := Lib.hid hr
  have HL := Lib.hid hl
  have HTL := Lib.hid htl
  have HBL := Lib.hid hbl
  have HSTEP := Lib.hid hstep
  have hal := hr.alloc (Nat.le_refl _) (.cells #[] 5)
  clear htl hr hl hstep
  go_enter Try.func3, Try.ntmps3
  go_wp2_with (at_builtin; refine wpList_append_reads _ rfl (.tmp 23) (.tmp 24) 22 rfl w.heap.size 5 i0 (.int .u8 0) 1 Try.underlying22 hi0 hz0 hz1 hz2 rfl (.slice (some ⟨w.heap.size, 0, none⟩) 0 0) 0 [] rfl (own_empty _ _) A n cap w.heap.size _ rfl hA hal hone (by unfold maxLen; omega) (by omega) (by simp) ?_; intro v3 w3 ho3 hg3)
  have hb3 : Below w.heap.size w w3 := ((Below.refl w.heap.size w).alloc (Nat.le_refl _) (.cells #[] 5)).grown hg3 (by simp) (own_block (own_empty w 5))
  simp only [Nat.zero_add, List.nil_append] at ho3
  obtain ⟨A3, q3, rfl, _, hr3⟩ := own_reads ho3
  have HNEW : Hid (∀ X, Below w3.heap.size w3 X → _) := fun X hX => new_own A3 n q3 at_ bs (by omega) X ((hr3.below hX).more hX.size)
  have href := fun W => refnew_any bs at_ W
  have HCV : Hid (∀ X, Below w3.heap.size w3 X → (convert 22 9 (.slice A n cap)).run Try.prog X = .ok (.string (tx bs)) X) := fun X hX => conv_reads Try.underlying22 Try.underlying5 Try.underlying9 ((HR.out.below hb3).below (hX.mono hb3.size))
  have hcu := Cu.new_bs bs at_
  have hok := Cu.new_ok bs at_
  generalize Cu.new bs at_ = c0 at *
  simp only [cuv] at href
  have HREF := Lib.hid href
  have HO3 := Lib.hid ho3
  have HB3 := Lib.hid hb3
  have HCU := Lib.hid hcu
  have HOK := Lib.hid hok
  clear href hg3 ho3 hr3 hb3 hal hone hcu hok hz0 hz1 hz2 hi0
  refine wp_region_held (S := fun X => Below w3.heap.size w3 X) (by kernel_rfl) ?_
  have hS : Below w3.heap.size w3 w3.drew := (Below.refl _ w3).drew
  have e3 : w3.drew.heap.size = w3.heap.size := rfl
  refine h_take 0 (.slice A3 n q3) rfl (by kernel_rfl) (by kernel_rfl) (by kernel_rfl) (fun _ _ _ h => h) (by kernel_rfl) hS (fun _ _ => by kernel_rfl) ?_
  refine h_take 1 (.int .i64 at_) rfl (by kernel_rfl) (by kernel_rfl) (by kernel_rfl) (fun _ _ _ h => h) (by kernel_rfl) hS (fun _ _ => by kernel_rfl) ?_
  refine h_take 3 (.slice A n cap) rfl (by kernel_rfl) (by kernel_rfl) (by kernel_rfl) (fun _ _ _ h => h) (by kernel_rfl) hS (fun _ _ => by kernel_rfl) ?_
  refine h_take 4 (.string (tx bs)) rfl (by kernel_rfl) (by kernel_rfl) (by kernel_rfl) (fun _ _ _ h => h) (by kernel_rfl) hS (by intro w' hb; have hcv := HCV.out w' hb; go_simp) ?_
  refine h_take 5 (.int .i64 at_) rfl (by kernel_rfl) (by kernel_rfl) (by kernel_rfl) (fun _ _ _ h => h) (by kernel_rfl) hS (fun _ _ => by kernel_rfl) ?_
  refine h_two 2 8 rfl rfl (by kernel_rfl) (by kernel_rfl) (by kernel_rfl) (fun K hK => ?_) (fun K hK => ?_)
  · go_simp
    refine Calls.mono (HNEW.out _ hS) ?_
    rintro e w5 ⟨w1, A1, c1, rfl, ho1, hc1, hb1, hw5⟩
    have hx5 : w5.heap[w1.heap.size]? = some (.cells (cuCells A1 n c1 c0) 54 (0, 0)) := by rw [hw5]; exact heap_alloc_new w1 _
    have hz5 : w5.heap.size = w1.heap.size + 1 := by rw [hw5]; simp
    have hb5 : Below w1.heap.size w1 w5 := by rw [hw5]; exact (Below.refl _ w1).alloc (Nat.le_refl _) _
    clear hw5
    have hS5 := hS.trans ((hb1.trans (hb5.mono hb1.size)).mono hS.size)
    refine hK _ _ hS5 ?_
    clear hK K
    refine h_two 6 8 rfl rfl (by kernel_rfl) (by kernel_rfl) (by kernel_rfl) (fun K hK => ?_) (fun K hK => ?_)
    · go_simp
      refine Calls.mono (HREF.out _) ?_
      rintro e w6 ⟨rfl, hb6⟩
      have hS6 := hS5.trans (hb6.mono hS5.size)
      refine hK _ _ hS6 ?_
      clear hK K
      refine h_take 7 (.agg #[.pointer (some ⟨w1.heap.size, 0, none⟩), .string (tx c0.bs), .int .i64 (c0.at_ : Int), .int .i64 c0.e]) rfl (by kernel_rfl) (by kernel_rfl) (by kernel_rfl) (fun _ _ _ h => h) (by kernel_rfl) hS6 (by intro w' hb; go_simp) ?_
      refine h_one 8 rfl (by kernel_rfl) (by kernel_rfl) (fun K hK => ?_)
      go_simp
      have h7 : (w6.alloc (.cells zero4 31)).heap[w6.heap.size]? = some (.cells zero4 31 (0, 0)) := heap_alloc_new _ _
      have h7z : (w6.alloc (.cells zero4 31)).heap.size = w6.heap.size + 1 := by simp
      have h7b : Below w6.heap.size w6 (w6.alloc (.cells zero4 31)) := (Below.refl _ _).alloc (Nat.le_refl _) _
      have hS7 := hS6.alloc hS6.size (.cells zero4 31)
      refine hK _ _ hS7 ?_
      unfold zero4 at h7 h7z h7b hS7
      generalize World.alloc w6 _ = x7 at *
      clear hK K
      have hb1w : w3.heap.size ≤ w1.heap.size := by rw [← e3]; exact hb1.size
      have hw6 : Below w1.heap.size w1 w6 := hb5.trans (hb6.mono (by omega))
      have hs6 : w5.heap.size ≤ w6.heap.size := hb6.size
      have hw7 : Below w1.heap.size w1 x7 := hw6.trans (h7b.mono (by omega))
      have hx7 : x7.heap[w1.heap.size]? = some (.cells (cuCells A1 n c1 c0) 54 (0, 0)) := (h7b.block w1.heap.size (by omega)).trans ((hb6.block w1.heap.size (by omega)).trans hx5)
      refine h_one 9 rfl (by kernel_rfl) (by kernel_rfl) (fun K hK => ?_)
      refine wp_store_row 31 _ _ rfl w6.heap.size #[.pointer (some ⟨w1.heap.size, 0, none⟩), .string (tx c0.bs), .int .i64 (c0.at_ : Int), .int .i64 c0.e] rfl rfl 31 #[.pointer none, .string ⟨#[]⟩, .int .i64 0, .int .i64 0] h7 (by kernel_rfl) rfl (by simp [Value.oneCell']) ?_
      have hS9 : Below w3.heap.size w3 (x7.setRow w6.heap.size #[.pointer (some ⟨w1.heap.size, 0, none⟩), .string (tx c0.bs), .int .i64 (c0.at_ : Int), .int .i64 c0.e]) := below_setRow hS7 (by omega) _
      have hPL : PlaysIn w w3 (x7.setRow w6.heap.size #[.pointer (some ⟨w1.heap.size, 0, none⟩), .string (tx c0.bs), .int .i64 (c0.at_ : Int), .int .i64 c0.e]) (.slice A3 n q3) n w1.heap.size w6.heap.size bs c0 := ⟨own_below HO3.out hS9, ⟨A1, c1, own_wider (own_below ho1 (below_setRow hw7 (by omega) _)) (by omega), hc1, (setRow_other _ _ _ _ (by omega)).trans hx7, own_lt ho1⟩, setRow_heap _ _ _ _ _ _ h7, (by omega), hb1w, (by omega), hS9⟩
      refine hK _ _ hS9 ?_
      clear hK K
      have HPL := Lib.hid hPL
      clear hPL
      generalize World.setRow _ _ _ = W at *
      generalize hpp : w6.heap.size = p at *
      generalize hbb : w1.heap.size = b at *
      clear hbb hpp
      refine wpAnyH_done (by kernel_rfl) ?_ _
      go_simp
      clear HNEW HREF HCV hS
      have HP := HPL
      have pc0 := field_cell (i := 0) (u := .pointer (some ⟨b, 0, none⟩)) HPL.out.pair rfl
      go_wp2
      clear pc0
      go_loopw [39] (fun idx wr => URel (.slice A3 n q3) n w W idx wr) (fun idx _ => n - (intOf idx).toNat)
      case atStart => exact ⟨0, bs, by omega, rfl, HPL.out.own, World.grownBy.refl W _⟩
      case round =>
        obtain ⟨i, ys, hi, rfl, HOW, HGR⟩ := hrel
        by_cases hlt : i < n
        · obtain ⟨g, q9, hform, _, _⟩ := HOW.out.form (by omega)
          obtain ⟨hA3, _⟩ : A3 = some ⟨g, 0, none⟩ ∧ q3 = q9 := by
            injection hform with h1 h2 h3
            exact ⟨h1, h3⟩
          subst hA3
          have hyl : ys.length = n := by have := HOW.out.1; simpa using this
          have hx : (ys.map bv)[i]? = some (bv ys[i]) := by rw [List.getElem?_map, List.getElem?_eq_getElem (by omega)]; rfl
          have hcell := (HOW.out.cellAt i (by omega)).trans hx
          have hfz := HOW.out.frozenAt i
          obtain ⟨y, hy⟩ : ∃ y : UInt8, y = UInt8.ofNat ((ys[i].toNat + 1) % 256) := ⟨_, rfl⟩
          have hyn : IntKind.u8.wrap ((ys[i].toNat : Int) + 1) = (y.toNat : Int) := by
            rw [hy, u8_ofNat _ (Nat.mod_lt _ (by omega)), IntKind.wrap_u8']; omega
          obtain ⟨ho2, hg2⟩ := HOW.out.stored i (bv y)
          have hset : (ys.map bv).set i (bv y) = (ys.set i y).map bv := by rw [List.map_set]
          rw [hset] at ho2
          have hg3 := HGR.out.trans hg2
          unfold bv at hcell
          generalize (ys[i].toNat : Int) = x at *
          have hyv : bv y = .int .u8 (y.toNat : Int) := rfl
          rw [hyv] at ho2 hg3
          have HO2 := Lib.hid ho2
          have HG3 := Lib.hid hg3
          obtain ⟨ys2, hys2⟩ : ∃ ys2, ys2 = ys.set i y := ⟨_, rfl⟩
          rw [← hys2] at HO2
          generalize (y.toNat : Int) = yy at *
          clear hform hyl hx hy ho2 hg2 hset hg3 hyv hys2
          go_wp2
          exact ⟨⟨i + 1, ys2, by omega, by go_num, HO2.out, HG3.out⟩, by simp [intOf]; omega⟩
        · obtain rfl : i = n := by omega
          obtain ⟨A1', c1', hcl, hc1', hbk, hblt⟩ := HPL.out.cur
          have hap : Apart (.slice A3 i q3) (.slice A1' i c1') := fun g h1 h2 => by
            have e1 := own_lt HO3.out g h1
            have e2 := own_block hcl g h2
            omega
          have hclr := own_kept hcl hap HGR.out
          have hne : ∀ k, w3.heap.size ≤ k → some k ≠ (Value.slice A3 i q3).ownBlock := fun k hk e => by
            have e1 := own_lt HO3.out k e.symm
            omega
          have hcb := (HGR.out.block b (lt_of_block hbk) (hne b HPL.out.lb)).trans hbk
          have hcp := (HGR.out.block p (lt_of_block HPL.out.pair) (hne p HPL.out.lp)).trans HPL.out.pair
          obtain ⟨Ax, cx, hvx, _, hrx⟩ := own_reads hclr
          injection hvx with h1 _ h3
          subst h1 h3
          have hrb : Reads wr b 1 A1' i (c0.bs.map bv) := by
            rw [HCU.out]
            refine ⟨hrx.1, fun hn0 => ?_⟩
            obtain ⟨ad, hA, _, hcells⟩ := hrx.2 hn0
            obtain ⟨g, cg, hf, _, _⟩ := hclr.form hn0
            injection hf with hf1 hf2 hf3
            subst hf1
            have hA' : ad = ⟨g, 0, none⟩ := (Option.some.inj hA).symm
            subst hA'
            exact ⟨_, rfl, hblt g rfl, hcells⟩
          have hcur : CurIn wr b b c0 := ⟨HOK.out, by rw [HCU.out, HBL.out]; omega, Nat.le_refl _, A1', i, c1', hc1', hrb, hcb⟩
          have hbw : Below w.heap.size w wr := (HB3.out.trans (HPL.out.below.mono HB3.out.size)).grown HGR.out (by have := HB3.out.size; have := HPL.out.below.size; omega) (own_block HOW.out)
          have HCUR := Lib.hid hcur
          have HPB := Lib.hid hcp
          have HBW := Lib.hid hbw
          have HNE := Lib.hid HPL.out.ne
          have HLB := Lib.hid (Nat.le_trans HB3.out.size HPL.out.lb)
          have HLP := Lib.hid (Nat.le_trans HB3.out.size HPL.out.lp)
          clear hcl hc1' hbk hblt hap hclr hne hcb hcp hrx hrb hcur hbw hi hlt HPL HP HOW HGR
          go_wp2
          go_loopw [51] (fun idx wr => PRel m b p w idx wr) (fun idx _ => m - (intOf idx).toNat)
          case atStart => exact ⟨c0, 0, by omega, rfl, HCUR.out, HPB.out, HBW.out⟩
          case round =>
            obtain ⟨c, i2, hi2, rfl, HC, HPC, HBR⟩ := hrel
            clear HCUR HPB HBW
            by_cases hlt2 : i2 < m
            · obtain ⟨t, ht⟩ : ∃ t, ts[i2]? = some t := ⟨_, List.getElem?_eq_getElem (by rw [HTL.out]; exact hlt2)⟩
              obtain ⟨ad, hL, hadb, hcl⟩ := (HL.out.below HBR.out).2 (by omega)
              subst hL
              obtain ⟨t0, t1, t2⟩ := tks_at ts i2 t ht
              have k0 := hcl _ _ t0
              have k1 := hcl _ _ t1
              have k2 := hcl _ _ t2
              rw [add_one] at k1
              rw [add_two] at k2
              obtain ⟨x7, hx7⟩ : ∃ x7, x7 = wr.alloc (.cells #[.int .i64 t.kind, .int .i64 t.most, .int .i64 t.each] 33) := ⟨_, rfl⟩
              have hb7 : Below wr.heap.size wr x7 := by rw [hx7]; exact (Below.refl _ wr).alloc (Nat.le_refl _) _
              have hc7 := HC.out.below hb7 HC.out.lt
              have hp7 := (hb7.block p (lt_of_block HPC.out)).trans HPC.out
              have hps : p < x7.heap.size := lt_of_block hp7
              obtain ⟨c', hcall⟩ := HSTEP.out t (List.mem_of_getElem? ht) b b c x7 hc7
              unfold bothv at hcall
              have pc0 := field_cell (i := 0) (u := .pointer (some ⟨b, 0, none⟩)) HPC.out rfl
              have pc1 := field_cell (i := 1) (u := .string (tx c.bs)) HPC.out rfl
              have pc2 := field_cell (i := 2) (u := .int .i64 (c.at_ : Int)) HPC.out rfl
              have pc3 := field_cell (i := 3) (u := .int .i64 c.e) HPC.out rfl
              have hpw : p < wr.heap.size := lt_of_block HPC.out
              have qc0 := field_cell (i := 0) (u := .pointer (some ⟨b, 0, none⟩)) hp7 rfl
              have qc1 := field_cell (i := 1) (u := .string (tx c.bs)) hp7 rfl
              have qc2 := field_cell (i := 2) (u := .int .i64 (c.at_ : Int)) hp7 rfl
              have qc3 := field_cell (i := 3) (u := .int .i64 c.e) hp7 rfl
              rw [hx7] at hcall qc0 qc1 qc2 qc3
              have HX7 := Lib.hid hx7
              have HB7 := Lib.hid hb7
              have HP7 := Lib.hid hp7
              have HPS := Lib.hid hps
              have HCALL := Lib.hid hcall
              clear t0 t1 t2 hcl ht hx7 hb7 hc7 hp7 hps hcall hpw
              go_wp2_with fail
              refine HCALL.out.mono ?_
              rintro e w8 ⟨rfl, hc8, ho8⟩
              replace ho8 : Only b x7 w8 := by rw [HX7.out]; exact ho8
              have hp8 := (ho8.block p HPS.out HNE.out.symm).trans HP7.out
              have hs8 : x7.heap.size ≤ w8.heap.size := ho8.size
              have hbw8 : Below w.heap.size w w8 := (HBR.out.trans (HB7.out.mono HBR.out.size)).trans (ho8.below HLB.out (by have := HBR.out.size; have := HB7.out.size; omega))
              obtain ⟨x9, hx9⟩ : ∃ x9, x9 = w8.alloc (.cells #[.pointer (some ⟨b, 0, none⟩), .string (tx c'.bs), .int .i64 (c'.at_ : Int), .int .i64 c'.e] 31) := ⟨_, rfl⟩
              have hb9 : Below w8.heap.size w8 x9 := by rw [hx9]; exact (Below.refl _ w8).alloc (Nat.le_refl _) _
              have hp9 := (hb9.block p (lt_of_block hp8)).trans hp8
              have hc9 := hc8.below hb9 hc8.lt
              have r0 := field_cell (i := 0) (u := .pointer (some ⟨b, 0, none⟩)) hp9 rfl
              have r1 := field_cell (i := 1) (u := .string (tx c.bs)) hp9 rfl
              have r2 := field_cell (i := 2) (u := .int .i64 (c.at_ : Int)) hp9 rfl
              have r3 := field_cell (i := 3) (u := .int .i64 c.e) hp9 rfl
              have z0 := field_free (i := 0) hp9
              have z1 := field_free (i := 1) hp9
              have z2 := field_free (i := 2) hp9
              have z3 := field_free (i := 3) hp9
              have hne9 : p ≠ w8.heap.size := by have := lt_of_block hp8; omega
              rw [hx9] at r0 r1 r2 r3 z0 z1 z2 z3
              have HX9 := Lib.hid hx9
              have HP9 := Lib.hid hp9
              have HC9 := Lib.hid hc9
              have HBW9 := Lib.hid (hbw8.trans (hb9.mono hbw8.size))
              clear hc8 ho8 hp8 hs8 hbw8 hx9 hb9 hp9 hc9 pc0 pc1 pc2 pc3 qc0 qc1 qc2 qc3 k0 k1 k2
              go_wp2
              clear r0 r1 r2 r3 z0 z1 z2 z3
              rw [← HX9.out]
              exact ⟨⟨c', i2 + 1, by omega, by go_num, HC9.out.pair HP9.out setC4_only HNE.out, setC4 HP9.out _ _ _ _, HBW9.out.trans (setC4_only.below HLP.out HBW9.out.size)⟩, by simp [intOf]; omega⟩
            · obtain rfl : i2 = m := by omega
              go_wp2_with fail
              refine Calls.mono (fixed_any wr) ?_
              rintro e w9 ⟨rfl, hb9⟩
              go_wp2
              go_ret
              exact ⟨rfl, HBR.out.trans (hb9.mono HBR.out.size)⟩
    · go_simp
      have h7 : (w5.alloc (.cells zero4 31)).heap[w5.heap.size]? = some (.cells zero4 31 (0, 0)) := heap_alloc_new _ _
      have h7z : (w5.alloc (.cells zero4 31)).heap.size = w5.heap.size + 1 := by simp
      have h7b : Below w5.heap.size w5 (w5.alloc (.cells zero4 31)) := (Below.refl _ _).alloc (Nat.le_refl _) _
      have hS7 := hS5.alloc hS5.size (.cells zero4 31)
      refine hK _ _ hS7 ?_
      unfold zero4 at h7 h7z h7b hS7
      generalize World.alloc w5 _ = x7 at *
      clear hK K
      refine h_one 6 rfl (by kernel_rfl) (by kernel_rfl) (fun K hK => ?_)
      go_simp
      refine Calls.mono (HREF.out _) ?_
      rintro e w6 ⟨rfl, hb6⟩
      have hS6 := hS7.trans (hb6.mono hS7.size)
      refine hK _ _ hS6 ?_
      clear hK K
      refine h_take 7 (.agg #[.pointer (some ⟨w1.heap.size, 0, none⟩), .string (tx c0.bs), .int .i64 (c0.at_ : Int), .int .i64 c0.e]) rfl (by kernel_rfl) (by kernel_rfl) (by kernel_rfl) (fun _ _ _ h => h) (by kernel_rfl) hS6 (by intro w' hb; go_simp) ?_
      have hb1w : w3.heap.size ≤ w1.heap.size := by rw [← e3]; exact hb1.size
      have hw7 : Below w1.heap.size w1 x7 := hb5.trans (h7b.mono (by omega))
      have hw6 : Below w1.heap.size w1 w6 := hw7.trans (hb6.mono (by omega))
      have hx6 : w6.heap[w1.heap.size]? = some (.cells (cuCells A1 n c1 c0) 54 (0, 0)) := (hb6.block w1.heap.size (by omega)).trans ((h7b.block w1.heap.size (by omega)).trans hx5)
      rw [hz5] at h7
      have h6p := (hb6.block (w1.heap.size + 1) (by omega)).trans h7
      refine h_one 9 rfl (by kernel_rfl) (by kernel_rfl) (fun K hK => ?_)
      refine wp_store_row 31 _ _ rfl (w1.heap.size + 1) #[.pointer (some ⟨w1.heap.size, 0, none⟩), .string (tx c0.bs), .int .i64 (c0.at_ : Int), .int .i64 c0.e] rfl rfl 31 #[.pointer none, .string ⟨#[]⟩, .int .i64 0, .int .i64 0] h6p (by kernel_rfl) rfl (by simp [Value.oneCell']) ?_
      have hS9 : Below w3.heap.size w3 (w6.setRow (w1.heap.size + 1) #[.pointer (some ⟨w1.heap.size, 0, none⟩), .string (tx c0.bs), .int .i64 (c0.at_ : Int), .int .i64 c0.e]) := below_setRow hS6 (by omega) _
      have hPL : PlaysIn w w3 (w6.setRow (w1.heap.size + 1) #[.pointer (some ⟨w1.heap.size, 0, none⟩), .string (tx c0.bs), .int .i64 (c0.at_ : Int), .int .i64 c0.e]) (.slice A3 n q3) n w1.heap.size (w1.heap.size + 1) bs c0 := ⟨own_below HO3.out hS9, ⟨A1, c1, own_wider (own_below ho1 (below_setRow hw6 (by omega) _)) (by omega), hc1, (setRow_other _ _ _ _ (by omega)).trans hx6, own_lt ho1⟩, setRow_heap _ _ _ _ _ _ h6p, (by omega), hb1w, (by omega), hS9⟩
      refine hK _ _ hS9 ?_
      clear hK K
      have HPL := Lib.hid hPL
      clear hPL
      generalize World.setRow _ _ _ = W at *
      generalize hpp : (w1.heap.size + 1) = p at *
      generalize hbb : w1.heap.size = b at *
      clear hbb hpp
      refine wpAnyH_done (by kernel_rfl) ?_ _
      go_simp
      clear HNEW HREF HCV hS
      have HP := HPL
      have pc0 := field_cell (i := 0) (u := .pointer (some ⟨b, 0, none⟩)) HPL.out.pair rfl
      go_wp2
      clear pc0
      go_loopw [39] (fun idx wr => URel (.slice A3 n q3) n w W idx wr) (fun idx _ => n - (intOf idx).toNat)
      case atStart => exact ⟨0, bs, by omega, rfl, HPL.out.own, World.grownBy.refl W _⟩
      case round =>
        obtain ⟨i, ys, hi, rfl, HOW, HGR⟩ := hrel
        by_cases hlt : i < n
        · obtain ⟨g, q9, hform, _, _⟩ := HOW.out.form (by omega)
          obtain ⟨hA3, _⟩ : A3 = some ⟨g, 0, none⟩ ∧ q3 = q9 := by
            injection hform with h1 h2 h3
            exact ⟨h1, h3⟩
          subst hA3
          have hyl : ys.length = n := by have := HOW.out.1; simpa using this
          have hx : (ys.map bv)[i]? = some (bv ys[i]) := by rw [List.getElem?_map, List.getElem?_eq_getElem (by omega)]; rfl
          have hcell := (HOW.out.cellAt i (by omega)).trans hx
          have hfz := HOW.out.frozenAt i
          obtain ⟨y, hy⟩ : ∃ y : UInt8, y = UInt8.ofNat ((ys[i].toNat + 1) % 256) := ⟨_, rfl⟩
          have hyn : IntKind.u8.wrap ((ys[i].toNat : Int) + 1) = (y.toNat : Int) := by
            rw [hy, u8_ofNat _ (Nat.mod_lt _ (by omega)), IntKind.wrap_u8']; omega
          obtain ⟨ho2, hg2⟩ := HOW.out.stored i (bv y)
          have hset : (ys.map bv).set i (bv y) = (ys.set i y).map bv := by rw [List.map_set]
          rw [hset] at ho2
          have hg3 := HGR.out.trans hg2
          unfold bv at hcell
          generalize (ys[i].toNat : Int) = x at *
          have hyv : bv y = .int .u8 (y.toNat : Int) := rfl
          rw [hyv] at ho2 hg3
          have HO2 := Lib.hid ho2
          have HG3 := Lib.hid hg3
          obtain ⟨ys2, hys2⟩ : ∃ ys2, ys2 = ys.set i y := ⟨_, rfl⟩
          rw [← hys2] at HO2
          generalize (y.toNat : Int) = yy at *
          clear hform hyl hx hy ho2 hg2 hset hg3 hyv hys2
          go_wp2
          exact ⟨⟨i + 1, ys2, by omega, by go_num, HO2.out, HG3.out⟩, by simp [intOf]; omega⟩
        · obtain rfl : i = n := by omega
          obtain ⟨A1', c1', hcl, hc1', hbk, hblt⟩ := HPL.out.cur
          have hap : Apart (.slice A3 i q3) (.slice A1' i c1') := fun g h1 h2 => by
            have e1 := own_lt HO3.out g h1
            have e2 := own_block hcl g h2
            omega
          have hclr := own_kept hcl hap HGR.out
          have hne : ∀ k, w3.heap.size ≤ k → some k ≠ (Value.slice A3 i q3).ownBlock := fun k hk e => by
            have e1 := own_lt HO3.out k e.symm
            omega
          have hcb := (HGR.out.block b (lt_of_block hbk) (hne b HPL.out.lb)).trans hbk
          have hcp := (HGR.out.block p (lt_of_block HPL.out.pair) (hne p HPL.out.lp)).trans HPL.out.pair
          obtain ⟨Ax, cx, hvx, _, hrx⟩ := own_reads hclr
          injection hvx with h1 _ h3
          subst h1 h3
          have hrb : Reads wr b 1 A1' i (c0.bs.map bv) := by
            rw [HCU.out]
            refine ⟨hrx.1, fun hn0 => ?_⟩
            obtain ⟨ad, hA, _, hcells⟩ := hrx.2 hn0
            obtain ⟨g, cg, hf, _, _⟩ := hclr.form hn0
            injection hf with hf1 hf2 hf3
            subst hf1
            have hA' : ad = ⟨g, 0, none⟩ := (Option.some.inj hA).symm
            subst hA'
            exact ⟨_, rfl, hblt g rfl, hcells⟩
          have hcur : CurIn wr b b c0 := ⟨HOK.out, by rw [HCU.out, HBL.out]; omega, Nat.le_refl _, A1', i, c1', hc1', hrb, hcb⟩
          have hbw : Below w.heap.size w wr := (HB3.out.trans (HPL.out.below.mono HB3.out.size)).grown HGR.out (by have := HB3.out.size; have := HPL.out.below.size; omega) (own_block HOW.out)
          have HCUR := Lib.hid hcur
          have HPB := Lib.hid hcp
          have HBW := Lib.hid hbw
          have HNE := Lib.hid HPL.out.ne
          have HLB := Lib.hid (Nat.le_trans HB3.out.size HPL.out.lb)
          have HLP := Lib.hid (Nat.le_trans HB3.out.size HPL.out.lp)
          clear hcl hc1' hbk hblt hap hclr hne hcb hcp hrx hrb hcur hbw hi hlt HPL HP HOW HGR
          go_wp2
          go_loopw [51] (fun idx wr => PRel m b p w idx wr) (fun idx _ => m - (intOf idx).toNat)
          case atStart => exact ⟨c0, 0, by omega, rfl, HCUR.out, HPB.out, HBW.out⟩
          case round =>
            obtain ⟨c, i2, hi2, rfl, HC, HPC, HBR⟩ := hrel
            clear HCUR HPB HBW
            by_cases hlt2 : i2 < m
            · obtain ⟨t, ht⟩ : ∃ t, ts[i2]? = some t := ⟨_, List.getElem?_eq_getElem (by rw [HTL.out]; exact hlt2)⟩
              obtain ⟨ad, hL, hadb, hcl⟩ := (HL.out.below HBR.out).2 (by omega)
              subst hL
              obtain ⟨t0, t1, t2⟩ := tks_at ts i2 t ht
              have k0 := hcl _ _ t0
              have k1 := hcl _ _ t1
              have k2 := hcl _ _ t2
              rw [add_one] at k1
              rw [add_two] at k2
              obtain ⟨x7, hx7⟩ : ∃ x7, x7 = wr.alloc (.cells #[.int .i64 t.kind, .int .i64 t.most, .int .i64 t.each] 33) := ⟨_, rfl⟩
              have hb7 : Below wr.heap.size wr x7 := by rw [hx7]; exact (Below.refl _ wr).alloc (Nat.le_refl _) _
              have hc7 := HC.out.below hb7 HC.out.lt
              have hp7 := (hb7.block p (lt_of_block HPC.out)).trans HPC.out
              have hps : p < x7.heap.size := lt_of_block hp7
              obtain ⟨c', hcall⟩ := HSTEP.out t (List.mem_of_getElem? ht) b b c x7 hc7
              unfold bothv at hcall
              have pc0 := field_cell (i := 0) (u := .pointer (some ⟨b, 0, none⟩)) HPC.out rfl
              have pc1 := field_cell (i := 1) (u := .string (tx c.bs)) HPC.out rfl
              have pc2 := field_cell (i := 2) (u := .int .i64 (c.at_ : Int)) HPC.out rfl
              have pc3 := field_cell (i := 3) (u := .int .i64 c.e) HPC.out rfl
              have hpw : p < wr.heap.size := lt_of_block HPC.out
              have qc0 := field_cell (i := 0) (u := .pointer (some ⟨b, 0, none⟩)) hp7 rfl
              have qc1 := field_cell (i := 1) (u := .string (tx c.bs)) hp7 rfl
              have qc2 := field_cell (i := 2) (u := .int .i64 (c.at_ : Int)) hp7 rfl
              have qc3 := field_cell (i := 3) (u := .int .i64 c.e) hp7 rfl
              rw [hx7] at hcall qc0 qc1 qc2 qc3
              have HX7 := Lib.hid hx7
              have HB7 := Lib.hid hb7
              have HP7 := Lib.hid hp7
              have HPS := Lib.hid hps
              have HCALL := Lib.hid hcall
              clear t0 t1 t2 hcl ht hx7 hb7 hc7 hp7 hps hcall hpw
              go_wp2_with fail
              refine HCALL.out.mono ?_
              rintro e w8 ⟨rfl, hc8, ho8⟩
              replace ho8 : Only b x7 w8 := by rw [HX7.out]; exact ho8
              have hp8 := (ho8.block p HPS.out HNE.out.symm).trans HP7.out
              have hs8 : x7.heap.size ≤ w8.heap.size := ho8.size
              have hbw8 : Below w.heap.size w w8 := (HBR.out.trans (HB7.out.mono HBR.out.size)).trans (ho8.below HLB.out (by have := HBR.out.size; have := HB7.out.size; omega))
              obtain ⟨x9, hx9⟩ : ∃ x9, x9 = w8.alloc (.cells #[.pointer (some ⟨b, 0, none⟩), .string (tx c'.bs), .int .i64 (c'.at_ : Int), .int .i64 c'.e] 31) := ⟨_, rfl⟩
              have hb9 : Below w8.heap.size w8 x9 := by rw [hx9]; exact (Below.refl _ w8).alloc (Nat.le_refl _) _
              have hp9 := (hb9.block p (lt_of_block hp8)).trans hp8
              have hc9 := hc8.below hb9 hc8.lt
              have r0 := field_cell (i := 0) (u := .pointer (some ⟨b, 0, none⟩)) hp9 rfl
              have r1 := field_cell (i := 1) (u := .string (tx c.bs)) hp9 rfl
              have r2 := field_cell (i := 2) (u := .int .i64 (c.at_ : Int)) hp9 rfl
              have r3 := field_cell (i := 3) (u := .int .i64 c.e) hp9 rfl
              have z0 := field_free (i := 0) hp9
              have z1 := field_free (i := 1) hp9
              have z2 := field_free (i := 2) hp9
              have z3 := field_free (i := 3) hp9
              have hne9 : p ≠ w8.heap.size := by have := lt_of_block hp8; omega
              rw [hx9] at r0 r1 r2 r3 z0 z1 z2 z3
              have HX9 := Lib.hid hx9
              have HP9 := Lib.hid hp9
              have HC9 := Lib.hid hc9
              have HBW9 := Lib.hid (hbw8.trans (hb9.mono hbw8.size))
              clear hc8 ho8 hp8 hs8 hbw8 hx9 hb9 hp9 hc9 pc0 pc1 pc2 pc3 qc0 qc1 qc2 qc3 k0 k1 k2
              go_wp2
              clear r0 r1 r2 r3 z0 z1 z2 z3
              rw [← HX9.out]
              exact ⟨⟨c', i2 + 1, by omega, by go_num, HC9.out.pair HP9.out setC4_only HNE.out, setC4 HP9.out _ _ _ _, HBW9.out.trans (setC4_only.below HLP.out HBW9.out.size)⟩, by simp [intOf]; omega⟩
            · obtain rfl : i2 = m := by omega
              go_wp2_with fail
              refine Calls.mono (fixed_any wr) ?_
              rintro e w9 ⟨rfl, hb9⟩
              go_wp2
              go_ret
              exact ⟨rfl, HBR.out.trans (hb9.mono HBR.out.size)⟩
  · go_simp
    have h7 : (w3.alloc (.cells zero4 31)).drew.heap[w3.heap.size]? = some (.cells zero4 31 (0, 0)) := heap_alloc_new w3 _
    have h7z : (w3.alloc (.cells zero4 31)).drew.heap.size = w3.heap.size + 1 := by simp
    have hS7 : Below w3.heap.size w3 (w3.alloc (.cells zero4 31)).drew := ((Below.refl _ w3).alloc (Nat.le_refl _) _).drew
    refine hK _ _ hS7 ?_
    unfold zero4 at h7 h7z hS7
    generalize World.drew (World.alloc w3 _) = x7 at *
    clear hK K
    refine h_one 2 rfl (by kernel_rfl) (by kernel_rfl) (fun K hK => ?_)
    go_simp
    refine Calls.mono (HNEW.out _ hS7) ?_
    rintro e w5 ⟨w1, A1, c1, rfl, ho1, hc1, hb1, hw5⟩
    have hx5 : w5.heap[w1.heap.size]? = some (.cells (cuCells A1 n c1 c0) 54 (0, 0)) := by rw [hw5]; exact heap_alloc_new w1 _
    have hz5 : w5.heap.size = w1.heap.size + 1 := by rw [hw5]; simp
    have hb5 : Below w1.heap.size w1 w5 := by rw [hw5]; exact (Below.refl _ w1).alloc (Nat.le_refl _) _
    clear hw5
    have hS5 := hS7.trans ((hb1.trans (hb5.mono hb1.size)).mono hS7.size)
    refine hK _ _ hS5 ?_
    clear hK K
    refine h_one 6 rfl (by kernel_rfl) (by kernel_rfl) (fun K hK => ?_)
    go_simp
    refine Calls.mono (HREF.out _) ?_
    rintro e w6 ⟨rfl, hb6⟩
    have hS6 := hS5.trans (hb6.mono hS5.size)
    refine hK _ _ hS6 ?_
    clear hK K
    refine h_take 7 (.agg #[.pointer (some ⟨w1.heap.size, 0, none⟩), .string (tx c0.bs), .int .i64 (c0.at_ : Int), .int .i64 c0.e]) rfl (by kernel_rfl) (by kernel_rfl) (by kernel_rfl) (fun _ _ _ h => h) (by kernel_rfl) hS6 (by intro w' hb; go_simp) ?_
    have hb1w : w3.heap.size ≤ w1.heap.size := by have := hb1.size; omega
    have hb1x : x7.heap.size ≤ w1.heap.size := hb1.size
    have hw6 : Below w1.heap.size w1 w6 := hb5.trans (hb6.mono (by omega))
    have hx6 : w6.heap[w1.heap.size]? = some (.cells (cuCells A1 n c1 c0) 54 (0, 0)) := (hb6.block w1.heap.size (by omega)).trans hx5
    have h6p := ((hb5.trans (hb6.mono (by omega))).block w3.heap.size (by omega)).trans ((hb1.block w3.heap.size (by omega)).trans h7)
    refine h_one 9 rfl (by kernel_rfl) (by kernel_rfl) (fun K hK => ?_)
    refine wp_store_row 31 _ _ rfl w3.heap.size #[.pointer (some ⟨w1.heap.size, 0, none⟩), .string (tx c0.bs), .int .i64 (c0.at_ : Int), .int .i64 c0.e] rfl rfl 31 #[.pointer none, .string ⟨#[]⟩, .int .i64 0, .int .i64 0] h6p (by kernel_rfl) rfl (by simp [Value.oneCell']) ?_
    have hS9 : Below w3.heap.size w3 (w6.setRow w3.heap.size #[.pointer (some ⟨w1.heap.size, 0, none⟩), .string (tx c0.bs), .int .i64 (c0.at_ : Int), .int .i64 c0.e]) := below_setRow hS6 (Nat.le_refl _) _
    have hPL : PlaysIn w w3 (w6.setRow w3.heap.size #[.pointer (some ⟨w1.heap.size, 0, none⟩), .string (tx c0.bs), .int .i64 (c0.at_ : Int), .int .i64 c0.e]) (.slice A3 n q3) n w1.heap.size w3.heap.size bs c0 := ⟨own_below HO3.out hS9, ⟨A1, c1, own_wider (own_only (own_below ho1 hw6) (Only.setRow _) (by omega)) (by omega), hc1, (setRow_other _ _ _ _ (by omega)).trans hx6, own_lt ho1⟩, setRow_heap _ _ _ _ _ _ h6p, (by omega), hb1w, (Nat.le_refl _), hS9⟩
    refine hK _ _ hS9 ?_
    clear hK K
    have HPL := Lib.hid hPL
    clear hPL
    generalize World.setRow _ _ _ = W at *
    generalize hpp : w3.heap.size = p at *
    generalize hbb : w1.heap.size = b at *
    clear hbb hpp
    refine wpAnyH_done (by kernel_rfl) ?_ _
    go_simp
    clear HNEW HREF HCV hS
    have HP := HPL
    have pc0 := field_cell (i := 0) (u := .pointer (some ⟨b, 0, none⟩)) HPL.out.pair rfl
    go_wp2
    clear pc0
    go_loopw [39] (fun idx wr => URel (.slice A3 n q3) n w W idx wr) (fun idx _ => n - (intOf idx).toNat)
    case atStart => exact ⟨0, bs, by omega, rfl, HPL.out.own, World.grownBy.refl W _⟩
    case round =>
      obtain ⟨i, ys, hi, rfl, HOW, HGR⟩ := hrel
      by_cases hlt : i < n
      · obtain ⟨g, q9, hform, _, _⟩ := HOW.out.form (by omega)
        obtain ⟨hA3, _⟩ : A3 = some ⟨g, 0, none⟩ ∧ q3 = q9 := by
          injection hform with h1 h2 h3
          exact ⟨h1, h3⟩
        subst hA3
        have hyl : ys.length = n := by have := HOW.out.1; simpa using this
        have hx : (ys.map bv)[i]? = some (bv ys[i]) := by rw [List.getElem?_map, List.getElem?_eq_getElem (by omega)]; rfl
        have hcell := (HOW.out.cellAt i (by omega)).trans hx
        have hfz := HOW.out.frozenAt i
        obtain ⟨y, hy⟩ : ∃ y : UInt8, y = UInt8.ofNat ((ys[i].toNat + 1) % 256) := ⟨_, rfl⟩
        have hyn : IntKind.u8.wrap ((ys[i].toNat : Int) + 1) = (y.toNat : Int) := by
          rw [hy, u8_ofNat _ (Nat.mod_lt _ (by omega)), IntKind.wrap_u8']; omega
        obtain ⟨ho2, hg2⟩ := HOW.out.stored i (bv y)
        have hset : (ys.map bv).set i (bv y) = (ys.set i y).map bv := by rw [List.map_set]
        rw [hset] at ho2
        have hg3 := HGR.out.trans hg2
        unfold bv at hcell
        generalize (ys[i].toNat : Int) = x at *
        have hyv : bv y = .int .u8 (y.toNat : Int) := rfl
        rw [hyv] at ho2 hg3
        have HO2 := Lib.hid ho2
        have HG3 := Lib.hid hg3
        obtain ⟨ys2, hys2⟩ : ∃ ys2, ys2 = ys.set i y := ⟨_, rfl⟩
        rw [← hys2] at HO2
        generalize (y.toNat : Int) = yy at *
        clear hform hyl hx hy ho2 hg2 hset hg3 hyv hys2
        go_wp2
        exact ⟨⟨i + 1, ys2, by omega, by go_num, HO2.out, HG3.out⟩, by simp [intOf]; omega⟩
      · obtain rfl : i = n := by omega
        obtain ⟨A1', c1', hcl, hc1', hbk, hblt⟩ := HPL.out.cur
        have hap : Apart (.slice A3 i q3) (.slice A1' i c1') := fun g h1 h2 => by
          have e1 := own_lt HO3.out g h1
          have e2 := own_block hcl g h2
          omega
        have hclr := own_kept hcl hap HGR.out
        have hne : ∀ k, w3.heap.size ≤ k → some k ≠ (Value.slice A3 i q3).ownBlock := fun k hk e => by
          have e1 := own_lt HO3.out k e.symm
          omega
        have hcb := (HGR.out.block b (lt_of_block hbk) (hne b HPL.out.lb)).trans hbk
        have hcp := (HGR.out.block p (lt_of_block HPL.out.pair) (hne p HPL.out.lp)).trans HPL.out.pair
        obtain ⟨Ax, cx, hvx, _, hrx⟩ := own_reads hclr
        injection hvx with h1 _ h3
        subst h1 h3
        have hrb : Reads wr b 1 A1' i (c0.bs.map bv) := by
          rw [HCU.out]
          refine ⟨hrx.1, fun hn0 => ?_⟩
          obtain ⟨ad, hA, _, hcells⟩ := hrx.2 hn0
          obtain ⟨g, cg, hf, _, _⟩ := hclr.form hn0
          injection hf with hf1 hf2 hf3
          subst hf1
          have hA' : ad = ⟨g, 0, none⟩ := (Option.some.inj hA).symm
          subst hA'
          exact ⟨_, rfl, hblt g rfl, hcells⟩
        have hcur : CurIn wr b b c0 := ⟨HOK.out, by rw [HCU.out, HBL.out]; omega, Nat.le_refl _, A1', i, c1', hc1', hrb, hcb⟩
        have hbw : Below w.heap.size w wr := (HB3.out.trans (HPL.out.below.mono HB3.out.size)).grown HGR.out (by have := HB3.out.size; have := HPL.out.below.size; omega) (own_block HOW.out)
        have HCUR := Lib.hid hcur
        have HPB := Lib.hid hcp
        have HBW := Lib.hid hbw
        have HNE := Lib.hid HPL.out.ne
        have HLB := Lib.hid (Nat.le_trans HB3.out.size HPL.out.lb)
        have HLP := Lib.hid (Nat.le_trans HB3.out.size HPL.out.lp)
        clear hcl hc1' hbk hblt hap hclr hne hcb hcp hrx hrb hcur hbw hi hlt HPL HP HOW HGR
        go_wp2
        go_loopw [51] (fun idx wr => PRel m b p w idx wr) (fun idx _ => m - (intOf idx).toNat)
        case atStart => exact ⟨c0, 0, by omega, rfl, HCUR.out, HPB.out, HBW.out⟩
        case round =>
          obtain ⟨c, i2, hi2, rfl, HC, HPC, HBR⟩ := hrel
          clear HCUR HPB HBW
          by_cases hlt2 : i2 < m
          · obtain ⟨t, ht⟩ : ∃ t, ts[i2]? = some t := ⟨_, List.getElem?_eq_getElem (by rw [HTL.out]; exact hlt2)⟩
            obtain ⟨ad, hL, hadb, hcl⟩ := (HL.out.below HBR.out).2 (by omega)
            subst hL
            obtain ⟨t0, t1, t2⟩ := tks_at ts i2 t ht
            have k0 := hcl _ _ t0
            have k1 := hcl _ _ t1
            have k2 := hcl _ _ t2
            rw [add_one] at k1
            rw [add_two] at k2
            obtain ⟨x7, hx7⟩ : ∃ x7, x7 = wr.alloc (.cells #[.int .i64 t.kind, .int .i64 t.most, .int .i64 t.each] 33) := ⟨_, rfl⟩
            have hb7 : Below wr.heap.size wr x7 := by rw [hx7]; exact (Below.refl _ wr).alloc (Nat.le_refl _) _
            have hc7 := HC.out.below hb7 HC.out.lt
            have hp7 := (hb7.block p (lt_of_block HPC.out)).trans HPC.out
            have hps : p < x7.heap.size := lt_of_block hp7
            obtain ⟨c', hcall⟩ := HSTEP.out t (List.mem_of_getElem? ht) b b c x7 hc7
            unfold bothv at hcall
            have pc0 := field_cell (i := 0) (u := .pointer (some ⟨b, 0, none⟩)) HPC.out rfl
            have pc1 := field_cell (i := 1) (u := .string (tx c.bs)) HPC.out rfl
            have pc2 := field_cell (i := 2) (u := .int .i64 (c.at_ : Int)) HPC.out rfl
            have pc3 := field_cell (i := 3) (u := .int .i64 c.e) HPC.out rfl
            have hpw : p < wr.heap.size := lt_of_block HPC.out
            have qc0 := field_cell (i := 0) (u := .pointer (some ⟨b, 0, none⟩)) hp7 rfl
            have qc1 := field_cell (i := 1) (u := .string (tx c.bs)) hp7 rfl
            have qc2 := field_cell (i := 2) (u := .int .i64 (c.at_ : Int)) hp7 rfl
            have qc3 := field_cell (i := 3) (u := .int .i64 c.e) hp7 rfl
            rw [hx7] at hcall qc0 qc1 qc2 qc3
            have HX7 := Lib.hid hx7
            have HB7 := Lib.hid hb7
            have HP7 := Lib.hid hp7
            have HPS := Lib.hid hps
            have HCALL := Lib.hid hcall
            clear t0 t1 t2 hcl ht hx7 hb7 hc7 hp7 hps hcall hpw
            go_wp2_with fail
            refine HCALL.out.mono ?_
            rintro e w8 ⟨rfl, hc8, ho8⟩
            replace ho8 : Only b x7 w8 := by rw [HX7.out]; exact ho8
            have hp8 := (ho8.block p HPS.out HNE.out.symm).trans HP7.out
            have hs8 : x7.heap.size ≤ w8.heap.size := ho8.size
            have hbw8 : Below w.heap.size w w8 := (HBR.out.trans (HB7.out.mono HBR.out.size)).trans (ho8.below HLB.out (by have := HBR.out.size; have := HB7.out.size; omega))
            obtain ⟨x9, hx9⟩ : ∃ x9, x9 = w8.alloc (.cells #[.pointer (some ⟨b, 0, none⟩), .string (tx c'.bs), .int .i64 (c'.at_ : Int), .int .i64 c'.e] 31) := ⟨_, rfl⟩
            have hb9 : Below w8.heap.size w8 x9 := by rw [hx9]; exact (Below.refl _ w8).alloc (Nat.le_refl _) _
            have hp9 := (hb9.block p (lt_of_block hp8)).trans hp8
            have hc9 := hc8.below hb9 hc8.lt
            have r0 := field_cell (i := 0) (u := .pointer (some ⟨b, 0, none⟩)) hp9 rfl
            have r1 := field_cell (i := 1) (u := .string (tx c.bs)) hp9 rfl
            have r2 := field_cell (i := 2) (u := .int .i64 (c.at_ : Int)) hp9 rfl
            have r3 := field_cell (i := 3) (u := .int .i64 c.e) hp9 rfl
            have z0 := field_free (i := 0) hp9
            have z1 := field_free (i := 1) hp9
            have z2 := field_free (i := 2) hp9
            have z3 := field_free (i := 3) hp9
            have hne9 : p ≠ w8.heap.size := by have := lt_of_block hp8; omega
            rw [hx9] at r0 r1 r2 r3 z0 z1 z2 z3
            have HX9 := Lib.hid hx9
            have HP9 := Lib.hid hp9
            have HC9 := Lib.hid hc9
            have HBW9 := Lib.hid (hbw8.trans (hb9.mono hbw8.size))
            clear hc8 ho8 hp8 hs8 hbw8 hx9 hb9 hp9 hc9 pc0 pc1 pc2 pc3 qc0 qc1 qc2 qc3 k0 k1 k2
            go_wp2
            clear r0 r1 r2 r3 z0 z1 z2 z3
            rw [← HX9.out]
            exact ⟨⟨c', i2 + 1, by omega, by go_num, HC9.out.pair HP9.out setC4_only HNE.out, setC4 HP9.out _ _ _ _, HBW9.out.trans (setC4_only.below HLP.out HBW9.out.size)⟩, by simp [intOf]; omega⟩
          · obtain rfl : i2 = m := by omega
            go_wp2_with fail
            refine Calls.mono (fixed_any wr) ?_
            rintro e w9 ⟨rfl, hb9⟩
            go_wp2
            go_ret
            exact ⟨rfl, HBR.out.trans (hb9.mono HBR.out.size)⟩

set_option maxRecDepth 100000 in
set_option maxHeartbeats 400000 in
theorem plays_long (A L : Option Addr) (n cap m d : Nat) (v : Value) (h : 500 < n ∨ 40 < m) (w : World) :
    Calls Try.prog 3 #[.slice A n cap, v, .slice L m d] w fun e w' => e = .returned (.bool true) ∧ Below w.heap.size w w' := by
  by_cases h1 : 500 < n
  · clear h
    go_enter Try.func3, Try.ntmps3
    go_wp2_with fail
    refine Calls.mono (fixed_any w) ?_
    rintro e w9 ⟨rfl, hb9⟩
    go_wp2
    go_ret
    exact ⟨rfl, hb9⟩
  · have h2 : 40 < m := by omega
    clear h
    go_enter Try.func3, Try.ntmps3
    go_wp2_with fail
    refine Calls.mono (fixed_any w) ?_
    rintro e w9 ⟨rfl, hb9⟩
    go_wp2
    go_ret
    exact ⟨rfl, hb9⟩

end Go.Proofs.Ytkpgnpiofhgcpaa
