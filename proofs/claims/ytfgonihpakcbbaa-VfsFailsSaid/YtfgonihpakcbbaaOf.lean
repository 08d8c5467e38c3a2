/- Append's closure. -/
import Derived.Test.YtfgonihpakcbbaaOe
import Derived.Test.YtfgonihpakcbbaaOd
namespace Go.Proofs.Ytfgonihpakcbbaa
open Go.RowKit Go.Maps Go.ChangeMaps Go.WideMaps Go.Sort

/-- What stands under a name, or nothing. -/
def flGet (fl : List UInt8 → Option Fl) (s : List UInt8) : Fl := (fl s).getD ⟨[], 0⟩
theorem files_get {w : World} {base b N : Nat} {fl : List UInt8 → Option Fl} {f : List UInt8 → Option Value} (h : FilesF w base b N fl f) (p : Nat) (s : List UInt8) :
    ∃ A c, (f s).getD (.agg #[.slice none 0 0, .int .i64 0]) = fval A (flGet fl s).body.length c (flGet fl s).safe ∧ (A = none → c = 0) ∧ w.ownsRow base 5 1 (.slice A (flGet fl s).body.length c) (flGet fl s).body.length ((flGet fl s).body.map bv) ∧
      (∀ u A' n' c' s', u ≠ s → f u = some (fval A' n' c' s') → Apart (.slice A (flGet fl s).body.length c) (.slice A' n' c')) ∧ ∀ k, Value.ownBlock (.slice A (flGet fl s).body.length c) = some k → FsBlk p b f k := by
  obtain ⟨h1, h2, h3, h4⟩ := h
  unfold flGet
  cases e : fl s with
  | none =>
    have e2 := h2 s e
    rw [e2]
    exact ⟨none, 0, rfl, fun _ => rfl, World.ownsRow_nil _ _ _ _, fun u A' n' c' s' _ _ g h => (by cases h), fun k h => (by cases h)⟩
  | some x =>
    obtain ⟨A, c, e2, hA, ho⟩ := h3 s x e
    rw [e2]
    exact ⟨A, c, rfl, hA, ho, fun u A' n' c' s' hne h => h4 s u A _ c _ A' n' c' s' (Ne.symm hne) e2 h, fun k hk => .inr (.inr ⟨s, A, _, c, _, e2, hk⟩)⟩
theorem byte_infoq : (Try.prog.info? 5).map (fun i => (i.zero, i.size, i.bytes)) = some (some (.int .u8 0), 1, 1) := by kernel_rfl

set_option maxRecDepth 100000 in
set_option maxHeartbeats 4000000 in
theorem append_do (p b N base bf bn bb B : Nat) (d : Bool) (fa ga : Bool × Int) (fl : List UInt8 → Option Fl) (F : List UInt8 → Option Value) (s : List UInt8) (hs : s.length ≤ maxLen) (Ab : Option Addr) (nb cb : Nat) (body : List UInt8) (hAb : Ab = none → cb = 0) (hN : N < 1000000) (hbl : nb ≤ 1000000) (hxl : (flGet fl s).body.length ≤ 1000000000) (W : World) (hbase : base ≤ W.heap.size)
    (hx : FsBox W p b d fa ga) (hf : FilesF W base b N fl F) (h1 : W.heap[bf]? = some (.cells #[.pointer (some ⟨p, 0, none⟩)] 26)) (h2 : W.heap[bn]? = some (.cells #[.string (tx s)] 9)) (h3 : W.heap[bb]? = some (.cells #[.slice Ab nb cb] 28)) (hB : B ≤ W.heap.size) (hr : Reads W B 1 Ab nb (body.map bv)) :
    Calls Try.prog 30 #[.pointer (some ⟨bf, 0, none⟩), .pointer (some ⟨bn, 0, none⟩), .pointer (some ⟨bb, 0, none⟩)] W fun e w' => e = .returned (.tuple #[]) ∧
      ∃ F', FilesF w' base b (N + 1) (flput fl s (some ⟨(flGet fl s).body ++ body, (flGet fl s).safe⟩)) F' ∧ FsBox w' p b d fa ga ∧ Turn (FsBlk p b F) W w' ∧ ∀ k, FsBlk p b F' k → FsBlk p b F k ∨ W.heap.size ≤ k := by
  obtain ⟨ii, i0, z0, z1, z2⟩ := info_parts byte_infoq
  obtain ⟨A0, c0, hv0, hA0, ho0, hap0, hbk0⟩ := files_get hf p s
  obtain ⟨n0, hn0⟩ : ∃ n, n = (flGet fl s).body.length := ⟨_, rfl⟩
  obtain ⟨s0, hs0⟩ : ∃ n, n = (flGet fl s).safe := ⟨_, rfl⟩
  have hbn : body.length = nb := by have := hr.1; simpa using this
  rw [← hn0] at hv0 ho0 hap0 hbk0 hxl
  rw [← hs0] at hv0
  have HX := Lib.hid hx
  have HF := Lib.hid hf
  have HBL := Lib.hid hbn
  have HN0 := Lib.hid hn0
  have HS0 := Lib.hid hs0
  have HO0 := Lib.hid ho0
  have HAP0 := Lib.hid hap0
  have HBK0 := Lib.hid hbk0
  have HR := Lib.hid hr
  have HBB := Lib.hid hB
  have HBASE := Lib.hid hbase
  have H1 := Lib.hid h1
  have H2 := Lib.hid h2
  have H3 := Lib.hid h3
  have hl1 : bf < W.heap.size := (Array.getElem?_eq_some_iff.1 h1).1
  have hl2 : bn < W.heap.size := (Array.getElem?_eq_some_iff.1 h2).1
  have hl3 : bb < W.heap.size := (Array.getElem?_eq_some_iff.1 h3).1
  have HCF : Hid (∀ v, Below W.heap.size W v → v.cell? ⟨bf, 0, none⟩ = some (.pointer (some ⟨p, 0, none⟩))) := fun v hv => at_cell (i := 0) ((hv.block bf hl1).trans h1) rfl
  have HCN : Hid (∀ v, Below W.heap.size W v → v.cell? ⟨bn, 0, none⟩ = some (.string (tx s))) := fun v hv => at_cell (i := 0) ((hv.block bn hl2).trans h2) rfl
  have HCM : Hid (∀ v, Below W.heap.size W v → v.cell? ⟨p, 0, none⟩ = some (.map (some b))) := fun v hv => at_cell (i := 0) (hx.below hv) rfl
  have HLK : Hid (∀ v, Below W.heap.size W v → (Instr.lookup 46 (.map (some b)) (.string (tx s)) false).run Try.prog v = .ok (fval A0 n0 c0 s0) v) := fun v hv => by
    have h := (hf.1.below hv).look hs Try.underlying46 (zeroF v)
    rw [hv0] at h
    exact h
  have HL := Lib.hid (And.intro hl1 (And.intro hl2 hl3))
  clear hx hf hbn hn0 hs0 ho0 hap0 hbk0 hr hB hbase h1 h2 h3 hv0 hl1 hl2 hl3
  go_enter Try.func30, Try.ntmps30
  go_wp2
  refine wp_region_held (S := fun v => Below W.heap.size W v) (by kernel_rfl) (show wpAnyH _ _ _ _ _ _ _ _ (W.drew) from ?_)
  have HD : Hid (Below W.heap.size W W.drew) := (Below.refl _ W).drew
  have HGD : Hid (W.grownBy W.drew none) := ⟨rfl, rfl, rfl, Nat.le_refl _, fun _ _ _ => rfl⟩
  obtain ⟨W0, hW0⟩ : ∃ x, x = W.drew := ⟨_, rfl⟩
  rw [← hW0] at HD HGD ⊢
  clear hW0
  refine h_take 0 (.pointer (some ⟨p, 0, none⟩)) rfl (by kernel_rfl) (by kernel_rfl) (by kernel_rfl) (fun _ _ _ h => h) (by kernel_rfl) HD.out (by intro v hv; have z0 := HCF.out v hv; go_simp) ?_
  refine h_take 1 (.pointer (some ⟨p, 0, none⟩)) rfl (by kernel_rfl) (by kernel_rfl) (by kernel_rfl) (fun _ _ _ h => h) (by kernel_rfl) HD.out (by intro v hv; go_simp) ?_
  refine h_take 2 (.pointer (some ⟨p, 0, none⟩)) rfl (by kernel_rfl) (by kernel_rfl) (by kernel_rfl) (fun _ _ _ h => h) (by kernel_rfl) HD.out (by intro v hv; go_simp) ?_
  refine h_take 3 (.map (some b)) rfl (by kernel_rfl) (by kernel_rfl) (by kernel_rfl) (fun _ _ _ h => h) (by kernel_rfl) HD.out (by intro v hv; have z0 := HCM.out v hv; go_simp) ?_
  refine h_take 4 (.string (tx s)) rfl (by kernel_rfl) (by kernel_rfl) (by kernel_rfl) (fun _ _ _ h => h) (by kernel_rfl) HD.out (by intro v hv; have z0 := HCN.out v hv; go_simp) ?_
  refine h_take 5 (fval A0 n0 c0 s0) rfl (by kernel_rfl) (by kernel_rfl) (by kernel_rfl) (fun _ _ _ h => h) (by kernel_rfl) HD.out (by intro v hv; have z0 := HLK.out v hv; unfold fval at z0 ⊢; go_simp) ?_
  unfold fval
  refine h_one 6 rfl (by kernel_rfl) (by kernel_rfl) (fun K hK => ?_)
  go_simp
  have HAL : Hid (Below W.heap.size W (W0.alloc (.cells #[.slice none 0 0, .int .i64 0] 54))) := HD.out.alloc HD.out.size _
  refine hK _ _ HAL.out ?_
  clear hK K
  refine h_one 7 rfl (by kernel_rfl) (by kernel_rfl) (fun K hK => ?_)
  go_simp
  refine hK _ _ (HD.out.alloc HD.out.size _) ?_
  clear hK K
  refine wpAnyH_done (by kernel_rfl) ?_ _
  go_simp
  have HB1 : Hid (Below W.heap.size W (W0.alloc (.cells #[.slice A0 n0 c0, .int .i64 (s0 : Int)] 54))) := HD.out.alloc HD.out.size _
  have HOB := Lib.hid (one_new W0 (.cells #[.slice A0 n0 c0, .int .i64 (s0 : Int)] 54))
  have HOW : Hid (W.heap.size ≤ W0.heap.size) := HD.out.size
  obtain ⟨ob, hob⟩ : ∃ ob, ob = W0.heap.size := ⟨_, rfl⟩
  rw [← hob] at HOB HOW ⊢
  generalize (W0.alloc (.cells #[.slice A0 n0 c0, .int .i64 (s0 : Int)] 54)) = w1 at HB1 HOB ⊢
  have HO1 := Lib.hid (own_below HO0.out HB1.out)
  have HR1 := Lib.hid (HR.out.below (HB1.out.mono HBB.out))
  have m0 := at_cell (i := 0) HOB.out rfl
  have mb := at_cell (i := 0) ((HB1.out.block bb HL.out.2.2).trans H3.out) rfl
  have HSZ : Hid (base ≤ w1.heap.size) := Nat.le_trans HBASE.out HB1.out.size
  clear hob HD HGD
  go_wp2_with (at_builtin; refine wpList_append_told _ rfl (.tmp 11) (.tmp 12) 28 rfl base 5 ii _ 1 1 Try.underlying28 i0 z0 z1 z2 rfl (by decide) (.slice A0 n0 c0) n0 _ rfl HO1.out Ab nb cb B (body.map bv) rfl hAb HR1.out (by intro u hu; obtain ⟨y, _, rfl⟩ := List.mem_map.1 hu; rfl) (by unfold maxLen; omega) (by omega) HSZ.out ?_; intro v2 w2 ho2 hg2 ht2; obtain ⟨A2, c2, rfl, hA2⟩ := own_slice ho2; have HO2 := Lib.hid ho2; have HG2 := Lib.hid hg2; have HT2 := Lib.hid ht2; have HOB2 := Lib.hid ((hg2.block ob (Array.getElem?_eq_some_iff.1 HOB.out).1 (fun e => own_cells HO1.out HOB.out (by decide) e.symm)).trans HOB.out); have fz2 := at_frozen (i := 0) HOB2.out; have k2 := at_cell (i := 0) HOB2.out rfl; clear ho2 hg2 ht2)
  have HS3 := Lib.hid (set_grown HOB2.out (i := 0) (.slice A2 (n0 + nb) c2))
  generalize (w2.setCell ⟨ob, 0, none⟩ (.slice A2 (n0 + nb) c2)) = w3 at HS3 ⊢
  have HK : Hid (∀ (j : Nat) (cs : Array Value) (T : TypeId), W.heap[j]? = some (.cells cs T (0, 0)) → 5 ≠ T → w3.heap[j]? = W.heap[j]?) := fun j cs T hj hT => by
    have hlt : j < W.heap.size := (Array.getElem?_eq_some_iff.1 hj).1
    have h1 := (HB1.out.block j hlt).trans hj
    have h2 := HG2.out.block j (Nat.lt_of_lt_of_le hlt HB1.out.size) (fun e => own_cells HO1.out h1 hT e.symm)
    have h3 := HS3.out.2.block j (Nat.lt_of_lt_of_le hlt (Nat.le_trans HB1.out.size HG2.out.size)) (fun e => by have := Option.some.inj e; have := HOW.out; omega)
    exact h3.trans (h2.trans (HB1.out.block j hlt))
  have HSW : Hid (W.heap.size ≤ w3.heap.size) := Nat.le_trans HB1.out.size (Nat.le_trans HG2.out.size HS3.out.2.size)
  obtain ⟨es0, ck0, hmb⟩ := HF.out.1.heap
  have hblt : b < W.heap.size := (Array.getElem?_eq_some_iff.1 hmb).1
  have hm1 : w1.heap[b]? = some (.map es0 ck0) := (HB1.out.block b hblt).trans hmb
  have hm2 : w2.heap[b]? = some (.map es0 ck0) := (HG2.out.block b (Nat.lt_of_lt_of_le hblt HB1.out.size) (fun e => own_map HO1.out hm1 e.symm)).trans hm1
  have hbo : b ≠ ob := by have := HOW.out; omega
  have hm3 : w3.heap[b]? = some (.map es0 ck0) := (HS3.out.2.block b (Nat.lt_of_lt_of_le hblt (Nat.le_trans HB1.out.size HG2.out.size)) (fun e => hbo (Option.some.inj e))).trans hm2
  have HM3 : Hid (TMap w3 b N F) := HF.out.1.at_heap (hm3.trans hmb.symm)
  have HMB3 : Hid (∃ es ck, w3.heap[b]? = some (.map es ck)) := ⟨_, _, hm3⟩
  have hne : ∀ (j : Nat) (cs : Array Value) (T : TypeId), W.heap[j]? = some (.cells cs T (0, 0)) → j ≠ b := fun j cs T hj e => by rw [e, hmb] at hj; cases hj
  have HNE := Lib.hid hne
  have HC3 : Hid (∀ (j : Nat) (cs : Array Value) (T : TypeId), W.heap[j]? = some (.cells cs T (0, 0)) → 5 ≠ T → ∀ v : World, (∀ i : Nat, i < w3.heap.size → i ≠ b → v.heap[i]? = w3.heap[i]?) → v.heap[j]? = some (.cells cs T (0, 0))) := fun j cs T hj hT v hv => by
    have hlt : j < W.heap.size := (Array.getElem?_eq_some_iff.1 hj).1
    exact ((hv j (Nat.lt_of_lt_of_le hlt HSW.out) (hne j cs T hj)).trans (HK.out j cs T hj hT)).trans hj
  have HC3F : Hid (∀ v : World, (∀ i : Nat, i < w3.heap.size → i ≠ b → v.heap[i]? = w3.heap[i]?) → v.cell? ⟨bf, 0, none⟩ = some (.pointer (some ⟨p, 0, none⟩))) := fun v hv => at_cell (i := 0) (HC3.out bf _ _ H1.out (by decide) v hv) rfl
  have HC3N : Hid (∀ v : World, (∀ i : Nat, i < w3.heap.size → i ≠ b → v.heap[i]? = w3.heap[i]?) → v.cell? ⟨bn, 0, none⟩ = some (.string (tx s))) := fun v hv => at_cell (i := 0) (HC3.out bn _ _ H2.out (by decide) v hv) rfl
  have HC3M : Hid (∀ v : World, (∀ i : Nat, i < w3.heap.size → i ≠ b → v.heap[i]? = w3.heap[i]?) → v.cell? ⟨p, 0, none⟩ = some (.map (some b))) := fun v hv => at_cell (i := 0) (HC3.out p _ _ HX.out (by decide) v hv) rfl
  have hol3 : ob < w3.heap.size := (Array.getElem?_eq_some_iff.1 HS3.out.1).1
  have HC3O : Hid (∀ v : World, (∀ i : Nat, i < w3.heap.size → i ≠ b → v.heap[i]? = w3.heap[i]?) → v.cell? ⟨ob, 0, none⟩ = some (.slice A2 (n0 + nb) c2)) := fun v hv => at_cell (i := 0) ((hv ob hol3 (Ne.symm hbo)).trans HS3.out.1) rfl
  have HC3P : Hid (∀ v : World, (∀ i : Nat, i < w3.heap.size → i ≠ b → v.heap[i]? = w3.heap[i]?) → v.cell? ⟨ob, 1, none⟩ = some (.int .i64 (s0 : Int))) := fun v hv => at_cell (i := 1) ((hv ob hol3 (Ne.symm hbo)).trans HS3.out.1) rfl
  have HPN : Hid (p ≠ b) := hne p _ _ HX.out
  clear hmb hblt hm1 hm2 hm3 hbo hne hol3 m0 mb fz2 k2
  go_wp2
  refine wp_region_held (S := fun v => ∀ j : Nat, j < w3.heap.size → j ≠ b → v.heap[j]? = w3.heap[j]?) (by kernel_rfl) (show wpAnyH _ _ _ _ _ _ _ _ (w3.drew) from ?_)
  have ONLY : Hid (∀ j : Nat, j < w3.heap.size → j ≠ b → w3.drew.heap[j]? = w3.heap[j]?) := fun _ _ _ => rfl
  have HGD3 : Hid (w3.grownBy w3.drew none) := ⟨rfl, rfl, rfl, Nat.le_refl _, fun _ _ _ => rfl⟩
  have HM3D : Hid (TMap w3.drew b N F) := HM3.out.at_heap rfl
  obtain ⟨w5, hw5⟩ : ∃ x, x = w3.drew := ⟨_, rfl⟩
  rw [← hw5] at ONLY HGD3 HM3D ⊢
  clear hw5
  refine h_take 0 (.pointer (some ⟨p, 0, none⟩)) rfl (by kernel_rfl) (by kernel_rfl) (by kernel_rfl) (fun _ _ _ h => h) (by kernel_rfl) (ONLY.out) (by intro v hv; have z0 := HC3F.out v hv; go_simp) ?_
  refine h_take 1 (.pointer (some ⟨p, 0, none⟩)) rfl (by kernel_rfl) (by kernel_rfl) (by kernel_rfl) (fun _ _ _ h => h) (by kernel_rfl) (ONLY.out) (by intro v hv; go_simp) ?_
  refine h_take 2 (.pointer (some ⟨p, 0, none⟩)) rfl (by kernel_rfl) (by kernel_rfl) (by kernel_rfl) (fun _ _ _ h => h) (by kernel_rfl) (ONLY.out) (by intro v hv; go_simp) ?_
  refine h_take 3 (.map (some b)) rfl (by kernel_rfl) (by kernel_rfl) (by kernel_rfl) (fun _ _ _ h => h) (by kernel_rfl) (ONLY.out) (by intro v hv; have z0 := HC3M.out v hv; go_simp) ?_
  refine h_take 4 (.string (tx s)) rfl (by kernel_rfl) (by kernel_rfl) (by kernel_rfl) (fun _ _ _ h => h) (by kernel_rfl) (ONLY.out) (by intro v hv; have z0 := HC3N.out v hv; go_simp) ?_
  refine h_take 5 (fval A2 (n0 + nb) c2 s0) rfl (by kernel_rfl) (by kernel_rfl) (by kernel_rfl) (fun _ _ _ h => h) (by kernel_rfl) (ONLY.out) (by intro v hv; have z0 := HC3O.out v hv; have z1 := HC3P.out v hv; unfold fval; go_simp) ?_
  refine h_one 6 rfl (by kernel_rfl) (by kernel_rfl) (fun K hK => ?_)
  refine wp_tput _ _ _ 46 rfl 54 Try.underlying46 b N F rfl HM3D.out (by unfold maxLen; omega) s (fval A2 (n0 + nb) c2 s0) rfl rfl hs ?_
  intro w6 hm6 hg6
  have HM6 := Lib.hid hm6
  have HG6 := Lib.hid (grown_none HGD3.out hg6)
  refine hK _ _ (fun j hlt hj => (hg6.block j (Nat.lt_of_lt_of_le hlt HGD3.out.size) (fun e => hj (Option.some.inj e))).trans (ONLY.out j hlt hj)) ?_
  clear hK K hm6 hg6
  refine wpAnyH_done (by kernel_rfl) ?_ _
  go_simp
  go_wp2
  go_end0
  have hlen : ((flGet fl s).body ++ body).length = n0 + nb := by rw [List.length_append, ← HN0.out, HBL.out]
  have e0 : fval A2 (n0 + nb) c2 s0 = fval A2 ((flGet fl s).body ++ body).length c2 (flGet fl s).safe := by rw [hlen, HS0.out]
  have hA2k : ∀ k, Value.ownBlock (.slice A2 (n0 + nb) c2) = some k → FsBlk p b F k ∨ W.heap.size ≤ k := fun k hk => by
    rcases HT2.out with h | h
    · exact .inl (HBK0.out k (by rw [← h]; exact hk))
    · rw [h] at hk
      have := Option.some.inj hk
      have := HB1.out.size
      exact .inr (by omega)
  refine ⟨rfl, fput F s (fval A2 (n0 + nb) c2 s0), ?_, ?_, ?_, fun k hk => ?_⟩
  · have ho3 := HO2.out.kept HS3.out.2 (.inr (own_cells HO2.out HOB2.out (by decide)))
    have hap : ∀ u A' n' c' s', u ≠ s → F u = some (fval A' n' c' s') → Apart (.slice A2 (n0 + nb) c2) (.slice A' n' c') := fun u A' n' c' s' hne hu g h1 h2 => by
      rcases HT2.out with h | h
      · exact HAP0.out u A' n' c' s' hne hu g (by rw [← h]; exact h1) h2
      · rw [h] at h1
        have := Option.some.inj h1
        have := files_lt HF.out hu g h2
        have := HB1.out.size
        omega
    rw [e0]
    refine files_put (w1 := w3) (x := ⟨(flGet fl s).body ++ body, (flGet fl s).safe⟩) HF.out (fun u y A' c' hne _ hu ho => ?_) hA2 ?_ ?_ HMB3.out (by rw [← e0]; exact HM6.out) HG6.out
    · have h1 := own_below ho HB1.out
      have h2 := own_kept h1 (HAP0.out u A' _ c' _ hne hu) HG2.out
      exact h2.kept HS3.out.2 (.inr (fun e => by have := own_lt ho _ e; have := HOW.out; omega))
    · show w3.ownsRow base 5 1 (.slice A2 ((flGet fl s).body ++ body).length c2) ((flGet fl s).body ++ body).length (((flGet fl s).body ++ body).map bv)
      rw [hlen, List.map_append]
      exact ho3
    · show ∀ u A' n' c' s', u ≠ s → F u = some (fval A' n' c' s') → Apart (.slice A2 ((flGet fl s).body ++ body).length c2) (.slice A' n' c')
      rw [hlen]
      exact hap
  · exact (HG6.out.block p (Nat.lt_of_lt_of_le HX.out.lt HSW.out) (fun e => HPN.out (Option.some.inj e))).trans ((HK.out p _ _ HX.out (by decide)).trans HX.out)
  · exact (((Turn.of_below HB1.out).grown HG2.out (fun i hi _ => HBK0.out i hi)).grown HS3.out.2 (fun i hi hlt => by have := Option.some.inj hi; have := HOW.out; omega)).grown HG6.out (fun i hi _ => .inr (.inl (Option.some.inj hi).symm))
  · rcases blk_put hk with h | h
    · exact .inl h
    · exact hA2k k h

end Go.Proofs.Ytfgonihpakcbbaa
