/- The closures of Sync and Rename. -/
import Derived.Test.YtfgonihpakcbbaaOk
namespace Go.Proofs.Ytfgonihpakcbbaa
open Go.RowKit Go.Maps Go.ChangeMaps Go.WideMaps Go.Sort

set_option maxRecDepth 100000 in
set_option maxHeartbeats 2000000 in
theorem sync_do (p b N base bo bf bn : Nat) (d : Bool) (fa ga : Bool × Int) (fl : List UInt8 → Option Fl) (FM : List UInt8 → Option Value) (s : List UInt8) (hs : s.length ≤ maxLen) (x : Fl) (hfx : fl s = some x) (A : Option Addr) (n c q : Nat) (hN : N < 1000000) (W : World)
    (hx : FsBox W p b d fa ga) (hf : FilesF W base b N fl FM) (hn : n = x.body.length) (hq : q = x.safe) (hF : FM s = some (fval A n c q)) (h0 : W.heap[bo]? = some (.cells #[.slice A n c, .int .i64 (q : Int)] 54)) (h1 : W.heap[bf]? = some (.cells #[.pointer (some ⟨p, 0, none⟩)] 26)) (h2 : W.heap[bn]? = some (.cells #[.string (tx s)] 9)) :
    Calls Try.prog 32 #[.pointer (some ⟨bo, 0, none⟩), .pointer (some ⟨bf, 0, none⟩), .pointer (some ⟨bn, 0, none⟩)] W fun e w' => e = .returned (.tuple #[]) ∧
      ∃ F', FilesF w' base b (N + 1) (flput fl s (some ⟨x.body, x.body.length⟩)) F' ∧ FsBox w' p b d fa ga ∧ Turn (fun k => FsBlk p b FM k ∨ k = bo) W w' ∧ ∀ j, FsBlk p b F' j → FsBlk p b FM j ∨ W.heap.size ≤ j := by
  obtain ⟨es0, ck0, hmb⟩ := hf.1.heap
  have hne : ∀ (j : Nat) (cs : Array Value) (T : TypeId), W.heap[j]? = some (.cells cs T (0, 0)) → j ≠ b := fun j cs T hj e => by rw [e, hmb] at hj; cases hj
  have hbob := hne bo _ _ h0
  have hpbo : p ≠ bo := fun e => by
    have h9 := hx
    unfold FsBox at h9
    rw [e, h0] at h9
    have h8 := Option.some.inj h9
    injection h8 with h7 h6
    exact absurd h6 (by decide)
  have hfbo : bf ≠ bo := fun e => by
    rw [e, h0] at h1
    have h8 := Option.some.inj h1
    injection h8 with h7 h6
    exact absurd h6 (by decide)
  have hnbo : bn ≠ bo := fun e => by
    rw [e, h0] at h2
    have h8 := Option.some.inj h2
    injection h8 with h7 h6
    exact absurd h6 (by decide)
  have hrow := fun u A' n' c' q' (e : FM u = some (fval A' n' c' q')) => (show Value.ownBlock (.slice A' n' c') = none ∨ Value.ownBlock (.slice A' n' c') ≠ some bo from by
    right
    cases hu : fl u with
    | none => rw [hf.2.1 u hu] at e; cases e
    | some y =>
      obtain ⟨A8, c8, e8, _, ho8⟩ := hf.2.2.1 u y hu
      rw [e8] at e
      have e3 := Option.some.inj e
      unfold fval at e3
      simp only [Value.agg.injEq, Array.mk.injEq, List.cons.injEq, and_true] at e3
      rw [← e3.1]
      exact own_cells ho8 h0 (by decide))
  obtain ⟨hs1, hg1⟩ := set_grown h0 (i := 1) (.int .i64 (n : Int))
  have fz := at_frozen (i := 1) h0
  have k0 := at_cell (i := 0) h0 rfl
  have k1 := at_cell (i := 1) h0 rfl
  obtain ⟨w3, hw3⟩ : ∃ x, x = W.setCell ⟨bo, 1, none⟩ (.int .i64 (n : Int)) := ⟨_, rfl⟩
  rw [← hw3] at hs1 hg1
  have hf3 := hf.kept hg1 (fun e => hbob (Option.some.inj e).symm) hrow
  have hx3 := hx.kept hg1 (fun e => hpbo (Option.some.inj e))
  have h13 := (hg1.block bf (lt_heapv h1) (fun e => hfbo (Option.some.inj e))).trans h1
  have h23 := (hg1.block bn (lt_heapv h2) (fun e => hnbo (Option.some.inj e))).trans h2
  have hc : ∀ (j : Nat) (cs : Array Value) (T : TypeId), w3.heap[j]? = some (.cells cs T (0, 0)) → j ≠ b → ∀ v : World, (∀ j : Nat, j < w3.heap.size → j ≠ b → v.heap[j]? = w3.heap[j]?) → v.heap[j]? = some (.cells cs T (0, 0)) := fun j cs T hj hjb v hv => (hv j (lt_heapv hj) hjb).trans hj
  have HCF : Hid (∀ v : World, (∀ j : Nat, j < w3.heap.size → j ≠ b → v.heap[j]? = w3.heap[j]?) → v.cell? ⟨bf, 0, none⟩ = some (.pointer (some ⟨p, 0, none⟩))) := fun v hv => at_cell (i := 0) (hc bf _ _ h13 (hne bf _ _ h1) v hv) rfl
  have HCN : Hid (∀ v : World, (∀ j : Nat, j < w3.heap.size → j ≠ b → v.heap[j]? = w3.heap[j]?) → v.cell? ⟨bn, 0, none⟩ = some (.string (tx s))) := fun v hv => at_cell (i := 0) (hc bn _ _ h23 (hne bn _ _ h2) v hv) rfl
  have HCM : Hid (∀ v : World, (∀ j : Nat, j < w3.heap.size → j ≠ b → v.heap[j]? = w3.heap[j]?) → v.cell? ⟨p, 0, none⟩ = some (.map (some b))) := fun v hv => at_cell (i := 0) (hc p _ _ hx3 (hne p _ _ hx) v hv) rfl
  have HC0 : Hid (∀ v : World, (∀ j : Nat, j < w3.heap.size → j ≠ b → v.heap[j]? = w3.heap[j]?) → v.cell? ⟨bo, 0, none⟩ = some (.slice A n c)) := fun v hv => at_cell (i := 0) (hc bo _ _ hs1 hbob v hv) rfl
  have HC1 : Hid (∀ v : World, (∀ j : Nat, j < w3.heap.size → j ≠ b → v.heap[j]? = w3.heap[j]?) → v.cell? ⟨bo, 1, none⟩ = some (.int .i64 (n : Int))) := fun v hv => at_cell (i := 1) (hc bo _ _ hs1 hbob v hv) rfl
  have HX := Lib.hid hx3
  have HF0 := Lib.hid hf
  have HF := Lib.hid hf3
  have HM := Lib.hid hf3.1
  have HPB := Lib.hid (hne p _ _ hx)
  have HG1 := Lib.hid hg1
  have HFV := Lib.hid hF
  have HNN := Lib.hid hn
  have HQQ := Lib.hid hq
  have HW3 := Lib.hid hw3
  clear hx hf h0 h1 h2 hmb hne hc hbob hpbo hfbo hnbo hrow hs1 hg1 hf3 hx3 h13 h23 hF hn hq hw3
  go_enter Try.func32, Try.ntmps32
  go_wp2
  rw [← HW3.out]
  refine wp_region_held (S := fun v => ∀ j : Nat, j < w3.heap.size → j ≠ b → v.heap[j]? = w3.heap[j]?) (by kernel_rfl) (show wpAnyH _ _ _ _ _ _ _ _ (w3.drew) from ?_)
  have ONLY : Hid (∀ j : Nat, j < w3.heap.size → j ≠ b → w3.drew.heap[j]? = w3.heap[j]?) := fun _ _ _ => rfl
  have HGD : Hid (w3.grownBy w3.drew none) := ⟨rfl, rfl, rfl, Nat.le_refl _, fun _ _ _ => rfl⟩
  have HMD : Hid (TMap w3.drew b N FM) := HM.out.at_heap rfl
  obtain ⟨v0, hv0⟩ : ∃ x, x = w3.drew := ⟨_, rfl⟩
  rw [← hv0] at ONLY HGD HMD ⊢
  clear hv0
  refine h_take 0 (.pointer (some ⟨p, 0, none⟩)) rfl (by kernel_rfl) (by kernel_rfl) (by kernel_rfl) (fun _ _ _ h => h) (by kernel_rfl) ONLY.out (by intro v hv; have z0 := HCF.out v hv; go_simp) ?_
  refine h_take 1 (.pointer (some ⟨p, 0, none⟩)) rfl (by kernel_rfl) (by kernel_rfl) (by kernel_rfl) (fun _ _ _ h => h) (by kernel_rfl) ONLY.out (by intro v hv; go_simp) ?_
  refine h_take 2 (.pointer (some ⟨p, 0, none⟩)) rfl (by kernel_rfl) (by kernel_rfl) (by kernel_rfl) (fun _ _ _ h => h) (by kernel_rfl) ONLY.out (by intro v hv; go_simp) ?_
  refine h_take 3 (.map (some b)) rfl (by kernel_rfl) (by kernel_rfl) (by kernel_rfl) (fun _ _ _ h => h) (by kernel_rfl) ONLY.out (by intro v hv; have z0 := HCM.out v hv; go_simp) ?_
  refine h_take 4 (.string (tx s)) rfl (by kernel_rfl) (by kernel_rfl) (by kernel_rfl) (fun _ _ _ h => h) (by kernel_rfl) ONLY.out (by intro v hv; have z0 := HCN.out v hv; go_simp) ?_
  refine h_take 5 (fval A n c n) rfl (by kernel_rfl) (by kernel_rfl) (by kernel_rfl) (fun _ _ _ h => h) (by kernel_rfl) ONLY.out (by intro v hv; have z0 := HC0.out v hv; have z1 := HC1.out v hv; unfold fval; go_simp) ?_
  refine h_one 6 rfl (by kernel_rfl) (by kernel_rfl) (fun K hK => ?_)
  refine wp_tput _ _ _ 46 rfl 54 Try.underlying46 b N FM rfl HMD.out (by unfold maxLen; omega) s (fval A n c n) rfl rfl hs ?_
  intro w6 hm6 hg6
  have HM6 := Lib.hid hm6
  have HG6 := Lib.hid (grown_none HGD.out hg6)
  refine hK _ _ (fun j h1 h2 => (hg6.block j (Nat.lt_of_lt_of_le h1 HGD.out.size) (fun e => h2 (Option.some.inj e))).trans (ONLY.out j h1 h2)) ?_
  clear hK K hm6 hg6
  refine wpAnyH_done (by kernel_rfl) ?_ _
  go_simp
  go_wp2
  go_end0
  have hn := HNN.out
  subst hn
  have hq := HQQ.out
  subst hq
  have hrow3 : w3.ownsRow base 5 1 (.slice A x.body.length c) x.body.length (x.body.map bv) := by
    obtain ⟨A9, c9, e9, _, ho9⟩ := HF.out.2.2.1 s x hfx
    rw [HFV.out] at e9
    have e3 := Option.some.inj e9
    unfold fval at e3
    simp only [Value.agg.injEq, Array.mk.injEq, List.cons.injEq, and_true, Value.slice.injEq, true_and] at e3
    rw [e3.1, e3.2]
    exact ho9
  have hfin := files_moved HF.out hfx HFV.out HF.out (fun u v hu e => ⟨e, hu⟩) hrow3 HM6.out HG6.out
  refine ⟨rfl, _, hfin, (HG6.out.block p HX.out.lt (fun e => HPB.out (Option.some.inj e))).trans HX.out, ?_, fun j hj => ?_⟩
  · exact ((Turn.refl _ _).grown HG1.out (fun i hi _ => .inr (Option.some.inj hi).symm)).grown HG6.out (fun i hi _ => .inl (.inr (.inl (Option.some.inj hi).symm)))
  · rcases blk_put hj with h | h
    · exact .inl h
    · exact .inl (.inr (.inr ⟨s, A, _, c, _, HFV.out, h⟩))

set_option maxRecDepth 100000 in
set_option maxHeartbeats 2000000 in
theorem rename_do (p b N base bo bf bn bt : Nat) (d : Bool) (fa ga : Bool × Int) (fl : List UInt8 → Option Fl) (FM : List UInt8 → Option Value) (r s : List UInt8) (hr : r.length ≤ maxLen) (hs : s.length ≤ maxLen) (x : Fl) (hfx : fl r = some x) (A : Option Addr) (n c q : Nat) (hN : N < 1000000) (W : World)
    (hx : FsBox W p b d fa ga) (hf : FilesF W base b N fl FM) (hn : n = x.body.length) (hq : q = x.safe) (hF : FM r = some (fval A n c q)) (h0 : W.heap[bo]? = some (.cells #[.slice A n c, .int .i64 (q : Int)] 54)) (h1 : W.heap[bf]? = some (.cells #[.pointer (some ⟨p, 0, none⟩)] 26)) (h2 : W.heap[bn]? = some (.cells #[.string (tx r)] 9)) (h3 : W.heap[bt]? = some (.cells #[.string (tx s)] 9)) :
    Calls Try.prog 34 #[.pointer (some ⟨bf, 0, none⟩), .pointer (some ⟨bn, 0, none⟩), .pointer (some ⟨bo, 0, none⟩), .pointer (some ⟨bt, 0, none⟩)] W fun e w' => e = .returned (.tuple #[]) ∧
      ∃ F', FilesF w' base b (N + 1) (flput (flput fl r none) s (some x)) F' ∧ FsBox w' p b d fa ga ∧ Turn (FsBlk p b FM) W w' ∧ ∀ j, FsBlk p b F' j → FsBlk p b FM j ∨ W.heap.size ≤ j := by
  obtain ⟨es0, ck0, hmb⟩ := hf.1.heap
  have hne : ∀ (j : Nat) (cs : Array Value) (T : TypeId), W.heap[j]? = some (.cells cs T (0, 0)) → j ≠ b := fun j cs T hj e => by rw [e, hmb] at hj; cases hj
  have hc : ∀ (j : Nat) (cs : Array Value) (T : TypeId), W.heap[j]? = some (.cells cs T (0, 0)) → ∀ v : World, (∀ j : Nat, j < W.heap.size → j ≠ b → v.heap[j]? = W.heap[j]?) → v.heap[j]? = some (.cells cs T (0, 0)) := fun j cs T hj v hv => (hv j (lt_heapv hj) (hne j cs T hj)).trans hj
  have HCF : Hid (∀ v : World, (∀ j : Nat, j < W.heap.size → j ≠ b → v.heap[j]? = W.heap[j]?) → v.cell? ⟨bf, 0, none⟩ = some (.pointer (some ⟨p, 0, none⟩))) := fun v hv => at_cell (i := 0) (hc bf _ _ h1 v hv) rfl
  have HCN : Hid (∀ v : World, (∀ j : Nat, j < W.heap.size → j ≠ b → v.heap[j]? = W.heap[j]?) → v.cell? ⟨bn, 0, none⟩ = some (.string (tx r))) := fun v hv => at_cell (i := 0) (hc bn _ _ h2 v hv) rfl
  have HCM : Hid (∀ v : World, (∀ j : Nat, j < W.heap.size → j ≠ b → v.heap[j]? = W.heap[j]?) → v.cell? ⟨p, 0, none⟩ = some (.map (some b))) := fun v hv => at_cell (i := 0) (hc p _ _ hx v hv) rfl
  have HX := Lib.hid hx
  have HF := Lib.hid hf
  have HM := Lib.hid hf.1
  have HNE := Lib.hid hne
  have HPB := Lib.hid (hne p _ _ hx)
  have HFV := Lib.hid hF
  have HNN := Lib.hid hn
  have HQQ := Lib.hid hq
  have H0 := Lib.hid h0
  have H1 := Lib.hid h1
  have H3 := Lib.hid h3
  clear hx hf h0 h1 h2 h3 hmb hne hc hF hn hq
  go_enter Try.func34, Try.ntmps34
  go_wp2
  refine wp_region_held (S := fun v => ∀ j : Nat, j < W.heap.size → j ≠ b → v.heap[j]? = W.heap[j]?) (by kernel_rfl) (show wpAnyH _ _ _ _ _ _ _ _ (W.drew) from ?_)
  have ONLY : Hid (∀ j : Nat, j < W.heap.size → j ≠ b → W.drew.heap[j]? = W.heap[j]?) := fun _ _ _ => rfl
  have HGD : Hid (W.grownBy W.drew none) := ⟨rfl, rfl, rfl, Nat.le_refl _, fun _ _ _ => rfl⟩
  have HMD : Hid (TMap W.drew b N FM) := HM.out.at_heap rfl
  obtain ⟨v0, hv0⟩ : ∃ x, x = W.drew := ⟨_, rfl⟩
  rw [← hv0] at ONLY HGD HMD ⊢
  clear hv0
  refine h_take 0 (.pointer (some ⟨p, 0, none⟩)) rfl (by kernel_rfl) (by kernel_rfl) (by kernel_rfl) (fun _ _ _ h => h) (by kernel_rfl) ONLY.out (by intro v hv; have z0 := HCF.out v hv; go_simp) ?_
  refine h_take 1 (.pointer (some ⟨p, 0, none⟩)) rfl (by kernel_rfl) (by kernel_rfl) (by kernel_rfl) (fun _ _ _ h => h) (by kernel_rfl) ONLY.out (by intro v hv; go_simp) ?_
  refine h_take 2 (.pointer (some ⟨p, 0, none⟩)) rfl (by kernel_rfl) (by kernel_rfl) (by kernel_rfl) (fun _ _ _ h => h) (by kernel_rfl) ONLY.out (by intro v hv; go_simp) ?_
  refine h_take 3 (.map (some b)) rfl (by kernel_rfl) (by kernel_rfl) (by kernel_rfl) (fun _ _ _ h => h) (by kernel_rfl) ONLY.out (by intro v hv; have z0 := HCM.out v hv; go_simp) ?_
  refine h_take 4 (.string (tx r)) rfl (by kernel_rfl) (by kernel_rfl) (by kernel_rfl) (fun _ _ _ h => h) (by kernel_rfl) ONLY.out (by intro v hv; have z0 := HCN.out v hv; go_simp) ?_
  refine h_one 5 rfl (by kernel_rfl) (by kernel_rfl) (fun K hK => ?_)
  refine wp_tdel _ _ 46 rfl 54 Try.underlying46 b N FM rfl HMD.out r rfl hr ?_
  intro w6 hm6 hg6
  have HM6 := Lib.hid hm6
  have HG6 := Lib.hid (grown_none HGD.out hg6)
  refine hK _ _ (fun j h1 h2 => (hg6.block j (Nat.lt_of_lt_of_le h1 HGD.out.size) (fun e => h2 (Option.some.inj e))).trans (ONLY.out j h1 h2)) ?_
  clear hK K hm6 hg6
  refine wpAnyH_done (by kernel_rfl) ?_ _
  go_simp
  have HF1 := Lib.hid (files_del HF.out HM6.out HG6.out)
  have HGA := HG6
  have hst : ∀ (j : Nat) (cs : Array Value) (T : TypeId), W.heap[j]? = some (.cells cs T (0, 0)) → w6.heap[j]? = some (.cells cs T (0, 0)) := fun j cs T hj => (HGA.out.block j (lt_heapv hj) (fun e => HNE.out j cs T hj (Option.some.inj e))).trans hj
  have hx1 : FsBox w6 p b d fa ga := hst p _ _ HX.out
  have hc : ∀ (j : Nat) (cs : Array Value) (T : TypeId), w6.heap[j]? = some (.cells cs T (0, 0)) → j ≠ b → ∀ v : World, (∀ j : Nat, j < w6.heap.size → j ≠ b → v.heap[j]? = w6.heap[j]?) → v.heap[j]? = some (.cells cs T (0, 0)) := fun j cs T hj hjb v hv => (hv j (lt_heapv hj) hjb).trans hj
  have HCF1 : Hid (∀ v : World, (∀ j : Nat, j < w6.heap.size → j ≠ b → v.heap[j]? = w6.heap[j]?) → v.cell? ⟨bf, 0, none⟩ = some (.pointer (some ⟨p, 0, none⟩))) := fun v hv => at_cell (i := 0) (hc bf _ _ (hst bf _ _ H1.out) (HNE.out bf _ _ H1.out) v hv) rfl
  have HCT : Hid (∀ v : World, (∀ j : Nat, j < w6.heap.size → j ≠ b → v.heap[j]? = w6.heap[j]?) → v.cell? ⟨bt, 0, none⟩ = some (.string (tx s))) := fun v hv => at_cell (i := 0) (hc bt _ _ (hst bt _ _ H3.out) (HNE.out bt _ _ H3.out) v hv) rfl
  have HCM1 : Hid (∀ v : World, (∀ j : Nat, j < w6.heap.size → j ≠ b → v.heap[j]? = w6.heap[j]?) → v.cell? ⟨p, 0, none⟩ = some (.map (some b))) := fun v hv => at_cell (i := 0) (hc p _ _ hx1 HPB.out v hv) rfl
  have HC0 : Hid (∀ v : World, (∀ j : Nat, j < w6.heap.size → j ≠ b → v.heap[j]? = w6.heap[j]?) → v.cell? ⟨bo, 0, none⟩ = some (.slice A n c)) := fun v hv => at_cell (i := 0) (hc bo _ _ (hst bo _ _ H0.out) (HNE.out bo _ _ H0.out) v hv) rfl
  have HC1 : Hid (∀ v : World, (∀ j : Nat, j < w6.heap.size → j ≠ b → v.heap[j]? = w6.heap[j]?) → v.cell? ⟨bo, 1, none⟩ = some (.int .i64 (q : Int))) := fun v hv => at_cell (i := 1) (hc bo _ _ (hst bo _ _ H0.out) (HNE.out bo _ _ H0.out) v hv) rfl
  have HX1 := Lib.hid hx1
  have HM := Lib.hid HF1.out.1
  obtain ⟨w1, hw1⟩ : ∃ y, y = w6 := ⟨_, rfl⟩
  subst hw1
  obtain ⟨F0, hF0⟩ : ∃ y, y = FM := ⟨_, rfl⟩
  subst hF0
  obtain ⟨FM, hFM⟩ : ∃ y, y = fdel F0 r := ⟨_, rfl⟩
  rw [← hFM] at HF1 HM
  have HFM := Lib.hid hFM
  clear hst hx1 hc hFM HM6 HG6
  go_wp2
  refine wp_region_held (S := fun v => ∀ j : Nat, j < w1.heap.size → j ≠ b → v.heap[j]? = w1.heap[j]?) (by kernel_rfl) (show wpAnyH _ _ _ _ _ _ _ _ (w1.drew) from ?_)
  have ONLY : Hid (∀ j : Nat, j < w1.heap.size → j ≠ b → w1.drew.heap[j]? = w1.heap[j]?) := fun _ _ _ => rfl
  have HGD : Hid (w1.grownBy w1.drew none) := ⟨rfl, rfl, rfl, Nat.le_refl _, fun _ _ _ => rfl⟩
  have HMD : Hid (TMap w1.drew b N FM) := HM.out.at_heap rfl
  obtain ⟨v0, hv0⟩ : ∃ x, x = w1.drew := ⟨_, rfl⟩
  rw [← hv0] at ONLY HGD HMD ⊢
  clear hv0
  refine h_take 0 (.pointer (some ⟨p, 0, none⟩)) rfl (by kernel_rfl) (by kernel_rfl) (by kernel_rfl) (fun _ _ _ h => h) (by kernel_rfl) ONLY.out (by intro v hv; have z0 := HCF1.out v hv; go_simp) ?_
  refine h_take 1 (.pointer (some ⟨p, 0, none⟩)) rfl (by kernel_rfl) (by kernel_rfl) (by kernel_rfl) (fun _ _ _ h => h) (by kernel_rfl) ONLY.out (by intro v hv; go_simp) ?_
  refine h_take 2 (.pointer (some ⟨p, 0, none⟩)) rfl (by kernel_rfl) (by kernel_rfl) (by kernel_rfl) (fun _ _ _ h => h) (by kernel_rfl) ONLY.out (by intro v hv; go_simp) ?_
  refine h_take 3 (.map (some b)) rfl (by kernel_rfl) (by kernel_rfl) (by kernel_rfl) (fun _ _ _ h => h) (by kernel_rfl) ONLY.out (by intro v hv; have z0 := HCM1.out v hv; go_simp) ?_
  refine h_take 4 (.string (tx s)) rfl (by kernel_rfl) (by kernel_rfl) (by kernel_rfl) (fun _ _ _ h => h) (by kernel_rfl) ONLY.out (by intro v hv; have z0 := HCT.out v hv; go_simp) ?_
  refine h_take 5 (fval A n c q) rfl (by kernel_rfl) (by kernel_rfl) (by kernel_rfl) (fun _ _ _ h => h) (by kernel_rfl) ONLY.out (by intro v hv; have z0 := HC0.out v hv; have z1 := HC1.out v hv; unfold fval; go_simp) ?_
  refine h_one 6 rfl (by kernel_rfl) (by kernel_rfl) (fun K hK => ?_)
  refine wp_tput _ _ _ 46 rfl 54 Try.underlying46 b N FM rfl HMD.out (by unfold maxLen; omega) s (fval A n c q) rfl rfl hs ?_
  intro w6 hm6 hg6
  have HM6 := Lib.hid hm6
  have HG6 := Lib.hid (grown_none HGD.out hg6)
  refine hK _ _ (fun j h1 h2 => (hg6.block j (Nat.lt_of_lt_of_le h1 HGD.out.size) (fun e => h2 (Option.some.inj e))).trans (ONLY.out j h1 h2)) ?_
  clear hK K hm6 hg6
  refine wpAnyH_done (by kernel_rfl) ?_ _
  go_simp
  go_wp2
  go_end0
  have hn := HNN.out
  subst hn
  have hq := HQQ.out
  subst hq
  have hrow3 : w1.ownsRow base 5 1 (.slice A x.body.length c) x.body.length (x.body.map bv) := by
    obtain ⟨A9, c9, e9, _, ho9⟩ := HF.out.2.2.1 r x hfx
    rw [HFV.out] at e9
    have e3 := Option.some.inj e9
    unfold fval at e3
    simp only [Value.agg.injEq, Array.mk.injEq, List.cons.injEq, and_true, Value.slice.injEq, true_and] at e3
    obtain ⟨es, ck, hmb⟩ := HF.out.1.heap
    rw [e3.1, e3.2]
    exact ho9.kept HGA.out (.inr (own_map ho9 hmb))
  have hfin := files_moved HF.out hfx HFV.out HF1.out (fun u v hu e => by
    rw [HFM.out] at e
    unfold fdel at e
    by_cases k1 : u = r
    · rw [if_pos k1] at e; cases e
    · rw [if_neg k1] at e; exact ⟨e, k1⟩) hrow3 HM6.out HG6.out
  refine ⟨rfl, _, hfin, (HG6.out.block p HX1.out.lt (fun e => HPB.out (Option.some.inj e))).trans HX1.out, ?_, fun j hj => ?_⟩
  · exact ((Turn.refl _ _).grown HGA.out (fun i hi _ => .inr (.inl (Option.some.inj hi).symm))).grown HG6.out (fun i hi _ => .inr (.inl (Option.some.inj hi).symm))
  · rcases blk_put hj with h | h
    · rw [HFM.out] at h
      exact .inl (blk_del h)
    · exact .inl (.inr (.inr ⟨r, A, _, c, _, HFV.out, h⟩))

end Go.Proofs.Ytfgonihpakcbbaa
