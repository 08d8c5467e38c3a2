/- rule.Clean. -/
import Derived.Test.YtacjiojfjkonkaaWr5
import Derived.Test.YtacjiojfjkonkaaXp0
namespace Go.Proofs.Ytacjiojfjkonkaa
open Go.RowKit Go.Sort

/-- A rule's number, of 64 bits. -/
def rq (z : Int) : Q64 := BitVec.ofNat 64 z.toNat
/-- What a node's step in a clean build is. -/
def stepOf (g S : List Stp) (x : Nd) : Stp := if x.src = true then ⟨x.name, false, givN g x.name g.length⟩ else ⟨x.name, true, foq (dg (rq x.rule)) (x.deps.map (fun d => givN S d S.length))⟩
theorem stepOf_name (g S : List Stp) (x : Nd) : (stepOf g S x).name = x.name := by unfold stepOf; split <;> rfl
/-- The steps of the first ones of an order. -/
def clN (l : List Nd) (g : List Stp) (o : List Nat) : Nat → List Stp
  | 0 => []
  | i + 1 => match o[i]? with
    | some j => match l[j]? with
      | some x => clN l g o i ++ [stepOf g (clN l g o i) x]
      | none => clN l g o i
    | none => clN l g o i
theorem cl_step {l : List Nd} {g : List Stp} {o : List Nat} {i j : Nat} {x : Nd} (h : o[i]? = some j) (hx : l[j]? = some x) : clN l g o (i + 1) = clN l g o i ++ [stepOf g (clN l g o i) x] := by
  show (match o[i]? with | some j => _ | none => _) = _
  rw [h]
  show (match l[j]? with | some x => _ | none => _) = _
  rw [hx]
theorem info_step : (Try.prog.info? 44).map (fun i => (i.zero, i.size, i.bytes)) = some (some (.agg #[.string { data := #[] }, .bool false, .int .u64 0]), 3, 32) := by kernel_rfl
/-- Rules of nodes are numbers of 64 bits. -/
def RuleOk (x : Nd) : Prop := qv (rq x.rule) = .int .u64 x.rule
theorem reads_step (w : World) (x : Stp) : Reads (w.alloc (.cells #[.string (tx x.name), .bool x.ran, qv x.con] 44)) (w.heap.size + 1) 3 (some ⟨w.heap.size, 0, none⟩) 1 x.cells :=
  ⟨rfl, fun _ => ⟨_, rfl, by show w.heap.size < _; omega, fun j u hu => by
    have e : (⟨w.heap.size, 0, none⟩ : Addr).add j = ⟨w.heap.size, j, none⟩ := by
      unfold Addr.add
      split
      · rename_i h; rw [h]
      · simp
    rw [e]
    exact at_cell (one_new w _) ((List.getElem?_toArray ..).trans hu)⟩⟩

theorem lt_heap {W : World} {a : Nat} {o : Obj} (h : W.heap[a]? = some o) : a < W.heap.size := (Array.getElem?_eq_some_iff.1 h).1
/-- rule.made at whichever node. -/
theorem made_any (x : Nw) (hr : RuleOk x.d) (hf : NFits x.d) (hn : x.n ≤ 1000) (G : Option Addr) (gn gc : Nat) (gs : List Stp) (hgn : gn ≤ 1000000) (b mb N : Nat) (l : List Stp) (w : World)
    (hx : NIn w w.heap.size x) (hg : Steps w w.heap.size G gn gs) (hbs : b < w.heap.size) (hb : w.cell? ⟨b, 0, none⟩ = some (.map (some mb))) (ht : TMap w mb N (conF l)) :
    Calls Try.prog 20 #[x.val, .slice G gn gc, .func (.func 19) #[] #[.pointer (some ⟨b, 0, none⟩)]] w fun e w' => e = .returned (stepOf gs l x.d).val ∧ Below w.heap.size w w' := by
  obtain ⟨⟨nm, sc, ru, ds⟩, xA, xn, xc⟩ := x
  cases sc with
  | true =>
    have := made_src nm ru xA xn xc G gn gc gs (.func (.func 19) #[] #[.pointer (some ⟨b, 0, none⟩)]) hgn w hg
    rw [← hg.len] at this ⊢
    exact this
  | false => exact made_node nm ru (rq ru) hr xA xn xc ds hf.2 G gn gc b mb N l hn w hx hbs hb ht

set_option maxRecDepth 100000 in
set_option maxHeartbeats 4000000 in
theorem clean_ok (A : Option Addr) (n c : Nat) (xs : List Nw) (hn : n ≤ 1000) (hok : NOk xs) (hru : ∀ x ∈ xs, RuleOk x.d ∧ x.n ≤ 1000) (hc0 : chk (nds xs) = 0) (G : Option Addr) (gn gc : Nat) (gs : List Stp) (hgn : gn ≤ 1000000) (w : World) (h : Nodes w w.heap.size A n xs) (hg : Steps w w.heap.size G gn gs) :
    Calls Try.prog 9 #[.slice A n c, .slice G gn gc] w fun e w' => (∃ A5 c5, e = .returned (.tuple #[.slice A5 n c5, .int .i64 0]) ∧ w'.ownsRow w.heap.size 44 3 (.slice A5 n c5) n (sts (clN (nds xs) gs (ord (nds xs)) n))) ∧ Below w.heap.size w w' := by
  have HL : Hid (xs.length = n) := h.len
  have HLD : Hid ((nds xs).length = n) := by show _ = _; rw [nds_len]; exact h.len
  have HNS := Lib.hid h
  have HGS := Lib.hid hg
  have HF := Lib.hid hok
  have HRU := Lib.hid hru
  have HLO : Hid ((ord (nds xs)).length = n) := (chk_ok.1 hc0).2.2.2.2.trans HLD.out
  have HOR := Lib.hid (order_ok A n c xs (by omega) hok hc0 w h)
  obtain ⟨ii, hi0, hz0, hz1, hz2⟩ := info_parts info_step
  have hmm := @run_makeMap Try.prog
  clear h hg hok hru hc0
  go_enter Try.func9, Try.ntmps9
  go_wp2_with (go_at_call 18; refine HOR.out.mono ?_; rintro e w1 ⟨⟨A6, c6, rfl, hr1⟩, hb1⟩; have HR1 := Lib.hid hr1; have HB1 := Lib.hid hb1; clear hb1 hr1)
  have HT := Lib.hid (two_new w1 (.map #[] 0) (.cells #[.map (some w1.heap.size)] 52))
  have hal0 : Below w1.heap.size w1 (w1.alloc (.map #[] 0)) := (Below.refl _ w1).alloc (Nat.le_refl _) _
  have hal1 := (Below.refl (w1.alloc (.map #[] 0)).heap.size (w1.alloc (.map #[] 0))).alloc (Nat.le_refl _) (.cells #[.map (some w1.heap.size)] 52)
  have HM := Lib.hid (((tmap_start w1).below hal1).same (g := conF []) (fun u => by simp [conF]))
  have HB2 := Lib.hid (hal0.trans (hal1.mono hal0.size))
  clear hal0 hal1
  have HV := Lib.hid HT.out.2.1
  have HZ0 : Hid (w1.heap.size + 2 ≤ ((w1.alloc (.map #[] 0)).alloc (.cells #[.map (some w1.heap.size)] 52)).heap.size) := by show _ ≤ _; rw [HT.out.2.2]; exact Nat.le_refl _
  clear HT
  go_loopw [26, 10] (fun idx v wr => ∃ (i : Nat) (A7 : Option Addr) (c7 : Nat), i ≤ n ∧ idx = .int .i64 (i : Int) ∧ v = .slice A7 i c7 ∧ wr.ownsRow (w1.heap.size + 2) 44 3 v i (sts (clN (nds xs) gs (ord (nds xs)) i)) ∧ TMap wr w1.heap.size i (conF (clN (nds xs) gs (ord (nds xs)) i)) ∧ (wr.heap[w1.heap.size + 1]? = some (.cells #[.map (some w1.heap.size)] 52) ∧ w1.heap.size + 2 ≤ wr.heap.size) ∧ Below w1.heap.size w1 wr) (fun idx _ _ => n - (intOf idx).toNat)
  case atStart => exact ⟨0, none, 0, by omega, rfl, rfl, World.ownsRow_nil _ _ _ _, HM.out, ⟨HV.out, HZ0.out⟩, HB2.out⟩
  case round =>
    obtain ⟨i, A7, c7, hi, rfl, rfl, hown, ht, ⟨hv, hz⟩, hb⟩ := hrel
    have HOWN := Lib.hid hown
    have HTM := Lib.hid ht
    have HVA := Lib.hid hv
    have HZZ := Lib.hid hz
    have HB := Lib.hid hb
    have HBW := Lib.hid (HB1.out.trans (hb.mono HB1.out.size))
    by_cases hlt : i < n
    · obtain ⟨j1, hj1⟩ : ∃ j, (ord (nds xs))[i]? = some j := ⟨_, List.getElem?_eq_getElem (by rw [HLO.out]; exact hlt)⟩
      have hj1n : j1 < n := by rw [← HLD.out]; exact (ord_good (nds xs) _).1 j1 (List.mem_of_getElem? hj1)
      obtain ⟨x, hx⟩ : ∃ x, xs[j1]? = some x := ⟨_, List.getElem?_eq_getElem (by rw [HL.out]; exact hj1n)⟩
      have hmx := List.mem_of_getElem? hx
      obtain ⟨ad, rfl, hab, k0, k1, k2, k3⟩ := nodes_cells ((HNS.out.below HBW.out).1) j1 x hx
      obtain ⟨a6, u6, rfl, _, hu6, hc6⟩ := (HR1.out.below hb).at_ hlt
      obtain rfl : u6 = .int .i64 (j1 : Int) := by unfold ivs at hu6; rw [List.getElem?_map, hj1] at hu6; simpa using hu6.symm
      have hcv : wr.cell? ⟨w1.heap.size + 1, 0, none⟩ = some (.map (some w1.heap.size)) := at_cell (i := 0) hv rfl
      have HMD := Lib.hid (made_any x (HRU.out x hmx).1 (HF.out x hmx).1 (HRU.out x hmx).2 G gn gc gs hgn (w1.heap.size + 1) w1.heap.size i (clN (nds xs) gs (ord (nds xs)) i) wr (Reads.more (Reads.below (HNS.out.2 x hmx) HBW.out) HBW.out.size) ((HGS.out.below HBW.out).more HBW.out.size) (by omega) hcv ht)
      have HCL := Lib.hid (cl_step (g := gs) hj1 (nds_at hx))
      have hsn := stepOf_name gs (clN (nds xs) gs (ord (nds xs)) i) x.d
      have hnl := (HF.out x hmx).1.1
      obtain ⟨y, hy⟩ : ∃ y, y = stepOf gs (clN (nds xs) gs (ord (nds xs)) i) x.d := ⟨_, rfl⟩
      rw [← hy] at HMD HCL hsn
      rw [← hsn] at hnl
      have HNL := Lib.hid hnl
      obtain ⟨sn, sr, sco⟩ := y
      obtain ⟨z, hz2'⟩ : ∃ z : Int, qv sco = .int .u64 z := ⟨_, rfl⟩
      have HZ := Lib.hid hz2'
      unfold Stp.val at HMD
      simp only [hz2'] at HMD
      obtain ⟨⟨nm, sc, ru, ds⟩, xA, xn, xc⟩ := x
      unfold Nw.val at HMD
      simp only at k0 k1 k2 k3 HNL HMD
      have hj0 : (0 : Int) ≤ (i : Int) := by omega
      have hj2 : (i : Int) < (n : Int) := by omega
      have hj3 : (0 : Int) ≤ (j1 : Int) := by omega
      have hj4 : (j1 : Int) < (n : Int) := by omega
      clear hj1 hx hmx hu6 hown ht hv hz hb hy hsn hnl hz2' hj1n
      go_wp2_with (first
        | (at_builtin; refine wpList_append_many _ rfl (.tmp 42) (.tmp 44) 23 rfl (w1.heap.size + 2) 44 ii _ 3 32 Try.underlying23 hi0 hz0 hz1 hz2 rfl (by decide) (.slice A7 i c7) i _ rfl (HO4.out.alloc _) (some ⟨w4.heap.size, 0, none⟩) 1 1 (w4.heap.size + 1) [.string (tx sn), .bool sr, .int .u64 z] rfl (by intro h; cases h) (by have h9 := reads_step w4 ⟨sn, sr, sco⟩; unfold Stp.cells at h9; simp only [HZ.out] at h9; exact h9) (by intro u hu; simp at hu; rcases hu with rfl | rfl | rfl <;> rfl) (by unfold maxLen; omega) (by omega) (by have := HZ4.out; simp; omega) ?_; intro v5 w5 ho5 hg5; have HO5 := Lib.hid ho5; have HG5 := Lib.hid hg5; clear ho5 hg5)
        | (at_mapUpdate; refine wpList_tput _ rfl _ _ _ 52 rfl 34 Try.underlying52 w1.heap.size i _ rfl HT3.out (by unfold maxLen; omega) sn _ rfl rfl HNL.out ?_; intro w4 ht4 hg4; have HT4 := Lib.hid ht4; have HO4 := Lib.hid (HO3.out.kept hg4 (.inr (fun e => by have := own_block HO3.out _ e; omega))); have HV4 := Lib.hid ((hg4.block (w1.heap.size + 1) (lt_heap HV3.out) (by simp)).trans HV3.out); have HN4 := Lib.hid ((hg4.block w3.heap.size (by simp) (by have := HZ3.out; simp; omega)).trans HN3.out); have HB4 := Lib.hid (HB3.out.grown hg4 HB3.out.size (fun j hj => by cases hj; exact Nat.le_refl _)); have HZ4 : Hid (w1.heap.size + 2 ≤ w4.heap.size) := Nat.le_trans (Nat.le_trans HZ3.out (by simp)) hg4.size; have p0 := at_cell (i := 0) HN4.out rfl; have p1 := at_cell (i := 1) HN4.out rfl; have p2 := at_cell (i := 2) HN4.out rfl; clear ht4 hg4)
        | (go_at_call 20; refine HMD.out.mono ?_; rintro e w3 ⟨rfl, hb3⟩; have hal : Below w3.heap.size w3 (w3.alloc (.cells #[.string (tx sn), .bool sr, .int .u64 z] 44)) := (Below.refl _ w3).alloc (Nat.le_refl _) _; have hba := hb3.trans (hal.mono hb3.size); have HN3 := Lib.hid (one_new w3 (.cells #[.string (tx sn), .bool sr, .int .u64 z] 44)); have HT3 := Lib.hid (HTM.out.below hba); have HO3 := Lib.hid (own_below HOWN.out hba); have HV3 := Lib.hid ((hba.block (w1.heap.size + 1) (lt_heap HVA.out)).trans HVA.out); have HB3 := Lib.hid (HB.out.trans (hba.mono HB.out.size)); have HZ3 : Hid (w1.heap.size + 2 ≤ w3.heap.size) := Nat.le_trans HZZ.out hb3.size; have r0 := at_cell (i := 0) HN3.out rfl; have r2 := at_cell (i := 2) HN3.out rfl; have hcv3 := at_cell (i := 0) HV3.out rfl; clear hb3 hal hba))
      obtain ⟨A9, c9, rfl, _⟩ := own_slice HO5.out
      have hal : Below w4.heap.size w4 (w4.alloc (.cells #[.string (tx sn), .bool sr, .int .u64 z] 44)) := (Below.refl _ w4).alloc (Nat.le_refl _) _
      have hob := own_block HOWN.out
      have hsz4 : w4.heap.size ≤ (w4.alloc (.cells #[.string (tx sn), .bool sr, .int .u64 z] 44)).heap.size := hal.size
      have hst : sts (clN (nds xs) gs (ord (nds xs)) (i + 1)) = sts (clN (nds xs) gs (ord (nds xs)) i) ++ [.string (tx sn), .bool sr, .int .u64 z] := by
        rw [HCL.out, sts_app]
        show _ ++ ([Value.string (tx sn), .bool sr, qv sco] ++ []) = _
        rw [HZ.out]
        rfl
      have hcon : ∀ u, fput (conF (clN (nds xs) gs (ord (nds xs)) i)) sn (.int .u64 z) u = conF (clN (nds xs) gs (ord (nds xs)) (i + 1)) u := fun u => by
        rw [HCL.out, ← conF_put, ← HZ.out]
      have ho6 : w5.ownsRow (w1.heap.size + 2) 44 3 (.slice A9 (i + 1) c9) (i + 1) (sts (clN (nds xs) gs (ord (nds xs)) (i + 1))) := by rw [hst]; exact HO5.out
      have ht5 := ((HT4.out.below hal).kept HG5.out (fun e => by have := hob _ e.symm; omega)).same hcon
      have hv5 : w5.heap[w1.heap.size + 1]? = some (.cells #[.map (some w1.heap.size)] 52) := (HG5.out.block _ (by have := HZ4.out; omega) (fun e => by have := hob _ e.symm; omega)).trans ((hal.block _ (by have := HZ4.out; omega)).trans HV4.out)
      have hb5 := ((HB4.out.trans (hal.mono HB4.out.size)).grown HG5.out (by have := HB4.out.size; omega) (fun j hj => by have := hob j hj; omega))
      exact ⟨⟨i + 1, A9, c9, by omega, by go_num, rfl, ho6, ht5, ⟨hv5, Nat.le_trans HZ4.out (Nat.le_trans hsz4 HG5.out.size)⟩, hb5⟩, by simp [intOf]; omega⟩
    · obtain rfl : n = i := by omega
      clear hown ht hv hz hb
      go_wp2
      go_ret2
      exact ⟨⟨A7, c7, rfl, own_less HOWN.out (by have := HB1.out.size; omega)⟩, HBW.out⟩

end Go.Proofs.Ytacjiojfjkonkaa
