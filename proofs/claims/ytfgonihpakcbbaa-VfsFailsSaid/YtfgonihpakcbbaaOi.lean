/- A file put whose row is new; Truncate's closure. -/
import Derived.Test.YtfgonihpakcbbaaOh
import Derived.Test.YtfgonihpakcbbaaOf
namespace Go.Proofs.Ytfgonihpakcbbaa
open Go.RowKit Go.Maps Go.ChangeMaps Go.WideMaps Go.Sort

/-- A file whose row is new memory. -/
theorem files_fresh {W w3 w4 : World} {base b p N k c q : Nat} {d : Bool} {fa ga : Bool × Int} {fl : List UInt8 → Option Fl} {f : List UInt8 → Option Value} {s ys : List UInt8} {A : Option Addr} (h : FilesF W base b N fl f) (hx : FsBox W p b d fa ga) (hb : Below W.heap.size W w3)
    (ho : w3.ownsRow W.heap.size 5 1 (.slice A k c) k (ys.map bv)) (hk : ys.length = k) (hA : A = none → c = 0) (hbase : base ≤ W.heap.size) (hm : TMap w4 b (N + 1) (fput f s (fval A k c q))) (hg : w3.grownBy w4 (some b)) :
    FilesF w4 base b (N + 1) (flput fl s (some ⟨ys, q⟩)) (fput f s (fval A k c q)) ∧ FsBox w4 p b d fa ga ∧ Turn (FsBlk p b f) W w4 ∧ ∀ j, FsBlk p b (fput f s (fval A k c q)) j → FsBlk p b f j ∨ W.heap.size ≤ j := by
  subst hk
  obtain ⟨es0, ck0, hmb⟩ := h.1.heap
  have hblt : b < W.heap.size := lt_heapv hmb
  have hm3 := (hb.block b hblt).trans hmb
  have hpb : p ≠ b := fun e => by
    rw [← e, show W.heap[p]? = some _ from hx] at hmb
    cases hmb
  refine ⟨files_put (w1 := w3) (x := ⟨ys, q⟩) h (fun u y A' c' _ _ _ ho' => own_below ho' hb) hA (own_less ho hbase) (fun u A' n' c' s' _ hu g h1 h2 => ?_) ⟨_, _, hm3⟩ hm hg, ?_, ?_, fun j hj => ?_⟩
  · have := own_block ho g h1
    have := files_lt h hu g h2
    omega
  · exact (hg.block p (Nat.lt_of_lt_of_le hx.lt hb.size) (fun e => hpb (Option.some.inj e))).trans (hx.below hb)
  · exact (Turn.of_below hb).grown hg (fun i hi _ => .inr (.inl (Option.some.inj hi).symm))
  · rcases blk_put hj with h1 | h1
    · exact .inl h1
    · exact .inr (own_block ho j h1)

set_option maxRecDepth 100000 in
set_option maxHeartbeats 4000000 in
theorem trunc_do (p b N base bo bs bf bn : Nat) (d : Bool) (fa ga : Bool × Int) (fl : List UInt8 → Option Fl) (F : List UInt8 → Option Value) (s : List UInt8) (hs : s.length ≤ maxLen) (A : Option Addr) (n c q k : Nat) (body : List UInt8) (hN : N < 1000000) (hn : n ≤ 1073741824) (hnc : n ≤ c) (hcm : c ≤ maxLen) (hA : A = none → c = 0) (hk : k ≤ n) (W : World) (hbase : base ≤ W.heap.size)
    (hx : FsBox W p b d fa ga) (hf : FilesF W base b N fl F) (h0 : W.heap[bo]? = some (.cells #[.slice A n c, .int .i64 (q : Int)] 54)) (h1 : W.heap[bs]? = some (.cells #[.int .i64 (k : Int)] 3)) (h2 : W.heap[bf]? = some (.cells #[.pointer (some ⟨p, 0, none⟩)] 26)) (h3 : W.heap[bn]? = some (.cells #[.string (tx s)] 9)) (hr : Reads W W.heap.size 1 A n (body.map bv)) :
    Calls Try.prog 33 #[.pointer (some ⟨bo, 0, none⟩), .pointer (some ⟨bs, 0, none⟩), .pointer (some ⟨bf, 0, none⟩), .pointer (some ⟨bn, 0, none⟩)] W fun e w' => e = .returned (.tuple #[]) ∧
      ∃ F', FilesF w' base b (N + 1) (flput fl s (some ⟨body.take k, min q k⟩)) F' ∧ FsBox w' p b d fa ga ∧ Turn (FsBlk p b F) W w' ∧ ∀ j, FsBlk p b F' j → FsBlk p b F j ∨ W.heap.size ≤ j := by
  obtain ⟨es0, ck0, hmb⟩ := hf.1.heap
  have hne : ∀ (j : Nat) (cs : Array Value) (T : TypeId), W.heap[j]? = some (.cells cs T (0, 0)) → j ≠ b := fun j cs T hj e => by rw [e, hmb] at hj; cases hj
  have hc : ∀ (j : Nat) (cs : Array Value) (T : TypeId), W.heap[j]? = some (.cells cs T (0, 0)) → ∀ v : World, (∀ j : Nat, j < W.heap.size → j ≠ b → v.heap[j]? = W.heap[j]?) → v.heap[j]? = some (.cells cs T (0, 0)) := fun j cs T hj v hv => (hv j (lt_heapv hj) (hne j cs T hj)).trans hj
  have HCF : Hid (∀ v : World, (∀ j : Nat, j < W.heap.size → j ≠ b → v.heap[j]? = W.heap[j]?) → v.cell? ⟨bf, 0, none⟩ = some (.pointer (some ⟨p, 0, none⟩))) := fun v hv => at_cell (i := 0) (hc bf _ _ h2 v hv) rfl
  have HCN : Hid (∀ v : World, (∀ j : Nat, j < W.heap.size → j ≠ b → v.heap[j]? = W.heap[j]?) → v.cell? ⟨bn, 0, none⟩ = some (.string (tx s))) := fun v hv => at_cell (i := 0) (hc bn _ _ h3 v hv) rfl
  have HCM : Hid (∀ v : World, (∀ j : Nat, j < W.heap.size → j ≠ b → v.heap[j]? = W.heap[j]?) → v.cell? ⟨p, 0, none⟩ = some (.map (some b))) := fun v hv => at_cell (i := 0) (hc p _ _ hx v hv) rfl
  have HC0 : Hid (∀ v : World, (∀ j : Nat, j < W.heap.size → j ≠ b → v.heap[j]? = W.heap[j]?) → v.cell? ⟨bo, 0, none⟩ = some (.slice A n c)) := fun v hv => at_cell (i := 0) (hc bo _ _ h0 v hv) rfl
  have HC1 : Hid (∀ v : World, (∀ j : Nat, j < W.heap.size → j ≠ b → v.heap[j]? = W.heap[j]?) → v.cell? ⟨bo, 1, none⟩ = some (.int .i64 (q : Int))) := fun v hv => at_cell (i := 1) (hc bo _ _ h0 v hv) rfl
  have HCS : Hid (∀ v : World, (∀ j : Nat, j < W.heap.size → j ≠ b → v.heap[j]? = W.heap[j]?) → v.cell? ⟨bs, 0, none⟩ = some (.int .i64 (k : Int))) := fun v hv => at_cell (i := 0) (hc bs _ _ h1 v hv) rfl
  have HX := Lib.hid hx
  have HF := Lib.hid hf
  have HRD := Lib.hid hr
  have HKL : Hid ((body.take k).length = k) := by show _ = _; rw [List.length_take]; have := hr.1; simp at this; omega
  clear hx hf h0 h1 h2 h3 hr hmb hne hc
  go_enter Try.func33, Try.ntmps33
  go_wp2
  refine wp_region_held (S := fun v => ∀ j : Nat, j < W.heap.size → j ≠ b → v.heap[j]? = W.heap[j]?) (by kernel_rfl) (show wpAnyH _ _ _ _ _ _ _ _ (W.drew) from ?_)
  have ONLY : Hid (∀ j : Nat, j < W.heap.size → j ≠ b → W.drew.heap[j]? = W.heap[j]?) := fun _ _ _ => rfl
  have HD : Hid (Below W.heap.size W W.drew) := (Below.refl _ W).drew
  obtain ⟨W0, hW0⟩ : ∃ x, x = W.drew := ⟨_, rfl⟩
  rw [← hW0] at ONLY HD ⊢
  clear hW0
  refine h_take 0 (.pointer (some ⟨p, 0, none⟩)) rfl (by kernel_rfl) (by kernel_rfl) (by kernel_rfl) (fun _ _ _ h => h) (by kernel_rfl) ONLY.out (by intro v hv; have z0 := HCF.out v hv; go_simp) ?_
  refine h_take 1 (.pointer (some ⟨p, 0, none⟩)) rfl (by kernel_rfl) (by kernel_rfl) (by kernel_rfl) (fun _ _ _ h => h) (by kernel_rfl) ONLY.out (by intro v hv; go_simp) ?_
  refine h_take 2 (.pointer (some ⟨p, 0, none⟩)) rfl (by kernel_rfl) (by kernel_rfl) (by kernel_rfl) (fun _ _ _ h => h) (by kernel_rfl) ONLY.out (by intro v hv; go_simp) ?_
  refine h_take 3 (.map (some b)) rfl (by kernel_rfl) (by kernel_rfl) (by kernel_rfl) (fun _ _ _ h => h) (by kernel_rfl) ONLY.out (by intro v hv; have z0 := HCM.out v hv; go_simp) ?_
  refine h_take 4 (.string (tx s)) rfl (by kernel_rfl) (by kernel_rfl) (by kernel_rfl) (fun _ _ _ h => h) (by kernel_rfl) ONLY.out (by intro v hv; have z0 := HCN.out v hv; go_simp) ?_
  refine h_take 5 (fval A n c q) rfl (by kernel_rfl) (by kernel_rfl) (by kernel_rfl) (fun _ _ _ h => h) (by kernel_rfl) ONLY.out (by intro v hv; have z0 := HC0.out v hv; have z1 := HC1.out v hv; unfold fval; go_simp) ?_
  refine h_take 6 (.int .i64 (k : Int)) rfl (by kernel_rfl) (by kernel_rfl) (by kernel_rfl) (fun _ _ _ h => h) (by kernel_rfl) ONLY.out (by intro v hv; have z0 := HCS.out v hv; go_simp) ?_
  refine h_one 7 rfl (by kernel_rfl) (by kernel_rfl) (fun K hK => ?_)
  go_simp
  refine (first_any A n c q k body hn hnc hcm hA hk W0 ((HRD.out.below HD.out).more HD.out.size)).mono ?_
  rintro e w3 ⟨A3, c3, rfl, hA3, ho3, hb3⟩
  have ONLY3 : Hid (∀ j : Nat, j < W.heap.size → j ≠ b → w3.heap[j]? = W.heap[j]?) := fun j h1 h2 => (hb3.block j (Nat.lt_of_lt_of_le h1 HD.out.size)).trans (ONLY.out j h1 h2)
  have HB3 := Lib.hid (HD.out.trans (hb3.mono HD.out.size))
  have HO3 := Lib.hid (own_less ho3 HD.out.size)
  have HM3 := Lib.hid (HF.out.1.below HB3.out)
  clear ho3 hb3
  refine hK _ _ ONLY3.out ?_
  clear hK K
  refine h_one 8 rfl (by kernel_rfl) (by kernel_rfl) (fun K hK => ?_)
  refine wp_tput _ _ _ 46 rfl 54 Try.underlying46 b N F rfl HM3.out (by unfold maxLen; omega) s (fval A3 k c3 (min q k)) rfl rfl hs ?_
  intro w6 hm6 hg6
  have HALL := Lib.hid (files_fresh (s := s) (p := p) HF.out HX.out HB3.out HO3.out HKL.out hA3 hbase hm6 hg6)
  refine hK _ _ (fun j h1 h2 => (hg6.block j (Nat.lt_of_lt_of_le h1 HB3.out.size) (fun e => h2 (Option.some.inj e))).trans (ONLY3.out j h1 h2)) ?_
  clear hK K hm6 hg6
  refine wpAnyH_done (by kernel_rfl) ?_ _
  go_simp
  go_wp2
  go_end0
  exact ⟨rfl, _, HALL.out⟩

end Go.Proofs.Ytfgonihpakcbbaa
