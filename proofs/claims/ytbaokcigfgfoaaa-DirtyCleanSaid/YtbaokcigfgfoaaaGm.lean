/- fold.Find, and the document's. -/
import Derived.WalkLawsBesides
import Derived.Test.YtbaokcigfgfoaaaGb
import Derived.Test.YtbaokcigfgfoaaaRk
namespace Go.Proofs.Ytbaokcigfgfoaaa
open Go.RowKit

/-- What is found of a target: the last trace of it. -/
def lastOf (xs : List Rw) (u : List UInt8) : Option Rw := xs.reverse.find? fun s => s.k == 1 && s.t == u
theorem lastOf_snoc {xs : List Rw} {i : Nat} {x : Rw} (hx : xs[i]? = some x) (u : List UInt8) : lastOf (xs.take (i + 1)) u = if x.k = 1 ∧ x.t = u then some x else lastOf (xs.take i) u := by
  unfold lastOf
  rw [List.take_add_one, hx]
  by_cases h1 : x.k = 1 <;> by_cases h2 : x.t = u <;> simp [h1, h2]

def FindPost (own : Bool) (xs : List Rw) (u : List UInt8) (w : World) (e : Ending) (w' : World) : Prop :=
  (lastOf xs u = none ∧ e = .returned (.tuple #[rcv ⟨0, [], 0, 0, 0, []⟩ none 0 0, .bool false]) ∧ Below w.heap.size w w') ∨
    ∃ x A c, lastOf xs u = some x ∧ e = .returned (.tuple #[rcv x.r A x.n c, .bool true]) ∧ (A = none → c = 0) ∧ (if own then Deps w' w.heap.size A x.n c x.l else Reads w' w.heap.size 3 A x.n (dps x.l)) ∧ Below w.heap.size w w'

theorem gresults_cell_tmp_row {P : Program} {fn : Func} {u p : Tmp} {ty : TypeId} (h : fn.results = #[.cell p ty, .tmp u]) (tmps : Array Value) (w : World) (g : Nat) (t : TypeId) (cs : Array Value) (fr : Nat × Nat) (d : TypeDesc)
    (hp : tmps.getD p undef = .pointer (some ⟨g, 0, none⟩)) (hg : w.heap[g]? = some (.cells cs t fr))
    (hu : P.underlying ty = some d) (hd : (match d with | .struct _ | .array _ _ => true | _ => false) = true) (hi : (P.info? ty).map (·.size) = some cs.size) :
    (results fn tmps).run P w = .ok (.tuple #[.agg cs, tmps.getD u undef]) w := by
  have hp' : tmps[p]?.getD undef = .pointer (some ⟨g, 0, none⟩) := by simpa using hp
  simp [results, h, hp', asAddr, run_loadVar_row w g t ty cs fr d hg hu hd hi]
theorem tx_nil0 : tx [] = { data := #[] } := rfl

set_option maxRecDepth 100000 in
set_option maxHeartbeats 1000000 in
theorem find_any (A : Option Addr) (n c : Nat) (xs : List Rw) (u : List UInt8) (hn : n ≤ 100000) (hf : ∀ x ∈ xs, x.n ≤ 1000000) (w : World) (h : Recs w w.heap.size A n xs) :
    Calls Try.prog 19 #[.slice A n c, rsv u] w fun e w' => FindPost true xs u w e w' := by
  have hl0 : xs.length = n := h.len
  have HL := Lib.hid hl0
  have H1 := Lib.hid h
  have HF := Lib.hid hf
  unfold rsv
  have hbx := one_new w (.cells #[.int .i64 0, .string { data := #[] }, .int .u64 0, .slice none 0 0, .int .u64 0, .int .u64 0, .string { data := #[] }] 36)
  have HBX := Lib.hid hbx
  have HB0 := Lib.hid ((Below.refl w.heap.size w).alloc (Nat.le_refl _) (.cells #[.int .i64 0, .string { data := #[] }, .int .u64 0, .slice none 0 0, .int .u64 0, .int .u64 0, .string { data := #[] }] 36))
  clear h hf hbx
  go_enter Try.func19, Try.ntmps19
  go_wp2
  go_loopw [6] (fun idx wr => ∃ (i : Nat), i ≤ n ∧ idx = .int .i64 ((i : Int) - 1) ∧ lastOf xs u = lastOf (xs.take i) u ∧ (∃ q, wr = (w.alloc (.cells #[.int .i64 0, .string { data := #[] }, .int .u64 0, .slice none 0 0, .int .u64 0, .int .u64 0, .string { data := #[] }] 36)).drewN q)) (fun idx _ => (intOf idx + 1).toNat)
  case atStart => exact ⟨n, by omega, rfl, by rw [List.take_of_length_le (by rw [HL.out]; omega)], 0, rfl⟩
  case round =>
    obtain ⟨i, hi, rfl, hlast, q, rfl⟩ := hrel
    rcases Nat.eq_zero_or_pos i with h0 | h0
    · subst h0
      have hno : lastOf xs u = none := by rw [hlast]; rfl
      have HNO := Lib.hid hno
      clear hlast hno
      have HH : Hid (((w.alloc (.cells #[.int .i64 0, .string { data := #[] }, .int .u64 0, .slice none 0 0, .int .u64 0, .int .u64 0, .string { data := #[] }] 36)).drewN q).heap[w.heap.size]? = some (.cells #[.int .i64 0, .string { data := #[] }, .int .u64 0, .slice none 0 0, .int .u64 0, .int .u64 0, .string { data := #[] }] 36 (0, 0))) := HBX.out
      have HFIN := Lib.hid (setRow_heap ((w.alloc (.cells #[.int .i64 0, .string { data := #[] }, .int .u64 0, .slice none 0 0, .int .u64 0, .int .u64 0, .string { data := #[] }] 36)).drewN q) w.heap.size _ #[.int .i64 0, .string { data := #[] }, .int .u64 0, .slice none 0 0, .int .u64 0, .int .u64 0, .string { data := #[] }] _ _ HBX.out)
      have HBE := Lib.hid ((below_drewN2 HB0.out q).grown (grownBy_setRow ((w.alloc (.cells #[.int .i64 0, .string { data := #[] }, .int .u64 0, .slice none 0 0, .int .u64 0, .int .u64 0, .string { data := #[] }] 36)).drewN q) w.heap.size #[.int .i64 0, .string { data := #[] }, .int .u64 0, .slice none 0 0, .int .u64 0, .int .u64 0, .string { data := #[] }]) (below_drewN2 HB0.out q).size (fun j hj => by cases hj; exact Nat.le_refl _))
      go_wp2_with ((with_reducible show wpList _ _ _ (Oper.mk _ (Op.store _ _ _) _ _ _ _ :: _) _ _); refine wpList_store_row rfl 36 (.tmp 4) (.tmp 34) rfl w.heap.size #[.int .i64 0, .string { data := #[] }, .int .u64 0, .slice none 0 0, .int .u64 0, .int .u64 0, .string { data := #[] }] rfl rfl 36 _ HH.out (by kernel_rfl) rfl (by simp [Value.oneCell']) ?_)
      refine bodyPost_ret (gresults_cell_tmp_row Try.results19 _ _ w.heap.size _ _ (0, 0) _ rfl HFIN.out Try.underlying36 rfl (by kernel_rfl)) rfl ?_
      exact .inl ⟨HNO.out, rfl, HBE.out⟩
    · obtain ⟨j, rfl⟩ : ∃ j, i = j + 1 := ⟨i - 1, by omega⟩
      have e1 : (((j + 1 : Nat) : Int) - 1) = (j : Int) := by omega
      rw [e1]
      obtain ⟨x, hx⟩ : ∃ x, xs[j]? = some x := ⟨_, List.getElem?_eq_getElem (by rw [HL.out]; omega)⟩
      have hm := List.mem_of_getElem? hx
      have hnx := HF.out x hm
      have hrx := H1.out.2 x hm
      have HRX := Lib.hid hrx.1
      obtain ⟨ad, rfl, _, k0, k1, k2, k3, k4, k5, k6⟩ := recs_cells (H1.out.below (below_drewN2 HB0.out q)).1 j x hx
      rw [lastOf_snoc hx] at hlast
      have hun1 : x.t ≠ u → ((tx x.t).toList == (tx u).toList) = false := tx_unlike
      have hun2 : x.t = u → ((tx x.t).toList == (tx u).toList) = true := fun e => by rw [e]; exact tx_like u
      obtain ⟨⟨k, t, ru, ro, rm, rg⟩, A4, n4, c4, l4⟩ := x
      unfold Rw.t Rw.k at hlast
      unfold Rw.t at hun1 hun2
      simp only at k0 k1 k2 k3 k4 k5 k6 hlast hun1 hun2 HRX hrx hnx
      have hi0 : (0 : Int) ≤ (j : Int) := by omega
      have hi1 : (j : Int) < (n : Int) := by omega
      have hwj : IntKind.i64.wrap ((j : Int) - 1) = (j : Int) - 1 := wrap_small (by omega) (by omega)
      by_cases hc : k = 1 ∧ t = u
      · obtain ⟨rfl, rfl⟩ := hc
        rw [if_pos ⟨rfl, rfl⟩] at hlast
        have HLA := Lib.hid hlast
        have hq := hun2 rfl
        have HCL := Lib.hid (fun W h => rclone_any ⟨1, t, ru, ro, rm, rg⟩ A4 n4 c4 l4 hrx.2 hnx W h)
        unfold rcv rsv at HCL
        simp only at HCL
        clear hx hm hrx hnx hlast hun1 hun2 e1 hwj
        go_wp2_with fail
        refine (HCL.out _ ((HRX.out.below (below_drewN2 HB0.out _)).more (below_drewN2 HB0.out _).size)).mono ?_
        rintro e w2 ⟨A5, c5, rfl, hd2, hb2⟩
        have hz1 : ((w.alloc (.cells #[.int .i64 0, .string { data := #[] }, .int .u64 0, .slice none 0 0, .int .u64 0, .int .u64 0, .string { data := #[] }] 36)).drewN q).heap.size = w.heap.size + 1 := by show (w.alloc _).heap.size = _; simp
        rw [hz1] at hd2 hb2
        have HH := Lib.hid ((hb2.block w.heap.size (by omega)).trans HBX.out)
        have HFIN := Lib.hid (setRow_heap w2 w.heap.size _ #[.int .i64 1, .string (tx t), .int .u64 ru, .slice A5 n4 c5, .int .u64 ro, .int .u64 rm, .string (tx rg)] _ _ HH.out)
        have HBE := Lib.hid (((below_drewN2 HB0.out q).trans (hb2.mono (by omega))).grown (grownBy_setRow w2 w.heap.size #[.int .i64 1, .string (tx t), .int .u64 ru, .slice A5 n4 c5, .int .u64 ro, .int .u64 rm, .string (tx rg)]) (by have := hb2.size; omega) (fun j hj => by cases hj; exact Nat.le_refl _))
        have HDE : Hid (Deps (w2.setRow w.heap.size #[.int .i64 1, .string (tx t), .int .u64 ru, .slice A5 n4 c5, .int .u64 ro, .int .u64 rm, .string (tx rg)]) w.heap.size A5 n4 c5 l4) := ⟨(own_less hd2.1 (by omega)).kept (grownBy_setRow w2 w.heap.size #[.int .i64 1, .string (tx t), .int .u64 ru, .slice A5 n4 c5, .int .u64 ro, .int .u64 rm, .string (tx rg)]) (by
          cases hv : (Value.slice A5 n4 c5).ownBlock with
          | none => exact .inl rfl
          | some j => exact .inr (fun e => by have := own_block hd2.1 j hv; injection e with e; omega)), hd2.2⟩
        have HAC := Lib.hid hd2.2
        clear hd2 hb2 hz1
        go_wp2_with ((with_reducible show wpList _ _ _ (Oper.mk _ (Op.store _ _ _) _ _ _ _ :: _) _ _); refine wpList_store_row rfl 36 (.tmp 4) (.tmp 33) rfl w.heap.size #[.int .i64 1, .string (tx t), .int .u64 ru, .slice A5 n4 c5, .int .u64 ro, .int .u64 rm, .string (tx rg)] rfl rfl 36 _ HH.out (by kernel_rfl) rfl (by simp [Value.oneCell']) ?_)
        refine bodyPost_ret (gresults_cell_tmp_row Try.results19 _ _ w.heap.size _ _ (0, 0) _ rfl HFIN.out Try.underlying36 rfl (by kernel_rfl)) rfl ?_
        exact .inr ⟨_, A5, c5, HLA.out, rfl, HAC.out, HDE.out, HBE.out⟩
      · rw [if_neg hc] at hlast
        have HLA := Lib.hid hlast
        by_cases hk : k = 1
        · subst hk
          have hq := hun1 (fun e => hc ⟨rfl, e⟩)
          clear hx hm hrx hnx hlast hun1 hun2 e1 hc
          go_wp2
          exact ⟨⟨j, by omega, by go_num, HLA.out, _, rfl⟩, by simp [intOf] <;> omega⟩
        · have d1 : decide (k = 1) = false := decide_eq_false hk
          clear hx hm hrx hnx hlast hun1 hun2 e1 hc
          have d2 : (k == 1) = false := by rw [beq_eq_false_iff_ne]; exact hk
          go_wp2
          exact ⟨⟨j, by omega, by go_num, HLA.out, _, rfl⟩, by simp [intOf] <;> omega⟩

set_option maxRecDepth 100000 in
set_option maxHeartbeats 1000000 in
theorem rfind_any (A : Option Addr) (n c : Nat) (xs : List Rw) (u : List UInt8) (hn : n ≤ 100000) (hf : ∀ x ∈ xs, x.n ≤ 1000000) (w : World) (h : Recs w w.heap.size A n xs) :
    Calls Try.prog 21 #[.slice A n c, rsv u] w fun e w' => FindPost false xs u w e w' := by
  have hl0 : xs.length = n := h.len
  have HL := Lib.hid hl0
  have H1 := Lib.hid h
  have HF := Lib.hid hf
  unfold rsv
  have hbx := one_new w (.cells #[.int .i64 0, .string { data := #[] }, .int .u64 0, .slice none 0 0, .int .u64 0, .int .u64 0, .string { data := #[] }] 36)
  have HBX := Lib.hid hbx
  have HB0 := Lib.hid ((Below.refl w.heap.size w).alloc (Nat.le_refl _) (.cells #[.int .i64 0, .string { data := #[] }, .int .u64 0, .slice none 0 0, .int .u64 0, .int .u64 0, .string { data := #[] }] 36))
  clear h hf hbx
  go_enter Try.func21, Try.ntmps21
  go_wp2
  go_loopw [6] (fun idx wr => ∃ (i : Nat), i ≤ n ∧ idx = .int .i64 ((i : Int) - 1) ∧ lastOf xs u = lastOf (xs.take i) u ∧ (∃ q, wr = (w.alloc (.cells #[.int .i64 0, .string { data := #[] }, .int .u64 0, .slice none 0 0, .int .u64 0, .int .u64 0, .string { data := #[] }] 36)).drewN q)) (fun idx _ => (intOf idx + 1).toNat)
  case atStart => exact ⟨n, by omega, rfl, by rw [List.take_of_length_le (by rw [HL.out]; omega)], 0, rfl⟩
  case round =>
    obtain ⟨i, hi, rfl, hlast, q, rfl⟩ := hrel
    rcases Nat.eq_zero_or_pos i with h0 | h0
    · subst h0
      have hno : lastOf xs u = none := by rw [hlast]; rfl
      have HNO := Lib.hid hno
      clear hlast hno
      have HH : Hid (((w.alloc (.cells #[.int .i64 0, .string { data := #[] }, .int .u64 0, .slice none 0 0, .int .u64 0, .int .u64 0, .string { data := #[] }] 36)).drewN q).heap[w.heap.size]? = some (.cells #[.int .i64 0, .string { data := #[] }, .int .u64 0, .slice none 0 0, .int .u64 0, .int .u64 0, .string { data := #[] }] 36 (0, 0))) := HBX.out
      have HFIN := Lib.hid (setRow_heap ((w.alloc (.cells #[.int .i64 0, .string { data := #[] }, .int .u64 0, .slice none 0 0, .int .u64 0, .int .u64 0, .string { data := #[] }] 36)).drewN q) w.heap.size _ #[.int .i64 0, .string { data := #[] }, .int .u64 0, .slice none 0 0, .int .u64 0, .int .u64 0, .string { data := #[] }] _ _ HBX.out)
      have HBE := Lib.hid ((below_drewN2 HB0.out q).grown (grownBy_setRow ((w.alloc (.cells #[.int .i64 0, .string { data := #[] }, .int .u64 0, .slice none 0 0, .int .u64 0, .int .u64 0, .string { data := #[] }] 36)).drewN q) w.heap.size #[.int .i64 0, .string { data := #[] }, .int .u64 0, .slice none 0 0, .int .u64 0, .int .u64 0, .string { data := #[] }]) (below_drewN2 HB0.out q).size (fun j hj => by cases hj; exact Nat.le_refl _))
      go_wp2_with ((with_reducible show wpList _ _ _ (Oper.mk _ (Op.store _ _ _) _ _ _ _ :: _) _ _); refine wpList_store_row rfl 36 (.tmp 4) (.tmp 33) rfl w.heap.size #[.int .i64 0, .string { data := #[] }, .int .u64 0, .slice none 0 0, .int .u64 0, .int .u64 0, .string { data := #[] }] rfl rfl 36 _ HH.out (by kernel_rfl) rfl (by simp [Value.oneCell']) ?_)
      refine bodyPost_ret (gresults_cell_tmp_row Try.results21 _ _ w.heap.size _ _ (0, 0) _ rfl HFIN.out Try.underlying36 rfl (by kernel_rfl)) rfl ?_
      exact .inl ⟨HNO.out, rfl, HBE.out⟩
    · obtain ⟨j, rfl⟩ : ∃ j, i = j + 1 := ⟨i - 1, by omega⟩
      have e1 : (((j + 1 : Nat) : Int) - 1) = (j : Int) := by omega
      rw [e1]
      obtain ⟨x, hx⟩ : ∃ x, xs[j]? = some x := ⟨_, List.getElem?_eq_getElem (by rw [HL.out]; omega)⟩
      have hm := List.mem_of_getElem? hx
      have hnx := HF.out x hm
      have hrx := H1.out.2 x hm
      have HRX := Lib.hid hrx.1
      obtain ⟨ad, rfl, _, k0, k1, k2, k3, k4, k5, k6⟩ := recs_cells (H1.out.below (below_drewN2 HB0.out q)).1 j x hx
      rw [lastOf_snoc hx] at hlast
      have hun1 : x.t ≠ u → ((tx x.t).toList == (tx u).toList) = false := tx_unlike
      have hun2 : x.t = u → ((tx x.t).toList == (tx u).toList) = true := fun e => by rw [e]; exact tx_like u
      obtain ⟨⟨k, t, ru, ro, rm, rg⟩, A4, n4, c4, l4⟩ := x
      unfold Rw.t Rw.k at hlast
      unfold Rw.t at hun1 hun2
      simp only at k0 k1 k2 k3 k4 k5 k6 hlast hun1 hun2 HRX hrx hnx
      have hi0 : (0 : Int) ≤ (j : Int) := by omega
      have hi1 : (j : Int) < (n : Int) := by omega
      have hwj : IntKind.i64.wrap ((j : Int) - 1) = (j : Int) - 1 := wrap_small (by omega) (by omega)
      by_cases hc : k = 1 ∧ t = u
      · obtain ⟨rfl, rfl⟩ := hc
        rw [if_pos ⟨rfl, rfl⟩] at hlast
        have HLA := Lib.hid hlast
        have hq := hun2 rfl
        have HAC := Lib.hid hrx.2
        clear hx hm hrx hnx hlast hun1 hun2 e1 hwj
        have HFIN := Lib.hid (setRow_heap ((w.alloc (.cells #[.int .i64 0, .string { data := #[] }, .int .u64 0, .slice none 0 0, .int .u64 0, .int .u64 0, .string { data := #[] }] 36)).drewN q) w.heap.size _ #[.int .i64 1, .string (tx t), .int .u64 ru, .slice A4 n4 c4, .int .u64 ro, .int .u64 rm, .string (tx rg)] _ _ HBX.out)
        have HBE := Lib.hid ((below_drewN2 HB0.out q).grown (grownBy_setRow ((w.alloc (.cells #[.int .i64 0, .string { data := #[] }, .int .u64 0, .slice none 0 0, .int .u64 0, .int .u64 0, .string { data := #[] }] 36)).drewN q) w.heap.size #[.int .i64 1, .string (tx t), .int .u64 ru, .slice A4 n4 c4, .int .u64 ro, .int .u64 rm, .string (tx rg)]) (below_drewN2 HB0.out q).size (fun j hj => by cases hj; exact Nat.le_refl _))
        have HH : Hid (((w.alloc (.cells #[.int .i64 0, .string { data := #[] }, .int .u64 0, .slice none 0 0, .int .u64 0, .int .u64 0, .string { data := #[] }] 36)).drewN q).heap[w.heap.size]? = some (.cells #[.int .i64 0, .string { data := #[] }, .int .u64 0, .slice none 0 0, .int .u64 0, .int .u64 0, .string { data := #[] }] 36 (0, 0))) := HBX.out
        have HRE := Lib.hid (HRX.out.below HBE.out)
        go_wp2_with ((with_reducible show wpList _ _ _ (Oper.mk _ (Op.store _ _ _) _ _ _ _ :: _) _ _); refine wpList_store_row rfl 36 (.tmp 4) (.tmp 32) rfl w.heap.size #[.int .i64 1, .string (tx t), .int .u64 ru, .slice A4 n4 c4, .int .u64 ro, .int .u64 rm, .string (tx rg)] rfl rfl 36 _ HH.out (by kernel_rfl) rfl (by simp [Value.oneCell']) ?_)
        refine bodyPost_ret (gresults_cell_tmp_row Try.results21 _ _ w.heap.size _ _ (0, 0) _ rfl HFIN.out Try.underlying36 rfl (by kernel_rfl)) rfl ?_
        exact .inr ⟨_, A4, c4, HLA.out, rfl, HAC.out, HRE.out, HBE.out⟩
      · rw [if_neg hc] at hlast
        have HLA := Lib.hid hlast
        by_cases hk : k = 1
        · subst hk
          have hq := hun1 (fun e => hc ⟨rfl, e⟩)
          clear hx hm hrx hnx hlast hun1 hun2 e1 hc
          go_wp2
          exact ⟨⟨j, by omega, by go_num, HLA.out, _, rfl⟩, by simp [intOf] <;> omega⟩
        · have d1 : decide (k = 1) = false := decide_eq_false hk
          clear hx hm hrx hnx hlast hun1 hun2 e1 hc
          have d2 : (k == 1) = false := by rw [beq_eq_false_iff_ne]; exact hk
          go_wp2
          exact ⟨⟨j, by omega, by go_num, HLA.out, _, rfl⟩, by simp [intOf] <;> omega⟩

end Go.Proofs.Ytbaokcigfgfoaaa
