/- Layer 23: how great a node is; digests of contents; the same numbers. -/
import Derived.WalkLawsBesides
import Derived.BigQuiet
import Derived.Deep.QuietTactic
import Derived.Test.YtbaokcigfgfoaaaZg
namespace Go.Proofs.Ytbaokcigfgfoaaa
open Go.RowKit

def NSm (x : Nd) : Prop := (∀ d ∈ x.deps, d.length ≤ 300) ∧ x.deps.length ≤ 60 ∧ x.name.length ≤ 300
theorem uinfo2 : (Try.prog.info? 22).map (fun i => (i.zero, i.size, i.bytes)) = some (some (.int .u64 0), 1, 8) := by kernel_rfl

set_option maxRecDepth 100000 in
set_option maxHeartbeats 1000000 in
theorem ngreat_any (x : Nw) (hf : NFits x.d) (hn : x.n ≤ maxLen) (w : World) (hx : NIn w w.heap.size x) :
    Calls Try.prog 6 #[x.val] w fun e w' => Tells (¬ NSm x.d) e ∧ Below w.heap.size w w' := by
  have HL : Hid (x.d.deps.length = x.n) := hx.len
  have HX : Hid (Reads w w.heap.size 1 x.A x.n (x.d.deps.map tsv)) := hx
  have HF := Lib.hid hf
  obtain ⟨⟨nm, sc, ru, ds⟩, xA, n, xc⟩ := x
  unfold Nw.val
  simp only at *
  unfold maxLen at hn
  have h0 := one_new w (.cells #[.string (tx nm), .bool sc, .int .u64 ru, .slice xA n xc] 25)
  have H0 := Lib.hid h0
  have HB0 := Lib.hid ((Below.refl w.heap.size w).alloc (Nat.le_refl _) (.cells #[.string (tx nm), .bool sc, .int .u64 ru, .slice xA n xc] 25))
  have q0 := at_cell (i := 0) h0 rfl
  have q3 := at_cell (i := 3) h0 rfl
  have hs0 := tx_size0 nm
  have hsl := hf.1
  obtain ⟨k, hk⟩ : ∃ k, k = nm.length := ⟨_, rfl⟩
  have HKN := Lib.hid hk
  simp only at hsl
  rw [← hk] at hs0 hsl
  unfold maxLen at hsl
  clear hx hf h0 hk
  go_enter Try.func6, Try.ntmps6
  go_wp2
  go_loopw [8] (fun idx wr => ∃ i : Nat, i ≤ n ∧ idx = .int .i64 (i : Int) ∧ (∀ d ∈ ds.take i, d.length ≤ 300) ∧ wr = w.alloc (.cells #[.string (tx nm), .bool sc, .int .u64 ru, .slice xA n xc] 25)) (fun idx _ => n - (intOf idx).toNat)
  case atStart => exact ⟨0, by omega, rfl, by simp, rfl⟩
  case round =>
    obtain ⟨i, hi, rfl, hsm, rfl⟩ := hrel
    have HSM := Lib.hid hsm
    clear hsm
    by_cases hlt : i < n
    · obtain ⟨s, hs⟩ : ∃ s, ds[i]? = some s := ⟨_, List.getElem?_eq_getElem (by rw [HL.out]; exact hlt)⟩
      obtain ⟨ax, sv, rfl, hxb, hsv, hsc⟩ := (Reads.below HX.out ((Below.refl w.heap.size w).alloc (Nat.le_refl _) (.cells #[.string (tx nm), .bool sc, .int .u64 ru, .slice xA n xc] 25))).at_ hlt
      obtain rfl : sv = tsv s := by rw [List.getElem?_map, hs] at hsv; simpa using hsv.symm
      unfold tsv at hsc
      have hss := tx_size0 s
      have hm0 := List.mem_of_getElem? hs
      have hsl2 := HF.out.2 s hm0
      obtain ⟨q, hq⟩ : ∃ q, q = s.length := ⟨_, rfl⟩
      rw [← hq] at hss hsl2
      unfold maxLen at hsl2
      have HYES : Hid (q ≤ 300 → ∀ d ∈ ds.take (i + 1), d.length ≤ 300) := fun hle d hd => by
        rw [List.take_add_one, hs, List.mem_append] at hd
        rcases hd with hd | hd
        · exact HSM.out d hd
        · simp at hd; subst hd; exact hq ▸ hle
      have HNO : Hid (¬ q ≤ 300 → ¬ NSm ⟨nm, sc, ru, ds⟩) := fun hle h => hle (by rw [hq]; exact h.1 s hm0)
      have hi0 : (0 : Int) ≤ (i : Int) := by omega
      have hi1 : (i : Int) < (n : Int) := by omega
      clear hs hsv hm0 hq
      by_cases hc : q ≤ 300
      · have HY := Lib.hid (HYES.out hc)
        have d1 : decide ((q : Int) > 300) = false := decide_eq_false (by omega)
        go_wp2
        exact ⟨⟨i + 1, by omega, by go_num, HY.out, by first | rfl | trivial⟩, by simp [intOf]; omega⟩
      · have HN := Lib.hid (HNO.out hc)
        have d1 : decide ((q : Int) > 300) = true := decide_eq_true (by omega)
        go_wp2
        go_ret
        exact ⟨tells_true HN.out, HB0.out⟩
    · obtain rfl : i = n := by omega
      rw [List.take_of_length_le (by rw [HL.out]; omega)] at HSM
      by_cases hc : i ≤ 60
      · have d1 : decide ((i : Int) > 60) = false := decide_eq_false (by omega)
        by_cases hd : k ≤ 300
        · have HN : Hid (¬ ¬ NSm ⟨nm, sc, ru, ds⟩) := fun h => h ⟨HSM.out, by show ds.length ≤ 60; rw [HL.out]; exact hc, by show nm.length ≤ 300; rw [← HKN.out]; exact hd⟩
          have d2 : decide ((k : Int) > 300) = false := decide_eq_false (by omega)
          have END : Hid (∀ b : Bool, b = false → Tells (¬ NSm ⟨nm, sc, ru, ds⟩) (.returned (.bool b))) := fun b h => h ▸ tells_false HN.out
          go_wp2
          go_ret
          exact ⟨END.out _ (by first | rfl | (simp; omega)), HB0.out⟩
        · have HN : Hid (¬ NSm ⟨nm, sc, ru, ds⟩) := fun h => hd (by rw [HKN.out]; exact h.2.2)
          have d2 : decide ((k : Int) > 300) = true := decide_eq_true (by omega)
          have END : Hid (∀ b : Bool, b = true → Tells (¬ NSm ⟨nm, sc, ru, ds⟩) (.returned (.bool b))) := fun b h => h ▸ tells_true HN.out
          go_wp2
          go_ret
          exact ⟨END.out _ (by first | rfl | (simp; omega)), HB0.out⟩
      · have HN : Hid (¬ NSm ⟨nm, sc, ru, ds⟩) := fun h => hc (by have := h.2.1; rw [← HL.out]; exact this)
        have d1 : decide ((i : Int) > 60) = true := decide_eq_true (by omega)
        have END : Hid (∀ b : Bool, b = true → Tells (¬ NSm ⟨nm, sc, ru, ds⟩) (.returned (.bool b))) := fun b h => h ▸ tells_true HN.out
        go_wp2
        go_ret
        exact ⟨END.out _ (by first | rfl | (simp; omega)), HB0.out⟩

theorem qs_step {qs : List Q64} {i : Nat} {q : Q64} (h : qs[i]? = some q) : (qs.take (i + 1)).map (fun q => qv (dg q)) = (qs.take i).map (fun q => qv (dg q)) ++ [qv (dg q)] := by
  rw [List.take_add_one, h, List.map_append]
  rfl
theorem qv_one (l : List Q64) : ∀ u ∈ l.map (fun q => qv (dg q)), u.oneCell' = true := fun u hu => by
  obtain ⟨q, _, rfl⟩ := List.mem_map.1 hu
  rfl

def HRel (w : World) (qs : List Q64) (n : Nat) (idx v : Value) (wr : World) : Prop := ∃ i : Nat, i ≤ n ∧ idx = .int .i64 (i : Int) ∧ wr.ownsRow w.heap.size 22 1 v i ((qs.take i).map (fun q => qv (dg q))) ∧ Below w.heap.size w wr
set_option maxRecDepth 100000 in
set_option maxHeartbeats 1000000 in
theorem hashes_any (H : Option Addr) (n d : Nat) (qs : List Q64) (hn : n ≤ 100000) (w : World) (hh : Reads w w.heap.size 1 H n (qs.map qv)) :
    Calls Try.prog 15 #[.slice H n d] w fun e w' => ∃ A' c', e = .returned (.slice A' n c') ∧ (A' = none → c' = 0) ∧ Reads w' w'.heap.size 1 A' n (qs.map (fun q => qv (dg q))) ∧ Below w.heap.size w w' := by
  have HL : Hid (qs.length = n) := by have := hh.1; simp at this; exact this
  have HH := Lib.hid hh
  obtain ⟨i0, ii0, iz0, iz1, iz2⟩ := info_parts uinfo2
  clear hh
  go_enter Try.func15, Try.ntmps15
  go_wp2
  go_loopw [8, 3] (fun idx v wr => HRel w qs n idx v wr) (fun idx _ _ => n - (intOf idx).toNat)
  case atStart => exact ⟨0, by omega, rfl, ⟨by simp, .inl ⟨rfl, rfl⟩⟩, Below.refl _ _⟩
  case round =>
    obtain ⟨i, hi, rfl, ho, hb⟩ := hrel
    obtain ⟨Av, cv, rfl, hav⟩ := own_slice ho
    have HB := Lib.hid hb
    have HO := Lib.hid ho
    have HAV := Lib.hid hav
    by_cases hlt : i < n
    · obtain ⟨q, hq⟩ : ∃ q, qs[i]? = some q := ⟨_, List.getElem?_eq_getElem (by rw [HL.out]; exact hlt)⟩
      obtain ⟨ah, hv, rfl, hxb, hhv, hhc⟩ := (HH.out.below hb).at_ hlt
      obtain rfl : hv = qv q := by rw [List.getElem?_map, hq] at hhv; simpa using hhv.symm
      have HST := Lib.hid (qs_step hq)
      have HOF := Lib.hid (fun W => of_any q W)
      obtain ⟨r, hr⟩ : ∃ r, qv (dg q) = r := ⟨_, rfl⟩
      have HR1 : Hid (r.oneCell' = true) := by rw [← hr]; rfl
      rw [hr] at HST HOF
      obtain ⟨z, hz⟩ : ∃ z, r = .int .u64 z := ⟨((dg q).toNat : Int), hr.symm⟩
      subst hz
      unfold qv at hhc HOF
      generalize (q.toNat : Int) = qn at *
      have hi0 : (0 : Int) ≤ (i : Int) := by omega
      have hi1 : (i : Int) < (n : Int) := by omega
      clear hq hhv hr hb ho hav
      go_wp2_with fail
      refine (HOF.out _).mono ?_
      rintro e w1 ⟨rfl, hb1⟩
      have HB1 := Lib.hid (HB.out.trans (hb1.mono HB.out.size))
      have HO1 := Lib.hid (own_below HO.out hb1)
      clear hb1
      go_wp2_with (at_builtin; refine wpList_append_many _ rfl (.tmp 12) (.tmp 15) 27 rfl w.heap.size 22 i0 _ 1 8 Try.underlying27 ii0 iz0 iz1 iz2 rfl (by decide) (.slice Av i cv) i _ rfl (World.ownsRow.alloc HO1.out (.cells #[.int .u64 z] 22)) (some ⟨w1.heap.size, 0, none⟩) 1 1 (w1.heap.size + 1) [.int .u64 z] rfl (by simp) (reads_one_row w1 22 (.int .u64 z)) (by simp [Value.oneCell']) (by unfold maxLen; omega) (by omega) (by have := HB1.out.size; simp; omega) ?_; intro v8 w8 ho8 hg8; have HO8 := Lib.hid ho8; have HB8 := Lib.hid ((HB1.out.alloc HB1.out.size (.cells #[.int .u64 z] 22)).grown hg8 (by have := HB1.out.size; simp; omega) (fun j hj => own_block HO1.out j hj)); clear ho8 hg8)
      exact ⟨⟨i + 1, by omega, by go_num, by rw [HST.out]; exact HO8.out, HB8.out⟩, by simp [intOf]; omega⟩
    · obtain rfl : i = n := by omega
      rw [List.take_of_length_le (by rw [HL.out]; omega)] at HO
      clear hb ho hav
      go_wp2
      go_ret
      exact ⟨Av, cv, rfl, HAV.out, Reads.of_own HO.out, HB.out⟩

set_option maxRecDepth 100000 in
set_option maxHeartbeats 1000000 in
theorem rhashes_any (H : Option Addr) (n d : Nat) (qs : List Q64) (hn : n ≤ 100000) (w : World) (hh : Reads w w.heap.size 1 H n (qs.map qv)) :
    Calls Try.prog 16 #[.slice H n d] w fun e w' => ∃ A' c', e = .returned (.slice A' n c') ∧ (A' = none → c' = 0) ∧ Reads w' w'.heap.size 1 A' n (qs.map (fun q => qv (dg q))) ∧ Below w.heap.size w w' := by
  have HL : Hid (qs.length = n) := by have := hh.1; simp at this; exact this
  have HH := Lib.hid hh
  obtain ⟨i0, ii0, iz0, iz1, iz2⟩ := info_parts uinfo2
  clear hh
  go_enter Try.func16, Try.ntmps16
  go_wp2
  go_loopw [4, 3] (fun idx v wr => HRel w qs n idx v wr) (fun idx _ _ => n - (intOf idx).toNat)
  case atStart => exact ⟨0, by omega, rfl, own_empty w 22, (Below.refl _ w).alloc (Nat.le_refl _) _⟩
  case round =>
    obtain ⟨i, hi, rfl, ho, hb⟩ := hrel
    obtain ⟨Av, cv, rfl, hav⟩ := own_slice ho
    have HB := Lib.hid hb
    have HO := Lib.hid ho
    have HAV := Lib.hid hav
    by_cases hlt : i < n
    · obtain ⟨q, hq⟩ : ∃ q, qs[i]? = some q := ⟨_, List.getElem?_eq_getElem (by rw [HL.out]; exact hlt)⟩
      obtain ⟨ah, hv, rfl, hxb, hhv, hhc⟩ := (HH.out.below hb).at_ hlt
      obtain rfl : hv = qv q := by rw [List.getElem?_map, hq] at hhv; simpa using hhv.symm
      have HST := Lib.hid (qs_step hq)
      have HOF := Lib.hid (fun W => refof_any q W)
      obtain ⟨r, hr⟩ : ∃ r, qv (dg q) = r := ⟨_, rfl⟩
      have HR1 : Hid (r.oneCell' = true) := by rw [← hr]; rfl
      rw [hr] at HST HOF
      obtain ⟨z, hz⟩ : ∃ z, r = .int .u64 z := ⟨((dg q).toNat : Int), hr.symm⟩
      subst hz
      unfold qv at hhc HOF
      generalize (q.toNat : Int) = qn at *
      have hi0 : (0 : Int) ≤ (i : Int) := by omega
      have hi1 : (i : Int) < (n : Int) := by omega
      clear hq hhv hr hb ho hav
      go_wp2_with fail
      refine (HOF.out _).mono ?_
      rintro e w1 ⟨rfl, rfl⟩
      have HB1 := Lib.hid HB.out
      have HO1 := Lib.hid HO.out
      go_wp2_with (at_builtin; refine wpList_append_many _ rfl (.tmp 12) (.tmp 18) 27 rfl w.heap.size 22 i0 _ 1 8 Try.underlying27 ii0 iz0 iz1 iz2 rfl (by decide) (.slice Av i cv) i _ rfl (World.ownsRow.alloc HO1.out (.cells #[.int .u64 z] 22)) (some ⟨wr.heap.size, 0, none⟩) 1 1 (wr.heap.size + 1) [.int .u64 z] rfl (by simp) (reads_one_row wr 22 (.int .u64 z)) (by simp [Value.oneCell']) (by unfold maxLen; omega) (by omega) (by have := HB1.out.size; simp; omega) ?_; intro v8 w8 ho8 hg8; have HO8 := Lib.hid ho8; have HB8 := Lib.hid ((HB1.out.alloc HB1.out.size (.cells #[.int .u64 z] 22)).grown hg8 (by have := HB1.out.size; simp; omega) (fun j hj => own_block HO1.out j hj)); clear ho8 hg8)
      exact ⟨⟨i + 1, by omega, by go_num, by rw [HST.out]; exact HO8.out, HB8.out⟩, by simp [intOf]; omega⟩
    · obtain rfl : i = n := by omega
      rw [List.take_of_length_le (by rw [HL.out]; omega)] at HO
      clear hb ho hav
      go_wp2
      go_ret
      exact ⟨Av, cv, rfl, HAV.out, Reads.of_own HO.out, HB.out⟩

theorem iv_at {xs : List Int} {i : Nat} {u : Value} (h : (xs.map (Value.int .u64))[i]? = some u) : ∃ x : Int, u = .int .u64 x ∧ xs[i]? = some x := by
  rw [List.getElem?_map] at h
  obtain ⟨x, hx, rfl⟩ := Option.map_eq_some_iff.1 h
  exact ⟨x, rfl, hx⟩

set_option maxRecDepth 100000 in
set_option maxHeartbeats 800000 in
theorem snum_any (A A' : Option Addr) (n c c' B B' : Nat) (xs : List Int) (hn : n ≤ 1073741824) (w : World) (hB : B ≤ w.heap.size) (hB' : B' ≤ w.heap.size) (hr : Reads w B 1 A n (xs.map (Value.int .u64))) (hr' : Reads w B' 1 A' n (xs.map (Value.int .u64))) :
    Calls Try.prog 14 #[.slice A n c, .slice A' n c'] w fun e w' => e = .returned (.bool true) ∧ Below w.heap.size w w' := by
  have HR := Lib.hid hr
  have HR' := Lib.hid hr'
  clear hr hr'
  go_enter Try.func14, Try.ntmps14
  go_wp2
  go_loopw [5] (fun idx wr => ∃ i : Nat, i ≤ n ∧ idx = .int .i64 (i : Int) ∧ Below w.heap.size w wr) (fun idx _ => n - (intOf idx).toNat)
  case atStart => exact ⟨0, by omega, rfl, Below.refl _ _⟩
  case round =>
    obtain ⟨i, hi, rfl, hb⟩ := hrel
    by_cases hlt : i < n
    · obtain ⟨ad, u, rfl, _, hx, hcell⟩ := (HR.out.below (hb.mono hB)).at_ hlt
      obtain ⟨ad', u', rfl, _, hx', hcell'⟩ := (HR'.out.below (hb.mono hB')).at_ hlt
      obtain rfl : u = u' := by rw [hx] at hx'; exact Option.some.inj hx'
      obtain ⟨x, rfl, _⟩ := iv_at hx
      have hi0 : (0 : Int) ≤ (i : Int) := by omega
      have hi1 : (i : Int) < (n : Int) := by omega
      have d1 : (x != x) = false := by simp
      clear hx hx'
      have HB := Lib.hid hb
      clear hb
      go_wp2
      go_quiet (fail)
      go_wp2
      exact ⟨⟨i + 1, by omega, by go_num, HB.out.trans (below_drewN _ _ _)⟩, by simp [intOf]; omega⟩
    · obtain rfl : i = n := by omega
      go_wp2
      go_ret
      exact ⟨rfl, hb⟩

end Go.Proofs.Ytbaokcigfgfoaaa
