/- FoldFinds. -/
import Derived.Test.YtbgjlkbfelgglaaGo
import Derived.Test.YtbgjlkbfelgglaaTb
namespace Go.Proofs.Ytbgjlkbfelgglaa
open Go.RowKit

def zeroR : Rc := ⟨0, [], 0, 0, 0, []⟩
/-- What is found, said at once. -/
def FAns (xs : List Rw) (u : List UInt8) (r : Rc) (l : List Dp) (b : Bool) : Prop :=
  b = (lastOf xs u).isSome ∧ (r, l) = match lastOf xs u with | some x => x.say | none => (zeroR, [])
theorem fans_one {xs : List Rw} {u : List UInt8} {r r2 : Rc} {l l2 : List Dp} {b b2 : Bool} (h : FAns xs u r l b) (h2 : FAns xs u r2 l2 b2) : (r = r2 ∧ l = l2) ∧ b = b2 := by
  have e := h.2.trans h2.2.symm
  injection e with e1 e2
  exact ⟨⟨e1, e2⟩, h.1.trans h2.1.symm⟩
theorem lastOf_mem {xs : List Rw} {u : List UInt8} {x : Rw} (h : lastOf xs u = some x) : x ∈ xs := by
  have := List.mem_of_find?_eq_some h
  simpa using this
def FUni (xs : List Rw) (u : List UInt8) (w : World) (e : Ending) (w' : World) : Prop :=
  ∃ (r : Rc) (A : Option Addr) (n c : Nat) (l : List Dp) (b : Bool), FAns xs u r l b ∧ e = .returned (.tuple #[rcv r A n c, .bool b]) ∧ n ≤ 1000000 ∧ Reads w' w'.heap.size 3 A n (dps l) ∧ Below w.heap.size w w'
theorem FindPost.uni {own : Bool} {xs : List Rw} {u : List UInt8} {w w' : World} {e : Ending} (hf : ∀ x ∈ xs, x.n ≤ 1000000) (h : FindPost own xs u w e w') : FUni xs u w e w' := by
  rcases h with ⟨h1, rfl, hb⟩ | ⟨x, A, c, h1, rfl, _, h2, hb⟩
  · exact ⟨zeroR, none, 0, 0, [], false, ⟨by rw [h1]; rfl, by rw [h1]⟩, rfl, by omega, Reads.none_, hb⟩
  · refine ⟨x.r, A, x.n, c, x.l, true, ⟨by rw [h1]; rfl, by rw [h1]; rfl⟩, rfl, hf x (lastOf_mem h1), ?_, hb⟩
    cases own
    · exact Reads.more h2 hb.size
    · exact Reads.of_own h2.1

set_option maxRecDepth 100000 in
set_option maxHeartbeats 2000000 in
theorem flaw_any (A B : Option Addr) (n m c d : Nat) (xs ys : List Rw) (u : List UInt8) (hn : n ≤ maxLen) (hm : m ≤ maxLen) (hf : ∀ x ∈ xs, Fits x.r x.l ∧ x.n ≤ maxLen) (hg : ∀ x ∈ ys, Fits x.r x.l ∧ x.n ≤ maxLen) (w : World) (h1 : Recs w w.heap.size A n xs) (h2 : Recs w w.heap.size B m ys) :
    Calls Try.prog 4 #[.slice A n c, .slice B m d, rsv u] w fun e w' => e = .returned (.bool true) ∧ Below w.heap.size w w' := by
  have HFX : Hid (∀ W, Calls Try.prog 9 #[] W fun e w' => e = .returned (.bool true) ∧ Below W.heap.size W w') := ffixed_any
  have rd1 : ∀ W, Below w.heap.size w W → Recs W W.heap.size A n xs := fun W hb => (h1.below hb).more hb.size
  have rd2 : ∀ W, Below w.heap.size w W → Recs W W.heap.size B m ys := fun W hb => (h2.below hb).more hb.size
  have HG1 := Lib.hid (fun W hb => greats_any A n c xs hn hf W (rd1 W hb))
  have HG2 := Lib.hid (fun W hb => greats_any B m d ys hm hg W (rd2 W hb))
  have HBW := Lib.hid (Below.refl w.heap.size w)
  by_cases sm : smalls xs
  · have SM := Lib.hid sm
    by_cases sm2 : smalls ys
    · have SM2 := Lib.hid sm2
      have hl1 : xs.length = n := h1.len
      have hl2 : ys.length = m := h2.len
      have h30 : n ≤ 30 := by rw [← hl1]; exact sm.2
      have h31 : m ≤ 30 := by rw [← hl2]; exact sm2.2
      have sn1 : ∀ x ∈ xs, x.n ≤ 1000000 := fun x hx => by
        have e1 := (h1.2 x hx).1.1
        rw [dps_len] at e1
        have e2 := (sm.1 x hx).2.1
        omega
      have HA : Hid (∀ W, Below w.heap.size w W → Calls Try.prog 16 #[.slice A n c, rsv u] W fun e w' => FUni xs u W e w') := fun W hb =>
        (find_any A n c xs u (by omega) sn1 W (rd1 W hb)).mono fun e w' h => h.uni sn1
      have HB : Hid (∀ W, Below w.heap.size w W → Calls Try.prog 17 #[.slice A n c, rsv u] W fun e w' => FUni xs u W e w') := fun W hb =>
        (rfind_any A n c xs u (by omega) sn1 W (rd1 W hb)).mono fun e w' h => h.uni sn1
      have HS := Lib.hid (fun W hb => fsame_any A B n m c d xs ys (by omega) (by omega) sn1 W (rd1 W hb) (rd2 W hb))
      have HS0 := Lib.hid (fun W hb => fsame_any A A n n c c xs xs (by omega) (by omega) sn1 W (rd1 W hb) (rd1 W hb))
      have HR := Lib.hid (fun W hb => rall_any A B n m c d xs ys (by unfold maxLen; omega) (by unfold maxLen; omega) sn1 W (rd1 W hb) (rd2 W hb))
      unfold rsv at *
      clear h1 h2 hf hg rd1 rd2 sm sm2 hl1 hl2 sn1 hn hm
      by_cases hp : xs.map Rw.say = ys.map Rw.say
      · have HP := Lib.hid hp
        clear hp
        go_enter Try.func4, Try.ntmps4
        go_wp2_with (first
          | (go_at_call 19; refine (HS0.out _ HB9.out).mono ?_; rintro e wa ⟨he, hba⟩; obtain rfl := he.yes (by first | trivial | rfl); have HBA := Lib.hid (HB9.out.trans (hba.mono HB9.out.size)); clear hba)
          | (go_at_call 11; refine (HR.out _ HB8.out).mono ?_; rintro e w9 ⟨he, hb9⟩; obtain rfl := he.yes HP.out; have HB9 := Lib.hid (HB8.out.trans (hb9.mono HB8.out.size)); clear hb9)
          | (go_at_call 19; refine (HS.out _ HB7.out).mono ?_; rintro e w8 ⟨he, hb8⟩; obtain rfl := he.yes HP.out; have HB8 := Lib.hid (HB7.out.trans (hb8.mono HB7.out.size)); clear hb8)
          | (go_at_call 18; refine (rsame_any ⟨k1, t1, u1, o1, m1, g1⟩ ⟨k2, t2, u2, o2, m2, g2⟩ A1 A2 n1 n2 c1 c2 l1 l2 HN1.out _ ((HRD1.out.below HB6.out.2).more HB6.out.2.size) ((HRD2.out.below HB6.out.2).more HB6.out.2.size)).mono ?_; rintro e w7 ⟨q, hq, rfl, hb7⟩; obtain rfl : q = true := hq.2 HEQ.out; have HB7 := Lib.hid (HB6.out.1.trans (hb7.mono HB6.out.1.size)); clear hb7 hq)
          | (go_at_call 9; refine (HFX.out _).mono ?_; rintro e w6 ⟨rfl, hb6⟩; have h7 := (hb6.block w4.heap.size (by have := HLT.out; simp; omega)).trans ((Below.heap_alloc w5 _ w4.heap.size HLT.out).trans H7.out); have h9 := (hb6.block w5.heap.size (by simp)).trans H9.out; have HB6 := Lib.hid (And.intro (HB5.out.trans (hb6.mono HB5.out.size)) (((Below.refl _ w5).alloc (Nat.le_refl _) _).trans (hb6.mono (by simp)))); have a0 := at_cell (i := 0) h7 rfl; have a1 := at_cell (i := 1) h7 rfl; have a2 := at_cell (i := 2) h7 rfl; have a3 := at_cell (i := 3) h7 rfl; have a4 := at_cell (i := 4) h7 rfl; have a5 := at_cell (i := 5) h7 rfl; have a6 := at_cell (i := 6) h7 rfl; have e0 := at_cell (i := 0) h9 rfl; have e1 := at_cell (i := 1) h9 rfl; have e2 := at_cell (i := 2) h9 rfl; have e3 := at_cell (i := 3) h9 rfl; have e4 := at_cell (i := 4) h9 rfl; have e5 := at_cell (i := 5) h9 rfl; have e6 := at_cell (i := 6) h9 rfl; clear hb6 h7 h9)
          | (go_at_call 17; refine (HB.out _ HB4.out).mono ?_; rintro e w5 ⟨r2, A2, n2, c2, l2, b2, ha2, rfl, hn2, hr2, hb5⟩; obtain ⟨heq, hbb⟩ := fans_one HAN1.out ha2; subst hbb; have HEQ := Lib.hid heq; have h7 := (hb5.block w4.heap.size (by simp)).trans H70.out; have H7 := Lib.hid h7; have HLT : Hid (w4.heap.size < w5.heap.size) := (by have := hb5.size; simp at this; show _ < _; omega); have H9 := Lib.hid (one_new w5 (.cells (rcells r2 A2 n2 c2) 26)); have HB50 := HB4.out.trans (hb5.mono HB4.out.size); have HB5 := Lib.hid (HB50.alloc HB50.size (.cells (rcells r2 A2 n2 c2) 26)); have HRD2 := Lib.hid hr2; have HRD1 := Lib.hid ((HRD10.out.below hb5).more hb5.size); clear hb5 hr2 hn2 ha2 heq h7 HB50; unfold rcells at *; obtain ⟨k2, t2, u2, o2, m2, g2⟩ := r2; simp only [rcv, rsv])
          | (go_at_call 16; refine (HA.out _ HB3.out).mono ?_; rintro e w4 ⟨r1, A1, n1, c1, l1, b1, ha1, rfl, hn1, hr1, hb4⟩; have HAN1 := Lib.hid ha1; have HN1 := Lib.hid hn1; have H70 := Lib.hid (one_new w4 (.cells (rcells r1 A1 n1 c1) 26)); have HB40 := HB3.out.trans (hb4.mono HB3.out.size); have HB4 := Lib.hid (HB40.alloc HB40.size (.cells (rcells r1 A1 n1 c1) 26)); have HRD10 := Lib.hid ((hr1.alloc (Nat.le_refl _) (.cells (rcells r1 A1 n1 c1) 26)).more (show w4.heap.size ≤ (w4.alloc (.cells (rcells r1 A1 n1 c1) 26)).heap.size by simp)); clear hb4 hr1 hn1 ha1 HB40; unfold rcells at *; obtain ⟨k1, t1, u1, o1, m1, g1⟩ := r1; simp only [rcv, rsv])
          | (go_at_call 7; refine (HG2.out _ HB2.out).mono ?_; rintro e w3 ⟨he, hb3⟩; obtain rfl := he.no (fun h => h SM2.out); have HB3 := Lib.hid (HB2.out.trans (hb3.mono HB2.out.size)); clear hb3)
          | (go_at_call 7; refine (HG1.out _ HBW.out).mono ?_; rintro e w2 ⟨he, hb2⟩; obtain rfl := he.no (fun h => h SM.out); have HB2 := Lib.hid hb2; clear hb2))
        go_ret
        exact ⟨rfl, HBA.out⟩
      · have HP := Lib.hid hp
        clear hp
        go_enter Try.func4, Try.ntmps4
        go_wp2_with (first
          | (go_at_call 19; refine (HS0.out _ HB9.out).mono ?_; rintro e wa ⟨he, hba⟩; obtain rfl := he.yes (by first | trivial | rfl); have HBA := Lib.hid (HB9.out.trans (hba.mono HB9.out.size)); clear hba)
          | (go_at_call 11; refine (HR.out _ HB8.out).mono ?_; rintro e w9 ⟨he, hb9⟩; obtain rfl := he.no HP.out; have HB9 := Lib.hid (HB8.out.trans (hb9.mono HB8.out.size)); clear hb9)
          | (go_at_call 19; refine (HS.out _ HB7.out).mono ?_; rintro e w8 ⟨he, hb8⟩; obtain rfl := he.no HP.out; have HB8 := Lib.hid (HB7.out.trans (hb8.mono HB7.out.size)); clear hb8)
          | (go_at_call 18; refine (rsame_any ⟨k1, t1, u1, o1, m1, g1⟩ ⟨k2, t2, u2, o2, m2, g2⟩ A1 A2 n1 n2 c1 c2 l1 l2 HN1.out _ ((HRD1.out.below HB6.out.2).more HB6.out.2.size) ((HRD2.out.below HB6.out.2).more HB6.out.2.size)).mono ?_; rintro e w7 ⟨q, hq, rfl, hb7⟩; obtain rfl : q = true := hq.2 HEQ.out; have HB7 := Lib.hid (HB6.out.1.trans (hb7.mono HB6.out.1.size)); clear hb7 hq)
          | (go_at_call 9; refine (HFX.out _).mono ?_; rintro e w6 ⟨rfl, hb6⟩; have h7 := (hb6.block w4.heap.size (by have := HLT.out; simp; omega)).trans ((Below.heap_alloc w5 _ w4.heap.size HLT.out).trans H7.out); have h9 := (hb6.block w5.heap.size (by simp)).trans H9.out; have HB6 := Lib.hid (And.intro (HB5.out.trans (hb6.mono HB5.out.size)) (((Below.refl _ w5).alloc (Nat.le_refl _) _).trans (hb6.mono (by simp)))); have a0 := at_cell (i := 0) h7 rfl; have a1 := at_cell (i := 1) h7 rfl; have a2 := at_cell (i := 2) h7 rfl; have a3 := at_cell (i := 3) h7 rfl; have a4 := at_cell (i := 4) h7 rfl; have a5 := at_cell (i := 5) h7 rfl; have a6 := at_cell (i := 6) h7 rfl; have e0 := at_cell (i := 0) h9 rfl; have e1 := at_cell (i := 1) h9 rfl; have e2 := at_cell (i := 2) h9 rfl; have e3 := at_cell (i := 3) h9 rfl; have e4 := at_cell (i := 4) h9 rfl; have e5 := at_cell (i := 5) h9 rfl; have e6 := at_cell (i := 6) h9 rfl; clear hb6 h7 h9)
          | (go_at_call 17; refine (HB.out _ HB4.out).mono ?_; rintro e w5 ⟨r2, A2, n2, c2, l2, b2, ha2, rfl, hn2, hr2, hb5⟩; obtain ⟨heq, hbb⟩ := fans_one HAN1.out ha2; subst hbb; have HEQ := Lib.hid heq; have h7 := (hb5.block w4.heap.size (by simp)).trans H70.out; have H7 := Lib.hid h7; have HLT : Hid (w4.heap.size < w5.heap.size) := (by have := hb5.size; simp at this; show _ < _; omega); have H9 := Lib.hid (one_new w5 (.cells (rcells r2 A2 n2 c2) 26)); have HB50 := HB4.out.trans (hb5.mono HB4.out.size); have HB5 := Lib.hid (HB50.alloc HB50.size (.cells (rcells r2 A2 n2 c2) 26)); have HRD2 := Lib.hid hr2; have HRD1 := Lib.hid ((HRD10.out.below hb5).more hb5.size); clear hb5 hr2 hn2 ha2 heq h7 HB50; unfold rcells at *; obtain ⟨k2, t2, u2, o2, m2, g2⟩ := r2; simp only [rcv, rsv])
          | (go_at_call 16; refine (HA.out _ HB3.out).mono ?_; rintro e w4 ⟨r1, A1, n1, c1, l1, b1, ha1, rfl, hn1, hr1, hb4⟩; have HAN1 := Lib.hid ha1; have HN1 := Lib.hid hn1; have H70 := Lib.hid (one_new w4 (.cells (rcells r1 A1 n1 c1) 26)); have HB40 := HB3.out.trans (hb4.mono HB3.out.size); have HB4 := Lib.hid (HB40.alloc HB40.size (.cells (rcells r1 A1 n1 c1) 26)); have HRD10 := Lib.hid ((hr1.alloc (Nat.le_refl _) (.cells (rcells r1 A1 n1 c1) 26)).more (show w4.heap.size ≤ (w4.alloc (.cells (rcells r1 A1 n1 c1) 26)).heap.size by simp)); clear hb4 hr1 hn1 ha1 HB40; unfold rcells at *; obtain ⟨k1, t1, u1, o1, m1, g1⟩ := r1; simp only [rcv, rsv])
          | (go_at_call 7; refine (HG2.out _ HB2.out).mono ?_; rintro e w3 ⟨he, hb3⟩; obtain rfl := he.no (fun h => h SM2.out); have HB3 := Lib.hid (HB2.out.trans (hb3.mono HB2.out.size)); clear hb3)
          | (go_at_call 7; refine (HG1.out _ HBW.out).mono ?_; rintro e w2 ⟨he, hb2⟩; obtain rfl := he.no (fun h => h SM.out); have HB2 := Lib.hid hb2; clear hb2))
        go_ret
        exact ⟨rfl, HBA.out⟩
    · have SM2 := Lib.hid sm2
      unfold rsv
      clear h1 h2 hf hg rd1 rd2 sm sm2 hn hm
      go_enter Try.func4, Try.ntmps4
      go_wp2_with (first
        | (go_at_call 9; refine (HFX.out _).mono ?_; rintro e w4 ⟨rfl, hb4⟩; have HB4 := Lib.hid (HB3.out.trans (hb4.mono HB3.out.size)); clear hb4)
        | (go_at_call 7; refine (HG2.out _ HB2.out).mono ?_; rintro e w3 ⟨he, hb3⟩; obtain rfl := he.yes SM2.out; have HB3 := Lib.hid (HB2.out.trans (hb3.mono HB2.out.size)); clear hb3)
        | (go_at_call 7; refine (HG1.out _ HBW.out).mono ?_; rintro e w2 ⟨he, hb2⟩; obtain rfl := he.no (fun h => h SM.out); have HB2 := Lib.hid hb2; clear hb2))
      go_ret
      exact ⟨rfl, HB4.out⟩
  · have SM := Lib.hid sm
    unfold rsv
    clear h1 h2 hf hg rd1 rd2 sm hn hm
    go_enter Try.func4, Try.ntmps4
    go_wp2_with (first
      | (go_at_call 9; refine (HFX.out _).mono ?_; rintro e w4 ⟨rfl, hb4⟩; have HB4 := Lib.hid (HB2.out.trans (hb4.mono HB2.out.size)); clear hb4)
      | (go_at_call 7; refine (HG1.out _ HBW.out).mono ?_; rintro e w2 ⟨he, hb2⟩; obtain rfl := he.yes SM.out; have HB2 := Lib.hid hb2; clear hb2))
    go_ret
    exact ⟨rfl, HB4.out⟩

end Go.Proofs.Ytbgjlkbfelgglaa
