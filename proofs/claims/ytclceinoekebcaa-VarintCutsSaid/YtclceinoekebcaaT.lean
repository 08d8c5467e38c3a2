/- The walk of VarintCuts: it returns true at any numbers and any cut. -/
import Derived.Test.YtclceinoekebcaaG
import Derived.Test.YtclceinoekebcaaL
import Derived.Test.YtclceinoekebcaaF
namespace Go.Proofs.Ytclceinoekebcaa
open Go.RowKit Go.Shelf

/-- A number of 64 bits as a value of Go. -/
def nv (n : Nat) : Value := .int .u64 (n : Int)

/-- At the head of a round of the first loop: so many numbers have been laid. -/
def TRel (w : World) (ns : List Nat) (v idx : Value) (wr : World) : Prop :=
  ∃ i A c, i ≤ ns.length ∧ idx = .int .i64 (i : Int) ∧ v = .slice A (lay (ns.take i)).length c ∧ (lay (ns.take i)).length ≤ c ∧ Reads wr wr.heap.size 1 A (lay (ns.take i)).length ((lay (ns.take i)).map bv) ∧ Below w.heap.size w wr

/-- At the head of a round of the second loop: so many numbers have been read. -/
def URel (wo : World) (ns : List Nat) (en : Nat) (at_ idx : Value) (wr : World) : Prop :=
  ∃ j, j ≤ ns.length ∧ idx = .int .i64 (j : Int) ∧ at_ = .int .i64 ((lay (ns.take j)).length : Int) ∧ (lay (ns.take j)).length ≤ en ∧ Below wo.heap.size wo wr

set_option maxRecDepth 100000 in
set_option maxHeartbeats 400000 in
theorem cuts_long (A : Option Addr) (n c : Nat) (cut : Int) (h : 40 < n) (w : World) :
    Calls Try.prog 6 #[.slice A n c, .int .u16 cut] w fun e w' => e = .returned (.bool true) ∧ Below w.heap.size w w' := by
  go_enter Try.func6, Try.ntmps6
  go_wp2_with (go_at_call 7; refine (fixed_any _).mono ?_; rintro e w3 ⟨rfl, hb3⟩)
  go_ret
  exact ⟨rfl, hb3⟩

theorem num_at {ns : List Nat} {i : Nat} {u : Value} (h : (ns.map nv)[i]? = some u) : ∃ x : Nat, u = .int .u64 (x : Int) ∧ ns[i]? = some x := by
  rw [List.getElem?_map] at h
  obtain ⟨x, hx, rfl⟩ := Option.map_eq_some_iff.1 h
  exact ⟨x, rfl, hx⟩

set_option maxRecDepth 100000 in
set_option maxHeartbeats 1000000 in
theorem cuts_short (A : Option Addr) (c cut : Nat) (ns : List Nat) (n : Nat) (hn : n ≤ 40) (hnn : n = ns.length) (hcut : cut < 65536) (ht : ∀ x ∈ ns, x < top) (w : World) (hr : Reads w w.heap.size 1 A n (ns.map nv)) :
    Calls Try.prog 6 #[.slice A n c, .int .u16 (cut : Int)] w fun e w' => e = .returned (.bool true) ∧ Below w.heap.size w w' := by
  have HT := Lib.hid ht
  have HNN := Lib.hid hnn
  clear ht hnn
  go_enter Try.func6, Try.ntmps6
  go_wp2
  go_loopw [5, 21] (fun v idx wr => TRel w ns v idx wr) (fun v idx wr => n - (intOf idx).toNat)
  case atStart => exact ⟨0, none, 0, by omega, rfl, by simp [lay], by simp [lay], by simpa [lay] using Reads.none_, Below.refl _ _⟩
  case round =>
    obtain ⟨i, A5, c5, hi, rfl, rfl, hc5, hr5, hB⟩ := hrel
    rw [← HNN.out] at hi
    obtain ⟨bs, hbs⟩ : ∃ bs, bs = lay (ns.take i) := ⟨_, rfl⟩
    rw [← hbs] at hc5 hr5 ⊢
    have HBS := Lib.hid hbs
    have hl5 : bs.length ≤ 400 := by
      rw [hbs]
      have := lay_len (ns.take i) (fun x hx => HT.out x (List.mem_of_mem_take hx))
      have : (ns.take i).length ≤ i := List.length_take_le _ _
      omega
    clear hbs
    obtain ⟨m5, hm5⟩ : ∃ m5, m5 = bs.length := ⟨_, rfl⟩
    have HM5 := Lib.hid hm5
    rw [← hm5] at hc5 hr5 hl5 ⊢
    clear hm5
    by_cases hlt : i < n
    · obtain ⟨ad, u, rfl, hadb, hx, hcell0⟩ := hr.at_ hlt
      obtain ⟨x, rfl, hxi⟩ := num_at hx
      have hcell := (hB.cell (p := ad.add i) (by rw [block_of_add]; exact hadb)).trans hcell0
      have hxt : Hid (x < top) := HT.out x (List.mem_of_getElem? hxi)
      have HXI := Lib.hid hxi
      clear hcell0 hx hxi hadb
      have hput : Hid (Calls Try.prog 8 #[.slice A5 m5 c5, .int .u64 (x : Int)] wr fun e w' => ∃ v, e = .returned v ∧ w'.ownsRow wr.heap.size 5 1 v (bs ++ vb x).length ((bs ++ vb x).map bv) ∧ Below wr.heap.size wr w') := by
        have := put_any A5 c5 x bs hxt.out (by have := HM5.out; omega) wr (by rw [← HM5.out]; exact hr5)
        rw [← HM5.out] at this
        exact this
      go_wp2_with (go_at_call 8; refine hput.out.mono ?_; rintro e w2 ⟨v, rfl, ho, hb2⟩)
      obtain ⟨A', c', rfl, hc', hr'⟩ := own_reads ho
      have e1 : lay (ns.take (i + 1)) = bs ++ vb x := by rw [lay_succ HXI.out, ← HBS.out]
      refine ⟨⟨i + 1, A', c', by rw [← HNN.out]; omega, by go_num, ?_, ?_, ?_, hB.trans (hb2.mono hB.size)⟩, by simp [intOf]; omega⟩
      · rw [e1]
      · rw [e1]; exact hc'
      · rw [e1]; exact hr'
    · obtain rfl : i = n := by omega
      have hall : ns.take i = ns := List.take_of_length_le (by rw [← HNN.out]; omega)
      have HBS2 : Hid (bs = lay ns) := by show _ = _; rw [HBS.out, hall]
      clear HBS hall hlt hi
      obtain ⟨en, hen, hmin⟩ : ∃ en : Nat, en ≤ m5 ∧ (if m5 < cut then (m5 : Int) else (cut : Int)) = (en : Int) := by
        by_cases h : m5 < cut
        · exact ⟨m5, Nat.le_refl _, by rw [if_pos h]⟩
        · exact ⟨cut, by omega, by rw [if_neg h]⟩
      go_wp2_with fail
      clear hmin
      obtain ⟨wo, hwo⟩ : ∃ wo : World, wo = wr := ⟨_, rfl⟩
      subst hwo
      go_loopw [9, 36] (fun at_ idx wr => URel wo ns en at_ idx wr) (fun at_ idx wr => i - (intOf idx).toNat)
      case atStart => exact ⟨0, by omega, rfl, by simp [lay], by simp [lay], Below.refl _ _⟩
      case round =>
        obtain ⟨j, hj, rfl, rfl, hoff, hW⟩ := hrel
        rw [← HNN.out] at hj
        obtain ⟨off, ho⟩ : ∃ off, off = (lay (ns.take j)).length := ⟨_, rfl⟩
        rw [← ho] at hoff ⊢
        have HO := Lib.hid ho
        clear ho
        have hBW : Below w.heap.size w wr := hB.trans (hW.mono hB.size)
        by_cases hlt : j < i
        · obtain ⟨ad, u, rfl, hadb, hx, hcell0⟩ := hr.at_ hlt
          obtain ⟨x, rfl, hxi⟩ := num_at hx
          have hcell := (hBW.cell (p := ad.add j) (by rw [block_of_add]; exact hadb)).trans hcell0
          have hxt : Hid (x < top) := HT.out x (List.mem_of_getElem? hxi)
          have HXI := Lib.hid hxi
          clear hcell0 hx hxi hadb
          obtain ⟨lx, hlx⟩ : ∃ lx, lx = (vb x).length := ⟨_, rfl⟩
          have hlx1 : 1 ≤ lx := by rw [hlx]; exact vb_pos x
          have hlx2 : lx ≤ 10 := by rw [hlx]; exact vb_len x hxt.out
          have hsize : Hid (∀ W : World, Calls Try.prog 11 #[.int .u64 (x : Int)] W fun e w' => e = .returned (.int .i64 (lx : Int)) ∧ Below W.heap.size W w') := by
            intro W
            rw [hlx]
            exact size_any x hxt.out W
          have HLX := Lib.hid hlx
          clear hlx
          have hrt := ((hr5.below hW).take hen)
          rw [← List.map_take] at hrt
          have hget0 := get_any A5 en c5 off wo.heap.size (bs.take en) (by omega) (by omega) hoff wr hrt
          rw [HBS2.out] at hget0
          by_cases hfit : off + lx ≤ en
          · have hci := cuts_in (en := en) HXI.out hxt.out (by rw [← HO.out, ← HLX.out]; exact hfit)
            rw [← HO.out, ← HLX.out] at hci
            rw [hci] at hget0
            have HGET : Hid (Calls Try.prog 9 #[.slice A5 en c5, .int .i64 (off : Int)] wr fun e w' => e = .returned (.tuple #[.int .u64 (x : Int), .int .i64 ((off : Int) + (lx : Int)), .int .i64 0]) ∧ wr = w') := hget0
            clear hget0 hci hrt
            go_wp2_with (first
              | (go_at_call 9; refine HGET.out.mono ?_; rintro e w' ⟨rfl, rfl⟩)
              | (go_at_call 11; refine (hsize.out _).mono ?_; rintro e w' ⟨rfl, hs⟩; first | (have hW3 : Below wo.heap.size wo w' := hW2.trans (hs.mono hW2.size)) | (have hW2 : Below wo.heap.size wo w' := hW.trans (hs.mono hW.size))))
            have e1 : (lay (ns.take (j + 1))).length = off + lx := by rw [lay_succ HXI.out, List.length_append, ← HO.out, ← HLX.out]
            exact ⟨⟨j + 1, by rw [← HNN.out]; omega, by go_num, by rw [e1]; rfl, by rw [e1]; exact hfit, hW3⟩, by simp [intOf]; omega⟩
          · have hco := cuts_out (en := en) HXI.out hxt.out (by rw [← HO.out]; exact hoff) (by rw [← HO.out, ← HLX.out]; omega)
            rw [← HO.out] at hco
            rw [hco] at hget0
            have HGET : Hid (Calls Try.prog 9 #[.slice A5 en c5, .int .i64 (off : Int)] wr fun e w' => e = .returned (.tuple #[.int .u64 0, .int .i64 0, .int .i64 2]) ∧ wr = w') := hget0
            clear hget0 hco hrt
            go_wp2_with (first
              | (go_at_call 9; refine HGET.out.mono ?_; rintro e w' ⟨rfl, rfl⟩)
              | (go_at_call 11; refine (hsize.out _).mono ?_; rintro e w' ⟨rfl, hs⟩; have hW2 : Below wo.heap.size wo w' := hW.trans (hs.mono hW.size))
              | (go_at_call 7; refine (fixed_any _).mono ?_; rintro e w3 ⟨rfl, hb3⟩))
            go_ret
            exact ⟨rfl, hB.trans ((hW2.trans (hb3.mono hW2.size)).mono hB.size)⟩
        · obtain rfl : j = i := by omega
          have hoff2 : off = m5 := by rw [HO.out, HM5.out, HBS2.out, List.take_of_length_le (by rw [← HNN.out]; omega)]
          subst hoff2
          clear hlt hj
          go_wp2_with (go_at_call 7; refine (fixed_any _).mono ?_; rintro e w3 ⟨rfl, hb3⟩)
          go_ret
          exact ⟨rfl, hB.trans ((hW.trans (hb3.mono hW.size)).mono hB.size)⟩

theorem cuts_any (A : Option Addr) (n c : Nat) (cut : Int) (ns : List Nat) (hcut : 0 ≤ cut ∧ cut < 65536) (ht : ∀ x ∈ ns, x < top) (w : World) (hr : Reads w w.heap.size 1 A n (ns.map nv)) :
    Calls Try.prog 6 #[.slice A n c, .int .u16 cut] w fun e w' => e = .returned (.bool true) ∧ Below w.heap.size w w' := by
  by_cases h : 40 < n
  · exact cuts_long A n c cut h w
  · obtain ⟨k, rfl⟩ : ∃ k : Nat, cut = (k : Int) := ⟨cut.toNat, by omega⟩
    exact cuts_short A c k ns n (by omega) (by have := hr.1; simpa using this.symm) (by omega) ht w hr

end Go.Proofs.Ytclceinoekebcaa
