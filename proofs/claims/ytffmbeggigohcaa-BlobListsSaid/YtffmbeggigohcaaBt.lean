/- The walk of BlobLists: it returns true at any texts and any cut. -/
import Derived.Test.YtffmbeggigohcaaBe
import Derived.Test.YtffmbeggigohcaaBf
import Derived.Test.YtffmbeggigohcaaH2
import Derived.Lib.SlBytesConst
namespace Go.Proofs.Ytffmbeggigohcaa
open Go.RowKit Go.Shelf

set_option maxRecDepth 100000 in
set_option maxHeartbeats 400000 in
theorem lists_long (L : Option Addr) (n d : Nat) (cut : Int) (h : 30 < n) (w : World) :
    Calls Try.prog 5 #[.slice L n d, .int .u16 cut] w fun e w' => e = .returned (.bool true) ∧ Below w.heap.size w w' := by
  go_enter Try.func5, Try.ntmps5
  go_wp2_with (go_at_call 7; refine (fixed_any _).mono ?_; rintro e w3 ⟨rfl, hb3⟩)
  go_ret
  exact ⟨rfl, hb3⟩

/-- At the head of a round of the first loop: so many texts are no longer than 100. -/
def FRel (w : World) (n : Nat) (ts : List (List UInt8)) (idx : Value) (wr : World) : Prop :=
  ∃ i : Nat, i ≤ n ∧ idx = .int .i64 (i : Int) ∧ (∀ t ∈ ts.take i, t.length ≤ 100) ∧ Below w.heap.size w wr

/-- At the head of a round of the second loop: so many texts have been read. -/
def VRel (wo : World) (n en : Nat) (ts : List (List UInt8)) (at_ idx : Value) (wr : World) : Prop :=
  ∃ j : Nat, j ≤ n ∧ idx = .int .i64 (j : Int) ∧ at_ = .int .i64 (([120] ++ blobs (ts.take j)).length : Int) ∧ ([120] ++ blobs (ts.take j)).length ≤ en ∧ Below wo.heap.size wo wr

/-- A slice of one byte that was just made of a constant text. -/
theorem reads_mark (W : World) (e : TypeId) (x : UInt8) (fz : Nat × Nat) : Reads (W.alloc (.cells #[bv x] e fz)) (W.heap.size + 1) 1 (some ⟨W.heap.size, 0, none⟩) 1 ([x].map bv) :=
  ⟨rfl, fun _ => ⟨_, rfl, by simp, fun j u hu => by
    cases j with
    | zero =>
      have hu' : bv x = u := by simpa using hu
      subst hu'
      have h0 : (Addr.add ⟨W.heap.size, 0, none⟩ 0) = ⟨W.heap.size, 0, none⟩ := rfl
      rw [h0]
      simp [World.cell?, World.alloc, -World.alloc_eq]
    | succ j => simp at hu⟩⟩

theorem take_next {l : List (List UInt8)} {i : Nat} {x : List UInt8} (h : l[i]? = some x) (h1 : ∀ t ∈ l.take i, t.length ≤ 100) (h2 : x.length ≤ 100) : ∀ t ∈ l.take (i + 1), t.length ≤ 100 := by
  obtain ⟨hlt, rfl⟩ := List.getElem?_eq_some_iff.1 h
  rw [List.take_succ_eq_append_getElem hlt]
  intro t ht
  rcases List.mem_append.1 ht with h' | h'
  · exact h1 t h'
  · rw [List.mem_singleton.1 h']; exact h2

set_option maxRecDepth 100000 in
set_option maxHeartbeats 2000000 in
theorem lists_short (L : Option Addr) (n d cut : Nat) (ts : List (List UInt8)) (hn : n ≤ 30) (hcut : cut < 65536) (w : World) (hl : Reads w w.heap.size 1 L n (ts.map sv)) :
    Calls Try.prog 5 #[.slice L n d, .int .u16 (cut : Int)] w fun e w' => e = .returned (.bool true) ∧ Below w.heap.size w w' := by
  have HN : Hid (ts.length = n) := by have := hl.1; show _ = _; simpa using this
  go_enter Try.func5, Try.ntmps5
  go_wp2_with fail
  go_loopw [21] (fun idx wr => FRel w n ts idx wr) (fun idx wr => n - (intOf idx).toNat)
  case atStart => exact ⟨0, by omega, rfl, by simp, Below.refl _ _⟩
  case round =>
    obtain ⟨i, hi, rfl, h100, hW⟩ := hrel
    have H100 := Lib.hid h100
    clear h100
    by_cases hlt : i < n
    · obtain ⟨ad, u, rfl, hadb, hx, hcA⟩ := hl.at_ hlt
      obtain ⟨x, rfl, hxi⟩ := text_at hx
      obtain ⟨kx, hkx⟩ : ∃ kx, kx = x.length := ⟨_, rfl⟩
      have hszx : (tx x).size = kx := by rw [tx_size, hkx]
      obtain ⟨sx, hsx⟩ : ∃ sx, sx = tx x := ⟨_, rfl⟩
      rw [← hsx] at hcA hszx
      have hcellA := (hW.cell (p := ad.add i) (by rw [block_of_add]; exact hadb)).trans hcA
      have HXI := Lib.hid hxi
      have HKX := Lib.hid hkx
      clear hx hxi hkx hsx hcA hadb
      by_cases hk : 100 < kx
      · have dk : decide ((100 : Int) < (kx : Int)) = true := decide_eq_true (by omega)
        go_wp2_with (go_at_call 7; refine (fixed_any _).mono ?_; rintro e w3 ⟨rfl, hb3⟩)
        go_ret
        exact ⟨rfl, hW.trans (hb3.mono hW.size)⟩
      · have dk : decide ((100 : Int) < (kx : Int)) = false := decide_eq_false (by omega)
        go_wp2_with fail
        exact ⟨⟨i + 1, by omega, by go_num, take_next HXI.out H100.out (by rw [← HKX.out]; omega), hW⟩, by simp [intOf]; omega⟩
    · obtain rfl : i = n := by omega
      have h100 : ∀ t ∈ ts, t.length ≤ 100 := by
        have := H100.out
        rwa [List.take_of_length_le (by rw [HN.out]; omega)] at this
      have hbl := blobs_len ts 100 (by unfold top; omega) h100
      rw [HN.out] at hbl
      have HALL := Lib.hid h100
      have hLIST : Hid (∀ W, W = wr.alloc (.cells #[.int .u8 120] 5 (1, 2)) → Calls Try.prog 12 #[.slice (some ⟨wr.heap.size, 0, none⟩) 1 1, .slice L i d] W fun e w' => ∃ v, e = .returned v ∧ w'.ownsRow W.heap.size 5 1 v ([120] ++ blobs ts).length (([120] ++ blobs ts).map bv) ∧ Below W.heap.size W w') := by
        rintro W rfl
        exact list_any (some ⟨wr.heap.size, 0, none⟩) L 1 1 i d (wr.heap.size + 1) [120] ts (by omega) (by omega) _ (by simp) (reads_mark wr 5 120 (1, 2)) (((hl.below hW).alloc hW.size _).more (by have := hW.size; omega))
      obtain ⟨m6, hm6⟩ : ∃ m6, m6 = (blobs ts).length := ⟨_, rfl⟩
      have hq : ([120] ++ blobs ts).length = m6 + 1 := by rw [hm6]; simp
      obtain ⟨q, hq5⟩ : ∃ q, q = [120] ++ blobs ts := ⟨_, rfl⟩
      rw [← hq5] at hLIST hq
      rw [hq] at hLIST
      rw [← hm6] at hbl
      have HQ := Lib.hid hq
      have HQ5 := Lib.hid hq5
      have HM6 := Lib.hid hm6
      clear h100 hq hq5 hm6 hlt hi
      have kc := fun (w : World) (C : Array Value) (n c : Nat) => Lib.run_convert_bytes_const (P := Try.prog) w 22 5 C n c Try.underlying22 Try.underlying5
      go_wp2_with (go_at_call 12; refine (hLIST.out _ rfl).mono ?_; rintro e wo ⟨v, rfl, ho, hbo⟩)
      obtain ⟨A5, c5, rfl, hc5, hr5⟩ := own_reads ho
      have hWo : Below w.heap.size w wo := (hW.alloc hW.size _).trans (hbo.mono (by have := hW.size; simp; omega))
      have HCV : Hid (∀ w', Below wo.heap.size wo w' → (convert 22 9 (.slice A5 (m6 + 1) c5)).run Try.prog w' = .ok (.string (tx q)) w') :=
        fun w' hb => conv_reads Try.underlying22 Try.underlying5 Try.underlying9 (hr5.below hb)
      have HREFL : Hid (∀ W, Below wo.heap.size wo W → Calls Try.prog 13 #[.slice L i d] W fun e w' => e = .returned (.string (tx (blobs ts))) ∧ Below W.heap.size W w') :=
        fun W hb => rblist_any L i d w.heap.size ts (by rw [← HM6.out]; omega) (by omega) W (by have := hWo.size; have := hb.size; omega) ((hl.below hWo).below (hb.mono hWo.size))
      have hadd : ∀ W : World, (Op.stringOp .add ⟨#[120]⟩ (tx (blobs ts))).run Try.prog W = .ok (.string (tx q)) W := fun W => by
        rw [HQ5.out]
        exact add_tx W [120] (blobs ts) (by rw [← HM6.out]; simp; omega)
      have htl := tx_toList
      have hm0 : decide ((m6 : Int) + 1 = 0) = false := decide_eq_false (by omega)
      have hm1 : (((m6 : Int) + 1) == 0) = false := by simp; omega
      have HOWN := Lib.hid ho
      clear ho
      try clear hbo
      refine wp_region_held (S := fun W => Below wo.heap.size wo W) (by kernel_rfl) ?_
      have hS : Below wo.heap.size wo wo.drew := (Below.refl _ wo).drew
      refine h_take 0 (.slice A5 (m6 + 1) c5) rfl (by kernel_rfl) (by kernel_rfl) (by kernel_rfl) (fun _ _ _ h => h) (by kernel_rfl) hS (fun _ _ => by kernel_rfl) ?_
      refine h_take 1 (.int .i64 ((m6 + 1 : Nat) : Int)) rfl (by kernel_rfl) (by kernel_rfl) (by kernel_rfl) (fun _ _ _ h => h) (by kernel_rfl) hS (fun _ _ => by kernel_rfl) ?_
      refine h_take 2 (.bool false) rfl (by kernel_rfl) (by kernel_rfl) (by kernel_rfl) (fun _ _ _ h => h) (by kernel_rfl) hS (by intro w' hb; go_simp; try omega) ?_
      refine h_take 3 (.bool false) rfl (by kernel_rfl) (by kernel_rfl) (by kernel_rfl) (fun _ _ _ h => h) (by kernel_rfl) hS (fun _ _ => by kernel_rfl) ?_
      refine h_take 4 (.slice A5 (m6 + 1) c5) rfl (by kernel_rfl) (by kernel_rfl) (by kernel_rfl) (fun _ _ _ h => h) (by kernel_rfl) hS (fun _ _ => by kernel_rfl) ?_
      refine h_take 6 (.slice L i d) rfl (by kernel_rfl) (by kernel_rfl) (by kernel_rfl) (fun _ _ _ h => h) (by kernel_rfl) hS (fun _ _ => by kernel_rfl) ?_
      refine h_take 5 (.string (tx q)) rfl (by kernel_rfl) (by kernel_rfl) (by kernel_rfl) (fun _ _ _ h => h) (by kernel_rfl) hS (by intro w' hb; have hcv := HCV.out w' hb; go_simp) ?_
      refine h_one 7 rfl (by kernel_rfl) (by kernel_rfl) (fun K hK => ?_)
      go_simp
      refine (HREFL.out _ hS).mono ?_
      rintro e w4 ⟨rfl, hb4⟩
      have hS4 : Below wo.heap.size wo w4 := hS.trans hb4
      refine hK _ _ hS4 ?_
      clear hK K
      refine h_take 8 (.string (tx q)) rfl (by kernel_rfl) (by kernel_rfl) (by kernel_rfl) (fun _ _ _ h => h) (by kernel_rfl) hS4 (by intro w' hb; go_simp) ?_
      refine h_take 9 (.bool false) rfl (by kernel_rfl) (by kernel_rfl) (by kernel_rfl) (fun _ _ _ h => h) (by kernel_rfl) hS4 (by intro w' hb; go_simp) ?_
      refine h_take 10 (.bool false) rfl (by kernel_rfl) (by kernel_rfl) (by kernel_rfl) (fun _ _ _ h => h) (by kernel_rfl) hS4 (fun _ _ => by kernel_rfl) ?_
      refine wpAnyH_done (by kernel_rfl) ?_ _
      go_simp
      clear hadd hm0 hm1
      obtain ⟨e0, he0, hmin⟩ : ∃ e0 : Nat, e0 ≤ m6 ∧ (if m6 < cut then (m6 : Int) else (cut : Int)) = (e0 : Int) := by
        by_cases h : m6 < cut
        · exact ⟨m6, Nat.le_refl _, by rw [if_pos h]⟩
        · exact ⟨cut, by omega, by rw [if_neg h]⟩
      go_wp2_with fail
      clear hmin
      obtain ⟨wp, hwp⟩ : ∃ wp : World, wp = w4 := ⟨_, rfl⟩
      subst hwp
      obtain ⟨en, hen⟩ : ∃ en, en = 1 + e0 := ⟨_, rfl⟩
      have hen' : (1 : Int) + (e0 : Int) = (en : Int) := by omega
      have hen1 : 1 ≤ en ∧ en ≤ m6 + 1 := by omega
      try rw [hen']
      clear hen he0
      have HALLOFF : Hid (([120] ++ blobs (ts.take i)).length = m6 + 1) := by
        show _ = _
        rw [List.take_of_length_le (by rw [HN.out]; omega), ← HQ5.out, HQ.out]
      have hwo : Below w.heap.size w wp := hWo.trans (hS4.mono hWo.size)
      have hr6 := (hr5.below hS4).more hS4.size
      clear hen'
      go_loopw [9, 54] (fun at_ idx wr => VRel wp i en ts at_ idx wr) (fun at_ idx wr => i - (intOf idx).toNat)
      case atStart => exact ⟨0, by omega, rfl, by simp [blobs], by simp [blobs]; omega, Below.refl _ _⟩
      case round =>
        obtain ⟨j, hj, rfl, rfl, hoff, hV⟩ := hrel
        obtain ⟨off, ho⟩ : ∃ off, off = ([120] ++ blobs (ts.take j)).length := ⟨_, rfl⟩
        rw [← ho] at hoff ⊢
        have HO := Lib.hid ho
        clear ho
        have hBW : Below w.heap.size w wr := hwo.trans (hV.mono hwo.size)
        by_cases hlt : j < i
        · obtain ⟨ad, u, rfl, hadb, hx, hcell0⟩ := hl.at_ hlt
          obtain ⟨x, rfl, hxi⟩ := text_at hx
          have hcell := (hBW.cell (p := ad.add j) (by rw [block_of_add]; exact hadb)).trans hcell0
          have hx100 : x.length ≤ 100 := HALL.out x (List.mem_of_getElem? hxi)
          obtain ⟨lx, hlx⟩ : ∃ lx, lx = (blob x).length := ⟨_, rfl⟩
          have hpsz : (tx (blob x)).size = lx := by rw [tx_size, hlx]
          have hput : Hid (∀ W, Calls Try.prog 10 #[.string (tx x)] W fun e w' => e = .returned (.string (tx (blob x))) ∧ Below W.heap.size W w') := fun W => rbput_any x (by omega) W
          have hrt := (hr6.below hV).take (k := en) (by omega)
          rw [← List.map_take] at hrt
          have hget0 := bget_any A5 en c5 off 100 wp.heap.size (q.take en) (by omega) (by omega) (by omega) hoff wr hrt
          have HXI := Lib.hid hxi
          obtain ⟨pb, hpb⟩ : ∃ pb, pb = tx (blob x) := ⟨_, rfl⟩
          rw [← hpb] at hput hpsz
          have hlx10 : 1 ≤ lx ∧ lx ≤ 110 := by
            have h1 := vb_len x.length (by unfold top; omega)
            have h2 := vb_pos x.length
            rw [hlx, blob_len]; omega
          by_cases hfit : off + lx ≤ en
          · have hci := blobs_in (most := 100) (pre := [120]) (en := en) HXI.out (by unfold top; omega) (by omega) (by rw [← HO.out, ← hlx]; exact hfit)
            rw [← HQ5.out, ← HO.out, ← hlx] at hci
            rw [hci, bres] at hget0
            simp only at hget0
            obtain ⟨sx, hsx⟩ : ∃ sx, sx = tx x := ⟨_, rfl⟩
            rw [← hsx] at hget0 hput hcell
            have e1 : Hid (([120] ++ blobs (ts.take (j + 1))).length = off + lx) := by
              show _ = _
              rw [blobs_succ HXI.out, ← List.append_assoc, List.length_append, ← HO.out, ← hlx]
            have HGET : Hid (Calls Try.prog 9 #[.slice A5 en c5, .int .i64 (off : Int), .int .i64 100] wr fun e w' => e = .returned (.tuple #[.string sx, .int .i64 ((off : Int) + (lx : Int)), .int .i64 0]) ∧ wr = w') := hget0
            clear hget0 hci hrt hlx hsx hpb hcell0 hx hxi
            go_wp2_with (first
              | (go_at_call 9; refine HGET.out.mono ?_; rintro e w' ⟨rfl, rfl⟩)
              | (go_at_call 10; refine (hput.out _).mono ?_; rintro e w' ⟨rfl, hs⟩; first | (have hW3 : Below wp.heap.size wp w' := hW2.trans (hs.mono hW2.size)) | (have hW2 : Below wp.heap.size wp w' := hV.trans (hs.mono hV.size))))
            exact ⟨⟨j + 1, by omega, by go_num, by rw [e1.out]; rfl, by rw [e1.out]; exact hfit, hW3⟩, by simp [intOf]; omega⟩
          · have hco := blobs_out (most := 100) (pre := [120]) (en := en) HXI.out (by unfold top; omega) (by omega) (by rw [← HO.out]; exact hoff) (by rw [← HO.out, ← hlx]; omega)
            rw [← HQ5.out, ← HO.out] at hco
            rw [hco, bres] at hget0
            simp only at hget0
            obtain ⟨sx, hsx⟩ : ∃ sx, sx = tx x := ⟨_, rfl⟩
            rw [← hsx] at hput hcell
            have HGET : Hid (Calls Try.prog 9 #[.slice A5 en c5, .int .i64 (off : Int), .int .i64 100] wr fun e w' => e = .returned (.tuple #[.string ⟨#[]⟩, .int .i64 0, .int .i64 2]) ∧ wr = w') := hget0
            clear hget0 hco hrt hlx hsx hpb hcell0 hx hxi
            go_wp2_with (first
              | (go_at_call 9; refine HGET.out.mono ?_; rintro e w' ⟨rfl, rfl⟩)
              | (go_at_call 10; refine (hput.out _).mono ?_; rintro e w' ⟨rfl, hs⟩; have hW2 : Below wp.heap.size wp w' := hV.trans (hs.mono hV.size))
              | (go_at_call 7; refine (fixed_any _).mono ?_; rintro e w3 ⟨rfl, hb3⟩))
            go_ret
            exact ⟨rfl, hwo.trans ((hW2.trans (hb3.mono hW2.size)).mono hwo.size)⟩
        · obtain rfl : j = i := by omega
          have hoff2 : off = m6 + 1 := by rw [HO.out, HALLOFF.out]
          subst hoff2
          clear hlt hj
          go_wp2_with (go_at_call 7; refine (fixed_any _).mono ?_; rintro e w3 ⟨rfl, hb3⟩)
          go_ret
          exact ⟨rfl, hwo.trans ((hV.trans (hb3.mono hV.size)).mono hwo.size)⟩

theorem lists_any (L : Option Addr) (n d : Nat) (cut : Int) (ts : List (List UInt8)) (hcut : 0 ≤ cut ∧ cut < 65536) (w : World) (hl : Reads w w.heap.size 1 L n (ts.map sv)) :
    Calls Try.prog 5 #[.slice L n d, .int .u16 cut] w fun e w' => e = .returned (.bool true) ∧ Below w.heap.size w w' := by
  by_cases h : 30 < n
  · exact lists_long L n d cut h w
  · obtain ⟨k, rfl⟩ : ∃ k : Nat, cut = (k : Int) := ⟨cut.toNat, by omega⟩
    exact lists_short L n d k ts (by omega) (by omega) w hl

end Go.Proofs.Ytffmbeggigohcaa
