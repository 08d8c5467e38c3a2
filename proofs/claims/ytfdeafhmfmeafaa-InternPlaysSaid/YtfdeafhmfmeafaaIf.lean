/- The example; and the walk of InternOne. -/
import Derived.Test.YtfdeafhmfmeafaaId
namespace Go.Proofs.Ytfdeafhmfmeafaa
open Go.RowKit Go.Maps Go.ChangeMaps Go.WideMaps

set_option maxRecDepth 100000 in
set_option maxHeartbeats 400000 in
theorem ID_in (S : Nat → Prop) (b N : Nat) (l : List (List UInt8)) (s : List UInt8) (hin : s ∈ l) (w : World) (h : Tab w S b N l) :
    Calls Try.prog 12 #[.pointer (some ⟨b, 0, none⟩), tsv s] w fun e w' => e = .returned (.tuple #[.int .u64 (tnum l s : Int), .bool false]) ∧ w = w' := by
  have hnum : Hid (Calls Try.prog 20 #[.pointer (some ⟨b, 0, none⟩), tsv s] w fun e w' => e = .returned (.tuple #[.int .u64 (tnum l s : Int), .bool false]) ∧ w = w') := by
    show Calls _ _ _ _ _
    obtain ⟨L, c, mv, h1, hSb, h3, h4, h5, hnd, hlen⟩ := h
    have hc1 : w.cell? ⟨b, 1, none⟩ = some (.map mv) := field_cell h1 rfl
    have hkey := tkeyOf (hlen s hin)
    unfold tsv at hkey ⊢
    obtain ⟨mb, D, rfl, hSm, hm, hn⟩ : ∃ (mb : Nat) (D : DataW Nat), mv = some mb ∧ S mb ∧ w.ownsMap Try.prog 9 (plainElem Try.prog 32) mb N D ∧ NumOf D l := by
      rcases h5 with ⟨_, e⟩ | h5
      · rw [e] at hin; simp at hin
      · exact h5
    obtain ⟨e1, e2⟩ := hn.2 s
    rw [decide_eq_true hin] at e1
    have E2 := Lib.hid e2
    clear e2 h1 h3 h4 h5 hnd hlen hin
    go_enter Try.func20, Try.ntmps20
    go_wp2_with (at_lookup; refine wpList_lookup_own_ok_int _ rfl _ _ 42 rfl 9 32 .u64 tkey Try.underlying42 Try.underlying32 (zeroU _) mb N D rfl hm _ _ rfl hkey ?_; intro cv hat hwc)
    go_ret2
    have e3 := E2.out
    unfold u0 at e3
    rw [e3] at hat
    have : cv = (tnum l s : Int) := by injection hat with hat; injection hat with _ hat; exact hat.symm
    rw [this]
    exact ⟨rfl, rfl⟩
  unfold tsv at hnum ⊢
  clear h hin
  go_enter Try.func12, Try.ntmps12
  go_wp2_with (first
    | (go_at_call 18; refine (all_any b _).mono ?_; rintro e w1 ⟨rfl, rfl⟩)
    | (go_at_call 20; refine hnum.out.mono ?_; rintro e w1 ⟨rfl, rfl⟩))
  go_ret2
  exact ⟨rfl, rfl⟩

theorem reads_tsv (W : World) (e : TypeId) (ts : List (List UInt8)) : Reads (W.alloc (.cells (ts.map tsv).toArray e)) (W.heap.size + 1) 1 (some ⟨W.heap.size, 0, none⟩) ts.length (ts.map tsv) :=
  ⟨by simp, fun _ => ⟨_, rfl, by simp, fun j u hu => by
    have h0 : Addr.add ⟨W.heap.size, 0, none⟩ j = ⟨W.heap.size, j, none⟩ := by
      unfold Addr.add
      split
      · rename_i h; rw [h]
      · simp
    rw [h0]
    simp only [World.cell?, World.alloc, Array.getElem?_push_size]
    simpa using hu⟩⟩

set_option maxRecDepth 100000 in
set_option maxHeartbeats 400000 in
theorem intern_fixed (w : World) : Calls Try.prog 5 #[] w fun e w' => e = .returned (.bool true) ∧ Below w.heap.size w w' := by
  have hl : tnew [[97], [98], [97]] = [[97], [98]] := by decide
  have hsz : (w.alloc (.cells #[.string ⟨#[97]⟩, .string ⟨#[98]⟩, .string ⟨#[97]⟩] 9)).heap.size = w.heap.size + 1 := by simp
  have hnew := New_any (some ⟨w.heap.size, 0, none⟩) 3 3 (w.heap.size + 1) [[97], [98], [97]] (by omega) (by decide) (w.alloc (.cells #[.string ⟨#[97]⟩, .string ⟨#[98]⟩, .string ⟨#[97]⟩] 9)) (by rw [hsz]; exact Nat.le_refl _) (reads_tsv w 9 [[97], [98], [97]])
  rw [hl, hsz] at hnew
  have HNEW := Lib.hid hnew
  have HB0 : Hid (Below w.heap.size w (w.alloc (.cells #[.string ⟨#[97]⟩, .string ⟨#[98]⟩, .string ⟨#[97]⟩] 9))) := (Below.refl _ w).alloc (Nat.le_refl _) _
  clear hl hsz hnew
  go_enter Try.func5, Try.ntmps5
  go_wp2_with fail
  refine HNEW.out.mono ?_
  rintro e w1 ⟨rfl, ht, hb1⟩
  have HID : Hid (Calls Try.prog 12 #[.pointer (some ⟨w.heap.size + 1, 0, none⟩), .string ⟨#[97]⟩] w1 fun e w' => e = .returned (.tuple #[.int .u64 0, .bool false]) ∧ w1 = w') := ID_in _ _ _ _ [97] (by decide) w1 ht
  have HFI : Hid (Calls Try.prog 10 #[.pointer (some ⟨w.heap.size + 1, 0, none⟩), .string ⟨#[98]⟩] w1 fun e w' => e = .returned (.tuple #[.int .u64 1, .bool true]) ∧ w1 = w') := Find_any _ _ _ _ [98] (by decide) w1 ht
  have HLE : Hid (Calls Try.prog 16 #[.pointer (some ⟨w.heap.size + 1, 0, none⟩)] w1 fun e w' => e = .returned (.int .i64 2) ∧ w1 = w') := Len_any _ _ _ _ w1 ht
  clear ht
  go_wp2_with (first
    | (go_at_call 12; refine HID.out.mono ?_; rintro e w2 ⟨rfl, rfl⟩)
    | (go_at_call 10; refine HFI.out.mono ?_; rintro e w2 ⟨rfl, rfl⟩)
    | (go_at_call 16; refine HLE.out.mono ?_; rintro e w2 ⟨rfl, rfl⟩))
  go_ret
  exact ⟨rfl, HB0.out.trans (hb1.mono (by omega))⟩

theorem tput_mem {l : List (List UInt8)} {s t : List UInt8} (h : t ∈ l ∨ t = s) : t ∈ tput l s := by
  unfold tput
  split
  · rename_i hs
    rcases h with h | rfl
    · exact h
    · exact hs
  · rcases h with h | rfl <;> simp [*]
theorem tfold_mem : ∀ (ts l : List (List UInt8)) (s : List UInt8), s ∈ l ∨ s ∈ ts → s ∈ ts.foldl tput l
  | [], l, s, h => by simpa using h
  | t :: ts, l, s, h => tfold_mem ts (tput l t) s (by
    rcases h with h | h
    · exact .inl (tput_mem (.inl h))
    · rcases List.mem_cons.1 h with h | h
      · exact .inl (tput_mem (.inr h))
      · exact .inr h)
theorem tnew_mem {ts : List (List UInt8)} {s : List UInt8} (h : s ∈ ts) : s ∈ tnew ts := tfold_mem ts [] s (.inr h)
theorem tnum_inj {l : List (List UInt8)} {s u : List UInt8} (hs : s ∈ l) (hu : u ∈ l) (h : tnum l s = tnum l u) : s = u := by
  have h1 := tnum_at hs
  have h2 := tnum_at hu
  rw [h, h2] at h1
  exact (Option.some.inj h1).symm

set_option maxRecDepth 100000 in
set_option maxHeartbeats 400000 in
theorem one_long (L : Option Addr) (m d : Nat) (x : Int) (h : 60 < m) (w : World) :
    Calls Try.prog 4 #[.slice L m d, .int .u8 x] w fun e w' => e = .returned (.bool true) ∧ Below w.heap.size w w' := by
  have HF := Lib.hid (intern_fixed w)
  go_enter Try.func4, Try.ntmps4
  go_wp2_with (go_at_call 5; refine HF.out.mono ?_; rintro e w3 ⟨rfl, hb3⟩)
  go_ret
  exact ⟨rfl, hb3⟩

theorem tnum_snoc {l : List (List UInt8)} {s : List UInt8} (h : s ∉ l) : tnum (l ++ [s]) s = l.length := by
  unfold tnum
  rw [if_pos (by simp), List.idxOf_append, if_neg h]
  simp

set_option maxRecDepth 100000 in
set_option maxHeartbeats 2000000 in
theorem one_short (L : Option Addr) (m d n0 x : Nat) (ts : List (List UInt8)) (hm : m ≤ 60) (hd : m ≤ d) (hx : x < 256) (hts : ∀ s ∈ ts, s.length ≤ maxLen) (w : World) (hn0 : w.heap.size = n0) (hr : Reads w n0 1 L m (ts.map tsv)) :
    Calls Try.prog 4 #[.slice L m d, .int .u8 (x : Int)] w fun e w' => e = .returned (.bool true) ∧ Below n0 w w' := by
  have hml : ts.length = m := by have := hr.1; simpa using this
  have hnew := New_any L m d n0 ts (by omega) hts w (by omega) hr
  rw [hn0] at hnew
  have HNEW := Lib.hid hnew
  have HML := Lib.hid hml
  have HTS := Lib.hid hts
  have HR := Lib.hid hr
  have HN0 := Lib.hid hn0
  obtain ⟨l, hl⟩ : ∃ l, l = tnew ts := ⟨_, rfl⟩
  rw [← hl] at HNEW
  have HLL : Hid (l.length ≤ 60) := by show l.length ≤ 60; rw [hl]; have := tnew_len ts; omega
  have HIN : Hid (∀ i s, ts[i]? = some s → s ∈ l) := fun i s h => by rw [hl]; exact tnew_mem (List.mem_of_getElem? h)
  have hwx : IntKind.i64.wrap (x : Int) = (x : Int) := by rw [IntKind.wrap_i64]; omega
  clear hnew hml hts hr hn0 hl
  go_enter Try.func4, Try.ntmps4
  go_wp2_with fail
  refine HNEW.out.mono ?_
  rintro e w1 ⟨rfl, ht, hb1⟩
  have HT := Lib.hid ht
  have HB1 := Lib.hid hb1
  clear ht hb1
  go_wp2_with fail
  go_loopw [32] (fun idx wr => ∃ i : Nat, i ≤ m ∧ idx = .int .i64 (i : Int) ∧ wr = w1) (fun idx wr => m - (intOf idx).toNat)
  case atStart => exact ⟨0, by omega, rfl, rfl⟩
  case round =>
    obtain ⟨i, hi, rfl, rfl⟩ := hrel
    by_cases hlt : i < m
    · obtain ⟨ad, u, rfl, _, hu, hcell⟩ := (HR.out.below HB1.out).at_ hlt
      obtain ⟨s, hs⟩ : ∃ s, ts[i]? = some s := ⟨_, List.getElem?_eq_getElem (by rw [HML.out]; exact hlt)⟩
      obtain rfl : u = tsv s := by rw [List.getElem?_map, hs] at hu; simpa using hu.symm
      have hsl := HIN.out i s hs
      have HID := Lib.hid (ID_in _ _ _ l s hsl wr HT.out)
      have HLE := Lib.hid (Len_any _ _ _ l wr HT.out)
      have hxl := tnum_lt hsl
      have hll := HLL.out
      obtain ⟨xs, hxs⟩ : ∃ xs, xs = tnum l s := ⟨_, rfl⟩
      rw [← hxs] at HID hxl
      obtain ⟨ll, hlle⟩ : ∃ ll, ll = l.length := ⟨_, rfl⟩
      rw [← hlle] at HLE hxl hll
      have hwl : IntKind.u64.wrap (ll : Int) = (ll : Int) := by rw [IntKind.wrap_u64]; omega
      have hdl : decide (ll ≤ xs) = false := by rw [decide_eq_false_iff_not]; omega
      have HS := Lib.hid hs
      have HXS := Lib.hid hxs
      have HSL := Lib.hid hsl
      unfold tsv at hcell HID
      clear hu hs hsl hxs hlle
      go_wp2_with (first
        | (go_at_call 12; refine HID.out.mono ?_; rintro e w2 ⟨rfl, rfl⟩)
        | (go_at_call 16; refine HLE.out.mono ?_; rintro e w2 ⟨rfl, rfl⟩))
      go_loopw [55] (fun idx wr' => ∃ j : Nat, j ≤ i ∧ idx = .int .i64 (j : Int) ∧ wr' = wr) (fun idx _ => i - (intOf idx).toNat)
      case atStart => exact ⟨0, by omega, rfl, rfl⟩
      case round =>
        obtain ⟨j, hj, rfl, rfl⟩ := hrel
        by_cases hlj : j < i
        · obtain ⟨ad', u', had, _, hu', hcell'⟩ := (HR.out.below HB1.out).at_ (show j < m by omega)
          obtain rfl : ad = ad' := by injection had
          clear had
          obtain ⟨t, ht⟩ : ∃ t, ts[j]? = some t := ⟨_, List.getElem?_eq_getElem (by rw [HML.out]; omega)⟩
          obtain rfl : u' = tsv t := by rw [List.getElem?_map, ht] at hu'; simpa using hu'.symm
          have htl := HIN.out j t ht
          have HID2 := Lib.hid (ID_in _ _ _ l t htl wr HT.out)
          by_cases hst : s = t
          · subst hst
            rw [← HXS.out] at HID2
            have hself : ((tx s).toList == (tx s).toList) = true := by simp
            clear hu' ht htl
            unfold tsv at hcell' HID2
            go_wp2_with (go_at_call 12; refine HID2.out.mono ?_; rintro e w2 ⟨rfl, rfl⟩)
            exact ⟨⟨j + 1, by omega, by go_num, trivial⟩, by simp [intOf]; omega⟩
          · have hne : ((tx s).toList == (tx t).toList) = false := by
              rw [beq_eq_false_iff_ne]
              intro e
              exact hst (by simpa [tx] using e)
            obtain ⟨xt, hxt⟩ : ∃ xt, xt = tnum l t := ⟨_, rfl⟩
            have hnx : xs ≠ xt := by
              rw [HXS.out, hxt]
              exact fun e => hst (tnum_inj HSL.out htl e)
            rw [← hxt] at HID2
            have hnx1 : decide ((xs : Int) = (xt : Int)) = false := by rw [decide_eq_false_iff_not]; omega
            have hnx2 : ((xs : Int) == (xt : Int)) = false := by rw [beq_eq_false_iff_ne]; omega
            clear hu' ht htl hxt
            unfold tsv at hcell' HID2
            go_wp2_with (go_at_call 12; refine HID2.out.mono ?_; rintro e w2 ⟨rfl, rfl⟩)
            exact ⟨⟨j + 1, by omega, by go_num, trivial⟩, by simp [intOf]; omega⟩
        · obtain rfl : j = i := by omega
          go_wp2
          exact ⟨⟨j + 1, by omega, by go_num, by first | trivial | rfl⟩, by simp [intOf]; omega⟩
    · obtain rfl : i = m := by omega
      have HLE := Lib.hid (Len_any _ _ _ l wr HT.out)
      obtain ⟨ll, hlle⟩ : ∃ ll, ll = l.length := ⟨_, rfl⟩
      have hll := HLL.out
      have HCU : Hid (∀ sz, Calls Try.prog 13 #[.pointer (some ⟨n0, 0, none⟩), .int .i64 sz] wr fun e w' => e = .returned (.tuple #[]) ∧ (∃ l2, l2.length ≤ 60 ∧ Tab w' (fun k => n0 ≤ k) n0 i l2) ∧ Turn (fun k => n0 ≤ k) wr w') := by
        intro sz
        refine (Cut_any _ _ _ l sz (by omega) wr HT.out).mono ?_
        rintro e w' ⟨h1, h2, h3⟩
        exact ⟨h1, ⟨_, by rw [List.length_take]; omega, h2⟩, h3⟩
      rw [← hlle] at HLE hll
      clear hlle
      go_wp2_with (first
        | (go_at_call 16; refine HLE.out.mono ?_; rintro e w2 ⟨rfl, rfl⟩)
        | (go_at_call 13; refine (HCU.out _).mono ?_; rintro e w2 ⟨rfl, ⟨l2, hl2, ht2⟩, hu2⟩))
      all_goals
        have hb2 := HB1.out.trans (hu2.below (fun k hk => hk) (by have := HB1.out.size; rw [HN0.out] at this; exact this))
        have HL2 := Lib.hid hl2
        have HT2 := Lib.hid ht2
        have HB2 := Lib.hid hb2
        have HFX := Lib.hid (intern_fixed w2)
        clear hl2 ht2 hu2 hb2 HLE HCU HFX
        go_loopw [84] (fun idx wr => ∃ (j : Nat) (cur : List (List UInt8)) (N : Nat), j ≤ i ∧ idx = .int .i64 (j : Int) ∧ Tab wr (fun k => n0 ≤ k) n0 N cur ∧ cur.length ≤ 60 + j ∧ N ≤ i + j ∧ Below n0 w wr) (fun idx wr => i - (intOf idx).toNat)
        case atStart => exact ⟨0, _, _, by omega, rfl, HT2.out, by have := HL2.out; omega, by omega, HB2.out⟩
        case round =>
          obtain ⟨j, cur, N, hj, rfl, ht, hcl, hN, hb⟩ := hrel
          by_cases hlj : j < i
          · obtain ⟨ad', u', rfl, _, hu', hcell'⟩ := (HR.out.below hb).at_ hlj
            obtain ⟨t, htt⟩ : ∃ t, ts[j]? = some t := ⟨_, List.getElem?_eq_getElem (by rw [HML.out]; omega)⟩
            obtain rfl : u' = tsv t := by rw [List.getElem?_map, htt] at hu'; simpa using hu'.symm
            have htl := HTS.out t (List.mem_of_getElem? htt)
            have hfi := Find_any _ _ _ cur t htl wr ht
            have hle := Len_any _ _ _ cur wr ht
            have hid := ID_any _ _ _ cur t htl (by omega) (by omega) wr ht
            have HB := Lib.hid hb
            have hsz : n0 ≤ wr.heap.size := by have := hb.size; rw [HN0.out] at this; exact this
            by_cases hin : t ∈ cur
            · rw [decide_eq_true hin] at hfi hid
              rw [tput_in hin] at hid
              have hxl := tnum_lt hin
              obtain ⟨xt, hxt⟩ : ∃ xt, xt = tnum cur t := ⟨_, rfl⟩
              rw [← hxt] at hfi hid hxl
              have hle2 : Hid (∀ wz S N, Tab wz S n0 N cur → Calls Try.prog 16 #[.pointer (some ⟨n0, 0, none⟩)] wz fun e w' => e = .returned (.int .i64 (cur.length : Int)) ∧ wz = w') := fun wz S N h => Len_any S n0 N cur wz h
              have HFI := Lib.hid hfi
              have HLE := Lib.hid hle
              have HID := Lib.hid hid
              have HTC := Lib.hid ht
              obtain ⟨cl, hcle⟩ : ∃ cl, cl = cur.length := ⟨_, rfl⟩
              rw [← hcle] at HLE hle2 hcl hxl
              have HCL := Lib.hid hcle
              unfold tsv at hcell' HFI HID
              clear hu' htt htl hfi hle hid ht hxt hin hcle hb
              go_wp2_with (first
                | (go_at_call 10; refine HFI.out.mono ?_; rintro e w3 ⟨rfl, rfl⟩)
                | (go_at_call 16; refine HLE.out.mono ?_; rintro e w3 ⟨rfl, rfl⟩)
                | (go_at_call 12; refine HID.out.mono ?_; rintro e w3 ⟨rfl, ht3, hu3⟩; have HT3 := Lib.hid ht3; have HU3 := Lib.hid hu3; clear ht3 hu3)
                | (go_at_call 16; refine (hle2.out _ _ _ HT3.out).mono ?_; rintro e w4 ⟨rfl, rfl⟩))
              refine ⟨⟨j + 1, cur, N + 1, by omega, by go_num, HT3.out.wide (fun k hk _ => by rcases hk with hk | hk <;> omega), by rw [← HCL.out]; omega, by omega, HB.out.trans (HU3.out.below (fun k hk => hk) hsz)⟩, by simp [intOf]; omega⟩
            · rw [decide_eq_false hin] at hfi hid
              rw [tput_new hin, tnum_snoc hin] at hid
              obtain ⟨xt, hxt⟩ : ∃ xt, xt = tnum cur t := ⟨_, rfl⟩
              rw [← hxt] at hfi
              obtain ⟨cu2, hcu2⟩ : ∃ cu2, cu2 = cur ++ [t] := ⟨_, rfl⟩
              rw [← hcu2] at hid
              have hcl2 : cu2.length = cur.length + 1 := by rw [hcu2]; simp
              have hle2 : Hid (∀ wz S N, Tab wz S n0 N cu2 → Calls Try.prog 16 #[.pointer (some ⟨n0, 0, none⟩)] wz fun e w' => e = .returned (.int .i64 ((cur.length + 1 : Nat) : Int)) ∧ wz = w') := fun wz S N h => by rw [← hcl2]; exact Len_any S n0 N cu2 wz h
              have HFI := Lib.hid hfi
              have HLE := Lib.hid hle
              have HID := Lib.hid hid
              have HTC := Lib.hid ht
              obtain ⟨cl, hcle⟩ : ∃ cl, cl = cur.length := ⟨_, rfl⟩
              rw [← hcle] at HLE hle2 hcl HID
              have hwc : IntKind.u64.wrap (cl : Int) = (cl : Int) := by rw [IntKind.wrap_u64]; omega
              have HCL2 := Lib.hid hcl2
              have HCL := Lib.hid hcle
              unfold tsv at hcell' HFI HID
              clear hu' htt htl hfi hle hid ht hxt hin hcle hb hcl2 hcu2
              go_wp2_with (first
                | (go_at_call 10; refine HFI.out.mono ?_; rintro e w3 ⟨rfl, rfl⟩)
                | (go_at_call 16; refine HLE.out.mono ?_; rintro e w3 ⟨rfl, rfl⟩)
                | (go_at_call 12; refine HID.out.mono ?_; rintro e w3 ⟨rfl, ht3, hu3⟩; have HT3 := Lib.hid ht3; have HU3 := Lib.hid hu3; clear ht3 hu3)
                | (go_at_call 16; refine (hle2.out _ _ _ HT3.out).mono ?_; rintro e w4 ⟨rfl, rfl⟩))
              refine ⟨⟨j + 1, cu2, N + 1, by omega, by go_num, HT3.out.wide (fun k hk _ => by rcases hk with hk | hk <;> omega), by rw [HCL2.out, ← HCL.out]; omega, by omega, HB.out.trans (HU3.out.below (fun k hk => hk) hsz)⟩, by simp [intOf]; omega⟩
          · obtain rfl : j = i := by omega
            have HFX := Lib.hid (intern_fixed wr)
            have HB := Lib.hid hb
            clear ht hb
            go_wp2_with (go_at_call 5; refine HFX.out.mono ?_; rintro e w3 ⟨rfl, hb3⟩)
            go_ret
            exact ⟨rfl, HB.out.trans (hb3.mono (by have := HB.out.size; rw [HN0.out] at this; exact this))⟩

end Go.Proofs.Ytfdeafhmfmeafaa
