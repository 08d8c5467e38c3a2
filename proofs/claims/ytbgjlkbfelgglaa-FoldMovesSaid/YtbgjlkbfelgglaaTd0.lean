/- migrate.All. -/
import Derived.Test.YtbgjlkbfelgglaaSn0
import Derived.Test.YtbgjlkbfelgglaaTa
namespace Go.Proofs.Ytbgjlkbfelgglaa
open Go.RowKit

def movedS (v v2 : Int) (x : Rw) : Rc × List Dp := (movedR v v2 x.r, x.l)
/-- What All answers. -/
def AnsAll (v v2 : Int) (xs : List Rw) (R : List (Rc × List Dp)) (E : Int) : Prop :=
  (isWayB v v2 = false ∧ R = [] ∧ E = 11) ∨ (isWayB v v2 = true ∧ (∃ x ∈ xs, ¬ MayP v x.r x.l) ∧ R = [] ∧ E = 1) ∨ (isWayB v v2 = true ∧ (∀ x ∈ xs, MayP v x.r x.l) ∧ R = xs.map (movedS v v2) ∧ E = 0)
theorem ansAll_one {v v2 : Int} {xs : List Rw} {R R' : List (Rc × List Dp)} {E E' : Int} (h : AnsAll v v2 xs R E) (h' : AnsAll v v2 xs R' E') : R = R' ∧ E = E' := by
  rcases h with ⟨a, rfl, rfl⟩ | ⟨a, ⟨x, hx, b⟩, rfl, rfl⟩ | ⟨a, b, rfl, rfl⟩ <;> rcases h' with ⟨a', rfl, rfl⟩ | ⟨a', ⟨y, hy, b'⟩, rfl, rfl⟩ | ⟨a', b', rfl, rfl⟩
  · exact ⟨rfl, rfl⟩
  · rw [a] at a'; cases a'
  · rw [a] at a'; cases a'
  · rw [a] at a'; cases a'
  · exact ⟨rfl, rfl⟩
  · exact absurd (b' x hx) b
  · rw [a] at a'; cases a'
  · exact absurd (b y hy) b'
  · exact ⟨rfl, rfl⟩
def AllPost (v v2 : Int) (xs : List Rw) (w : World) (e : Ending) (w' : World) : Prop :=
  ∃ (R : List (Rc × List Dp)) (E : Int) (A : Option Addr) (n c : Nat) (zs : List Rw), AnsAll v v2 xs R E ∧ e = .returned (.tuple #[.slice A n c, .int .i64 E]) ∧ n ≤ 30 ∧ zs.map Rw.say = R ∧ (∀ z ∈ zs, z.n ≤ 60) ∧ Recs w' w'.heap.size A n zs ∧ Below w.heap.size w w'

/-- What stands at a round of All. -/
def AllRel (own : Bool) (v v2 : Int) (xs : List Rw) (n : Nat) (w : World) (idx va : Value) (wr : World) : Prop :=
  ∃ (i : Nat) (zs : List Rw), i ≤ n ∧ idx = .int .i64 (i : Int) ∧ (∀ x ∈ xs.take i, MayP v x.r x.l) ∧ zs.map Rw.say = (xs.take i).map (movedS v v2) ∧ wr.ownsRow w.heap.size 26 7 va i (rws zs) ∧ (∀ z ∈ zs, (if own then Deps wr w.heap.size z.A z.n z.c z.l else Reads wr w.heap.size 3 z.A z.n (dps z.l) ∧ (z.A = none → z.c = 0)) ∧ z.n ≤ 60) ∧ Below w.heap.size w wr

theorem own_empty7 (w : World) : (w.alloc (.cells #[] 26)).ownsRow w.heap.size 26 7 (.slice (some ⟨w.heap.size, 0, none⟩) 0 0) 0 (rws []) :=
  ⟨by simp [rws], .inr ⟨w.heap.size, 0, #[], rfl, Nat.le_refl _, (by show (w.heap.push _)[w.heap.size]? = _; exact Array.getElem?_push_size), Nat.le_refl _, by unfold maxLen; omega, rfl, rfl⟩⟩

set_option maxRecDepth 100000 in
set_option maxHeartbeats 2000000 in
theorem all_ok (v v2 : Int) (A : Option Addr) (n c : Nat) (xs : List Rw) (hw : isWayB v v2 = true) (hn : n ≤ 30) (hf : ∀ x ∈ xs, Fits x.r x.l ∧ x.n ≤ 60) (w : World) (h : Recs w w.heap.size A n xs) :
    Calls Try.prog 20 #[.int .i64 v, .int .i64 v2, .slice A n c] w fun e w' => AllPost v v2 xs w e w' := by
  obtain ⟨i0, ii0, iz0, iz1, iz2⟩ := info_parts (show (Try.prog.info? 26).map (fun i => (i.zero, i.size, i.bytes)) = some (some (.agg #[.int .i64 0, .string { data := #[] }, .int .u64 0, .slice none 0 0, .int .u64 0, .int .u64 0, .string { data := #[] }]), 7, 88) from by kernel_rfl)
  have HL : Hid (xs.length = n) := h.len
  have H1 := Lib.hid h
  have HF := Lib.hid hf
  have HWB := Lib.hid hw
  have HWAY := Lib.hid (way_any v v2)
  rw [hw] at HWAY
  clear h hf hw
  go_enter Try.func20, Try.ntmps20
  go_wp2_with (go_at_call 29; refine (HWAY.out _).mono ?_; rintro e w2 ⟨rfl, rfl⟩)
  go_loopw [8, 19] (fun va idx wr => AllRel true v v2 xs n w idx va wr) (fun va idx wr => n - (intOf idx).toNat)
  case atStart => exact ⟨0, [], by omega, rfl, by simp, rfl, World.ownsRow_nil _ _ _ _, by simp, Below.refl _ _⟩
  case round =>
    obtain ⟨i, zs, hi, rfl, hmay, hzs, hown, hz, hb⟩ := hrel
    have HMAY := Lib.hid hmay
    have HZS := Lib.hid hzs
    have HBR := Lib.hid hb
    have HOWN := Lib.hid hown
    have HZ := Lib.hid hz
    clear hmay hzs hown hz
    by_cases hlt : i < n
    · obtain ⟨x, hx⟩ : ∃ x, xs[i]? = some x := ⟨_, List.getElem?_eq_getElem (by rw [HL.out]; exact hlt)⟩
      have hm := List.mem_of_getElem? hx
      obtain ⟨hfx, hnx⟩ := HF.out x hm
      have hrx := (H1.out.2 x hm).1
      have hax := (H1.out.2 x hm).2
      obtain ⟨ad, rfl, _, k0, k1, k2, k3, k4, k5, k6⟩ := recs_cells (H1.out.below hb).1 i x hx
      have HX : Hid (MayP v x.r x.l → ∀ y ∈ xs.take (i + 1), MayP v y.r y.l) := fun hs y hy => by
        rw [List.take_add_one, hx, List.mem_append] at hy
        rcases hy with hy | hy
        · exact HMAY.out y hy
        · simp at hy; subst hy; exact hs
      have HXZ : Hid ((xs.take (i + 1)).map (movedS v v2) = (xs.take i).map (movedS v v2) ++ [movedS v v2 x]) := by
        show _ = _
        rw [List.take_add_one, hx, List.map_append]; rfl
      have HXM := Lib.hid hm
      obtain ⟨⟨k, t, u, o, m, g⟩, A4, n4, c4, l4⟩ := x
      simp only at k0 k1 k2 k3 k4 k5 k6 hfx hnx hrx hax
      have HRX := Lib.hid hrx
      have HFX := Lib.hid hfx
      have HNX := Lib.hid hnx
      have HAX := Lib.hid hax
      have hi0 : (0 : Int) ≤ (i : Int) := by omega
      have hi1 : (i : Int) < (n : Int) := by omega
      have HN30 := Lib.hid hn
      have HB2 := Lib.hid (hb.alloc hb.size (.cells #[.int .i64 k, .string (tx t), .int .u64 u, .slice A4 n4 c4, .int .u64 o, .int .u64 m, .string (tx g)] 26))
      clear hx hm hfx hnx hrx hax hb
      by_cases hs : MayP v ⟨k, t, u, o, m, g⟩ l4
      · have HS := Lib.hid hs
        obtain ⟨s, hse⟩ : ∃ s, s = movedR v v2 ⟨k, t, u, o, m, g⟩ := ⟨_, rfl⟩
        have HT : Hid (∀ W, Reads W W.heap.size 3 A4 n4 (dps l4) → Calls Try.prog 30 #[.int .i64 v, .int .i64 v2, .agg #[.int .i64 k, .string (tx t), .int .u64 u, .slice A4 n4 c4, .int .u64 o, .int .u64 m, .string (tx g)]] W fun e w' => ∃ A' n' c', e = .returned (.tuple #[.agg #[.int .i64 s.kind, .string (tx s.target), .int .u64 s.rule, .slice A' n' c', .int .u64 s.out, .int .u64 s.time, .string (tx s.tag)], .int .i64 0]) ∧ n' ≤ n4 ∧ Deps w' W.heap.size A' n' c' l4 ∧ Below W.heap.size W w') := fun W hr => to_any v v2 ⟨k, t, u, o, m, g⟩ A4 n4 c4 l4 (by have := HNX.out; omega) HAX.out HFX.out (.inr (.inr ⟨HWB.out, HS.out, hse, rfl, rfl⟩)) W hr
        have HSE := Lib.hid hse
        clear hse hs
        go_wp2_with (first
          | (at_builtin; refine wpList_append_many _ rfl (.tmp 33) (.tmp 35) 22 rfl w.heap.size 26 i0 _ 7 88 Try.underlying22 ii0 iz0 iz1 iz2 rfl (by decide) _ i (rws zs) rfl HO5.out (some ⟨w3.heap.size + 1, 0, none⟩) 1 1 (w3.heap.size + 1 + 1) (rws [⟨s, A5, n5, c5, l4⟩]) rfl (by simp) (by simpa using HR5.out) (rws_one _) (by have := HN30.out; unfold maxLen; omega) (by have := HN30.out; omega) HB5.out.size ?_; intro v1 w6 ho1 hg1; rw [← rws_app] at ho1; have HO6 := Lib.hid ho1; have HB6 := Lib.hid (HB5.out.grown hg1 HB5.out.size (own_block HO5.out)); have HZ6 : Hid (∀ z ∈ zs ++ [⟨s, A5, n5, c5, l4⟩], Deps w6 w.heap.size z.A z.n z.c z.l ∧ z.n ≤ 60) := (fun z hzz => by rcases List.mem_append.1 hzz with h | h; exact ⟨deps_kept (HZ5.out z h).1 HO5.out hg1, (HZ5.out z h).2⟩; obtain rfl : z = ⟨s, A5, n5, c5, l4⟩ := (by simpa using h); exact ⟨deps_kept HD5.out HO5.out hg1, HN5.out⟩); clear ho1 hg1)
          | (go_at_call 30; have hk := HB2.out.size; refine (HT.out _ ((HRX.out.below HB2.out).more HB2.out.size)).mono ?_; rintro e w3 ⟨A5, n5, c5, rfl, hn5, hd5, hb3⟩; have HB5 := Lib.hid (((HB2.out.trans (hb3.mono HB2.out.size)).alloc (by have h1 := HB2.out.size; have h2 := hb3.size; omega) (.cells #[.int .i64 s.kind, .string (tx s.target), .int .u64 s.rule, .slice A5 n5 c5, .int .u64 s.out, .int .u64 s.time, .string (tx s.tag)] 26)).alloc (by have h1 := HB2.out.size; have h2 := hb3.size; simp; omega) (.cells #[.int .i64 s.kind, .string (tx s.target), .int .u64 s.rule, .slice A5 n5 c5, .int .u64 s.out, .int .u64 s.time, .string (tx s.tag)] 26)); have HO5 := Lib.hid (World.ownsRow.alloc (World.ownsRow.alloc (own_below (World.ownsRow.alloc HOWN.out (.cells #[.int .i64 k, .string (tx t), .int .u64 u, .slice A4 n4 c4, .int .u64 o, .int .u64 m, .string (tx g)] 26)) hb3) (.cells #[.int .i64 s.kind, .string (tx s.target), .int .u64 s.rule, .slice A5 n5 c5, .int .u64 s.out, .int .u64 s.time, .string (tx s.tag)] 26)) (.cells #[.int .i64 s.kind, .string (tx s.target), .int .u64 s.rule, .slice A5 n5 c5, .int .u64 s.out, .int .u64 s.time, .string (tx s.tag)] 26)); have HZ5 : Hid (∀ z ∈ zs, Deps ((w3.alloc (.cells #[.int .i64 s.kind, .string (tx s.target), .int .u64 s.rule, .slice A5 n5 c5, .int .u64 s.out, .int .u64 s.time, .string (tx s.tag)] 26)).alloc (.cells #[.int .i64 s.kind, .string (tx s.target), .int .u64 s.rule, .slice A5 n5 c5, .int .u64 s.out, .int .u64 s.time, .string (tx s.tag)] 26)) w.heap.size z.A z.n z.c z.l ∧ z.n ≤ 60) := (fun z hzz => ⟨deps_alloc (deps_alloc (deps_below (deps_alloc (HZ.out z hzz).1 _) hb3) _) _, (HZ.out z hzz).2⟩); have HD5 : Hid (Deps ((w3.alloc (.cells #[.int .i64 s.kind, .string (tx s.target), .int .u64 s.rule, .slice A5 n5 c5, .int .u64 s.out, .int .u64 s.time, .string (tx s.tag)] 26)).alloc (.cells #[.int .i64 s.kind, .string (tx s.target), .int .u64 s.rule, .slice A5 n5 c5, .int .u64 s.out, .int .u64 s.time, .string (tx s.tag)] 26)) w.heap.size A5 n5 c5 l4) := deps_alloc (deps_alloc (deps_less hd5 HB2.out.size) _) _; have HR5 := Lib.hid (reads_rec (w3.alloc (.cells #[.int .i64 s.kind, .string (tx s.target), .int .u64 s.rule, .slice A5 n5 c5, .int .u64 s.out, .int .u64 s.time, .string (tx s.tag)] 26)) ⟨s, A5, n5, c5, l4⟩); have HN5 : Hid (n5 ≤ 60) := (by have h1 := HNX.out; show _ ≤ _; omega); have e0 := at_cell (i := 0) (one_new w3 (.cells #[.int .i64 s.kind, .string (tx s.target), .int .u64 s.rule, .slice A5 n5 c5, .int .u64 s.out, .int .u64 s.time, .string (tx s.tag)] 26)) rfl; have e1 := at_cell (i := 1) (one_new w3 (.cells #[.int .i64 s.kind, .string (tx s.target), .int .u64 s.rule, .slice A5 n5 c5, .int .u64 s.out, .int .u64 s.time, .string (tx s.tag)] 26)) rfl; have e2 := at_cell (i := 2) (one_new w3 (.cells #[.int .i64 s.kind, .string (tx s.target), .int .u64 s.rule, .slice A5 n5 c5, .int .u64 s.out, .int .u64 s.time, .string (tx s.tag)] 26)) rfl; have e3 := at_cell (i := 3) (one_new w3 (.cells #[.int .i64 s.kind, .string (tx s.target), .int .u64 s.rule, .slice A5 n5 c5, .int .u64 s.out, .int .u64 s.time, .string (tx s.tag)] 26)) rfl; have e4 := at_cell (i := 4) (one_new w3 (.cells #[.int .i64 s.kind, .string (tx s.target), .int .u64 s.rule, .slice A5 n5 c5, .int .u64 s.out, .int .u64 s.time, .string (tx s.tag)] 26)) rfl; have e5 := at_cell (i := 5) (one_new w3 (.cells #[.int .i64 s.kind, .string (tx s.target), .int .u64 s.rule, .slice A5 n5 c5, .int .u64 s.out, .int .u64 s.time, .string (tx s.tag)] 26)) rfl; have e6 := at_cell (i := 6) (one_new w3 (.cells #[.int .i64 s.kind, .string (tx s.target), .int .u64 s.rule, .slice A5 n5 c5, .int .u64 s.out, .int .u64 s.time, .string (tx s.tag)] 26)) rfl; clear hb3 hd5 hn5))
        exact ⟨⟨i + 1, zs ++ [⟨s, A5, n5, c5, l4⟩], by omega, by go_num, HX.out HS.out, by rw [List.map_append, HZS.out, HXZ.out, HSE.out]; rfl, HO6.out, HZ6.out, HB6.out⟩, by simp [intOf]; omega⟩
      · have HS := Lib.hid hs
        have HT : Hid (∀ W, Reads W W.heap.size 3 A4 n4 (dps l4) → Calls Try.prog 30 #[.int .i64 v, .int .i64 v2, .agg #[.int .i64 k, .string (tx t), .int .u64 u, .slice A4 n4 c4, .int .u64 o, .int .u64 m, .string (tx g)]] W fun e w' => ∃ A' n' c', e = .returned (.tuple #[.agg #[.int .i64 zeroR.kind, .string (tx zeroR.target), .int .u64 zeroR.rule, .slice A' n' c', .int .u64 zeroR.out, .int .u64 zeroR.time, .string (tx zeroR.tag)], .int .i64 1]) ∧ n' ≤ n4 ∧ Deps w' W.heap.size A' n' c' [] ∧ Below W.heap.size W w') := fun W hr => to_any v v2 ⟨k, t, u, o, m, g⟩ A4 n4 c4 l4 (by have := HNX.out; omega) HAX.out HFX.out (.inr (.inl ⟨HWB.out, HS.out, rfl, rfl, rfl⟩)) W hr
        go_wp2_with (go_at_call 30; have hk := HB2.out.size; refine (HT.out _ ((HRX.out.below HB2.out).more HB2.out.size)).mono ?_; rintro e w3 ⟨A5, n5, c5, rfl, hn5, hd5, hb3⟩; have HB5 := Lib.hid (((HB2.out.trans (hb3.mono HB2.out.size)).alloc (by have h1 := HB2.out.size; have h2 := hb3.size; omega) (.cells #[.int .i64 zeroR.kind, .string (tx zeroR.target), .int .u64 zeroR.rule, .slice A5 n5 c5, .int .u64 zeroR.out, .int .u64 zeroR.time, .string (tx zeroR.tag)] 26))); clear hb3 hd5 hn5)
        go_ret2
        exact ⟨[], 1, _, 0, _, [], .inr (.inl ⟨HWB.out, ⟨_, HXM.out, HS.out⟩, rfl, rfl⟩), rfl, by omega, rfl, by simp, Recs.nil _ _ _, HB5.out⟩
    · obtain rfl : i = n := by omega
      have hmay := HMAY.out
      have hzs := HZS.out
      rw [List.take_of_length_le (by rw [HL.out]; omega)] at hmay hzs
      have HMAY2 := Lib.hid hmay
      have HZS2 := Lib.hid hzs
      clear hmay hzs hb HMAY HZS
      obtain ⟨A', c', rfl, _⟩ := own_slice HOWN.out
      go_wp2
      go_ret2
      exact ⟨_, 0, A', i, c', zs, .inr (.inr ⟨HWB.out, HMAY2.out, rfl, rfl⟩), rfl, hn, HZS2.out, fun z hz => (HZ.out z hz).2, ⟨Reads.of_own HOWN.out, fun z hz => ⟨Reads.of_own (HZ.out z hz).1.1, (HZ.out z hz).1.2⟩⟩, HBR.out⟩

set_option maxRecDepth 100000 in
set_option maxHeartbeats 1000000 in
theorem all_way (v v2 : Int) (A : Option Addr) (n c : Nat) (xs : List Rw) (hw : isWayB v v2 = false) (w : World) :
    Calls Try.prog 20 #[.int .i64 v, .int .i64 v2, .slice A n c] w fun e w' => AllPost v v2 xs w e w' := by
  have HWAY := Lib.hid (way_any v v2)
  rw [hw] at HWAY
  have HWB := Lib.hid hw
  clear hw
  go_enter Try.func20, Try.ntmps20
  go_wp2_with (go_at_call 29; refine (HWAY.out _).mono ?_; rintro e w2 ⟨rfl, rfl⟩)
  go_ret2
  exact ⟨[], 11, _, 0, _, [], .inl ⟨HWB.out, rfl, rfl⟩, rfl, by omega, rfl, by simp, Recs.nil _ _ _, Below.refl _ _⟩

end Go.Proofs.Ytbgjlkbfelgglaa
