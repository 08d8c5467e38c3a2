/- Append. -/
import Derived.Test.YtfgonihpakcbbaaOf
namespace Go.Proofs.Ytfgonihpakcbbaa
open Go.RowKit Go.Maps Go.ChangeMaps Go.WideMaps Go.Sort

/-- What is done, or nothing. -/
def doneF (r : Bool) (x y : List UInt8 → Option Fl) : List UInt8 → Option Fl := match r with | true => x | false => y
/-- What an act leaves. -/
structure Acted (w w' : World) (base p b N N' : Nat) (down : Bool) (f g : Bool × Int) (fl' : List UInt8 → Option Fl) (F F' : List UInt8 → Option Value) : Prop where
  box : FsBox w' p b down f g
  files : FilesF w' base b N' fl' F'
  room : N' ≤ N + 2
  turn : Turn (FsBlk p b F) w w'
  sub : ∀ k, FsBlk p b F' k → FsBlk p b F k ∨ w.heap.size ≤ k
theorem files_past {w w' : World} {base p b N : Nat} {down : Bool} {f g : Bool × Int} {fl : List UInt8 → Option Fl} {F : List UInt8 → Option Value} (h : FilesF w base b N fl F) (hx : FsBox w p b down f g) (hg : w.grownBy w' (some p)) : FilesF w' base b N fl F := by
  obtain ⟨es, ck, hb⟩ := h.1.heap
  obtain ⟨h1, h2, h3, h4⟩ := h
  refine ⟨h1.kept hg (fun e => ?_), h2, fun u x hu => ?_, h4⟩
  · rw [Option.some.inj e] at hb
    rw [show w.heap[p]? = some _ from hx] at hb
    cases hb
  · obtain ⟨A, c, e, hA, ho⟩ := h3 u x hu
    exact ⟨A, c, e, hA, ho.kept hg (.inr (own_cells ho hx (by decide)))⟩

/-- A row of bytes isn't the box. -/
theorem reads_box {w w' : World} {B n p b : Nat} {A : Option Addr} {bs : List UInt8} {d : Bool} {f g : Bool × Int} (h : Reads w B 1 A n (bs.map bv)) (hx : FsBox w p b d f g) (hg : w.grownBy w' (some p)) (hB : B ≤ w.heap.size) : Reads w' B 1 A n (bs.map bv) := by
  refine ⟨h.1, fun hn => ?_⟩
  obtain ⟨ad, e, hb, hc⟩ := h.2 hn
  have hl : 0 < bs.length := by have := h.1; simp at this; omega
  have hne : ad.block ≠ p := fun e2 => by
    have h0 := hc 0 (bv bs[0]) (by rw [List.getElem?_map, List.getElem?_eq_getElem hl]; rfl)
    have ha : ad.add 0 = ad := by unfold Addr.add; simp
    rw [ha] at h0
    unfold FsBox at hx
    rw [← e2] at hx
    unfold World.cell? at h0
    rw [hx] at h0
    obtain ⟨f1, f2⟩ := f
    obtain ⟨g1, g2⟩ := g
    revert h0
    generalize ad.off = o
    match o with
    | 0 => simp [bv]
    | 1 => simp [bv]
    | 2 => simp [bv]
    | 3 => simp [bv]
    | 4 => simp [bv]
    | 5 => simp [bv]
    | o + 6 => simp
  exact ⟨ad, e, hb, fun j u hu => (World.cell?_of_block (by rw [block_of_add]; exact hg.block ad.block (by omega) (fun e2 => hne (Option.some.inj e2)))).trans (hc j u hu)⟩

set_option maxRecDepth 100000 in
set_option maxHeartbeats 4000000 in
theorem append_any (p b N base B : Nat) (f g : Bool × Int) (hfi : AskIn f) (hgi : AskIn g) (fl : List UInt8 → Option Fl) (F : List UInt8 → Option Value) (s : List UInt8) (hs : s.length ≤ maxLen) (Ab : Option Addr) (nb cb : Nat) (body : List UInt8) (hAb : Ab = none → cb = 0) (hN : N < 1000000) (hbl : nb ≤ 1000000) (hxl : (flGet fl s).body.length ≤ 1000000000) (w : World) (hbase : base ≤ w.heap.size)
    (hx : FsBox w p b false f g) (hf : FilesF w base b N fl F) (hB : B ≤ w.heap.size) (hr : Reads w B 1 Ab nb (body.map bv)) :
    Calls Try.prog 19 #[.pointer (some ⟨p, 0, none⟩), .string (tx s), .slice Ab nb cb] w fun e w' => e = .returned (.int .i64 (actCode f g)) ∧
      ∃ N' F', Acted w w' base p b N N' (askNow g) (askLeft f) (askLeft g) (doneF (actRuns f g true) (flput fl s (some ⟨(flGet fl s).body ++ body, (flGet fl s).safe⟩)) fl) F F' := by
  have hpl := hx.lt
  have HA1 : Hid (Below w.heap.size w (w.alloc (.cells #[.pointer (some ⟨p, 0, none⟩)] 26))) := (Below.refl _ _).alloc (Nat.le_refl _) _
  have HA2 : Hid (Below w.heap.size w ((w.alloc (.cells #[.pointer (some ⟨p, 0, none⟩)] 26)).alloc (.cells #[.string (tx s)] 9))) := HA1.out.alloc HA1.out.size _
  have HA3 : Hid (Below w.heap.size w (((w.alloc (.cells #[.pointer (some ⟨p, 0, none⟩)] 26)).alloc (.cells #[.string (tx s)] 9)).alloc (.cells #[.slice Ab nb cb] 28))) := HA2.out.alloc HA2.out.size _
  have h1 := one_new w (.cells #[.pointer (some ⟨p, 0, none⟩)] 26)
  have h2 := one_new (w.alloc (.cells #[.pointer (some ⟨p, 0, none⟩)] 26)) (.cells #[.string (tx s)] 9)
  have h3 := one_new ((w.alloc (.cells #[.pointer (some ⟨p, 0, none⟩)] 26)).alloc (.cells #[.string (tx s)] 9)) (.cells #[.slice Ab nb cb] 28)
  have z1 : (w.alloc (.cells #[.pointer (some ⟨p, 0, none⟩)] 26)).heap.size = w.heap.size + 1 := by simp
  have z2 : ((w.alloc (.cells #[.pointer (some ⟨p, 0, none⟩)] 26)).alloc (.cells #[.string (tx s)] 9)).heap.size = w.heap.size + 2 := by simp
  rw [z1] at h2
  rw [z2] at h3
  have e2 : (((w.alloc (.cells #[.pointer (some ⟨p, 0, none⟩)] 26)).alloc (.cells #[.string (tx s)] 9)).alloc (.cells #[.slice Ab nb cb] 28)).heap[w.heap.size + 1]? = some (.cells #[.string (tx s)] 9) := (Below.heap_alloc _ _ _ (by rw [z2]; omega)).trans h2
  have e1 : (((w.alloc (.cells #[.pointer (some ⟨p, 0, none⟩)] 26)).alloc (.cells #[.string (tx s)] 9)).alloc (.cells #[.slice Ab nb cb] 28)).heap[w.heap.size]? = some (.cells #[.pointer (some ⟨p, 0, none⟩)] 26) := (Below.heap_alloc _ _ _ (by rw [z2]; omega)).trans ((Below.heap_alloc _ _ _ (by rw [z1]; omega)).trans h1)
  obtain ⟨w1, hw1⟩ : ∃ x, x = ((w.alloc (.cells #[.pointer (some ⟨p, 0, none⟩)] 26)).alloc (.cells #[.string (tx s)] 9)).alloc (.cells #[.slice Ab nb cb] 28) := ⟨_, rfl⟩
  rw [← hw1] at HA3 h3 e1 e2
  have hx1 := hx.below HA3.out
  have hf1 := hf.below HA3.out
  have hr1 := hr.below (HA3.out.mono (by omega))
  have HACT := Lib.hid (act_any p b false f g hfi hgi true 30 (enters_of Try.func30 (by kernel_rfl) rfl) #[.pointer (some ⟨w.heap.size, 0, none⟩), .pointer (some ⟨w.heap.size + 1, 0, none⟩), .pointer (some ⟨w.heap.size + 2, 0, none⟩)] w1 hx1
    (fun W W' => (∃ F', FilesF W' base b (N + 1) (flput fl s (some ⟨(flGet fl s).body ++ body, (flGet fl s).safe⟩)) F' ∧ ∀ k, FsBlk p b F' k → FsBlk p b F k ∨ W.heap.size ≤ k) ∧ W'.heap[p]? = W.heap[p]? ∧ Turn (FsBlk p b F) W W')
    (fun d W hW hg => by
      have hfW := files_past hf1 hx1 hg
      refine (append_do p b N base w.heap.size (w.heap.size + 1) (w.heap.size + 2) B d _ _ fl F s hs Ab nb cb body hAb hN hbl hxl W (by have := HA3.out.size; have := hg.size; omega) hW hfW ?_ ?_ ?_ (by have := HA3.out.size; have := hg.size; omega) (reads_box hr1 hx1 hg (by have := HA3.out.size; omega))).mono ?_
      · exact (hg.block _ (lt_heapv e1) (fun e => by have := Option.some.inj e; omega)).trans e1
      · exact (hg.block _ (lt_heapv e2) (fun e => by have := Option.some.inj e; omega)).trans e2
      · exact (hg.block _ (lt_heapv h3) (fun e => by have := Option.some.inj e; omega)).trans h3
      · rintro e W' ⟨he, F', hF', hx', ht', hsub⟩
        exact ⟨he, ⟨F', hF', hsub⟩, hx'.trans hW.symm, ht'⟩))
  have q1 := at_cell (i := 0) e1 rfl
  have q2 := at_cell (i := 1) hx1 rfl
  rw [hw1] at q1 q2
  have HX1 := Lib.hid hx1
  have HF1 := Lib.hid hf1
  clear hx hf hr hx1 hf1 hr1 h1 h2 h3 e1 e2 z1 z2
  go_enter Try.func19, Try.ntmps19
  have HACT2 := HACT
  rw [hw1] at HACT2
  have HW1 := Lib.hid hw1
  clear hw1 HACT
  go_wp2_with fail
  refine HACT2.out.mono ?_
  rintro e w5 ⟨W, hbx, hg, rfl, hrun, hno⟩
  rw [← HW1.out] at hg
  have HBX := Lib.hid hbx
  have HG := Lib.hid hg
  have HRUN := Lib.hid hrun
  have HNO := Lib.hid hno
  clear hbx hg hrun hno
  go_wp2
  go_ret
  refine ⟨rfl, ?_⟩
  have htw : Turn (FsBlk p b F) w W := (Turn.of_below HA3.out).grown HG.out (fun i hi _ => .inl (Option.some.inj hi).symm)
  have hbx2 : FsBox W p b (askNow g) (askLeft f) (askLeft g) := by have h := HBX.out; rw [Bool.false_or] at h; exact h
  cases hru : actRuns f g true with
  | true =>
    obtain ⟨⟨F', hF', hsub⟩, hp', ht'⟩ := HRUN.out hru
    refine ⟨N + 1, F', ?_⟩
    refine ⟨hp'.trans hbx2, hF', by omega, htw.trans ht' (fun i _ h => h), fun k hk => ?_⟩
    rcases hsub k hk with h | h
    · exact .inl h
    · exact .inr (by have := HA3.out.size; have := HG.out.size; omega)
  | false =>
    have e := HNO.out hru
    subst e
    refine ⟨N, F, ?_⟩
    exact ⟨hbx2, files_past HF1.out HX1.out HG.out, by omega, htw, fun k hk => .inl hk⟩

end Go.Proofs.Ytfgonihpakcbbaa
