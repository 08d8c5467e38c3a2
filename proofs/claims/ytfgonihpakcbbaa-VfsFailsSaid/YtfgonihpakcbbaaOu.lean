/- What an act does to a file system. -/
import Derived.Test.YtfgonihpakcbbaaOr
import Derived.Test.YtfgonihpakcbbaaOm
import Derived.Test.YtfgonihpakcbbaaOq
import Derived.Test.YtfgonihpakcbbaaOs
import Derived.Test.YtfgonihpakcbbaaOt
namespace Go.Proofs.Ytfgonihpakcbbaa
open Go.RowKit

/-- A file system, as it is. -/
structure FsSt where
  fl : List UInt8 → Option Fl
  down : Bool
  f : Bool × Int
  g : Bool × Int
def FsAt (w : World) (base p b N : Nat) (σ : FsSt) (F : List UInt8 → Option Value) : Prop := FsBox w p b σ.down σ.f σ.g ∧ FilesF w base b N σ.fl F
theorem FsAt.below {w w' : World} {base p b N : Nat} {σ : FsSt} {F : List UInt8 → Option Value} (h : FsAt w base p b N σ F) (hb : Below w.heap.size w w') : FsAt w' base p b N σ F := ⟨h.1.below hb, h.2.below hb⟩
/-- Another one's blocks turn. -/
theorem FsAt.past {w w' : World} {base p b N : Nat} {S : Nat → Prop} {σ : FsSt} {F : List UInt8 → Option Value} (h : FsAt w base p b N σ F) (ht : Turn S w w') (hs : ∀ k, FsBlk p b F k → ¬ S k) : FsAt w' base p b N σ F := by
  have hb : ∀ k, FsBlk p b F k → w'.heap[k]? = w.heap[k]? := fun k hk => ht.2.2.2.2 k (blk_lt h.2 h.1 k hk) (hs k hk)
  exact ⟨(hb p (.inl rfl)).trans h.1, h.2.turn hb⟩
/-- The error of an act that is refused. -/
def refC (σ : FsSt) (a : Ac) : Int :=
  if σ.down = true then 7 else if a.kind = 0 then 0 else match σ.fl a.name with | none => 6 | some x => if a.kind = 1 ∧ (a.n < 0 ∨ (x.body.length : Int) < a.n) then 1 else 0
/-- The files behind an act that is done. -/
def newFl (σ : FsSt) (a : Ac) : List UInt8 → Option Fl :=
  if a.kind = 0 then flput σ.fl a.name (some ⟨(flGet σ.fl a.name).body ++ a.body, (flGet σ.fl a.name).safe⟩)
  else if a.kind = 1 then flput σ.fl a.name (some ⟨(flGet σ.fl a.name).body.take a.n.toNat, min (flGet σ.fl a.name).safe a.n.toNat⟩)
  else if a.kind = 2 then flput σ.fl a.name (some ⟨(flGet σ.fl a.name).body, (flGet σ.fl a.name).body.length⟩)
  else if a.kind = 3 then flput (flput σ.fl a.name none) a.to (some (flGet σ.fl a.name))
  else flput σ.fl a.name none
def actS (σ : FsSt) (a : Ac) : FsSt := ⟨doneF (actRuns σ.f σ.g (decide (a.kind = 0))) (newFl σ a) σ.fl, askNow σ.g, askLeft σ.f, askLeft σ.g⟩
/-- What an act leaves, and answers. -/
structure StepR (σ : FsSt) (a : Ac) (σ' : FsSt) (c : Int) : Prop where
  act : 0 ≤ a.kind → a.kind ≤ 4 → (refC σ a ≠ 0 ∧ σ' = σ ∧ c = refC σ a) ∨ (refC σ a = 0 ∧ σ' = actS σ a ∧ c = actCode σ.f σ.g)
  fail : a.kind = 5 → σ' = { σ with f := askOf a.n } ∧ c = 0
  fall : a.kind = 6 → σ' = { σ with g := askOf a.n } ∧ c = 0
  crash : a.kind = 7 → (∃ ns, IsNames σ.fl ns ∧ σ' = ⟨(crN ns (σ.fl, a.keep)).1, false, (false, 0), (false, 0)⟩) ∧ c = 0
  no : (∀ j : Int, 0 ≤ j → j ≤ 7 → a.kind ≠ j) → σ' = σ ∧ c = 0
/-- .. in memory. -/
def Did (base p b N : Nat) (σ : FsSt) (F : List UInt8 → Option Value) (a : Ac) (w : World) (c : Int) (w' : World) : Prop :=
  ∃ (σ' : FsSt) (N' : Nat) (F' : List UInt8 → Option Value), FsAt w' base p b N' σ' F' ∧ (∀ m, (∀ ns, IsNames σ.fl ns → ns.length ≤ m) → N' ≤ N + 2 + m) ∧ Turn (FsBlk p b F) w w' ∧ (∀ k, FsBlk p b F' k → FsBlk p b F k ∨ w.heap.size ≤ k) ∧ StepR σ a σ' c
/-- It is refused, or nothing is done. -/
theorem did_not {base p b N : Nat} {σ : FsSt} {F : List UInt8 → Option Value} {a : Ac} {w w1 w' : World} {c : Int} (h : FsAt w base p b N σ F) (h1 : Below w.heap.size w w1) (h2 : Below w1.heap.size w1 w') (hs : StepR σ a σ c) : Did base p b N σ F a w c w' := by
  have h3 := h1.trans (h2.mono h1.size)
  exact ⟨σ, N, F, h.below h3, fun m _ => by omega, Turn.of_below h3, fun k hk => .inl hk, hs⟩
/-- It is done. -/
theorem did_act {base p b N N' : Nat} {σ : FsSt} {F F' : List UInt8 → Option Value} {a : Ac} {w w1 w' : World} {fl' : List UInt8 → Option Fl} (h1 : Below w.heap.size w w1) (h2 : Acted w1 w' base p b N N' (askNow σ.g) (askLeft σ.f) (askLeft σ.g) fl' F F')
    (hr : refC σ a = 0) (h0 : 0 ≤ a.kind) (h4 : a.kind ≤ 4) (hfl : (actS σ a).fl = fl') : Did base p b N σ F a w (actCode σ.f σ.g) w' := by
  refine ⟨actS σ a, N', F', ⟨h2.box, by rw [hfl]; exact h2.files⟩, fun m _ => by have := h2.room; omega, (Turn.of_below h1).trans h2.turn (fun _ _ h => h), fun k hk => ?_, ⟨fun _ _ => .inr ⟨hr, rfl, rfl⟩, fun h => by omega, fun h => by omega, fun h => by omega, fun h => absurd rfl (h _ h0 (by omega))⟩⟩
  rcases h2.sub k hk with h | h
  · exact .inl h
  · exact .inr (Nat.le_trans h1.size h)
theorem flGet_some {fl : List UInt8 → Option Fl} {s : List UInt8} {x : Fl} (h : fl s = some x) : flGet fl s = x := by unfold flGet; rw [h]; rfl
theorem step_ref {σ : FsSt} {a : Ac} {c : Int} (h0 : 0 ≤ a.kind) (h4 : a.kind ≤ 4) (hr : refC σ a = c) (hc : c ≠ 0) : StepR σ a σ c :=
  ⟨fun _ _ => .inl ⟨by rw [hr]; exact hc, rfl, hr.symm⟩, fun h => by omega, fun h => by omega, fun h => by omega, fun h => absurd rfl (h _ h0 (by omega))⟩

theorem files_past2 {w w' : World} {base p b N : Nat} {down : Bool} {f g : Bool × Int} {fl : List UInt8 → Option Fl} {F : List UInt8 → Option Value} (h : FilesF w base b N fl F) (hx : FsBox w p b down f g) (ht : Turn (fun k => k = p) w w') : FilesF w' base b N fl F :=
  files_past h hx ⟨ht.1, ht.2.1, ht.2.2.1, ht.2.2.2.1, fun k hk hne => ht.2.2.2.2 k hk (fun e => hne (by rw [e]))⟩

set_option maxHeartbeats 1000000 in
theorem do_any (p b N base B : Nat) (σ : FsSt) (F : List UInt8 → Option Value) (x : Aw) (hN : N ≤ 100000) (hsz : ∀ u y, σ.fl u = some y → y.body.length ≤ 100000000 ∧ y.safe ≤ y.body.length ∧ u.length ≤ maxLen) (hf : AskIn σ.f) (hg : AskIn σ.g) (w : World) (hbase : base ≤ w.heap.size) (hBw : B ≤ w.heap.size)
    (hx : FsAt w base p b N σ F) (hBS : ∀ k, FsBlk p b F k → B ≤ k) (hr : AIn w B x) (hk1 : x.k ≤ 1000000) :
    Calls Try.prog 8 #[.pointer (some ⟨p, 0, none⟩), x.val] w fun e w' => ∃ e0, e = .returned (.int .i64 e0) ∧ Did base p b N σ F x.a w e0 w' := by
  obtain ⟨⟨kd, nm, to, body, z, keep⟩, A, k, c, K, kn, kc⟩ := x
  simp only at hk1
  obtain ⟨hnm, hto, hz, hkc, hcm, hA, hbody, hknc, hkcm, hK, hkeep⟩ := hr
  simp only at hnm hto hz hkc hcm hA hbody hknc hkcm hK hkeep
  have hal : ∀ o : Obj, Below w.heap.size w (w.alloc o) := fun o => (Below.refl _ _).alloc (Nat.le_refl _) o
  have hgl : (flGet σ.fl nm).body.length ≤ 100000000 := by
    unfold flGet
    cases e : σ.fl nm with
    | none => simp
    | some y => exact (hsz nm y e).1
  unfold Aw.val
  simp only
  by_cases h0 : kd = 0
  · subst h0
    refine do_0 p nm to A k c z K kn kc w _ ?_
    have h1 := hal (.cells #[.int .i64 0, .string (tx nm), .string (tx to), .slice A k c, .int .i64 z, .slice K kn kc] 30)
    obtain ⟨hx1, hf1⟩ := hx.below h1
    cases hd : σ.down with
    | true =>
      rw [hd] at hx1
      exact (append_down p b σ.f σ.g nm A k c _ hx1).mono fun e w' ⟨he, hb⟩ => ⟨7, he, did_not hx h1 hb (step_ref (by simp) (by simp) (by simp [refC, hd]) (by omega))⟩
    | false =>
      rw [hd] at hx1
      refine (append_any p b N base B σ.f σ.g hf hg σ.fl F nm hnm A k c body hA (by omega) (by omega) (by omega) _ (Nat.le_trans hbase h1.size) hx1 hf1 (Nat.le_trans hBw h1.size) (hbody.below (h1.mono hBw))).mono fun e w' ⟨he, N', F', hact⟩ => ⟨_, he, did_act h1 hact (by simp [refC, hd]) (by simp) (by simp) ?_⟩
      simp [actS, newFl]
  by_cases h1k : kd = 1
  · subst h1k
    refine do_1 p nm to A k c z K kn kc w _ ?_
    have h1 := hal (.cells #[.int .i64 1, .string (tx nm), .string (tx to), .slice A k c, .int .i64 z, .slice K kn kc] 30)
    obtain ⟨hx1, hf1⟩ := hx.below h1
    cases hd : σ.down with
    | true =>
      rw [hd] at hx1
      exact (trunc_down p b σ.f σ.g nm z _ hx1).mono fun e w' ⟨he, hb⟩ => ⟨7, he, did_not hx h1 hb (step_ref (by simp) (by simp) (by simp [refC, hd]) (by omega))⟩
    | false =>
      rw [hd] at hx1
      cases hfx : σ.fl nm with
      | none => exact (trunc_none p b N σ.f σ.g nm hnm z F _ hx1 hf1.1 (hf1.2.1 nm hfx)).mono fun e w' ⟨he, hb⟩ => ⟨6, he, did_not hx h1 hb (step_ref (by simp) (by simp) (by simp [refC, hd, hfx]) (by omega))⟩
      | some y =>
        by_cases hzz : z < 0 ∨ (y.body.length : Int) < z
        · obtain ⟨A', c', hF, _⟩ := hf1.2.2.1 nm y hfx
          exact (trunc_arg p b N σ.f σ.g A' y.body.length c' y.safe nm hnm z F _ hx1 hf1.1 hF hzz).mono fun e w' ⟨he, hb⟩ => ⟨1, he, did_not hx h1 hb (step_ref (by simp) (by simp) (by simp [refC, hd, hfx, hzz]) (by omega))⟩
        · obtain ⟨q, rfl⟩ : ∃ q : Nat, z = (q : Int) := ⟨z.toNat, by omega⟩
          refine (trunc_act p b N base σ.f σ.g hf hg σ.fl F nm hnm y hfx q (by omega) (by omega) (Nat.le_trans (hsz nm y hfx).1 (by omega)) _ (Nat.le_trans hbase h1.size) hx1 hf1).mono fun e w' ⟨he, N', F', hact⟩ => ⟨_, he, did_act h1 hact (by simp only [refC, hd, hfx]; rw [if_neg (by simp), if_neg (by simp), if_neg (fun h => hzz h.2)]) (by simp) (by simp) ?_⟩
          simp [actS, newFl, flGet_some hfx]
  by_cases h2k : kd = 2
  · subst h2k
    refine do_2 p nm to A k c z K kn kc w _ ?_
    have h1 := hal (.cells #[.int .i64 2, .string (tx nm), .string (tx to), .slice A k c, .int .i64 z, .slice K kn kc] 30)
    obtain ⟨hx1, hf1⟩ := hx.below h1
    cases hd : σ.down with
    | true =>
      rw [hd] at hx1
      exact (sync_down p b σ.f σ.g nm _ hx1).mono fun e w' ⟨he, hb⟩ => ⟨7, he, did_not hx h1 hb (step_ref (by simp) (by simp) (by simp [refC, hd]) (by omega))⟩
    | false =>
      rw [hd] at hx1
      cases hfx : σ.fl nm with
      | none => exact (sync_none p b N σ.f σ.g nm hnm F (hf1.2.1 nm hfx) _ hx1 hf1.1).mono fun e w' ⟨he, hb⟩ => ⟨6, he, did_not hx h1 hb (step_ref (by simp) (by simp) (by simp [refC, hd, hfx]) (by omega))⟩
      | some y =>
        refine (sync_act p b N base σ.f σ.g hf hg σ.fl F nm hnm y hfx (by omega) _ hx1 hf1).mono fun e w' ⟨he, N', F', hact⟩ => ⟨_, he, did_act h1 hact (by simp [refC, hd, hfx]) (by simp) (by simp) ?_⟩
        simp [actS, newFl, flGet_some hfx]
  by_cases h3k : kd = 3
  · subst h3k
    refine do_3 p nm to A k c z K kn kc w _ ?_
    have h1 := hal (.cells #[.int .i64 3, .string (tx nm), .string (tx to), .slice A k c, .int .i64 z, .slice K kn kc] 30)
    obtain ⟨hx1, hf1⟩ := hx.below h1
    cases hd : σ.down with
    | true =>
      rw [hd] at hx1
      exact (rename_down p b σ.f σ.g nm to _ hx1).mono fun e w' ⟨he, hb⟩ => ⟨7, he, did_not hx h1 hb (step_ref (by simp) (by simp) (by simp [refC, hd]) (by omega))⟩
    | false =>
      rw [hd] at hx1
      cases hfx : σ.fl nm with
      | none => exact (rename_none p b N σ.f σ.g nm to hnm F (hf1.2.1 nm hfx) _ hx1 hf1.1).mono fun e w' ⟨he, hb⟩ => ⟨6, he, did_not hx h1 hb (step_ref (by simp) (by simp) (by simp [refC, hd, hfx]) (by omega))⟩
      | some y =>
        refine (rename_act p b N base σ.f σ.g hf hg σ.fl F nm to hnm hto y hfx (by omega) _ hx1 hf1).mono fun e w' ⟨he, N', F', hact⟩ => ⟨_, he, did_act h1 hact (by simp [refC, hd, hfx]) (by simp) (by simp) ?_⟩
        simp [actS, newFl, flGet_some hfx]
  by_cases h4k : kd = 4
  · subst h4k
    refine do_4 p nm to A k c z K kn kc w _ ?_
    have h1 := hal (.cells #[.int .i64 4, .string (tx nm), .string (tx to), .slice A k c, .int .i64 z, .slice K kn kc] 30)
    obtain ⟨hx1, hf1⟩ := hx.below h1
    cases hd : σ.down with
    | true =>
      rw [hd] at hx1
      exact (remove_down p b σ.f σ.g nm _ hx1).mono fun e w' ⟨he, hb⟩ => ⟨7, he, did_not hx h1 hb (step_ref (by simp) (by simp) (by simp [refC, hd]) (by omega))⟩
    | false =>
      rw [hd] at hx1
      cases hfx : σ.fl nm with
      | none => exact (remove_none p b N σ.f σ.g nm hnm F (hf1.2.1 nm hfx) _ hx1 hf1.1).mono fun e w' ⟨he, hb⟩ => ⟨6, he, did_not hx h1 hb (step_ref (by simp) (by simp) (by simp [refC, hd, hfx]) (by omega))⟩
      | some y =>
        refine (remove_act p b N base σ.f σ.g hf hg σ.fl F nm hnm y hfx _ hx1 hf1).mono fun e w' ⟨he, N', F', hact⟩ => ⟨_, he, did_act h1 hact (by simp [refC, hd, hfx]) (by simp) (by simp) ?_⟩
        simp [actS, newFl]
  by_cases h5k : kd = 5
  · subst h5k
    refine do_5 p nm to A k c z K kn kc w _ ?_
    have h1 := hal (.cells #[.int .i64 5, .string (tx nm), .string (tx to), .slice A k c, .int .i64 z, .slice K kn kc] 30)
    obtain ⟨hx1, hf1⟩ := hx.below h1
    refine (fail_any p b σ.down σ.f σ.g z _ hx1).mono fun e w' ⟨he, hbx, ht⟩ => ⟨he, ?_⟩
    exact ⟨{ σ with f := askOf z }, N, F, ⟨hbx, files_past2 hf1 hx1 ht⟩, fun m _ => by omega, (Turn.of_below h1).trans ht (fun i _ h => .inl h), fun k hk => .inl hk, ⟨fun _ h => absurd h (by simp), fun _ => ⟨rfl, rfl⟩, fun h => absurd h (by simp), fun h => absurd h (by simp), fun h => absurd rfl (h 5 (by omega) (by omega))⟩⟩
  by_cases h6k : kd = 6
  · subst h6k
    refine do_6 p nm to A k c z K kn kc w _ ?_
    have h1 := hal (.cells #[.int .i64 6, .string (tx nm), .string (tx to), .slice A k c, .int .i64 z, .slice K kn kc] 30)
    obtain ⟨hx1, hf1⟩ := hx.below h1
    refine (fall_any p b σ.down σ.f σ.g z _ hx1).mono fun e w' ⟨he, hbx, ht⟩ => ⟨he, ?_⟩
    exact ⟨{ σ with g := askOf z }, N, F, ⟨hbx, files_past2 hf1 hx1 ht⟩, fun m _ => by omega, (Turn.of_below h1).trans ht (fun i _ h => .inl h), fun k hk => .inl hk, ⟨fun _ h => absurd h (by simp), fun h => absurd h (by simp), fun _ => ⟨rfl, rfl⟩, fun h => absurd h (by simp), fun h => absurd rfl (h 6 (by omega) (by omega))⟩⟩
  by_cases h7k : kd = 7
  · subst h7k
    refine do_7 p nm to A k c z K kn kc w _ ?_
    have h1 := hal (.cells #[.int .i64 7, .string (tx nm), .string (tx to), .slice A k c, .int .i64 z, .slice K kn kc] 30)
    obtain ⟨hx1, hf1⟩ := hx.below h1
    refine (crash_any p b N base σ.down σ.f σ.g σ.fl F K kn kc keep hN (fun u y hu => ⟨Nat.le_trans (hsz u y hu).1 (by omega), (hsz u y hu).2⟩) hknc hkcm hK _ (Nat.le_trans hbase h1.size) hx1 hf1 (fun hn ad e h => (by obtain ⟨ad', e', hb', _⟩ := hkeep.2 hn; rw [e] at e'; have h5 := Option.some.inj e'; have h6 := hBS _ h; rw [h5] at h6; omega)) ((hkeep.below (h1.mono hBw)).more (Nat.le_trans hBw h1.size))).mono fun e w' ⟨he, F', ns, hns, _, hf2, hx2, ht, hsub⟩ => ⟨he, ?_⟩
    refine ⟨⟨(crN ns (σ.fl, keep)).1, false, (false, 0), (false, 0)⟩, N + ns.length, F', ⟨hx2, hf2⟩, fun m hm => by have := hm ns hns; omega, (Turn.of_below h1).trans ht (fun _ _ h => h), fun k hk => ?_, ⟨fun _ h => absurd h (by simp), fun h => absurd h (by simp), fun h => absurd h (by simp), fun _ => ⟨⟨ns, hns, rfl⟩, rfl⟩, fun h => absurd rfl (h 7 (by omega) (by omega))⟩⟩
    rcases hsub k hk with h | h
    · exact .inl h
    · exact .inr (Nat.le_trans h1.size h)
  · have hno : ∀ j : Int, 0 ≤ j → j ≤ 7 → kd ≠ j := fun j _ _ => by omega
    exact do_no kd hno p nm to A k c z K kn kc w _ (did_not hx (hal _) (Below.refl _ _) ⟨fun _ _ => by simp only at *; omega, fun h => absurd h h5k, fun h => absurd h h6k, fun h => absurd h h7k, fun _ => ⟨rfl, rfl⟩⟩)

end Go.Proofs.Ytfgonihpakcbbaa
