/- Texts of one proof, one behind the other. -/
import Derived.Test.YtbaokcigfgfoaaaZk
import Derived.Test.YtbaokcigfgfoaaaZm
import Derived.ProofKit
import Derived.OpenShut
import Derived.Carry
import Derived.Test.YtbaokcigfgfoaaaRows
import Derived.Test.YtbaokcigfgfoaaaZo
import Derived.Test.YtbaokcigfgfoaaaTz
import Derived.Test.YtbaokcigfgfoaaaRs

/- The way down: a node whose rule is a number of 64 bits; three rows of numbers. -/
namespace Go.Proofs.Ytbaokcigfgfoaaa
open Go.ChangeShapes Go.WideShapes Go.ChangeAt Go.RowKit Go.Deep

set_option maxRecDepth 100000 in
theorem open_ncellsu {H : Type} {enc : TypeId × Value → H} {W : World} {fuel : Nat} {cs : List Value} {x : DataW H × List MemPlace} (hf : DataW.trod enc Try.prog W 0 (fun _ => true) true fuel 25 cs = some x) :
    ∃ x : Nw, cs = x.cells ∧ NGood W x ∧ 0 ≤ x.d.rule ∧ x.d.rule < 18446744073709551616 := by
  obtain ⟨y0, y1, y2, y3, n', hl, g0, g1, g2, g3⟩ := trod_struct4 Try.underlying25 hf
  rw [n_node] at hl
  rw [n_str] at g0
  rw [n_bool] at g1
  rw [n_u64] at g2
  rw [n_strs] at g3
  obtain ⟨z0, e0, _, w0⟩ := DataW.trod_string Try.underlying9 g0
  obtain ⟨z1, e1, _⟩ := DataW.trod_bool Try.underlying4 g1
  obtain ⟨z2, e2, _, w2⟩ := DataW.trod_int Try.underlying22 g2
  obtain ⟨A, n, c, ts, e3, hn, hc, hA, hr, hd⟩ := open_ntexts g3
  obtain ⟨zn, rfl, hzn⟩ := nat_u64 w2
  refine ⟨⟨⟨z0.data.toList, z1, (zn : Int), ts⟩, A, n, c⟩, ?_, ⟨⟨by rw [Array.length_toList]; exact w0, hd⟩, hn, hc, hA, hr⟩, by show (0 : Int) ≤ (zn : Int); omega, by show (zn : Int) < 18446744073709551616; unfold top at hzn; omega⟩
  match cs, hl with
  | [c0, c1, c2, c3], _ =>
    have f0 := n_one_at e0
    have f1 := n_one_at e1
    have f2 := n_one_at e2
    have f3 := n_one_at e3
    simp at f0 f1 f2 f3
    subst f0 f1 f2 f3
    unfold Nw.cells
    simp only [n_tx_back]
set_option maxRecDepth 100000 in
theorem open_nodeu {H : Type} {enc : TypeId × Value → H} {W : World} {v : Value} {d : DataW H} {ps : List MemPlace} {r0 : Reach} {b0 : Nat} (hval : Value.okWide Try.prog W r0 b0 25 v) (hd : DataW.Trod enc Try.prog W 0 (fun _ => true) true 25 v d ps) :
    ∃ x : Nw, v = x.val ∧ NGood W x ∧ 0 ≤ x.d.rule ∧ x.d.rule < 18446744073709551616 := by
  obtain ⟨cs, rfl, _⟩ := okWide_struct Try.underlying25 hval
  obtain ⟨fuel, hf⟩ := hd
  obtain ⟨x, h1, h2⟩ := open_ncellsu hf
  refine ⟨x, ?_, h2⟩
  have : cs = x.cells.toArray := by
    apply Array.ext'
    simpa [Value.cells] using h1
  rw [this]
  rfl
set_option maxRecDepth 100000 in
theorem c_arr3 : Try.prog.cellsOf 46 = 3 := by kernel_rfl
theorem c_row : Try.prog.cellsOf 27 = 1 := by kernel_rfl
set_option maxRecDepth 100000 in
theorem open_rows3 {H : Type} {enc : TypeId × Value → H} {W : World} {v : Value} {d : DataW H} {ps : List MemPlace} {r0 : Reach} {b0 : Nat} (hval : Value.okWide Try.prog W r0 b0 46 v) (hd : DataW.Trod enc Try.prog W 0 (fun _ => true) true 46 v d ps) :
    ∃ (H0 : Option Addr) (m0 d0 : Nat) (q0 : List Q64) (H1 : Option Addr) (m1 d1 : Nat) (q1 : List Q64) (H2 : Option Addr) (m2 d2 : Nat), v = .agg #[.slice H0 m0 d0, .slice H1 m1 d1, .slice H2 m2 d2] ∧ m0 ≤ maxLen ∧ m1 ≤ maxLen ∧ Reads W W.heap.size 1 H0 m0 (q0.map qv) ∧ Reads W W.heap.size 1 H1 m1 (q1.map qv) := by
  obtain ⟨cs, rfl, hsz, _⟩ : ∃ cs, v = .agg cs ∧ cs.size = Try.prog.cellsOf 46 ∧ Row.okWide Try.prog W r0 b0 46 cs := by
    simpa [Value.okWide, Try.underlying46] using hval
  rw [c_arr3] at hsz
  obtain ⟨l⟩ := cs
  match l, hsz with
  | [k0, k1, k2], _ =>
    obtain ⟨fuel, hf⟩ := hd
    obtain ⟨y0, y1, y2, m, _, g0, g1, g2⟩ := trod_array3 Try.underlying46 c_row hf
    obtain ⟨H0, m0, d0, q0, e0, hn0, hc0, _, hr0⟩ := open_kqs g0
    obtain ⟨H1, m1, d1, q1, e1, hn1, hc1, _, hr1⟩ := open_kqs g1
    obtain ⟨H2, m2, d2, q2, e2, hn2, hc2, _, hr2⟩ := open_kqs g2
    simp at e0 e1 e2
    subst e0 e1 e2
    exact ⟨H0, m0, d0, q0, H1, m1, d1, q1, H2, m2, d2, rfl, by omega, by omega, hr0, hr1⟩

end Go.Proofs.Ytbaokcigfgfoaaa

/- The way up for a law: it answered true, and of what was there nothing has turned: then its row's close holds, whatever its arguments are. -/
namespace Go.Proofs.Ytbaokcigfgfoaaa
open Go.ChangeShapes Go.WideShapes Go.ChangeAt Go.RowKit

theorem trodAll_below {H : Type} {enc : TypeId × Value → H} {P : Program} (hl : laidOutB P = true) {W W' : World} (hb : Below W.heap.size W W') :
    ∀ {ts : List TypeId} {vs : List Value} {ds : List (DataW H)} {ps : List MemPlace}, (∀ t ∈ ts, P.readableRec t = true ∧ t < P.types.size) →
      DataW.TrodAll enc P W 0 (fun _ => true) true ts vs ds ps → (∀ x ∈ ps, x.block < W.heap.size) → DataW.TrodAll enc P W' 0 (fun b => decide (b < W.heap.size)) true ts vs ds ps
  | [], vs, ds, ps, _, h, _ => by
    obtain ⟨rfl, rfl, rfl⟩ := trodAll_nil h
    exact trodAll_mk0
  | t :: ts, vs, ds, ps, hr, h, hlt => by
    obtain ⟨v, vs1, d, ds1, a, b, rfl, rfl, rfl, h1, h2⟩ := trodAll_cons h
    have ht := hr t (by simp)
    exact trodAll_cons_mk (Below.trod hl ht.1 ht.2 h1 hb (fun x hx => hlt x (by simp [hx])))
      (trodAll_below hl hb (fun t' h' => hr t' (by simp [h'])) h2 (fun x hx => hlt x (by simp [hx])))

theorem law_post {H : Type} {enc : TypeId × Value → H} {P : Program} {f : Func} {s : ChangeSpec} {tb : TypeId} (hl : laidOutB P = true) (htb : P.underlying tb = some .bool)
    (hres : f.resultTypes = #[tb]) (hpar : ∀ t ∈ f.params.toList, P.readableRec t = true ∧ t < P.types.size) (hvars : s.vars = [])
    {W W' : World} {args : Array Value} {ds gs : List (DataW H)} {before : List MemPlace}
    (hW : DataW.Whole enc P f.params.toList s.vars false W args.toList ds gs before) (hb : Below W.heap.size W W')
    (hfn : s.fn H (ds ++ gs) = { results := [.lit (.bool true)], args := ds, vars := [] }) :
    s.post enc P f false true false false W args (.bool true) W' := by
  have hW' := hW
  obtain ⟨p, q, hA, hV, rfl, _, _⟩ := hW
  rw [hvars] at hV
  obtain ⟨rfl, rfl⟩ := trodVars_none hV
  refine ⟨ds, [], p ++ [], [], p, [], hW', ?_, ?_, ?_, hb.frame _, fun h => by cases h⟩
  · rw [hfn, hres]
    exact trodAll_mk1 (shut_bool htb true)
  · rw [hfn]
    exact trodAll_below hl hb hpar hA (fun x hx => by simpa using hW'.lt x (by simpa using hx))
  · rw [hfn, hvars]
    exact rfl

end Go.Proofs.Ytbaokcigfgfoaaa

/- Proved: DirtyClean answers true at any arguments, in any memory; nothing that was there is changed. No condition. -/
namespace Go.Proofs.Ytbaokcigfgfoaaa.cleanp
open Go.ChangeShapes Go.WideShapes Go.ChangeAt Go.RowKit

theorem own : ownKnob Try.prog.godebug = none := by kernel_rfl
theorem laidOut : laidOutB Try.prog = true := by kernel_rfl

set_option maxRecDepth 100000 in
theorem lifted (os : Os) (started : os.Started) (H : Type) (enc : TypeId × Value → H) :
    ReturnsInHanded {} Try.checked os 5 .any (Rows.dirtyCleanSpec.pre6 enc Try.prog Try.f5 Rows.dirtyCleanRow.domain false) (Rows.dirtyCleanSpec.post enc Try.prog Try.f5 false true false false) := by
  refine returnsInHanded_of_change (C := Try.checked) own started (by kernel_rfl) Try.func5
    (ChangeSpec.witness6 (enc := enc) (C := Try.checked) false ⟨#[], #[.agg #[.string { data := #[] }, .bool false, .int .u64 0, .slice none 0 0], .slice none 0 0, .agg #[.slice none 0 0, .slice none 0 0, .slice none 0 0]], []⟩ 8 (by kernel_rfl) (by kernel_rfl) (by kernel_rfl) (by kernel_rfl)) ?_
  intro W base args ds gs before hval0 hW hcnd _
  have hval : ∀ (j : Nat) t v, Try.f5.params[j]? = some t → args[j]? = some v → Value.okWide Try.prog W .any base t v := hval0
  have hW' := hW
  obtain ⟨p, q, hA0, hV, rfl, hfz, hnd⟩ := hW
  have hA : DataW.TrodAll enc Try.prog W 0 (fun _ => true) true Try.f5.params.toList args.toList ds p := hA0
  rw [Try.params5] at hA hval
  obtain ⟨v0, v1, v2, d0, d1, d2, p0, p1, p2, rfl, rfl, rfl, h0, h1, h2⟩ := trodAll_three hA
  obtain ⟨rfl, rfl⟩ := trodVars_none hV
  obtain ⟨x, rfl, hg, hru⟩ := open_nodeu (hval 0 25 v0 rfl rfl) h0
  obtain ⟨B, q, c0, xs, rfl, hq, hBn, hfit, hr⟩ := open_recs (hval 1 26 v1 rfl rfl) h1
  obtain ⟨H0, m0, d0, q0, H1, m1, d1, q1, H2, m2, d2, rfl, hm0, hm1, hr0, hr1⟩ := open_rows3 (hval 2 46 v2 rfl rfl) h2
  refine (dclean_any x B q c0 xs H0 m0 d0 q0 H1 m1 d1 q1 H2 m2 d2 W hg hru hq hfit hm0 hm1 hr hr0 hr1).mono fun e W' ⟨he, hb⟩ => ?_
  subst he
  exact ⟨_, rfl, law_post laidOut Try.underlying4 rfl (fun t ht => ⟨by revert t; decide +kernel, by revert t; decide +kernel⟩) rfl hW' hb rfl⟩

theorem proved : Rows.DirtyCleanSaid :=
  OpenClaim.holds_of_wide 5 Try.f5 rfl rfl rfl rfl rfl rfl rfl ⟨rfl, rfl, rfl, rfl, rfl⟩ rfl rfl rfl rfl rfl (by kernel_rfl) Try.func5 (by kernel_rfl)
    (of_decide_eq_true (by kernel_rfl)) (by unfold Func.isWrapper; first | (rw [if_pos (by decide +kernel)]; kernel_rfl) | (rw [if_neg (by decide +kernel)]; exact ⟨rfl, rfl⟩))
    (fun os started H enc _ => lifted os started H enc)

end Go.Proofs.Ytbaokcigfgfoaaa.cleanp
