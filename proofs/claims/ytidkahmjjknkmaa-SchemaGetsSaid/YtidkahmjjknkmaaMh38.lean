/- Texts of one proof, one behind the other. -/
import Derived.Test.YtidkahmjjknkmaaMh1
import Derived.Test.YtidkahmjjknkmaaMh3
import Derived.SliceStrings
import Derived.ChangeMaps5
import Derived.Laws.IdiomArrays
import Derived.Test.YtidkahmjjknkmaaMh35
import Derived.Test.YtidkahmjjknkmaaMh37
import Derived.Test.YtidkahmjjknkmaaMh26
import Derived.ProofKit
import Derived.OpenShut
import Derived.Carry

/- The way down: a slice of texts that came in, no text longer than there can be one. -/
namespace Go.Proofs.Ytidkahmjjknkmaa
open Go.ChangeShapes Go.WideShapes Go.ChangeAt Go.RowKit

theorem tx_back0 (s : ByteArray) : tx s.data.toList = s := by
  cases s
  simp [tx]

theorem open_textsL {H : Type} {enc : TypeId × Value → H} {P : Program} {W : World} {t e : TypeId} {v : Value} {d : DataW H} {ps : List MemPlace} {r : Reach} {b0 : Nat} (ht : P.underlying t = some (.slice e)) (he : P.underlying e = some .string) (hc : P.cellsOf e = 1)
    (hval : Value.okWide P W r b0 t v) (hd : DataW.Trod enc P W 0 (fun _ => true) true t v d ps) :
    ∃ (A : Option Addr) (n c : Nat) (ts : List (List UInt8)), v = .slice A n c ∧ n ≤ c ∧ Reads W W.heap.size 1 A n (ts.map tsv) ∧ ∀ s ∈ ts, s.length ≤ maxLen := by
  obtain ⟨a, n, c, rfl⟩ := okWide_slice ht hval
  obtain ⟨fuel, hf⟩ := hd
  rcases open_strings ht he hc hf with ⟨hcs, hx⟩ | ⟨ad, len, cap, zs, hcs, _, hl, hm, hz, hx, hcell, hwz⟩
  · have h0 : Value.slice a n c = .slice none 0 0 := by simpa [Value.cells] using hcs
    cases h0
    exact ⟨none, 0, 0, [], rfl, Nat.le_refl _, Reads.none_, by simp⟩
  · have h0 : Value.slice a n c = .slice (some ad) len cap := by simpa [Value.cells] using hcs
    cases h0
    simp only [if_true] at hz
    refine ⟨some ad, n, c, (zs.take n).map (fun s => s.data.toList), rfl, hl, ⟨by simp [hz, Nat.min_eq_left hl], fun hn => ⟨ad, rfl, ?_, fun j u hu => ?_⟩⟩, fun s hs => ?_⟩
    · have := cell_lt (hcell 0 (by omega))
      rwa [block_of_add] at this
    · rw [List.map_map, List.getElem?_map, List.getElem?_take] at hu
      split at hu
      · rename_i hj
        have hjl : j < zs.length := by omega
        rw [List.getElem?_eq_getElem hjl] at hu
        have hu' : tsv (zs[j].data.toList) = u := by simpa using hu
        rw [hcell j hjl, ← hu', tsv, tx_back0]
        simp [List.getD, List.getElem?_eq_getElem hjl]
      · cases hu
    · obtain ⟨z, hz1, rfl⟩ := List.mem_map.1 hs
      have := hwz z (List.mem_of_mem_take hz1)
      rw [Array.length_toList]
      exact this

end Go.Proofs.Ytidkahmjjknkmaa

/- The way down: a slice of texts that came in, and how many there can be. -/
namespace Go.Proofs.Ytidkahmjjknkmaa
open Go.ChangeShapes Go.WideShapes Go.ChangeAt Go.RowKit

theorem open_textsM {H : Type} {enc : TypeId × Value → H} {P : Program} {W : World} {t e : TypeId} {v : Value} {d : DataW H} {ps : List MemPlace} {r : Reach} {b0 : Nat} (ht : P.underlying t = some (.slice e)) (he : P.underlying e = some .string) (hc : P.cellsOf e = 1)
    (hval : Value.okWide P W r b0 t v) (hd : DataW.Trod enc P W 0 (fun _ => true) true t v d ps) :
    ∃ (A : Option Addr) (n c : Nat) (ts : List (List UInt8)), v = .slice A n c ∧ n ≤ c ∧ n ≤ maxLen ∧ Reads W W.heap.size 1 A n (ts.map tsv) ∧ ∀ s ∈ ts, s.length ≤ maxLen := by
  obtain ⟨a, n, c, rfl⟩ := okWide_slice ht hval
  obtain ⟨fuel, hf⟩ := hd
  rcases open_strings ht he hc hf with ⟨hcs, hx⟩ | ⟨ad, len, cap, zs, hcs, _, hl, hm, hz, hx, hcell, hwz⟩
  · have h0 : Value.slice a n c = .slice none 0 0 := by simpa [Value.cells] using hcs
    cases h0
    exact ⟨none, 0, 0, [], rfl, Nat.le_refl _, by omega, Reads.none_, by simp⟩
  · have h0 : Value.slice a n c = .slice (some ad) len cap := by simpa [Value.cells] using hcs
    cases h0
    simp only [if_true] at hz
    refine ⟨some ad, n, c, (zs.take n).map (fun s => s.data.toList), rfl, hl, Nat.le_trans hl hm, ⟨by simp [hz, Nat.min_eq_left hl], fun hn => ⟨ad, rfl, ?_, fun j u hu => ?_⟩⟩, fun s hs => ?_⟩
    · have := cell_lt (hcell 0 (by omega))
      rwa [block_of_add] at this
    · rw [List.map_map, List.getElem?_map, List.getElem?_take] at hu
      split at hu
      · rename_i hj
        have hjl : j < zs.length := by omega
        rw [List.getElem?_eq_getElem hjl] at hu
        have hu' : tsv (zs[j].data.toList) = u := by simpa using hu
        rw [hcell j hjl, ← hu', tsv, tx_back0]
        simp [List.getD, List.getElem?_eq_getElem hjl]
      · cases hu
    · obtain ⟨z, hz1, rfl⟩ := List.mem_map.1 hs
      have := hwz z (List.mem_of_mem_take hz1)
      rw [Array.length_toList]
      exact this

end Go.Proofs.Ytidkahmjjknkmaa

/- SchemaGets, whole; the way down: a pair of ints. -/
namespace Go.Proofs.Ytidkahmjjknkmaa
open Go.ChangeShapes Go.WideShapes Go.ChangeAt Go.RowKit

theorem trod_array2s {H : Type} {enc : TypeId × Value → H} {P : Program} {w : World} {base : Nat} {spare : Nat → Bool} {held : Bool} {t e : TypeId} {fuel : Nat} {c0 c1 : Value} {x : DataW H × List MemPlace} (ht : P.underlying t = some (.array 2 e)) (hce : P.cellsOf e = 1)
    (h : DataW.trod enc P w base spare held fuel t [c0, c1] = some x) : ∃ y0 y1 n, DataW.trod enc P w base spare held n e [c0] = some y0 ∧ DataW.trod enc P w base spare held n e [c1] = some y1 := by
  cases fuel with
  | zero => simp [DataW.trod] at h
  | succ n =>
    unfold DataW.trod at h
    rw [ht] at h
    simp [hce, List.range_succ] at h
    cases h0 : DataW.trod enc P w base spare held n e [c0] with
    | none => simp [h0] at h
    | some y0 =>
      cases h1 : DataW.trod enc P w base spare held n e [c1] with
      | none => simp [h0, h1] at h
      | some y1 => exact ⟨y0, y1, n, h0, h1⟩
theorem s_arr : Try.prog.cellsOf 47 = 2 := by kernel_rfl
theorem s_int : Try.prog.cellsOf 3 = 1 := by kernel_rfl
set_option maxRecDepth 100000 in
theorem open_twoints {H : Type} {enc : TypeId × Value → H} {W : World} {v : Value} {d : DataW H} {ps : List MemPlace} {r0 : Reach} {b0 : Nat} (hval : Value.okWide Try.prog W r0 b0 47 v) (hd : DataW.Trod enc Try.prog W 0 (fun _ => true) true 47 v d ps) :
    ∃ x y : Int, v = .agg #[.int .i64 x, .int .i64 y] := by
  obtain ⟨cs, rfl, hsz, _⟩ : ∃ cs, v = .agg cs ∧ cs.size = Try.prog.cellsOf 47 ∧ Row.okWide Try.prog W r0 b0 47 cs := by
    simpa [Value.okWide, Try.underlying47] using hval
  rw [s_arr] at hsz
  obtain ⟨l⟩ := cs
  match l, hsz with
  | [k0, k1], _ =>
    obtain ⟨fuel, hf⟩ := hd
    obtain ⟨y0, y1, m, g0, g1⟩ := trod_array2s Try.underlying47 s_int hf
    obtain ⟨x0, e0, _, w0⟩ := DataW.trod_int Try.underlying3 g0
    obtain ⟨x1, e1, _, w1⟩ := DataW.trod_int Try.underlying3 g1
    refine ⟨x0, x1, ?_⟩
    simp at e0 e1
    subst e0 e1
    rfl

theorem sgets_any (ver at_ : Int) (L P : Option Addr) (nL cL nP cP : Nat) (ts ps : List (List UInt8)) (hnL : nL ≤ maxLen) (hts : ∀ s ∈ ts, s.length ≤ maxLen) (hnP : nP ≤ maxLen) (hcP : nP ≤ cP) (hps : ∀ s ∈ ps, s.length ≤ maxLen) (w : World) (hrL : Reads w w.heap.size 1 L nL (ts.map tsv)) (hrP : Reads w w.heap.size 1 P nP (ps.map tsv)) :
    Calls Try.prog 4 #[.slice L nL cL, .slice P nP cP, .agg #[.int .i64 ver, .int .i64 at_]] w fun e w' => e = .returned (.bool true) ∧ Below w.heap.size w w' := by
  by_cases hf : fewP ts
  · by_cases hg : fewP ps
    · have hln := tnew_len ts
      have h40 : (tnew ts).length ≤ 1000 := by have := hf.2; omega
      have hbd : ∀ s ∈ tnew ts, s.length ≤ 3000 := fun s hs => tfold_bound 3000 ts [] (fun s h => by cases h) hf.1 s hs
      rcases gets_both ver (tnew ts) ps h40 hbd (by have := hg.2; omega) hg.1 at_ with ⟨e9, he, h1, h2, _⟩ | ⟨a, j, r, l, rfl, haj, hF, h1, h2⟩
      · exact sgets_main ver at_ L P nL cL nP cP ts ps hnL hts hnP hps w hrL hrP hf hg rc0 [] 0 e9 (tnew ts) (by simp) (by omega) hcP (Lib.hid (up_no h1)) (Lib.hid (ud_no h2)) (Lib.hid fun h0 => by rcases he with h | h | h | h <;> omega)
      · have h3 := tabT_len (tl := tnew ts) hF.1
        obtain ⟨_, _, h4, _⟩ := may_names hF.1
        exact sgets_main ver (a : Int) L P nL cL nP cP ts ps hnL hts hnP hps w hrL hrP hf hg r l ((a + j + 1 : Nat) : Int) 0 (tabT ver (tnew ts) r l) (by omega) (by omega) hcP (Lib.hid (up_yes h1)) (Lib.hid (ud_yes h2)) (Lib.hid fun _ => ⟨a, j, rfl, rfl, haj, hF⟩)
    · exact sgets_fewp ver at_ L P nL cL nP cP ts ps hnL hts hnP hps w hrL hrP hf hg
  · exact sgets_few ver at_ L P nL cL nP cP ts ps hnL hts hnP hps w hrL hrP hf

end Go.Proofs.Ytidkahmjjknkmaa

/- The way up for a law: it answered true, and of what was there nothing has turned: then its row's close holds, whatever its arguments are. -/
namespace Go.Proofs.Ytidkahmjjknkmaa
open Go.ChangeShapes Go.WideShapes Go.ChangeAt Go.RowKit

theorem trodAll_below {H : Type} {enc : TypeId × Value → H} {P : Program} (hl : laidOutB P = true) {W W' : World} (hb : Below W.heap.size W W') :
    ∀ {ts : List TypeId} {vs : List Value} {ds : List (DataW H)} {ps : List MemPlace}, (∀ t ∈ ts, P.readableRec t = true ∧ t < P.types.size) →
      DataW.TrodAll enc P W 0 (fun _ => true) true ts vs ds ps → (∀ x ∈ ps, x.block < W.heap.size) → DataW.TrodAll enc P W' 0 (fun b => decide (b < W.heap.size)) true ts vs ds ps
  | [], vs, ds, ps, _, h, _ => by
    obtain ⟨rfl, rfl, rfl⟩ := trodAll_nil h
    exact trodAll_mk0
  | t :: ts, vs, ds, ps, hr, h, hlt => by
    obtain ⟨v, vs1, d, ds1, a, b, rfl, rfl, rfl, h1, h2⟩ := trodAll_cons h
    have ht := hr t (by simp)
    exact trodAll_cons_mk (Below.trod hl ht.1 ht.2 h1 hb (fun x hx => hlt x (by simp [hx])))
      (trodAll_below hl hb (fun t' h' => hr t' (by simp [h'])) h2 (fun x hx => hlt x (by simp [hx])))

theorem law_post {H : Type} {enc : TypeId × Value → H} {P : Program} {f : Func} {s : ChangeSpec} {tb : TypeId} (hl : laidOutB P = true) (htb : P.underlying tb = some .bool)
    (hres : f.resultTypes = #[tb]) (hpar : ∀ t ∈ f.params.toList, P.readableRec t = true ∧ t < P.types.size) (hvars : s.vars = [])
    {W W' : World} {args : Array Value} {ds gs : List (DataW H)} {before : List MemPlace}
    (hW : DataW.Whole enc P f.params.toList s.vars false W args.toList ds gs before) (hb : Below W.heap.size W W')
    (hfn : s.fn H (ds ++ gs) = { results := [.lit (.bool true)], args := ds, vars := [] }) :
    s.post enc P f false true false false W args (.bool true) W' := by
  have hW' := hW
  obtain ⟨p, q, hA, hV, rfl, _, _⟩ := hW
  rw [hvars] at hV
  obtain ⟨rfl, rfl⟩ := trodVars_none hV
  refine ⟨ds, [], p ++ [], [], p, [], hW', ?_, ?_, ?_, hb.frame _, fun h => by cases h⟩
  · rw [hfn, hres]
    exact trodAll_mk1 (shut_bool htb true)
  · rw [hfn]
    exact trodAll_below hl hb hpar hA (fun x hx => by simpa using hW'.lt x (by simpa using hx))
  · rw [hfn, hvars]
    exact rfl

end Go.Proofs.Ytidkahmjjknkmaa
