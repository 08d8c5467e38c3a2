/- What DirtyClean leans on: mathematics. -/
import Derived.Test.YtbaokcigfgfoaaaZi
import Derived.Test.YtbaokcigfgfoaaaGq0
import Derived.Test.YtbaokcigfgfoaaaZk
namespace Go.Proofs.Ytbaokcigfgfoaaa
open Go.RowKit

/-- What was put last is found. -/
theorem last_put {xs zs : List Rw} {x : Rw} (h : zs.map Rw.say = (fo Rw.k Rw.t (xs ++ [x])).map Rw.say) (hk : x.k = 1) : ∃ y, lastOf zs x.t = some y ∧ y.say = x.say := by
  have hl := look_last (k := Rw.k) (t := Rw.t) xs [] x (.inl hk) (by simp)
  rw [if_pos hk] at hl
  have hup := fo_up (k := Rw.k) (t := Rw.t) (xs ++ [x])
  have hx := (look_some hl).1
  have hsame : ∀ z ∈ zs, ∃ s ∈ fo Rw.k Rw.t (xs ++ [x]), s.say = z.say := fun z hz => by
    have h1 : z.say ∈ (fo Rw.k Rw.t (xs ++ [x])).map Rw.say := by rw [← h]; exact List.mem_map_of_mem hz
    exact List.mem_map.1 h1
  have hex : ∃ z ∈ zs, z.say = x.say := by
    have h1 : x.say ∈ zs.map Rw.say := by rw [h]; exact List.mem_map_of_mem hx
    exact List.mem_map.1 h1
  obtain ⟨z, hz, hzs⟩ := hex
  have hkt : ∀ {a b : Rw}, a.say = b.say → a.k = b.k ∧ a.t = b.t := fun {a b} e => by
    have e1 : a.r = b.r := congrArg Prod.fst e
    unfold Rw.k Rw.t
    rw [e1]
    exact ⟨rfl, rfl⟩
  have hz2 := hkt hzs
  have hsome : (lastOf zs x.t).isSome = true := by
    unfold lastOf
    rw [List.find?_isSome]
    exact ⟨z, by simpa using hz, by simp [hz2.1, hz2.2, hk]⟩
  obtain ⟨y, hy⟩ := Option.isSome_iff_exists.1 hsome
  refine ⟨y, hy, ?_⟩
  have hym := lastOf_mem hy
  have hyp := List.find?_some hy
  have hyt : y.t = x.t := by
    simp at hyp
    exact hyp.2
  obtain ⟨s, hs, hse⟩ := hsame y hym
  have hst := (hkt hse).2
  have e : s = x := up_one hup hs hx (hst.trans hyt)
  rw [← hse, e]

def hsAt (P : List Q64) (i : Nat) : Q64 := (P[i]?).getD (BitVec.ofNat 64 i)
def otAt (P0 P1 : List Q64) (i : Nat) : Q64 := (P1[i]?).getD (hsAt P0 i)
def rowN (f : Nat → Q64) (n : Nat) : List Q64 := (List.range n).map f
theorem rowN_succ (f : Nat → Q64) (n : Nat) : rowN f (n + 1) = rowN f n ++ [f n] := by unfold rowN; rw [List.range_succ, List.map_append]; rfl
theorem rowN_len (f : Nat → Q64) (n : Nat) : (rowN f n).length = n := by unfold rowN; simp
theorem rowN_at (f : Nat → Q64) {n i : Nat} (h : i < n) : (rowN f n)[i]? = some (f i) := by unfold rowN; simp [h]
def qI (l : List Q64) : List Int := l.map fun q => (q.toNat : Int)
theorem qI_qv (l : List Q64) : (qI l).map (Value.int .u64) = l.map qv := qs_ints l
theorem qI_len (l : List Q64) : (qI l).length = l.length := List.length_map ..
theorem qI_at {l : List Q64} {i : Nat} {q : Q64} (h : l[i]? = some q) : (qI l)[i]? = some (q.toNat : Int) := by unfold qI; rw [List.getElem?_map, h]; rfl
theorem zipD_names : ∀ {ds : List (List UInt8)} {hs : List Int}, hs.length = ds.length → (zipD ds hs).map Dp.name = ds
  | [], _, _ => by simp [zipD]
  | d :: ds, [], h => by simp at h
  | d :: ds, x :: hs, h => by
    have ih := zipD_names (ds := ds) (hs := hs) (by simpa using h)
    unfold zipD at ih ⊢
    simp only [List.zip_cons_cons, List.map_cons]
    rw [ih]
theorem not_oth {ds : List (List UInt8)} {hs : List Int} (h : hs.length = ds.length) : ¬ OthH (zipD ds hs) hs := by
  rintro ⟨i, e, he, ho, hne⟩
  have hi : i < hs.length := by
    have := (List.getElem?_eq_some_iff.1 he).1
    unfold zipD at this
    simp at this
    omega
  obtain ⟨d, hd⟩ : ∃ d, ds[i]? = some d := ⟨_, List.getElem?_eq_getElem (by omega)⟩
  obtain ⟨q, hq⟩ : ∃ q, hs[i]? = some q := ⟨_, List.getElem?_eq_getElem hi⟩
  rw [zipD_at hd hq] at he
  obtain rfl := Option.some.inj he
  exact hne hq
/-- With other digests. -/
theorem oth_iff {ds : List (List UInt8)} {n : Nat} {f g : Nat → Q64} (h : ds.length = n) : OthH (zipD ds (qI (rowN f n))) (qI (rowN g n)) ↔ ¬ ∀ j, j < n → f j = g j := by
  constructor
  · rintro ⟨i, e, he, ho, hne⟩ hall
    have hi : i < n := by
      have := (List.getElem?_eq_some_iff.1 he).1
      unfold zipD at this
      simp [qI_len, rowN_len] at this
      omega
    obtain ⟨d, hd⟩ : ∃ d, ds[i]? = some d := ⟨_, List.getElem?_eq_getElem (by omega)⟩
    rw [zipD_at hd (qI_at (rowN_at f hi))] at he
    obtain rfl := Option.some.inj he
    exact hne (by rw [qI_at (rowN_at g hi), hall i hi])
  · intro hno
    apply Classical.byContradiction
    intro h2
    refine hno fun j hj => ?_
    apply Classical.byContradiction
    intro h3
    obtain ⟨d, hd⟩ : ∃ d, ds[j]? = some d := ⟨_, List.getElem?_eq_getElem (by omega)⟩
    exact h2 (oth_one (zipD_at hd (qI_at (rowN_at f hj))) (qI_at (rowN_at g hj)) rfl (fun e => h3 (BitVec.eq_of_toNat_eq (by have : ((f j).toNat : Int) = ((g j).toNat : Int) := e; omega))))

section
variable {nm : List UInt8} {ru z wh : Int} {ds : List (List UInt8)} {zs : List Rw} {y : Rw} {hs : List Int}
theorem fans_of (hl : lastOf zs nm = some y) {r : Rc} {l : List Dp} (hy : y.say = (r, l)) : FAns zs nm r l true := ⟨by rw [hl]; rfl, by rw [hl]; exact hy.symm⟩
/-- By its trace a node is clean, with the same digests. -/
theorem why_same (hl : lastOf zs nm = some y) (hy : y.say = (⟨1, nm, ru, z, wh, []⟩, zipD ds hs)) (hn : hs.length = ds.length) : WhyN ⟨nm, false, ru, ds⟩ zs hs 0 :=
  .inr ⟨rfl, _, _, true, fans_of hl hy, .inr ⟨rfl, .inr (.inr (.inr ⟨rfl, ⟨zipD_names hn, hn⟩, not_oth hn, rfl⟩))⟩⟩
theorem why_other {n : Nat} {f g : Nat → Q64} (hl : lastOf zs nm = some y) (hd : ds.length = n) (hy : y.say = (⟨1, nm, ru, z, wh, []⟩, zipD ds (qI (rowN f n)))) {v : Int} (h : WhyN ⟨nm, false, ru, ds⟩ zs (qI (rowN g n)) v) : (v = 0 ↔ ∀ j, j < n → f j = g j) := by
  have hn : (qI (rowN f n)).length = ds.length := by rw [qI_len, rowN_len, hd]
  have hn2 : (qI (rowN g n)).length = ds.length := by rw [qI_len, rowN_len, hd]
  by_cases hall : ∀ j, j < n → f j = g j
  · have h2 : WhyN ⟨nm, false, ru, ds⟩ zs (qI (rowN g n)) 0 := .inr ⟨rfl, _, _, true, fans_of hl hy, .inr ⟨rfl, .inr (.inr (.inr ⟨rfl, ⟨zipD_names hn, hn2⟩, fun h => (oth_iff hd).1 h hall, rfl⟩))⟩⟩
    exact ⟨fun _ => hall, fun _ => whyN_one h h2⟩
  · have h2 : WhyN ⟨nm, false, ru, ds⟩ zs (qI (rowN g n)) 4 := .inr ⟨rfl, _, _, true, fans_of hl hy, .inr ⟨rfl, .inr (.inr (.inl ⟨rfl, ⟨zipD_names hn, hn2⟩, (oth_iff hd).2 hall, rfl⟩))⟩⟩
    have e := whyN_one h h2
    exact ⟨fun h3 => (by rw [e] at h3; cases h3), fun h3 => absurd h3 hall⟩
theorem why_rule {ru2 : Int} {ls : List Int} {dl : List Dp} (hl : lastOf zs nm = some y) (hy : y.say = (⟨1, nm, ru, z, wh, []⟩, dl)) (hr : ru ≠ ru2) : WhyN ⟨nm, false, ru2, ds⟩ zs ls 2 :=
  .inr ⟨rfl, _, _, true, fans_of hl hy, .inr ⟨rfl, .inl ⟨hr, rfl⟩⟩⟩
theorem why_deps {d : List UInt8} {ls : List Int} (hl : lastOf zs nm = some y) (hy : y.say = (⟨1, nm, ru, z, wh, []⟩, zipD ds hs)) (hn : hs.length = ds.length) : WhyN ⟨nm, false, ru, ds ++ [d]⟩ zs ls 3 :=
  .inr ⟨rfl, _, _, true, fans_of hl hy, .inr ⟨rfl, .inr (.inl ⟨rfl, fun h => by
    have h1 := h.1
    rw [zipD_names hn] at h1
    have := congrArg List.length h1
    simp at this, rfl⟩)⟩⟩
end

end Go.Proofs.Ytbaokcigfgfoaaa
