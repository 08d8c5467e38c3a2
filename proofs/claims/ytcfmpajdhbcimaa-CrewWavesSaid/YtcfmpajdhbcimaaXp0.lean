/- What Order answers, where nothing is wrong and where something is; names at the places of an order. -/
import Derived.Test.YtcfmpajdhbcimaaXi
namespace Go.Proofs.Ytcfmpajdhbcimaa
open Go.RowKit Go.Sort

theorem order_ok (A : Option Addr) (n c : Nat) (xs : List Nw) (hn : n ≤ 1000000) (hok : NOk xs) (hc : chk (nds xs) = 0) (w : World) (h : Nodes w w.heap.size A n xs) :
    Calls Try.prog 9 #[.slice A n c] w fun e w' => (∃ A5 c5, e = .returned (.tuple #[.slice A5 n c5, .int .i64 0]) ∧ Reads w' w'.heap.size 1 A5 n (ivs (ord (nds xs)))) ∧ Below w.heap.size w w' :=
  Calls.mono (order_any A n c xs hn hok w h) (fun e w' ⟨⟨v, he, hv⟩, hb2⟩ => by
    have hl : (ord (nds xs)).length = n := by rw [(chk_ok.1 hc).2.2.2.2, nds_len]; exact h.len
    rw [hc] at he
    rcases hv with ⟨h0, _⟩ | ⟨_, A5, c5, h1, h2⟩
    · exact absurd hc h0
    · subst h1
      rw [hl] at he h2
      exact ⟨⟨A5, c5, he, Reads.of_own h2⟩, hb2⟩)
theorem order_bad (A : Option Addr) (n c : Nat) (xs : List Nw) (hn : n ≤ 1000000) (hok : NOk xs) (hc : chk (nds xs) ≠ 0) (w : World) (h : Nodes w w.heap.size A n xs) :
    Calls Try.prog 9 #[.slice A n c] w fun e w' => (∃ z : Int, z ≠ 0 ∧ e = .returned (.tuple #[.slice none 0 0, .int .i64 z])) ∧ Below w.heap.size w w' :=
  Calls.mono (order_any A n c xs hn hok w h) (fun e w' ⟨⟨v, he, hv⟩, hb2⟩ => by
    rcases hv with ⟨_, h1⟩ | ⟨h0, _⟩
    · subst h1
      exact ⟨⟨_, hc, he⟩, hb2⟩
    · exact absurd h0 hc)
theorem nm_at {l : List Nd} : ∀ {o : List Nat}, (∀ j ∈ o, j < l.length) → ∀ {i j : Nat} {x : Nd}, o[i]? = some j → l[j]? = some x → (nmOf l o)[i]? = some x.name
  | [], _, i, j, x, h, _ => by simp at h
  | a :: o, hb, i, j, x, h, hx => by
    obtain ⟨y, hy⟩ : ∃ y, l[a]? = some y := ⟨_, List.getElem?_eq_getElem (hb a (by simp))⟩
    have e : nmOf l (a :: o) = y.name :: nmOf l o := by rw [show a :: o = [a] ++ o from rfl, nm_app, nm_one hy]; rfl
    rw [e]
    cases i with
    | zero =>
      obtain rfl : a = j := by simpa using h
      rw [hx] at hy
      obtain rfl := Option.some.inj hy
      rfl
    | succ i =>
      rw [List.getElem?_cons_succ]
      exact nm_at (fun j hj => hb j (List.mem_cons_of_mem _ hj)) (by simpa using h) hx
/-- At one place of both orders stand nodes of one name. -/
theorem ord_names {l m : List Nd} (hp : l.Perm m) (hn : (l.map Nd.name).Nodup) {i j1 j2 : Nat} {x y : Nd} (h1 : (ord l)[i]? = some j1) (h2 : (ord m)[i]? = some j2) (hx : l[j1]? = some x) (hy : m[j2]? = some y) : x.name = y.name := by
  have e := ord_same hp hn l.length
  have e1 := nm_at (ord_good l l.length).1 h1 hx
  have e2 := nm_at (ord_good m m.length).1 h2 hy
  rw [e, hp.length_eq] at e1
  rw [e2] at e1
  exact (Option.some.inj e1).symm

end Go.Proofs.Ytcfmpajdhbcimaa
