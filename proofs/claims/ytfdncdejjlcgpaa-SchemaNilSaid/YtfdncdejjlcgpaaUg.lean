/- What Put lays; schema.written at a record that may be. -/
import Derived.Test.YtfdncdejjlcgpaaUf
namespace Go.Proofs.Ytfdncdejjlcgpaa
open Go.RowKit

/-- The table behind Put. -/
def tabT (ver : Int) (tl : List (List UInt8)) (r : Rc) (l : List Dp) : List (List UInt8) := if ver < 2 then tl else (rnames r l).foldl tput tl
/-- The texts' payloads. -/
def freT (ver : Int) (tl : List (List UInt8)) (r : Rc) (l : List Dp) : List (List UInt8) := if ver < 2 then [] else freshL tl (rnames r l)
/-- A record's last payload, by the table then. -/
def payB (ver : Int) (tl : List (List UInt8)) (r : Rc) (l : List Dp) : List UInt8 :=
  if r.kind = 2 then 2 :: nmB ver tl r.target
  else 1 :: (nmB ver tl r.target ++ (vb r.rule.toNat ++ (fDeps ver tl l ++ (vb r.out.toNat ++ ((if ver < 2 then [] else vb r.time.toNat) ++ (if ver < 3 then [] else fTag tl r))))))
/-- All payloads. -/
def payL (ver : Int) (tl : List (List UInt8)) (r : Rc) (l : List Dp) : List (List UInt8) := freT ver tl r l ++ [payB ver (tabT ver tl r l) r l]

theorem may_names {v : Int} {r : Rc} {l : List Dp} (h : MayP v r l) : r.target.length ≤ 64 ∧ r.tag.length ≤ 64 ∧ l.length ≤ 16 ∧ ∀ d ∈ l, d.name.length ≤ 64 := by
  obtain ⟨_, _, ht, h⟩ := h
  have h0 : r.target.length ≤ 64 := (of_decide_eq_true ht).2
  rcases h with ⟨_, _, hg, hd⟩ | ⟨_, hr, hl⟩
  · refine ⟨h0, ?_, hd.1, fun d hm => ?_⟩
    · rcases hg with hg | hg
      · rw [hg]; simp
      · exact hg.2
    · exact (of_decide_eq_true (hd.2.1 d hm).1).2
  · refine ⟨h0, ?_, by rw [hl]; simp, by rw [hl]; simp⟩
    rw [hr]; simp
theorem tnew_in {ts : List (List UInt8)} {s : List UInt8} (h : s ∈ tnew ts) : s ∈ ts := by
  have key : ∀ (ts l : List (List UInt8)), s ∈ ts.foldl tput l → s ∈ l ∨ s ∈ ts := by
    intro ts
    induction ts with
    | nil => intro l h; exact .inl h
    | cons a ts ih =>
      intro l h
      rcases ih (tput l a) h with h | h
      · unfold tput at h
        split at h
        · exact .inl h
        · rcases List.mem_append.1 h with h | h
          · exact .inl h
          · exact .inr (by simp at h; simp [h])
      · exact .inr (by simp [h])
  rcases key ts [] h with h | h
  · simp at h
  · exact h
theorem rnames_le {v : Int} {r : Rc} {l : List Dp} (h : MayP v r l) : (∀ s ∈ rnames r l, s.length ≤ 64) ∧ (rnames r l).length ≤ 18 := by
  obtain ⟨h1, h2, h3, h4⟩ := may_names h
  refine ⟨fun s hs => ?_, ?_⟩
  · have hm := tnew_in hs
    rcases List.mem_append.1 hm with hm | hm
    · rcases List.mem_cons.1 hm with rfl | hm
      · exact h1
      · obtain ⟨d, hd, rfl⟩ := List.mem_map.1 hm
        exact h4 d hd
    · split at hm
      · simp at hm
      · obtain rfl : s = r.tag := by simpa using hm
        exact h2
  · have := tnew_len (r.target :: names l ++ (if r.tag = [] then [] else [r.tag]))
    unfold rnames
    have h5 : (r.target :: names l ++ (if r.tag = [] then [] else [r.tag])).length ≤ 18 := by
      rw [List.length_append, List.length_cons, show (names l).length = l.length from List.length_map _]
      split <;> simp <;> omega
    omega

theorem fDeps_len {ver : Int} {tl : List (List UInt8)} {l : List Dp} (hl : l.length ≤ 16) (hd : ∀ d ∈ l, d.name.length ≤ 64) (hh : ∀ d ∈ l, 0 ≤ d.hash ∧ d.hash < 18446744073709551616) (ht : tl.length ≤ 1073741824) : (fDeps ver tl l).length ≤ 10000 := by
  unfold fDeps
  rw [List.length_append]
  have h1 := fDeps_take ver tl l (m := l.length) hd hh ht
  rw [List.take_length] at h1
  have h2 := vb_len l.length (small_vb (by omega))
  omega
theorem fTag_len {tl : List (List UInt8)} {r : Rc} (ht : tl.length ≤ 1073741824) : (fTag tl r).length ≤ 10 := by
  unfold fTag
  split
  · exact vb_len 0 (small_vb (by omega))
  · exact vb_len _ (small_vb (by have := tnum_le (s := r.tag) ht; omega))

theorem kind_may {v : Int} {r : Rc} {l : List Dp} (h : MayP v r l) : (r.kind = 1 ∧ 1 ≤ v ∧ v ≤ 3) ∨ r.kind = 2 := by
  obtain ⟨h1, h2, _, h⟩ := h
  rcases h with ⟨h, _⟩ | ⟨h, _⟩
  · exact .inl ⟨h, h1, h2⟩
  · exact .inr h

theorem written_any (T : Nat → Prop) (bt N n c : Nat) (ver : Int) (tl : List (List UInt8)) (r : Rc) (A : Option Addr) (l : List Dp) (hm : MayP ver r l) (hnu : Nums r l) (htl : tl.length ≤ 1073741824) (w : World) (hT : Tab w T bt N tl) (hr : Reads w w.heap.size 3 A n (dps l)) :
    Calls Try.prog 24 #[.int .i64 ver, .pointer (some ⟨bt, 0, none⟩), rcv r A n c] w fun e w' => ∃ v, e = .returned v ∧ w'.ownsRow w.heap.size 5 1 v (payB ver tl r l).length ((payB ver tl r l).map bv) ∧ Below w.heap.size w w' := by
  obtain ⟨h1, h2, h3, h4⟩ := may_names hm
  have hn : n ≤ 1000 := by have := hr.1; rw [dps_len] at this; omega
  have hvt := vb_len _ (num_nat hnu.1).2
  have hvo := vb_len _ (num_nat hnu.2.1).2
  have hvw := vb_len _ (num_nat hnu.2.2.1).2
  have hnm := nmB_len (ver := ver) h1 htl
  have hfd := fDeps_len (ver := ver) h3 h4 hnu.2.2.2 htl
  have hfg := fTag_len (r := r) htl
  have L0 : ∀ (S T : Nat → Prop) (B : Nat), Lays 47 S (w.heap.size + 1 + 1) ver bt w.heap.size (fun W => Env W S T bt N tl w.heap.size r A n c l B) (nmB ver tl r.target) := fun S T B => lays_target S T _ bt N _ n c B ver tl r A l htl h1
  have L1 : ∀ (S T : Nat → Prop) (B : Nat), Lays 48 S (w.heap.size + 1 + 1) ver bt w.heap.size (fun W => Env W S T bt N tl w.heap.size r A n c l B) (vb r.rule.toNat) := fun S T B => lays_rule S T _ bt N _ n c B ver tl r A l hnu
  have L2 : ∀ (S T : Nat → Prop) (B : Nat), Lays 49 S (w.heap.size + 1 + 1) ver bt w.heap.size (fun W => Env W S T bt N tl w.heap.size r A n c l B) (fDeps ver tl l) := fun S T B => lays_deps S T _ bt N _ n c B ver tl r A l htl hnu h4 hn
  have L3 : ∀ (S T : Nat → Prop) (B : Nat), Lays 50 S (w.heap.size + 1 + 1) ver bt w.heap.size (fun W => Env W S T bt N tl w.heap.size r A n c l B) (vb r.out.toNat) := fun S T B => lays_out S T _ bt N _ n c B ver tl r A l hnu
  have L4 : ∀ (S T : Nat → Prop) (B : Nat), Lays 51 S (w.heap.size + 1 + 1) ver bt w.heap.size (fun W => Env W S T bt N tl w.heap.size r A n c l B) (vb r.time.toNat) := fun S T B => lays_when S T _ bt N _ n c B ver tl r A l hnu
  have L5 : ∀ (S T : Nat → Prop) (B : Nat), Lays 52 S (w.heap.size + 1 + 1) ver bt w.heap.size (fun W => Env W S T bt N tl w.heap.size r A n c l B) (fTag tl r) := fun S T B => lays_tag S T _ bt N _ n c B ver tl r A l htl h2
  rcases kind_may hm with ⟨hk, hv1, hv2⟩ | hk
  · have hv : ver = 1 ∨ ver = 2 ∨ ver = 3 := by omega
    rcases hv with rfl | rfl | rfl
    · have hp : payB 1 tl r l = 1 :: flat [(47, nmB 1 tl r.target), (48, vb r.rule.toNat), (49, fDeps 1 tl l), (50, vb r.out.toNat)] := by
        unfold payB
        rw [if_neg (by omega)]
        simp [flat]
      rw [hp]
      refine written_core T bt N n c 1 tl r A l 1 hk (by decide) [(47, nmB 1 tl r.target), (48, vb r.rule.toNat), (49, fDeps 1 tl l), (50, vb r.out.toNat)] (by simp) ?_ ?_ w hT hr ?_ ?_
      · intro x hx
        simp only [List.mem_cons, List.not_mem_nil, or_false] at hx
        rcases hx with rfl | rfl | rfl | rfl <;> (simp only []; omega)
      · intro x hx
        simp only [List.mem_cons, List.not_mem_nil, or_false] at hx
        rcases hx with rfl | rfl | rfl | rfl <;> simp
      · intro W
        rw [hk]
        exact of_11 47 48 49 50 51 52 (.pointer (some ⟨w.heap.size + 1 + 1, 0, none⟩)) W
      · intro x hx S T B
        simp only [List.mem_cons, List.not_mem_nil, or_false] at hx
        rcases hx with rfl | rfl | rfl | rfl
        · exact L0 S T B
        · exact L1 S T B
        · exact L2 S T B
        · exact L3 S T B
    · have hp : payB 2 tl r l = 1 :: flat [(47, nmB 2 tl r.target), (48, vb r.rule.toNat), (49, fDeps 2 tl l), (50, vb r.out.toNat), (51, vb r.time.toNat)] := by
        unfold payB
        rw [if_neg (by omega)]
        simp [flat]
      rw [hp]
      refine written_core T bt N n c 2 tl r A l 1 hk (by decide) [(47, nmB 2 tl r.target), (48, vb r.rule.toNat), (49, fDeps 2 tl l), (50, vb r.out.toNat), (51, vb r.time.toNat)] (by simp) ?_ ?_ w hT hr ?_ ?_
      · intro x hx
        simp only [List.mem_cons, List.not_mem_nil, or_false] at hx
        rcases hx with rfl | rfl | rfl | rfl | rfl <;> (simp only []; omega)
      · intro x hx
        simp only [List.mem_cons, List.not_mem_nil, or_false] at hx
        rcases hx with rfl | rfl | rfl | rfl | rfl <;> simp
      · intro W
        rw [hk]
        exact of_21 47 48 49 50 51 52 (.pointer (some ⟨w.heap.size + 1 + 1, 0, none⟩)) W
      · intro x hx S T B
        simp only [List.mem_cons, List.not_mem_nil, or_false] at hx
        rcases hx with rfl | rfl | rfl | rfl | rfl
        · exact L0 S T B
        · exact L1 S T B
        · exact L2 S T B
        · exact L3 S T B
        · exact L4 S T B
    · have hp : payB 3 tl r l = 1 :: flat [(47, nmB 3 tl r.target), (48, vb r.rule.toNat), (49, fDeps 3 tl l), (50, vb r.out.toNat), (51, vb r.time.toNat), (52, fTag tl r)] := by
        unfold payB
        rw [if_neg (by omega)]
        simp [flat]
      rw [hp]
      refine written_core T bt N n c 3 tl r A l 1 hk (by decide) [(47, nmB 3 tl r.target), (48, vb r.rule.toNat), (49, fDeps 3 tl l), (50, vb r.out.toNat), (51, vb r.time.toNat), (52, fTag tl r)] (by simp) ?_ ?_ w hT hr ?_ ?_
      · intro x hx
        simp only [List.mem_cons, List.not_mem_nil, or_false] at hx
        rcases hx with rfl | rfl | rfl | rfl | rfl | rfl <;> (simp only []; omega)
      · intro x hx
        simp only [List.mem_cons, List.not_mem_nil, or_false] at hx
        rcases hx with rfl | rfl | rfl | rfl | rfl | rfl <;> simp
      · intro W
        rw [hk]
        exact of_31 47 48 49 50 51 52 (.pointer (some ⟨w.heap.size + 1 + 1, 0, none⟩)) W
      · intro x hx S T B
        simp only [List.mem_cons, List.not_mem_nil, or_false] at hx
        rcases hx with rfl | rfl | rfl | rfl | rfl | rfl
        · exact L0 S T B
        · exact L1 S T B
        · exact L2 S T B
        · exact L3 S T B
        · exact L4 S T B
        · exact L5 S T B
  · have hp : payB ver tl r l = 2 :: flat [(47, nmB ver tl r.target)] := by
      unfold payB
      rw [if_pos hk]
      simp [flat]
    rw [hp]
    refine written_core T bt N n c ver tl r A l 2 hk (by decide) [(47, nmB ver tl r.target)] (by simp) ?_ ?_ w hT hr ?_ ?_
    · intro x hx
      obtain rfl := List.mem_singleton.1 hx
      simp only []; omega
    · intro x hx
      obtain rfl := List.mem_singleton.1 hx
      simp
    · intro W
      rw [hk]
      exact of_2 47 48 49 50 51 52 (.pointer (some ⟨w.heap.size + 1 + 1, 0, none⟩)) ver W
    · intro x hx S T B
      obtain rfl := List.mem_singleton.1 hx
      exact L0 S T B

end Go.Proofs.Ytfdncdejjlcgpaa
