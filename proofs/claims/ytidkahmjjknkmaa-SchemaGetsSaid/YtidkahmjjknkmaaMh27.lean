/- Texts of one proof, one behind the other. -/
import Derived.Test.YtidkahmjjknkmaaMh14
import Derived.Test.YtidkahmjjknkmaaMh26
import Derived.Test.YtidkahmjjknkmaaMh11
import Derived.Test.YtidkahmjjknkmaaMh25

/- Records laid one behind the other with one table. -/
namespace Go.Proofs.Ytidkahmjjknkmaa

/-- The payloads of records, and the table then. -/
def layAll (ver : Int) : List (List UInt8) → List Rw → List (List UInt8)
  | _, [] => []
  | tl, x :: xs => payL ver tl x.r x.l ++ layAll ver (tabT ver tl x.r x.l) xs
def tabAll (ver : Int) (tl : List (List UInt8)) (xs : List Rw) : List (List UInt8) := xs.foldl (fun t x => tabT ver t x.r x.l) tl

theorem tabAll_snoc (ver : Int) (tl : List (List UInt8)) (xs : List Rw) (x : Rw) : tabAll ver tl (xs ++ [x]) = tabT ver (tabAll ver tl xs) x.r x.l := by
  unfold tabAll
  rw [List.foldl_append]
  rfl
theorem layAll_app (ver : Int) : ∀ (tl : List (List UInt8)) (xs ys : List Rw), layAll ver tl (xs ++ ys) = layAll ver tl xs ++ layAll ver (tabAll ver tl xs) ys
  | tl, [], ys => rfl
  | tl, x :: xs, ys => by
    show payL ver tl x.r x.l ++ layAll ver _ (xs ++ ys) = (payL ver tl x.r x.l ++ layAll ver _ xs) ++ _
    rw [layAll_app ver _ xs ys, List.append_assoc]
    rfl
theorem layAll_snoc (ver : Int) (tl : List (List UInt8)) (xs : List Rw) (x : Rw) : layAll ver tl (xs ++ [x]) = layAll ver tl xs ++ payL ver (tabAll ver tl xs) x.r x.l := by
  rw [layAll_app]
  show _ ++ (payL ver _ x.r x.l ++ []) = _
  rw [List.append_nil]
/-- What stands ahead of a record's payloads, and behind them. -/
theorem layAll_at {ver : Int} {tl : List (List UInt8)} {xs : List Rw} {i : Nat} {x : Rw} (h : xs[i]? = some x) : layAll ver tl xs = layAll ver tl (xs.take i) ++ (payL ver (tabAll ver tl (xs.take i)) x.r x.l ++ layAll ver (tabAll ver tl (xs.take (i + 1))) (xs.drop (i + 1))) := by
  obtain ⟨hlt, hx⟩ := List.getElem?_eq_some_iff.1 h
  have h1 : xs = xs.take (i + 1) ++ xs.drop (i + 1) := (List.take_append_drop _ _).symm
  have h2 : xs.take (i + 1) = xs.take i ++ [x] := by rw [List.take_add_one, h]; rfl
  have h3 : layAll ver tl xs = layAll ver tl (xs.take (i + 1)) ++ layAll ver (tabAll ver tl (xs.take (i + 1))) (xs.drop (i + 1)) := by
    rw [← layAll_app, ← h1]
  rw [h3]
  conv => lhs; lhs; rw [h2, layAll_snoc]
  rw [List.append_assoc]
theorem layAll_take {ver : Int} {tl : List (List UInt8)} {xs : List Rw} {i : Nat} {x : Rw} (h : xs[i]? = some x) : (layAll ver tl (xs.take (i + 1))).length = (layAll ver tl (xs.take i)).length + (payL ver (tabAll ver tl (xs.take i)) x.r x.l).length ∧ tabAll ver tl (xs.take (i + 1)) = tabT ver (tabAll ver tl (xs.take i)) x.r x.l := by
  have h2 : xs.take (i + 1) = xs.take i ++ [x] := by rw [List.take_add_one, h]; rfl
  rw [h2, layAll_snoc, tabAll_snoc, List.length_append]
  exact ⟨rfl, rfl⟩
theorem tabAll_len {ver : Int} : ∀ (xs : List Rw) (tl : List (List UInt8)), (∀ x ∈ xs, MayP ver x.r x.l) → (tabAll ver tl xs).length ≤ tl.length + 18 * xs.length
  | [], tl, _ => by unfold tabAll; simp
  | x :: xs, tl, h => by
    have h1 := tabAll_len xs (tabT ver tl x.r x.l) (fun y hy => h y (by simp [hy]))
    have h2 := tabT_len (tl := tl) (h x (by simp))
    show (tabAll ver (tabT ver tl x.r x.l) xs).length ≤ _
    rw [List.length_cons]
    omega
theorem layAll_len {ver : Int} : ∀ (xs : List Rw) (tl : List (List UInt8)), (∀ x ∈ xs, MayP ver x.r x.l) → (layAll ver tl xs).length ≤ 19 * xs.length
  | [], tl, _ => by simp [layAll]
  | x :: xs, tl, h => by
    have h1 := layAll_len xs (tabT ver tl x.r x.l) (fun y hy => h y (by simp [hy]))
    have h2 := payL_len (tl := tl) (h x (by simp))
    show (payL ver tl x.r x.l ++ layAll ver _ xs).length ≤ _
    rw [List.length_append, List.length_cons]
    omega

end Go.Proofs.Ytidkahmjjknkmaa

/- Put of a record that may not be; whatever the version. -/
namespace Go.Proofs.Ytidkahmjjknkmaa
open Go.RowKit

theorem put_no (bt : Nat) (ver : Int) (r : Rc) (A : Option Addr) (n c : Nat) (l : List Dp) (hm : ¬ MayP ver r l) (hn : n ≤ 1000) (hfit : Fits r l) (w : World) (hr : Reads w w.heap.size 3 A n (dps l)) :
    Calls Try.prog 10 #[.int .i64 ver, .pointer (some ⟨bt, 0, none⟩), .agg #[.int .i64 r.kind, .string (tx r.target), .int .u64 r.rule, .slice A n c, .int .u64 r.out, .int .u64 r.time, .string (tx r.tag)]] w fun e w' => ∃ k : Int, (k = 1 ∨ k = 11) ∧ e = .returned (.tuple #[.slice none 0 0, .int .i64 k]) ∧ Below w.heap.size w w' := by
  by_cases hv : 1 ≤ ver ∧ ver ≤ 3
  · refine (put_arg ver hv bt n c r A w (Lib.hid fun W hb => ?_)).mono fun e w' ⟨h1, h2⟩ => ⟨1, .inl rfl, h1, h2⟩
    refine (may_any ver r A n c l hn hfit W ((hr.below hb).more hb.size)).mono fun e w' ⟨⟨q, h1, h2⟩, h3⟩ => ⟨?_, h3⟩
    cases q with
    | false => exact h2
    | true => exact absurd (h1.1 rfl) hm
  · exact (put_way ver hv (some ⟨bt, 0, none⟩) n c r A w).mono fun e w' ⟨h1, h2⟩ => ⟨11, .inr rfl, h1, h2⟩

end Go.Proofs.Ytidkahmjjknkmaa

/- What stands at a round of SchemaRows' first loop. -/
namespace Go.Proofs.Ytidkahmjjknkmaa
open Go.RowKit

open Classical in
/-- The records that may be. -/
noncomputable def goods (ver : Int) (xs : List Rw) : List Rw := xs.filter (fun x => decide (MayP ver x.r x.l))
theorem goods_yes {ver : Int} {xs : List Rw} {i : Nat} {x : Rw} (h : xs[i]? = some x) (hm : MayP ver x.r x.l) : goods ver (xs.take (i + 1)) = goods ver (xs.take i) ++ [x] := by
  unfold goods
  rw [List.take_add_one, h, List.filter_append]
  simp [hm]
theorem goods_no {ver : Int} {xs : List Rw} {i : Nat} {x : Rw} (h : xs[i]? = some x) (hm : ¬ MayP ver x.r x.l) : goods ver (xs.take (i + 1)) = goods ver (xs.take i) := by
  unfold goods
  rw [List.take_add_one, h, List.filter_append]
  simp [hm]
theorem goods_mem {ver : Int} {xs : List Rw} {x : Rw} (h : x ∈ goods ver xs) : MayP ver x.r x.l ∧ x ∈ xs := by
  unfold goods at h
  rw [List.mem_filter] at h
  exact ⟨by simpa using h.2, h.1⟩
theorem goods_len (ver : Int) (xs : List Rw) : (goods ver xs).length ≤ xs.length := by
  unfold goods
  exact List.length_filter_le _ _

structure FS (w0 w : World) (S U : Nat → Prop) (bt bu N : Nat) (tl : List (List UInt8)) (va : Value) (ps : List (List UInt8)) (vs : List Value) (vb : Value) (gs : List Rw) : Prop where
  below : Below w0.heap.size w0 w
  ht : Tab w S bt N tl
  hu : Tab w U bu 0 []
  lt : ∀ k, S k ∨ U k → k < w.heap.size ∧ w0.heap.size ≤ k
  dis : ∀ k, S k → ¬ U k
  rows : RowsV w w0.heap.size (fun k => S k ∨ U k) va ps vs
  good : w.ownsRow w0.heap.size 26 7 vb gs.length (rws gs)
  gok : ∀ g, vb.ownBlock = some g → ¬ (S g ∨ U g)

section
variable {w0 w w' : World} {S S' U : Nat → Prop} {bt bu N N' : Nat} {tl tl' : List (List UInt8)} {va : Value} {ps : List (List UInt8)} {vs : List Value} {vb : Value} {gs : List Rw}
theorem FS.new (h : FS w0 w S U bt bu N tl va ps vs vb gs) (hb : Below w.heap.size w w') : FS w0 w' S U bt bu N tl va ps vs vb gs where
  below := h.below.trans (hb.mono h.below.size)
  ht := h.ht.keep fun k _ hk => hb.block k hk
  hu := h.hu.keep fun k _ hk => hb.block k hk
  lt := fun k hk => ⟨Nat.lt_of_lt_of_le (h.lt k hk).1 hb.size, (h.lt k hk).2⟩
  dis := h.dis
  rows := h.rows.below hb
  good := own_below h.good hb
  gok := h.gok
theorem FS.put (h : FS w0 w S U bt bu N tl va ps vs vb gs) (ht' : Tab w' S' bt N' tl') (hs' : ∀ k, S' k → k < w'.heap.size ∧ (S k ∨ w.heap.size ≤ k)) (htu : Turn S w w') : FS w0 w' S' U bt bu N' tl' va ps vs vb gs where
  below := h.below.trans (htu.below (fun k hk => (h.lt k (.inl hk)).2) h.below.size)
  ht := ht'
  hu := h.hu.turn htu fun k h1 _ h2 => h.dis k h2 h1
  lt := fun k hk => by
    rcases hk with hk | hk
    · refine ⟨(hs' k hk).1, ?_⟩
      rcases (hs' k hk).2 with h1 | h1
      · exact (h.lt k (.inl h1)).2
      · have := h.below.size; omega
    · exact ⟨Nat.lt_of_lt_of_le (h.lt k (.inr hk)).1 htu.2.2.2.1, (h.lt k (.inr hk)).2⟩
  dis := fun k h1 h2 => by
    rcases (hs' k h1).2 with h3 | h3
    · exact h.dis k h3 h2
    · have := (h.lt k (.inr h2)).1; omega
  rows := by
    refine (h.rows.set (S2 := fun k => S k ∨ S' k ∨ U k) (fun k hk h1 => ?_)).turn htu (fun k _ h1 => .inl h1) |>.set (fun k _ h1 => .inr h1)
    rcases h1 with h1 | h1 | h1
    · exact .inl h1
    · rcases (hs' k h1).2 with h2 | h2
      · exact .inl h2
      · omega
    · exact .inr h1
  good := own_heap h.good fun g hg => htu.2.2.2.2 g (own_lt h.good g hg) fun h1 => h.gok g hg (.inl h1)
  gok := fun g hg h1 => by
    rcases h1 with h1 | h1
    · rcases (hs' g h1).2 with h2 | h2
      · exact h.gok g hg (.inl h2)
      · have := own_lt h.good g hg; omega
    · exact h.gok g hg (.inr h1)

theorem rowsV_other {base b n : Nat} {v : Value} {ys : List Value} (h : RowsV w base S va ps vs) (ho : w.ownsRow b 26 7 v n ys) (hg : w.grownBy w' v.ownBlock) : RowsV w' base S va ps vs := by
  obtain ⟨h1, h2, h3, h4⟩ := h
  refine ⟨own_kept h1 (own_apart ho h1 (by decide)) hg, h2, h3, fun i p hp => ?_⟩
  obtain ⟨u, h5, h6, h7⟩ := h4 i p hp
  exact ⟨u, h5, own_kept h6 (own_apart ho h6 (by decide)) hg, h7⟩

/-- Payloads appended to others. -/
theorem rowsV_app {base b : Nat} {vq v' : Value} {qs : List (List UInt8)} {us : List Value} (hb : base ≤ b) (h : RowsV w base S va ps vs) (hq : RowsV w b S vq qs us)
    (ho : w'.ownsRow base 44 1 v' (ps.length + qs.length) (vs ++ us)) (hg : w.grownBy w' va.ownBlock) (hv : v'.ownBlock = va.ownBlock ∨ v'.ownBlock = some w.heap.size) (hn : ¬ S w.heap.size) : RowsV w' base S v' (ps ++ qs) (vs ++ us) := by
  obtain ⟨h1, h2, h3, h4⟩ := h
  obtain ⟨k1, k2, k3, k4⟩ := hq
  refine ⟨by rw [List.length_append]; exact ho, fun g hg' => ?_, by simp [h3, k3], fun i p hp => ?_⟩
  · rcases hv with e | e
    · exact h2 g (e ▸ hg')
    · rw [e] at hg'
      obtain rfl : w.heap.size = g := by simpa using hg'
      exact hn
  · rcases Nat.lt_or_ge i ps.length with hlt | hge
    · rw [List.getElem?_append_left hlt] at hp
      obtain ⟨u, h5, h6, h7⟩ := h4 i p hp
      exact ⟨u, by rw [List.getElem?_append_left (by rw [h3]; exact hlt)]; exact h5, own_kept h6 (own_apart h1 h6 (by decide)) hg, h7⟩
    · rw [List.getElem?_append_right hge] at hp
      obtain ⟨u, h5, h6, h7⟩ := k4 _ p hp
      exact ⟨u, by rw [List.getElem?_append_right (by rw [h3]; exact hge), h3]; exact h5, own_less (own_kept h6 (own_apart h1 h6 (by decide)) hg) hb, h7⟩

theorem tab_grown {b M : Nat} {l : List (List UInt8)} {T : Nat → Prop} {row : Option Nat} (h : Tab w T b M l) (hg : w.grownBy w' row) (hn : ∀ g, row = some g → ¬ T g) : Tab w' T b M l :=
  h.keep fun k hk hlt => hg.block k hlt (fun e => hn k e.symm hk)

theorem FS.all {b : Nat} {vq v' : Value} {qs : List (List UInt8)} {us : List Value} (h : FS w0 w S U bt bu N tl va ps vs vb gs) (hb : w0.heap.size ≤ b) (hq : RowsV w b (fun k => S k ∨ U k) vq qs us)
    (ho : w'.ownsRow w0.heap.size 44 1 v' (ps.length + qs.length) (vs ++ us)) (hg : w.grownBy w' va.ownBlock) (hv : v'.ownBlock = va.ownBlock ∨ v'.ownBlock = some w.heap.size) : FS w0 w' S U bt bu N tl v' (ps ++ qs) (vs ++ us) vb gs where
  below := h.below.grown hg h.below.size (own_block h.rows.1)
  ht := tab_grown h.ht hg fun g e h1 => h.rows.2.1 g e (.inl h1)
  hu := tab_grown h.hu hg fun g e h1 => h.rows.2.1 g e (.inr h1)
  lt := fun k hk => ⟨Nat.lt_of_lt_of_le (h.lt k hk).1 hg.size, (h.lt k hk).2⟩
  dis := h.dis
  rows := rowsV_app hb h.rows hq ho hg hv (fun h1 => by have := (h.lt _ h1).1; omega)
  good := own_kept h.good (own_apart h.rows.1 h.good (by decide)) hg
  gok := h.gok
theorem FS.one {v' : Value} {x : Rw} (h : FS w0 w S U bt bu N tl va ps vs vb gs)
    (ho : w'.ownsRow w0.heap.size 26 7 v' (gs.length + 1) (rws gs ++ rws [x])) (hg : w.grownBy w' vb.ownBlock) (hv : v'.ownBlock = vb.ownBlock ∨ v'.ownBlock = some w.heap.size) : FS w0 w' S U bt bu N tl va ps vs v' (gs ++ [x]) where
  below := h.below.grown hg h.below.size (own_block h.good)
  ht := tab_grown h.ht hg fun g e h1 => h.gok g e (.inl h1)
  hu := tab_grown h.hu hg fun g e h1 => h.gok g e (.inr h1)
  lt := fun k hk => ⟨Nat.lt_of_lt_of_le (h.lt k hk).1 hg.size, (h.lt k hk).2⟩
  dis := h.dis
  rows := rowsV_other h.rows h.good hg
  good := by rw [rws_app, List.length_append]; exact ho
  gok := fun g hg' h1 => by
    rcases hv with e | e
    · exact h.gok g (e ▸ hg') h1
    · rw [e] at hg'
      obtain rfl : w.heap.size = g := by simpa using hg'
      have := (h.lt _ h1).1; omega
end

/-- What Put has answered. -/
theorem FS.plus {w0 w w' : World} {S S' U : Nat → Prop} {bt bu N : Nat} {tl : List (List UInt8)} {va vp : Value} {ps qs : List (List UInt8)} {vs us : List Value} {vb : Value} {gs : List Rw} (h : FS w0 w S U bt bu N tl va ps vs vb gs) (hq : RowsV w' w.heap.size S' vp qs us) : RowsV w' w.heap.size (fun k => S' k ∨ U k) vp qs us := by
  obtain ⟨h1, h2, h3, h4⟩ := hq
  refine ⟨h1, fun g hg h5 => ?_, h3, fun i p hp => ?_⟩
  · rcases h5 with h5 | h5
    · exact h2 g hg h5
    · have h6 := (h.lt g (.inr h5)).1
      have h7 := own_block h1 g hg
      omega
  · obtain ⟨u, h5, h6, h7⟩ := h4 i p hp
    refine ⟨u, h5, h6, fun g hg h8 => ?_⟩
    rcases h8 with h8 | h8
    · exact h7 g hg h8
    · have h9 := (h.lt g (.inr h8)).1
      have h10 := own_block h6 g hg
      omega

def FRel (w0 : World) (ver : Int) (xs : List Rw) (bt bu : Nat) (U : Nat → Prop) (va vb idx : Value) (wr : World) : Prop :=
  ∃ (i : Nat) (S : Nat → Prop) (vs : List Value) (va' vb' : Value), va' = va ∧ vb' = vb ∧ i ≤ xs.length ∧ idx = .int .i64 (i : Int) ∧
    FS w0 wr S U bt bu (18 * i) (tabAll ver [] (goods ver (xs.take i))) va' (layAll ver [] (goods ver (xs.take i))) vs vb' (goods ver (xs.take i))

theorem FS.next {w0 w : World} {S U : Nat → Prop} {bt bu : Nat} {ver : Int} {xs : List Rw} {x : Rw} {i : Nat} {va : Value} {vs : List Value} {vb : Value} (hg : goods ver (xs.take (i + 1)) = goods ver (xs.take i) ++ [x])
    (h : FS w0 w S U bt bu (18 * i + 18) (tabT ver (tabAll ver [] (goods ver (xs.take i))) x.r x.l) va (layAll ver [] (goods ver (xs.take i)) ++ payL ver (tabAll ver [] (goods ver (xs.take i))) x.r x.l) vs vb (goods ver (xs.take i) ++ [x])) :
    FS w0 w S U bt bu (18 * (i + 1)) (tabAll ver [] (goods ver (xs.take (i + 1)))) va (layAll ver [] (goods ver (xs.take (i + 1)))) vs vb (goods ver (xs.take (i + 1))) := by
  rw [hg, tabAll_snoc, layAll_snoc]
  exact h

theorem rowsV_one {w : World} {base : Nat} {S : Nat → Prop} {va : Value} {ps : List (List UInt8)} {vs : List Value} (h : RowsV w base S va ps vs) : ∀ u ∈ vs, u.oneCell' = true := by
  intro u hu
  obtain ⟨_, _, h3, h4⟩ := h
  obtain ⟨i, hlt, hi⟩ := List.mem_iff_getElem.1 hu
  obtain ⟨v, h5, h6, _⟩ := h4 i ps[i] (List.getElem?_eq_getElem (by omega))
  rw [List.getElem?_eq_getElem hlt, hi] at h5
  obtain rfl := Option.some.inj h5
  obtain ⟨A, c, rfl, _⟩ := own_slice h6
  rfl

theorem reads_rec_at {W : World} {g : Nat} {x : Rw} (h : W.heap[g]? = some (.cells #[.int .i64 x.r.kind, .string (tx x.r.target), .int .u64 x.r.rule, .slice x.A x.n x.c, .int .u64 x.r.out, .int .u64 x.r.time, .string (tx x.r.tag)] 26 (0, 0))) : Reads W (g + 1) 7 (some ⟨g, 0, none⟩) 1 (rws [x]) := by
  refine ⟨rws_len [x], fun _ => ⟨_, rfl, by show g < g + 1; omega, fun j u hu => ?_⟩⟩
  rw [show (⟨g, 0, none⟩ : Addr).add j = ⟨g, j, none⟩ from by unfold Addr.add; split <;> simp_all]
  have hu2 : x.cells[j]? = some u := by simpa [rws] using hu
  have hlt := (List.getElem?_eq_some_iff.1 hu2).1
  rw [cells_len] at hlt
  refine at_cell h ?_
  match j, hlt with
  | 0, _ => exact hu2
  | 1, _ => exact hu2
  | 2, _ => exact hu2
  | 3, _ => exact hu2
  | 4, _ => exact hu2
  | 5, _ => exact hu2
  | 6, _ => exact hu2

end Go.Proofs.Ytidkahmjjknkmaa

/- What stands at a round of SchemaRows' second loop. -/
namespace Go.Proofs.Ytidkahmjjknkmaa
open Go.RowKit

structure SS (w0 w : World) (S U : Nat → Prop) (bt bu N M : Nat) (tl ul : List (List UInt8)) (A : Option Addr) (na ca : Nat) (ps : List (List UInt8)) (vb : Value) (gs : List Rw) (B : Nat) : Prop where
  below : Below w0.heap.size w0 w
  ht : Tab w S bt N tl
  hu : Tab w U bu M ul
  lt : ∀ k, S k ∨ U k → k < w.heap.size ∧ w0.heap.size ≤ k
  dis : ∀ k, S k → ¬ U k
  all : PlsT w B U A na ca ps
  hB : B ≤ w.heap.size
  good : w.ownsRow w0.heap.size 26 7 vb gs.length (rws gs)
  gok : ∀ g, vb.ownBlock = some g → ¬ U g

section
variable {w0 w w' : World} {S U U' : Nat → Prop} {bt bu N M M' : Nat} {tl ul ul' : List (List UInt8)} {A : Option Addr} {na ca B : Nat} {ps : List (List UInt8)} {vb : Value} {gs : List Rw}
theorem SS.new (h : SS w0 w S U bt bu N M tl ul A na ca ps vb gs B) (hb : Below w.heap.size w w') : SS w0 w' S U bt bu N M tl ul A na ca ps vb gs B where
  below := h.below.trans (hb.mono h.below.size)
  ht := h.ht.keep fun k _ hk => hb.block k hk
  hu := h.hu.keep fun k _ hk => hb.block k hk
  lt := fun k hk => ⟨Nat.lt_of_lt_of_le (h.lt k hk).1 hb.size, (h.lt k hk).2⟩
  dis := h.dis
  all := h.all.turn (Turn.of_below hb) h.hB
  hB := Nat.le_trans h.hB hb.size
  good := own_below h.good hb
  gok := h.gok
theorem SS.get (h : SS w0 w S U bt bu N M tl ul A na ca ps vb gs B) (hu' : Tab w' U' bu M' ul') (hs' : ∀ k, U' k → k < w'.heap.size ∧ (U k ∨ w.heap.size ≤ k)) (htu : Turn U w w') : SS w0 w' S U' bt bu N M' tl ul' A na ca ps vb gs B where
  below := h.below.trans (htu.below (fun k hk => (h.lt k (.inr hk)).2) h.below.size)
  ht := h.ht.turn htu fun k h1 _ h2 => h.dis k h1 h2
  hu := hu'
  lt := fun k hk => by
    rcases hk with hk | hk
    · exact ⟨Nat.lt_of_lt_of_le (h.lt k (.inl hk)).1 htu.2.2.2.1, (h.lt k (.inl hk)).2⟩
    · refine ⟨(hs' k hk).1, ?_⟩
      rcases (hs' k hk).2 with h1 | h1
      · exact (h.lt k (.inr h1)).2
      · have := h.below.size; omega
  dis := fun k h1 h2 => by
    rcases (hs' k h2).2 with h3 | h3
    · exact h.dis k h1 h3
    · have := (h.lt k (.inl h1)).1; omega
  all := (h.all.turn htu h.hB).wide fun k hk h1 => by
    rcases (hs' k h1).2 with h3 | h3
    · exact h3
    · have := h.hB; omega
  hB := Nat.le_trans h.hB htu.2.2.2.1
  good := own_heap h.good fun g hg => htu.2.2.2.2 g (own_lt h.good g hg) fun h1 => h.gok g hg h1
  gok := fun g hg h1 => by
    rcases (hs' g h1).2 with h3 | h3
    · exact h.gok g hg h3
    · have := own_lt h.good g hg; omega
end

theorem own_room {w : World} {base n c size : Nat} {e : TypeId} {A : Option Addr} {xs : List Value} (h : w.ownsRow base e size (.slice A n c) n xs) : n ≤ c := by
  rcases h.2 with ⟨h5, h6⟩ | ⟨g, cap, cur, h5, _, _, h6, _⟩
  · injection h5 with _ h7 h8; omega
  · injection h5 with _ h7 h8; omega

theorem PlsT.of_rows {w : World} {base : Nat} {S U : Nat → Prop} {A : Option Addr} {c : Nat} {ps : List (List UInt8)} {vs : List Value} (h : RowsV w base (fun k => S k ∨ U k) (.slice A ps.length c) ps vs) : PlsT w w.heap.size U A ps.length c ps := by
  obtain ⟨h1, h2, h3, h4⟩ := h
  refine ⟨own_room h1, rfl, vs, Reads.of_own h1, fun ad e _ h5 => ?_, fun i p hp => ?_⟩
  · subst e
    exact h2 ad.block rfl (.inr h5)
  · obtain ⟨v, h5, h6, h7⟩ := h4 i p hp
    obtain ⟨A', c', rfl, _⟩ := own_slice h6
    refine ⟨A', c', h5, own_room h6, Reads.of_own h6, fun ad e _ h8 => ?_⟩
    subst e
    exact h7 ad.block rfl (.inr h8)

theorem FS.ss {w0 w : World} {S U : Nat → Prop} {bt bu N : Nat} {tl : List (List UInt8)} {A : Option Addr} {c : Nat} {ps : List (List UInt8)} {vs : List Value} {vb : Value} {gs : List Rw} (h : FS w0 w S U bt bu N tl (.slice A ps.length c) ps vs vb gs) : SS w0 w S U bt bu N 0 tl [] A ps.length c ps vb gs w.heap.size where
  below := h.below
  ht := h.ht
  hu := h.hu
  lt := h.lt
  dis := h.dis
  all := PlsT.of_rows h.rows
  hB := Nat.le_refl _
  good := h.good
  gok := fun g hg h1 => h.gok g hg (.inr h1)

theorem payL_pos (ver : Int) (tl : List (List UInt8)) (r : Rc) (l : List Dp) : 1 ≤ (payL ver tl r l).length := by unfold payL; simp

def SRel (w0 : World) (ver : Int) (S : Nat → Prop) (bt bu N : Nat) (tl : List (List UInt8)) (A : Option Addr) (na ca : Nat) (ps : List (List UInt8)) (vb : Value) (gs : List Rw) (B : Nat) (v13 idx : Value) (wr : World) : Prop :=
  ∃ (i : Nat) (U : Nat → Prop) (M : Nat), i ≤ gs.length ∧ idx = .int .i64 (i : Int) ∧ v13 = .int .i64 ((layAll ver [] (gs.take i)).length : Int) ∧ M ≤ 36 * i ∧ SS w0 wr S U bt bu N M tl (tabAll ver [] (gs.take i)) A na ca ps vb gs B

end Go.Proofs.Ytidkahmjjknkmaa

/- The document's Put of a record that may be. -/
namespace Go.Proofs.Ytidkahmjjknkmaa
open Go.RowKit

set_option maxRecDepth 100000 in
set_option maxHeartbeats 4000000 in
theorem rp22 (tl : List (List UInt8)) (t g : List UInt8) (u o m : Int) (A : Option Addr) (n c : Nat) (l : List Dp) (hm : MayP 2 ⟨2, t, u, o, m, g⟩ l) (hnu : Nums ⟨2, t, u, o, m, g⟩ l) (hfit : Fits ⟨2, t, u, o, m, g⟩ l) (tv : Value) (htl : tl.length ≤ 100000) (w : World) (B0 : Nat) (hB0 : B0 ≤ w.heap.size) (hT : Own w B0 tv tl) (hr : Reads w w.heap.size 3 A n (dps l)) :
    Calls Try.prog 11 #[.int .i64 2, tv, .agg #[.int .i64 2, .string (tx t), .int .u64 u, .slice A n c, .int .u64 o, .int .u64 m, .string (tx g)]] w fun e w' => ∃ v1 v2, e = .returned (.tuple #[v1, v2, .int .i64 0]) ∧ Own w' w.heap.size v1 (payL 2 tl ⟨2, t, u, o, m, g⟩ l) ∧ Own w' B0 v2 (tabT 2 tl ⟨2, t, u, o, m, g⟩ l) ∧ Below w.heap.size w w' := by
  obtain ⟨i0, ii0, iz0, iz1, iz2⟩ := info_parts (show (Try.prog.info? 9).map (fun i => (i.zero, i.size, i.bytes)) = some (some (.string { data := #[] }), 1, 16) from by kernel_rfl)
  obtain ⟨n1, n2, n3, n4⟩ := may_names hm
  have hln : l.length = n := by have := hr.1; rw [dps_len] at this; omega
  have hn16 : n ≤ 16 := by omega
  have hTL := tabT_len (tl := tl) hm
  have hin := tabT_mem 2 tl ⟨2, t, u, o, m, g⟩ l
  obtain ⟨T, hTe⟩ : ∃ T, T = tabT 2 tl ⟨2, t, u, o, m, g⟩ l := ⟨_, rfl⟩
  rw [← hTe] at hin hTL
  have hT2 : T.length ≤ 200000 := by omega
  have hnm : (nmB 2 T t).length ≤ 74 := nmB_len n1 (by omega)
  have hinT : (2 : Int) < 2 ∨ t ∈ T := hin.imp id fun h => h _ (tnew_mem (by simp))
  have hinD : ∀ d ∈ l, (2 : Int) < 2 ∨ d.name ∈ T := fun d hd => hin.imp id fun h => h _ (tnew_mem (by
    refine List.mem_append.2 (.inl (List.mem_cons.2 (.inr ?_)))
    exact List.mem_map.2 ⟨d, hd, rfl⟩))
  obtain ⟨nm, hnme⟩ : ∃ nm, nm = nmB 2 T t := ⟨_, rfl⟩
  rw [← hnme] at hnm
  obtain ⟨bk, hbk⟩ : ∃ bk, bk = vb 2 := ⟨_, rfl⟩
  have lbk : bk.length ≤ 10 := by rw [hbk]; exact vb_len _ (by unfold top; omega)
  have HK := Lib.hid (fun W => refput_any 2 (by unfold top; omega) W)
  rw [← hbk] at HK
  have hfin : Hid (payB 2 T ⟨2, t, u, o, m, g⟩ l = bk ++ nm) := by
    show _ = _
    rw [hbk, hnme]
    unfold payB
    rw [vb_lt (show 2 < 128 by omega)]
    simp
  have hpl : Hid (payL 2 tl ⟨2, t, u, o, m, g⟩ l = freT 2 tl ⟨2, t, u, o, m, g⟩ l ++ [payB 2 T ⟨2, t, u, o, m, g⟩ l]) := by show _ = _; unfold payL; rw [← hTe]
  have hfre : Hid (freT 2 tl ⟨2, t, u, o, m, g⟩ l = freshL tl (rnames ⟨2, t, u, o, m, g⟩ l)) := by show _ = _; unfold freT; rw [if_neg (by omega)]
  have htab : Hid (T = (rnames ⟨2, t, u, o, m, g⟩ l).foldl tput tl) := by show _ = _; rw [hTe]; unfold tabT; rw [if_neg (by omega)]
  rw [← hTe]
  have hmay := Lib.hid (fun W hw => rmay_any 2 ⟨2, t, u, o, m, g⟩ A n c l (by omega) hfit W hw)
  have HMAY := Lib.hid hm
  have HR := Lib.hid hr
  obtain ⟨L, cT, rfl, hLc⟩ := own_slice hT
  have HT := Lib.hid hT
  have HNM := Lib.hid (fun W hw => rnames_any ⟨2, t, u, o, m, g⟩ A n c l (by omega) W hw)
  have hnl := rnames_le hm
  obtain ⟨X0, hX0⟩ : ∃ X0, X0 = w.alloc (.cells #[.int .i64 2, .string (tx t), .int .u64 u, .slice A n c, .int .u64 o, .int .u64 m, .string (tx g)] 26) := ⟨_, rfl⟩
  have hz0 : Hid (X0.heap.size = w.heap.size + 1) := by show _ = _; rw [hX0]; simp
  have hbx0 := one_new w (.cells #[.int .i64 2, .string (tx t), .int .u64 u, .slice A n c, .int .u64 o, .int .u64 m, .string (tx g)] 26)
  rw [← hX0] at hbx0
  have HBX : Hid (∀ W, Below (w.heap.size + 1) X0 W → W.heap[w.heap.size]? = some (.cells #[.int .i64 2, .string (tx t), .int .u64 u, .slice A n c, .int .u64 o, .int .u64 m, .string (tx g)] 26 (0, 0))) := fun W h => (h.block _ (by omega)).trans hbx0
  have HW0 : Hid (Below w.heap.size w X0) := by rw [hX0]; exact (Below.refl w.heap.size w).alloc (Nat.le_refl _) _
  have HB3 : Hid (Below (w.heap.size + 1) X0 (X0.alloc (.cells #[] 9))) := (Below.refl _ _).alloc (by rw [hz0.out]; exact Nat.le_refl _) _
  have HZ : Hid (∀ W, Below (w.heap.size + 1) X0 W → w.heap.size + 1 ≤ W.heap.size) := fun W h => by have h1 := h.size; rw [hz0.out] at h1; exact h1
  have HRW : Hid (∀ W, Below (w.heap.size + 1) X0 W → Reads W W.heap.size 3 A n (dps l)) := fun W h => (HR.out.below (HW0.out.trans (h.mono (by omega)))).more (by have h1 := h.size; rw [hz0.out] at h1; omega)
  have HO3 : Hid (Own (X0.alloc (.cells #[] 9)) (w.heap.size + 1) (.slice (some ⟨w.heap.size + 1, 0, none⟩) 0 0) []) := by
    have h1 := own_empty X0 9
    rw [hz0.out] at h1
    exact h1
  have HT3 : Hid (Own (X0.alloc (.cells #[] 9)) B0 (.slice L tl.length cT) tl) := HT.out.below (HW0.out.trans (HB3.out.mono (by omega)))
  rw [hX0] at HBX HW0 HB3 HZ HRW HO3 HT3
  unfold rcv rsv at hmay HNM
  clear hm hr hfit hTe hbx0 hz0 HR hX0 hbk hin hLc
  have hln2 : Hid (l.length = n) := hln
  clear hln
  have HNME := Lib.hid hnme
  clear hnme
  have HNU := Lib.hid hnu
  have HN4 := Lib.hid n4
  have HIND := Lib.hid hinD
  clear hnu n4 hinD
  have HTLT : Hid (∀ gg, (Value.slice L tl.length cT).ownBlock = some gg → gg < w.heap.size) := own_lt HT.out
  clear hT
  have HINT := Lib.hid hinT
  clear hinT
  have hbx := HBX.out ((w.alloc (.cells #[.int .i64 2, .string (tx t), .int .u64 u, .slice A n c, .int .u64 o, .int .u64 m, .string (tx g)] 26)).alloc (.cells #[] 9)) HB3.out
  have p0 := at_cell (i := 0) hbx rfl
  have p1 := at_cell (i := 1) hbx rfl
  have p2 := at_cell (i := 2) hbx rfl
  have p3 := at_cell (i := 3) hbx rfl
  have p4 := at_cell (i := 4) hbx rfl
  have p5 := at_cell (i := 5) hbx rfl
  have p6 := at_cell (i := 6) hbx rfl
  clear hbx
  go_enter Try.func11, Try.ntmps11
  go_wp2_with fail
  refine (hmay.out _ (HRW.out _ HB3.out)).mono ?_
  rintro e w4 ⟨he, hb⟩
  obtain rfl := he.yes HMAY.out
  have HB4 := Lib.hid (HB3.out.trans (hb.mono (HZ.out _ HB3.out)))
  have HO4 := Lib.hid (HO3.out.below hb)
  have HT4 := Lib.hid (HT3.out.below hb)
  clear he hb hmay HMAY HO3 HT3
  clear p0 p1 p2 p3 p4 p5 p6
  have hbx := HBX.out w4 HB4.out
  have p0 := at_cell (i := 0) hbx rfl
  have p1 := at_cell (i := 1) hbx rfl
  have p2 := at_cell (i := 2) hbx rfl
  have p3 := at_cell (i := 3) hbx rfl
  have p4 := at_cell (i := 4) hbx rfl
  have p5 := at_cell (i := 5) hbx rfl
  have p6 := at_cell (i := 6) hbx rfl
  clear hbx
  go_wp2_with fail
  refine (HNM.out _ (HRW.out _ HB4.out)).mono ?_
  rintro e w5 ⟨vn, rfl, hvn, hb⟩
  obtain ⟨ns, hns⟩ : ∃ ns, ns = rnames ⟨2, t, u, o, m, g⟩ l := ⟨_, rfl⟩
  rw [← hns] at hvn htab hfre hnl
  obtain ⟨An, cn, rfl, hAn⟩ := own_slice hvn
  have HB5 := Lib.hid (HB4.out.trans (hb.mono (HZ.out _ HB4.out)))
  obtain ⟨mm, hmm⟩ : ∃ mm, mm = ns.length := ⟨_, rfl⟩
  have HMM := Lib.hid hmm
  have H5 : Hid (DnRel B0 (w.heap.size + 1) (w.alloc (.cells #[.int .i64 2, .string (tx t), .int .u64 u, .slice A n c, .int .u64 o, .int .u64 m, .string (tx g)] 26)) tl ns (.slice An ns.length cn) (.slice L tl.length cT) (.slice (some ⟨w.heap.size + 1, 0, none⟩) 0 0) (.int .i64 0) w5) := by
    refine ⟨0, _, _, rfl, rfl, by omega, rfl, HT4.out.below hb, HO4.out.below hb, hvn.less (by omega), fun gg e1 e2 => ?_, fun gg e1 e2 => ?_, HB5.out⟩
    · have h1 := HTLT.out _ e2
      obtain rfl : w.heap.size + 1 = gg := by simpa [Value.ownBlock] using e1
      omega
    · have h1 := own_block hvn _ e2
      obtain rfl : w.heap.size + 1 = gg := by simpa [Value.ownBlock] using e1
      have h2 := own_lt HO4.out _ e1
      omega
  have HNL := Lib.hid hnl.1
  have hm18 : mm ≤ 18 := by rw [hmm]; exact hnl.2
  rw [← hmm] at H5 ⊢
  clear hvn hb hns hnl hmm HNM HT4 HO4 HB4 HTLT
  clear p0 p1 p2 p3 p4 p5 p6
  go_wp2
  go_loopw [1, 9, 11] (fun v1 v9 v11 wr => DnRel B0 (w.heap.size + 1) (w.alloc (.cells #[.int .i64 2, .string (tx t), .int .u64 u, .slice A n c, .int .u64 o, .int .u64 m, .string (tx g)] 26)) tl ns (.slice An mm cn) v1 v9 v11 wr) (fun _ _ v11 _ => mm - (intOf v11).toNat)
  case atStart => exact H5.out
  case round =>
    obtain ⟨i, a1, a9, rfl, rfl, hi, rfl, ht, ho, hon, hap1, hap2, hbr⟩ := hrel
    clear H5
    rw [← HMM.out] at hi
    obtain ⟨L1, c1, rfl, hL1⟩ := own_slice ht
    obtain ⟨L9, c9, rfl, hL9⟩ := own_slice ho
    have HTr := Lib.hid ht
    have HOr := Lib.hid ho
    have HONr := Lib.hid hon
    have HAP1 := Lib.hid hap1
    have HAP2 := Lib.hid hap2
    have HBr := Lib.hid hbr
    have hf1 := freshL_len (ns.take i) tl
    have hf2 := tfold_len (ns.take i) tl
    rw [List.length_take] at hf1 hf2
    clear hap1 hap2 hbr
    by_cases hlt : i < mm
    · obtain ⟨s, hs⟩ : ∃ s, ns[i]? = some s := ⟨_, List.getElem?_eq_getElem (by rw [← HMM.out]; exact hlt)⟩
      have hon2 : wr.ownsRow 0 9 1 (.slice An mm cn) mm (ns.map tsv) := by have h := hon; unfold Own at h; rwa [← HMM.out] at h
      obtain ⟨adn, rfl, _, hcx⟩ := (Reads.of_own hon2).2 (by omega)
      clear hon2
      have k0 := hcx i (tsv s) (by rw [List.getElem?_map, hs]; rfl)
      have HNC : Hid (∀ W, Own W 0 (.slice (some adn) mm cn) ns → W.cell? (adn.add i) = some (.string (tx s))) := fun W h => by
        have h2 : W.ownsRow 0 9 1 (.slice (some adn) mm cn) mm (ns.map tsv) := by unfold Own at h; rwa [← HMM.out] at h
        obtain ⟨ad2, e2, _, hc2⟩ := (Reads.of_own h2).2 (by omega)
        obtain rfl : adn = ad2 := Option.some.inj e2
        exact hc2 i (tsv s) (by rw [List.getElem?_map, hs]; rfl)
      have hsl := HNL.out s (List.mem_of_getElem? hs)
      have hpl := place_any L1 ((ns.take i).foldl tput tl).length c1 ((ns.take i).foldl tput tl) s (by omega) wr (Reads.of_own ht)
      unfold tsv at k0 hpl
      have hi0 : (0 : Int) ≤ (i : Int) := by omega
      have hi1 : (i : Int) < (mm : Int) := by omega
      have HS := Lib.hid hs
      by_cases hin : s ∈ (ns.take i).foldl tput tl
      · have HNI := Lib.hid (nm_in hs hin ht ho)
        rw [tplace_in hin] at hpl
        have HPL := Lib.hid hpl
        generalize tnum ((ns.take i).foldl tput tl) s = q at HPL
        have hq0 : decide ((q : Int) < 0) = false := decide_eq_false (by omega)
        generalize hT0 : ((ns.take i).foldl tput tl).length = nT at *
        generalize hF0 : (freshL tl (ns.take i)).length = nF at *
        clear hcx ht ho hon hin hpl hs hf1 hf2 hT0 hF0
        go_wp2_with fail
        refine HPL.out.mono ?_
        rintro e w6 ⟨rfl, rfl⟩
        go_wp2
        exact ⟨⟨i + 1, _, _, rfl, rfl, by rw [← HMM.out]; omega, by go_num, HNI.out.1, HNI.out.2, HONr.out, HAP1.out, HAP2.out, HBr.out⟩, by simp [intOf]; omega⟩
      · have HNE := Lib.hid (nm_new hs hin)
        rw [tplace_out hin] at hpl
        have HPL := Lib.hid hpl
        have hadd : ∀ W : World, (Op.stringOp .add { data := #[0] } (tx s)).run Try.prog W = .ok (.string (tx (0 :: s))) W := fun W => add_tx W [0] s (by simp; omega)
        have HPUT := Lib.hid (fun W hb hl => iput_any B0 (.slice L1 ((ns.take i).foldl tput tl).length c1) ((ns.take i).foldl tput tl) s (by omega) W hb hl)
        unfold tsv at HPUT
        obtain ⟨nT, hnT⟩ : ∃ nT, nT = ((ns.take i).foldl tput tl).length := ⟨_, rfl⟩
        obtain ⟨nF, hnF⟩ : ∃ nF, nF = (freshL tl (ns.take i)).length := ⟨_, rfl⟩
        have HNT := Lib.hid hnT
        have HNF := Lib.hid hnF
        have HTr2 : Hid (Own wr B0 (.slice L1 nT c1) ((ns.take i).foldl tput tl)) := by rw [hnT]; exact ht
        have HOr2 : Hid (wr.ownsRow (w.heap.size + 1) 9 1 (.slice L9 nF c9) nF ((freshL tl (ns.take i)).map tsv)) := by rw [hnF]; exact ho
        have HONr2 : Hid (Own wr 0 (.slice (some adn) mm cn) ns) := hon
        have HA1 : Hid (Apart (.slice L9 nF c9) (.slice L1 nT c1)) := by rw [hnF, hnT]; exact HAP1.out
        have HA2 : Hid (Apart (.slice L9 nF c9) (.slice (some adn) mm cn)) := by rw [hnF]; exact HAP2.out
        rw [← hnT] at HPL HPUT
        rw [← hnF] at hf1
        rw [← hnT, ← hnF]
        have hnF2 : nF ≤ 100 := by omega
        clear hcx ht ho hon hin hpl hs hf1 hf2 hnT hnF HTr HOr HONr HAP1 HAP2
        go_wp2_with fail
        refine HPL.out.mono ?_
        rintro e w6 ⟨rfl, rfl⟩
        have HO2 := Lib.hid (World.ownsRow.alloc HOr2.out (.cells #[.string (tx (0 :: s))] 9))
        have HR2 := Lib.hid (reads_one_row wr 9 (.string (tx (0 :: s))))
        have HB2 := Lib.hid (HBr.out.alloc (HZ.out _ HBr.out) (.cells #[.string (tx (0 :: s))] 9))
        go_wp2_with (at_builtin; refine wpList_append_told _ rfl (.tmp 48) (.tmp 54) 22 rfl (w.heap.size + 1) 9 i0 _ 1 16 Try.underlying22 ii0 iz0 iz1 iz2 rfl (by decide) _ nF _ rfl HO2.out (some ⟨wr.heap.size, 0, none⟩) 1 1 (wr.heap.size + 1) [.string (tx (0 :: s))] rfl (by simp) HR2.out (fun u hu => by obtain rfl := List.mem_singleton.1 hu; rfl) (by unfold maxLen; omega) (by omega) (HZ.out _ HB2.out) ?_; intro v7 w7 ho7 hg7 hv7; have hv7b : v7.ownBlock = (Value.slice L9 nF c9).ownBlock ∨ v7.ownBlock = some (wr.alloc (.cells #[.string (tx (0 :: s))] 9)).heap.size := hv7; have hg7b : (wr.alloc (.cells #[.string (tx (0 :: s))] 9)).grownBy w7 (Value.slice L9 nF c9).ownBlock := hg7; have HO7 := Lib.hid ho7; have HB7 := Lib.hid (HB2.out.grown hg7b (HZ.out _ HB2.out) (own_block HO2.out)); have HT7 := Lib.hid (own_kept (World.ownsRow.alloc HTr2.out (.cells #[.string (tx (0 :: s))] 9)) HA1.out hg7b); have HN7 := Lib.hid (own_kept (World.ownsRow.alloc HONr2.out (.cells #[.string (tx (0 :: s))] 9)) HA2.out hg7b); have HA71 := Lib.hid (apart_told HA1.out (World.ownsRow.alloc HTr2.out (.cells #[.string (tx (0 :: s))] 9)) hv7b); have HA72 := Lib.hid (apart_told HA2.out (World.ownsRow.alloc HONr2.out (.cells #[.string (tx (0 :: s))] 9)) hv7b); have k7 := HNC.out _ HN7.out; clear ho7 hg7 hv7 hv7b hg7b)
        refine (HPUT.out w7 (by have := HZ.out _ HB7.out; omega) HT7.out).mono ?_
        rintro e w8 ⟨v8, rfl, ho8, hv8, hb8⟩
        obtain ⟨L8, c8, rfl, _⟩ := own_slice ho8
        have HB8 := Lib.hid (HB7.out.trans (hb8.mono (HZ.out _ HB7.out)))
        have HA81 : Hid (Apart v7 (.slice L8 (tput ((ns.take i).foldl tput tl) s).length c8)) := by
          rcases hv8 with h | h
          · rw [h]; exact HA71.out
          · exact apart_up HO7.out h
        have HO8 := Lib.hid ho8
        have HO78 := Lib.hid (own_below HO7.out hb8)
        have HN8 := Lib.hid (own_below HN7.out hb8)
        clear ho8 hv8 hb8
        go_wp2
        exact ⟨⟨i + 1, _, _, rfl, rfl, by rw [← HMM.out]; omega, by go_num, by rw [HNE.out.1]; exact HO8.out, by rw [HNE.out.2]; unfold Own; rw [List.length_append, List.map_append, ← HNF.out]; exact HO78.out, HN8.out, HA81.out, HA72.out, HB8.out⟩, by simp [intOf]; omega⟩
    · obtain rfl : i = mm := by omega
      have htk : ns.take i = ns := List.take_of_length_le (by rw [← HMM.out]; omega)
      rw [htk] at ht ho HAP1 HTr HOr
      rw [htk]
      rw [← htab.out] at ht HAP1 HTr ⊢
      obtain ⟨nT, hnT⟩ : ∃ nT, nT = T.length := ⟨_, rfl⟩
      obtain ⟨nO, hnO⟩ : ∃ nO, nO = (freshL tl ns).length := ⟨_, rfl⟩
      have HNT := Lib.hid hnT
      have HNO := Lib.hid hnO
      have HTT : Hid (wr.ownsRow B0 9 1 (.slice L1 nT c1) nT (T.map tsv)) := by rw [hnT]; exact ht
      have HOO : Hid (wr.ownsRow (w.heap.size + 1) 9 1 (.slice L9 nO c9) nO ((freshL tl ns).map tsv)) := by rw [hnO]; exact ho
      have HAP : Hid (Apart (.slice L9 nO c9) (.slice L1 nT c1)) := by rw [hnO, hnT]; exact HAP1.out
      have hnT2 : nT ≤ 200000 := by rw [hnT]; exact hT2
      have hnO2 : nO ≤ 100 := by rw [hnO]; have := freshL_len ns tl; rw [← HMM.out] at this; omega
      rw [← hnT, ← hnO]
      obtain ⟨LT, rfl⟩ : ∃ LT, LT = L1 := ⟨_, rfl⟩
      obtain ⟨LO, rfl⟩ : ∃ LO, LO = L9 := ⟨_, rfl⟩
      obtain ⟨cX, rfl⟩ : ∃ cX, cX = c1 := ⟨_, rfl⟩
      obtain ⟨cO, rfl⟩ : ∃ cO, cO = c9 := ⟨_, rfl⟩
      clear ht ho hon HTr HOr HONr HAP1 HAP2 hf1 hf2 htk hnT hnO
      have hbx := HBX.out wr HBr.out
      have p0 := at_cell (i := 0) hbx rfl
      have p1 := at_cell (i := 1) hbx rfl
      have p2 := at_cell (i := 2) hbx rfl
      have p3 := at_cell (i := 3) hbx rfl
      have p4 := at_cell (i := 4) hbx rfl
      have p5 := at_cell (i := 5) hbx rfl
      have p6 := at_cell (i := 6) hbx rfl
      clear hbx
      obtain ⟨s1, hs1⟩ : ∃ s1, s1 = bk ++ nm := ⟨_, rfl⟩
      have ls1 : s1.length ≤ 100 := by rw [hs1, List.length_append]; omega
      have as1 := fun W : World => add_tx (P := Try.prog) W bk nm (by omega)
      rw [← hs1] at as1
      have Hs1 := Lib.hid hs1
      clear hs1
      have HBC := HBr
      go_wp2_with fail
      refine wp_region_held (S := fun W => Below wr.heap.size wr W) (by kernel_rfl) ?_
      have hS : Below wr.heap.size wr wr.drew := (Below.refl _ _).drew
      refine h_take 0 (.pointer (some ⟨w.heap.size, 0, none⟩)) rfl (by kernel_rfl) (by kernel_rfl) (by kernel_rfl) (fun _ _ _ h => h) (by kernel_rfl) hS (fun _ _ => by kernel_rfl) ?_
      refine h_take 1 (.int .i64 2) rfl (by kernel_rfl) (by kernel_rfl) (by kernel_rfl) (fun _ _ _ h => h) (by kernel_rfl) hS (by intro v hv; have q := (hv.cell (p := ⟨w.heap.size, 0, none⟩) (by have := HZ.out _ HBC.out; show w.heap.size < _; omega)).trans p0; go_simp) ?_
      refine h_take 2 (.int .u64 2) rfl (by kernel_rfl) (by kernel_rfl) (by kernel_rfl) (fun _ _ _ h => h) (by kernel_rfl) hS (fun _ _ => by kernel_rfl) ?_
      refine h_take 4 (.int .i64 2) rfl (by kernel_rfl) (by kernel_rfl) (by kernel_rfl) (fun _ _ _ h => h) (by kernel_rfl) hS (fun _ _ => by kernel_rfl) ?_
      refine h_take 5 (.slice LT nT cX) rfl (by kernel_rfl) (by kernel_rfl) (by kernel_rfl) (fun _ _ _ h => h) (by kernel_rfl) hS (fun _ _ => by kernel_rfl) ?_
      refine h_take 6 (.pointer (some ⟨w.heap.size, 1, none⟩)) rfl (by kernel_rfl) (by kernel_rfl) (by kernel_rfl) (fun _ _ _ h => h) (by kernel_rfl) hS (fun _ _ => by kernel_rfl) ?_
      refine h_take 7 (.string (tx t)) rfl (by kernel_rfl) (by kernel_rfl) (by kernel_rfl) (fun _ _ _ h => h) (by kernel_rfl) hS (by intro v hv; have q := (hv.cell (p := ⟨w.heap.size, 1, none⟩) (by have := HZ.out _ HBC.out; show w.heap.size < _; omega)).trans p1; go_simp) ?_
      refine h_one 3 rfl (by kernel_rfl) (by kernel_rfl) (fun K hK => ?_)
      go_simp
      refine (HK.out _).mono ?_
      rintro e w10 ⟨rfl, hb⟩
      have hS2 : Below wr.heap.size wr w10 := hS.trans (hb.mono hS.size)
      refine hK _ _ hS2 ?_
      clear hK K hb
      refine h_one 8 rfl (by kernel_rfl) (by kernel_rfl) (fun K hK => ?_)
      go_simp
      refine (doctext_any 2 (by omega) LT nT cX T t (by omega) HINT.out (by omega) w10 (((Reads.of_own HTT.out).below hS2).more hS2.size)).mono ?_
      rintro e w11 ⟨rfl, hb⟩
      rw [← HNME.out]
      have hS3 : Below wr.heap.size wr w11 := hS2.trans (hb.mono hS2.size)
      refine hK _ _ hS3 ?_
      clear hK K hb
      refine h_take 9 (.string (tx s1)) rfl (by kernel_rfl) (by kernel_rfl) (by kernel_rfl) (fun _ _ _ h => h) (by kernel_rfl) hS3 (by intro v hv; go_simp) ?_
      refine h_take 10 (.string (tx s1)) rfl (by kernel_rfl) (by kernel_rfl) (by kernel_rfl) (fun _ _ _ h => h) (by kernel_rfl) hS3 (fun _ _ => by kernel_rfl) ?_
      refine wpAnyH_done (by kernel_rfl) ?_ _
      go_simp
      clear hS hS2 HBC
      have HB21 := Lib.hid (HBr.out.trans (hS3.mono (HZ.out _ HBr.out)))
      have HTT21 := Lib.hid (own_below HTT.out hS3)
      have HOO21 := Lib.hid (own_below HOO.out hS3)
      clear hS3
      clear p0 p1 p2 p3 p4 p5 p6
      have hbx := HBX.out w11 HB21.out
      have p0 := at_cell (i := 0) hbx rfl
      have p1 := at_cell (i := 1) hbx rfl
      have p2 := at_cell (i := 2) hbx rfl
      have p3 := at_cell (i := 3) hbx rfl
      have p4 := at_cell (i := 4) hbx rfl
      have p5 := at_cell (i := 5) hbx rfl
      have p6 := at_cell (i := 6) hbx rfl
      clear hbx
      obtain ⟨nO1, hO1⟩ : ∃ nO1, nO1 = nO + 1 := ⟨_, rfl⟩
      clear hO1
      have HO2 := Lib.hid (World.ownsRow.alloc HOO21.out (.cells #[.string (tx s1)] 9))
      have HT2 := Lib.hid (World.ownsRow.alloc HTT21.out (.cells #[.string (tx s1)] 9))
      have HR2 := Lib.hid (reads_one_row w11 9 (.string (tx s1)))
      have HB2 := Lib.hid (HB21.out.alloc (HZ.out _ HB21.out) (.cells #[.string (tx s1)] 9))
      go_wp2_with (at_builtin; refine wpList_append_told _ rfl (.tmp 164) (.tmp 166) 22 rfl (w.heap.size + 1) 9 i0 _ 1 16 Try.underlying22 ii0 iz0 iz1 iz2 rfl (by decide) _ nO _ rfl HO2.out (some ⟨w11.heap.size, 0, none⟩) 1 1 (w11.heap.size + 1) [.string (tx s1)] rfl (by simp) HR2.out (fun u hu => by obtain rfl := List.mem_singleton.1 hu; rfl) (by unfold maxLen; omega) (by omega) (HZ.out _ HB2.out) ?_; intro v7 w7 ho7 hg7 hv7; have hg7b : (w11.alloc (.cells #[.string (tx s1)] 9)).grownBy w7 (Value.slice LO nO cO).ownBlock := hg7; have HO7 := Lib.hid ho7; have HB7 := Lib.hid (HB2.out.grown hg7b (HZ.out _ HB2.out) (own_block HO2.out)); have HT7 := Lib.hid (own_kept HT2.out HAP.out hg7b); clear ho7 hg7 hv7 hg7b)
      go_ret3
      refine ⟨_, _, rfl, ?_, ?_, HW0.out.trans (HB7.out.mono (by omega))⟩
      · rw [hpl.out, hfre.out, hfin.out, ← Hs1.out]
        unfold Own
        rw [List.length_append, List.map_append, ← HNO.out]
        exact own_less HO7.out (by omega)
      · unfold Own
        rw [← HNT.out]
        exact HT7.out

end Go.Proofs.Ytidkahmjjknkmaa
