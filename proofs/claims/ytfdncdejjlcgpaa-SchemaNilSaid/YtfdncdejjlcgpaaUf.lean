/- Rows of payloads; schema.freshTexts. -/
import Derived.Lib.AppendStr
import Derived.Test.YtfdncdejjlcgpaaUe
import Derived.Test.YtfdncdejjlcgpaaRv
namespace Go.Proofs.Ytfdncdejjlcgpaa
open Go.RowKit

/-- append, and where it has put what it made. -/
theorem wpList_append_told {P : Program} (w : World) {ops : Array Oper} {rest : List Oper} {o : Oper} {a : Act} {Q : Exit → Act → World → Prop} (hgd : o.guard = none) (s x : Operand) (t : TypeId)
    (ho : o.op = .call { callee := .builtin .append, args := #[s, x], argTypes := #[t, t] })
    (base : Nat) (e : TypeId) (i : TypeInfo) (z : Value) (size bytes : Nat) (ht : P.underlying t = some (.slice e)) (hi : P.info? e = some i) (hz : i.zero = some z)
    (hsize : i.size = size) (hby : i.bytes = bytes) (hzs : z.cells.size = size) (hsz : 0 < size)
    (v : Value) (n : Nat) (xs : List Value) (hs : a.eval s = v) (hown : w.ownsRow base e size v n xs)
    (A : Option Addr) (m c B : Nat) (news : List Value) (hx : a.eval x = .slice A m c) (hA : A = none → c = 0) (hr : Reads w B size A m news) (h1 : ∀ u ∈ news, u.oneCell' = true)
    (h63 : n + m ≤ maxLen) (hbytes : (n + m) * bytes ≤ 140737488355328) (hbase : base ≤ w.heap.size)
    (h : ∀ v' w', w'.ownsRow base e size v' (n + m) (xs ++ news) → w.grownBy w' v.ownBlock → (v'.ownBlock = v.ownBlock ∨ v'.ownBlock = some w.heap.size) → wpList P ops Q rest (a.put o.dst v') w') : wpList P ops Q (o :: rest) a w := by
  refine wpList_plain hgd fun K hK => ?_
  exact wp_append_many s x t ho base e i z size bytes ht hi hz hsize hby hzs hsz v n xs hs hown A m c B news hx hA hr h1 h63 hbytes hbase (fun v' w' a b c => hK _ _ (h v' w' a b c))

/-- Payloads in memory of their own, none of it in S. -/
def RowsV (w : World) (base : Nat) (S : Nat → Prop) (va : Value) (ps : List (List UInt8)) (vs : List Value) : Prop :=
  w.ownsRow base 44 1 va ps.length vs ∧ (∀ g, va.ownBlock = some g → ¬ S g) ∧ vs.length = ps.length ∧ ∀ (i : Nat) (p : List UInt8), ps[i]? = some p → ∃ v, vs[i]? = some v ∧ w.ownsRow base 5 1 v p.length (p.map bv) ∧ (∀ g, v.ownBlock = some g → ¬ S g)
def Rows (w : World) (base : Nat) (S : Nat → Prop) (va : Value) (ps : List (List UInt8)) : Prop := ∃ vs, RowsV w base S va ps vs

theorem RowsV.turn {w w' : World} {base : Nat} {S S2 : Nat → Prop} {va : Value} {ps : List (List UInt8)} {vs : List Value} (h : RowsV w base S va ps vs) (ht : Turn S2 w w') (hs : ∀ k, k < w.heap.size → S2 k → S k) : RowsV w' base S va ps vs := by
  obtain ⟨h1, h2, h3, h4⟩ := h
  refine ⟨own_heap h1 (fun g hg => ht.2.2.2.2 g (own_lt h1 g hg) (fun h5 => h2 g hg (hs g (own_lt h1 g hg) h5))), h2, h3, fun i p hp => ?_⟩
  obtain ⟨v, h5, h6, h7⟩ := h4 i p hp
  exact ⟨v, h5, own_heap h6 (fun g hg => ht.2.2.2.2 g (own_lt h6 g hg) (fun h8 => h7 g hg (hs g (own_lt h6 g hg) h8))), h7⟩
theorem RowsV.below {w w' : World} {base : Nat} {S : Nat → Prop} {va : Value} {ps : List (List UInt8)} {vs : List Value} (h : RowsV w base S va ps vs) (hb : Below w.heap.size w w') : RowsV w' base S va ps vs := h.turn (S2 := fun _ => False) (Turn.of_below hb) (fun _ _ h => h.elim)
/-- Another set, alike where there is memory. -/
theorem RowsV.set {w : World} {base : Nat} {S S2 : Nat → Prop} {va : Value} {ps : List (List UInt8)} {vs : List Value} (h : RowsV w base S va ps vs) (hs : ∀ k, k < w.heap.size → S2 k → S k) : RowsV w base S2 va ps vs := by
  obtain ⟨h1, h2, h3, h4⟩ := h
  refine ⟨h1, fun g hg h5 => h2 g hg (hs g (own_lt h1 g hg) h5), h3, fun i p hp => ?_⟩
  obtain ⟨v, h5, h6, h7⟩ := h4 i p hp
  exact ⟨v, h5, h6, fun g hg h8 => h7 g hg (hs g (own_lt h6 g hg) h8)⟩
theorem RowsV.push {w w' : World} {base : Nat} {S : Nat → Prop} {va va' v : Value} {ps : List (List UInt8)} {p : List UInt8} {vs : List Value} (h : RowsV w base S va ps vs) (hv : w.ownsRow base 5 1 v p.length (p.map bv)) (hvs : ∀ g, v.ownBlock = some g → ¬ S g)
    (ho : w'.ownsRow base 44 1 va' (ps.length + 1) (vs ++ [v])) (hg : w.grownBy w' va.ownBlock) (he : va'.ownBlock = va.ownBlock ∨ va'.ownBlock = some w.heap.size) (hn : ¬ S w.heap.size) : RowsV w' base S va' (ps ++ [p]) (vs ++ [v]) := by
  obtain ⟨h1, h2, h3, h4⟩ := h
  refine ⟨by rw [List.length_append]; exact ho, fun g h5 => ?_, by simp [h3], fun i q hq => ?_⟩
  · rcases he with he | he
    · exact h2 g (he ▸ h5)
    · rw [he] at h5
      obtain rfl : w.heap.size = g := by simpa using h5
      exact hn
  · rcases Nat.lt_or_ge i ps.length with hlt | hge
    · rw [List.getElem?_append_left hlt] at hq
      obtain ⟨u, h5, h6, h7⟩ := h4 i q hq
      exact ⟨u, by rw [List.getElem?_append_left (by rw [h3]; exact hlt)]; exact h5, own_kept h6 (own_apart h1 h6 (by decide)) hg, h7⟩
    · have hi : i = ps.length := by
        rcases Nat.lt_or_ge (i - ps.length) 1 with h5 | h5
        · omega
        · rw [List.getElem?_append_right hge, List.getElem?_eq_none (by simpa using h5)] at hq; cases hq
      subst hi
      obtain rfl : p = q := by simpa using hq
      exact ⟨v, by rw [← h3]; simp, own_kept hv (own_apart h1 hv (by decide)) hg, hvs⟩
theorem rows_nil (w : World) (base : Nat) (S : Nat → Prop) : RowsV w base S (.slice none 0 0) [] [] := ⟨World.ownsRow_nil _ _ _ _, fun g hg => by simp [Value.ownBlock] at hg, rfl, by simp⟩

/-- The payloads of texts that aren't in a table, one behind the other. -/
def freshL : List (List UInt8) → List (List UInt8) → List (List UInt8)
  | _, [] => []
  | tl, s :: ns => if s ∈ tl then freshL tl ns else (0 :: s) :: freshL (tl ++ [s]) ns
theorem freshL_snoc : ∀ (ns tl : List (List UInt8)) (s : List UInt8), freshL tl (ns ++ [s]) = freshL tl ns ++ (if s ∈ ns.foldl tput tl then [] else [0 :: s])
  | [], tl, s => by
    show (if s ∈ tl then [] else [0 :: s]) = [] ++ (if s ∈ tl then [] else [0 :: s])
    simp
  | a :: ns, tl, s => by
    show (if a ∈ tl then freshL tl (ns ++ [s]) else (0 :: a) :: freshL (tl ++ [a]) (ns ++ [s])) = (if a ∈ tl then freshL tl ns else (0 :: a) :: freshL (tl ++ [a]) ns) ++ (if s ∈ ns.foldl tput (tput tl a) then [] else [0 :: s])
    by_cases h : a ∈ tl
    · rw [if_pos h, if_pos h, freshL_snoc, tput_in h]
    · rw [if_neg h, if_neg h, freshL_snoc, tput_new h]
      rfl
theorem freshL_len : ∀ (ns tl : List (List UInt8)), (freshL tl ns).length ≤ ns.length
  | [], _ => by simp [freshL]
  | a :: ns, tl => by
    unfold freshL
    split
    · have := freshL_len ns tl; simp; omega
    · have := freshL_len ns (tl ++ [a]); simp; omega

theorem own_set {w : World} {base n size : Nat} {e : TypeId} {v : Value} {xs : List Value} {S : Nat → Prop} (h : w.ownsRow base e size v n xs) (hs : ∀ k, S k → k < base) : ∀ g, v.ownBlock = some g → ¬ S g := fun g hg h2 => by
  have h3 := own_block h g hg
  have h4 := hs g h2
  omega

theorem reads_one_row (W : World) (e : TypeId) (v : Value) : Reads (W.alloc (.cells #[v] e)) (W.heap.size + 1) 1 (some ⟨W.heap.size, 0, none⟩) 1 [v] :=
  ⟨rfl, fun _ => ⟨_, rfl, by show W.heap.size < _; omega, fun j u hu => by
    have hj : j = 0 := by
      rcases Nat.lt_or_ge j 1 with h | h
      · omega
      · rw [List.getElem?_eq_none (by simpa using h)] at hu; cases hu
    subst hj
    exact at_cell (i := 0) (one_new W _) (by simpa using hu)⟩⟩

/-- What stands at a round of freshTexts. -/
def FtRel (S : Nat → Prop) (bt N : Nat) (tl ns : List (List UInt8)) (w : World) (vn va idx : Value) (wr : World) : Prop :=
  ∃ (i : Nat) (S' : Nat → Prop) (va' : Value), va' = va ∧ i ≤ ns.length ∧ idx = .int .i64 (i : Int) ∧ Tab wr S' bt (N + i) ((ns.take i).foldl tput tl) ∧ (∀ k, S' k → k < wr.heap.size ∧ (S k ∨ w.heap.size ≤ k)) ∧ wr.ownsRow w.heap.size 9 1 vn ns.length (ns.map tsv) ∧ (∀ g, vn.ownBlock = some g → ¬ S' g) ∧ Rows wr w.heap.size S' va' (freshL tl (ns.take i)) ∧ Turn S w wr

set_option maxRecDepth 100000 in
set_option maxHeartbeats 4000000 in
theorem fresh_two (S : Nat → Prop) (bt N n c : Nat) (ver : Int) (hv : ¬ ver < 2) (tl : List (List UInt8)) (r : Rc) (A : Option Addr) (l : List Dp) (hn : n ≤ 1000) (hfit : Fits r l) (hnl : ∀ s ∈ rnames r l, s.length ≤ 64) (htl : tl.length ≤ 1000000000) (hN : N ≤ 1000000000) (hns : (rnames r l).length ≤ 2000) (w : World) (hT : Tab w S bt N tl) (hr : Reads w w.heap.size 3 A n (dps l)) :
    Calls Try.prog 23 #[.int .i64 ver, .pointer (some ⟨bt, 0, none⟩), .agg #[.int .i64 r.kind, .string (tx r.target), .int .u64 r.rule, .slice A n c, .int .u64 r.out, .int .u64 r.time, .string (tx r.tag)]] w fun e w' => ∃ (va : Value) (S' : Nat → Prop), e = .returned va ∧ Tab w' S' bt (N + (rnames r l).length) ((rnames r l).foldl tput tl) ∧ (∀ k, S' k → k < w'.heap.size ∧ (S k ∨ w.heap.size ≤ k)) ∧ Rows w' w.heap.size S' va (freshL tl (rnames r l)) ∧ Turn S w w' := by
  obtain ⟨i0, ii0, iz0, iz1, iz2⟩ := info_parts (show (Try.prog.info? 44).map (fun i => (i.zero, i.size, i.bytes)) = some (some (.slice none 0 0), 1, 24) from by kernel_rfl)
  obtain ⟨i5, ji0, jz0, jz1, jz2⟩ := info_parts info5
  have hz : (w.alloc (.cells #[.int .i64 r.kind, .string (tx r.target), .int .u64 r.rule, .slice A n c, .int .u64 r.out, .int .u64 r.time, .string (tx r.tag)] 26)).heap.size = w.heap.size + 1 := by simp
  have hb0 := (Below.refl w.heap.size w).alloc (Nat.le_refl _) (.cells #[.int .i64 r.kind, .string (tx r.target), .int .u64 r.rule, .slice A n c, .int .u64 r.out, .int .u64 r.time, .string (tx r.tag)] 26)
  have h0 := one_new w (.cells #[.int .i64 r.kind, .string (tx r.target), .int .u64 r.rule, .slice A n c, .int .u64 r.out, .int .u64 r.time, .string (tx r.tag)] 26)
  have HNAMES := Lib.hid (names_any r A n c l hn hfit (w.alloc (.cells #[.int .i64 r.kind, .string (tx r.target), .int .u64 r.rule, .slice A n c, .int .u64 r.out, .int .u64 r.time, .string (tx r.tag)] 26)) ((hr.below hb0).more (by rw [hz]; omega)))
  unfold rcv rsv at HNAMES
  have q0 := at_cell (i := 0) h0 rfl
  have q1 := at_cell (i := 1) h0 rfl
  have q2 := at_cell (i := 2) h0 rfl
  have q3 := at_cell (i := 3) h0 rfl
  have q4 := at_cell (i := 4) h0 rfl
  have q5 := at_cell (i := 5) h0 rfl
  have q6 := at_cell (i := 6) h0 rfl
  have d1 : decide (ver < 2) = false := decide_eq_false hv
  obtain ⟨ns, hnse⟩ : ∃ ns, ns = rnames r l := ⟨_, rfl⟩
  rw [← hnse] at HNAMES hnl hns ⊢
  obtain ⟨m, hm⟩ : ∃ m, m = ns.length := ⟨_, rfl⟩
  have HM := Lib.hid hm
  have HNL := Lib.hid hnl
  have HT := Lib.hid hT
  have HB0 := Lib.hid hb0
  have HZ := Lib.hid hz
  have hm2 : m ≤ 2000 := by omega
  have HTL := Lib.hid htl
  have HNN := Lib.hid hN
  clear h0 hb0 hz hT hr hv hnl hns hnse hm hfit htl hN
  go_enter Try.func23, Try.ntmps23
  go_wp2_with (go_at_call 46; refine HNAMES.out.mono ?_; rintro e w5 ⟨v5, rfl, ho5, hb5⟩; unfold Own at ho5; rw [← HM.out] at ho5; obtain ⟨A5, c5, rfl, hc5⟩ := own_slice ho5; have HO5 := Lib.hid ho5; have HB5 := Lib.hid (HB0.out.trans (hb5.mono HB0.out.size)); clear ho5 hb5)
  go_loopw [7, 17] (fun va idx wr => FtRel S bt N tl ns w (.slice A5 m c5) va idx wr) (fun va idx wr => m - (intOf idx).toNat)
  case atStart =>
    refine ⟨0, fun k => S k ∧ k < w.heap.size, _, rfl, by omega, rfl, ?_, fun k hk => ⟨by have h1 := HB5.out.size; omega, .inl hk.1⟩, ?_, ?_, ⟨[], rows_nil _ _ _⟩, Turn.of_below HB5.out⟩
    · exact (HT.out.wide (fun k h1 h2 => ⟨h1, h2⟩)).keep (fun k hk _ => HB5.out.block k hk.2)
    · rw [← HM.out]
      exact own_less HO5.out (by rw [HZ.out]; omega)
    · exact own_set HO5.out (fun k hk => by rw [HZ.out]; omega)
  case round =>
    obtain ⟨i, S', va, rfl, hi, rfl, ht, hs', hon, hgn, hrows, htu⟩ := hrel
    rw [← HM.out] at hi hon
    have HON := Lib.hid hon
    have HTU := Lib.hid htu
    have HS' := Lib.hid hs'
    by_cases hlt : i < m
    · obtain ⟨vs, hvs⟩ := hrows
      have HVS := Lib.hid hvs
      obtain ⟨s, hs⟩ : ∃ s, ns[i]? = some s := ⟨_, List.getElem?_eq_getElem (by rw [← HM.out]; exact hlt)⟩
      obtain ⟨ad, rfl, _, hcx⟩ := (Reads.of_own hon).2 (by omega)
      have k0 := hcx i (tsv s) (by rw [List.getElem?_map, hs]; rfl)
      have hsl := HNL.out s (List.mem_of_getElem? hs)
      have htk : (ns.take (i + 1)).foldl tput tl = tput ((ns.take i).foldl tput tl) s := by rw [List.take_add_one, hs, List.foldl_append]; rfl
      have hfl : freshL tl (ns.take (i + 1)) = freshL tl (ns.take i) ++ (if s ∈ (ns.take i).foldl tput tl then [] else [0 :: s]) := by rw [List.take_add_one, hs]; exact freshL_snoc _ _ _
      have HTK := Lib.hid htk
      have HFL := Lib.hid hfl
      have hlen := tfold_len (ns.take i) tl
      have hlen2 := freshL_len (ns.take i) tl
      rw [List.length_take] at hlen hlen2
      have HID := Lib.hid (ID_any S' bt (N + i) _ s (by unfold maxLen; omega) (by have := HTL.out; omega) (by have := HNN.out; omega) wr ht)
      unfold tsv at k0 HID
      obtain ⟨q, hq⟩ : ∃ q, q = decide (s ∈ (ns.take i).foldl tput tl) := ⟨_, rfl⟩
      rw [← hq] at HID
      have HQ := Lib.hid hq
      have hssz : (tx s).size = s.length := tx_size s
      have HSSZ := Lib.hid hssz
      have HSL := Lib.hid hsl
      have HLEN2 : Hid ((freshL tl (ns.take i)).length ≤ 2000) := by show _ ≤ _; omega
      -- behind ID: the table's set, cut off at what there is
      have BEH : Hid (∀ w6, Tab w6 (fun k => S' k ∨ wr.heap.size ≤ k) bt (N + i + 1) (tput ((ns.take i).foldl tput tl) s) → Turn S' wr w6 → (Tab w6 (fun k => (S' k ∨ wr.heap.size ≤ k) ∧ k < w6.heap.size) bt (N + (i + 1)) ((ns.take (i + 1)).foldl tput tl) ∧ (∀ k, ((S' k ∨ wr.heap.size ≤ k) ∧ k < w6.heap.size) → k < w6.heap.size ∧ (S k ∨ w.heap.size ≤ k)) ∧ w6.ownsRow w.heap.size 9 1 (.slice (some ad) m c5) m (ns.map tsv) ∧ (∀ g, (Value.slice (some ad) m c5).ownBlock = some g → ¬ ((S' g ∨ wr.heap.size ≤ g) ∧ g < w6.heap.size)) ∧ Turn S w w6 ∧ RowsV w6 w.heap.size (fun k => (S' k ∨ wr.heap.size ≤ k) ∧ k < w6.heap.size) va (freshL tl (ns.take i)) vs)) := fun w6 h1 h2 => by
        refine ⟨by rw [HTK.out]; exact (h1.wide (fun k a b => ⟨a, b⟩)), fun k hk => ⟨hk.2, ?_⟩, own_heap HON.out (fun g hg => h2.2.2.2.2 g (own_lt HON.out g hg) (hgn g hg)), fun g hg h3 => ?_, htu.trans h2 (fun k h3 h4 => ?_), ?_⟩
        · rcases hk.1 with h3 | h3
          · exact (HS'.out k h3).2
          · exact .inr (by have := htu.2.2.2.1; omega)
        · rcases h3.1 with h4 | h4
          · exact hgn g hg h4
          · have := own_lt HON.out g hg; omega
        · rcases (HS'.out k h4).2 with h5 | h5
          · exact h5
          · omega
        · obtain ⟨e1, e2, e3, e4⟩ := HVS.out
          obtain ⟨g1, g2, g3, g4⟩ := HVS.out.turn h2 (fun _ _ h => h)
          refine ⟨g1, fun g hg h5 => ?_, g3, fun j p hp => ?_⟩
          · rcases h5.1 with h6 | h6
            · exact g2 g hg h6
            · have := own_lt e1 g hg; omega
          · obtain ⟨v, f1, f2, f3⟩ := g4 j p hp
            obtain ⟨v', c1, c2, c3⟩ := e4 j p hp
            obtain rfl : v = v' := by rw [f1] at c1; exact Option.some.inj c1
            refine ⟨v, f1, f2, fun g hg h5 => ?_⟩
            rcases h5.1 with h6 | h6
            · exact f3 g hg h6
            · have := own_lt c2 g hg; omega
      have hi0 : (0 : Int) ≤ (i : Int) := by omega
      have hi1 : (i : Int) < (m : Int) := by omega
      clear hcx hs htk hfl hlen hlen2 ht hs' hon hgn hvs htu hq hssz hsl
      cases q with
      | true =>
        have HIN := Lib.hid (of_decide_eq_true HQ.out.symm)
        go_wp2_with (go_at_call 21; refine HID.out.mono ?_; rintro e w6 ⟨rfl, ht6, htu6⟩; have HB := Lib.hid (BEH.out w6 ht6 htu6); clear ht6 htu6)
        refine ⟨⟨i + 1, _, _, rfl, by rw [← HM.out]; omega, by go_num, HB.out.1, HB.out.2.1, by rw [← HM.out]; exact HB.out.2.2.1, HB.out.2.2.2.1, ?_, HB.out.2.2.2.2.1⟩, by simp [intOf]; omega⟩
        rw [HFL.out, if_pos HIN.out, List.append_nil]
        exact ⟨vs, HB.out.2.2.2.2.2⟩
      | false =>
        have HIN := Lib.hid (of_decide_eq_false HQ.out.symm)
        go_wp2_with (first
          | (at_builtin; refine wpList_append_told _ rfl (.tmp 28) (.tmp 32) 32 rfl w.heap.size 44 i0 _ 1 24 Try.underlying32 ii0 iz0 iz1 iz2 rfl (by decide) va _ vs rfl HRV9.out.1 (some ⟨w8.heap.size, 0, none⟩) 1 1 (w8.heap.size + 1) [.slice A8 (1 + s.length) c8] rfl (by simp) HR9.out (fun u hu => by obtain rfl := List.mem_singleton.1 hu; rfl) (by have := HLEN2.out; unfold maxLen; omega) (by have := HLEN2.out; omega) (by have h1 := HB9.out.size; have h2 := HB.out.2.2.2.2.1.2.2.2.1; omega) ?_; intro v10 w10 ho10 hg10 hv10; have HO10 := Lib.hid ho10; have HG10 := Lib.hid hg10; have HV10 := Lib.hid hv10; clear ho10 hg10 hv10)
          | (at_builtin; have ho7 := ownsRow_of_block (base := w6.heap.size) (cap := 1) (n := 1) (cs := [bv 0]) (xs := [bv 0]) (Nat.le_refl _) (one_new w6 (.cells #[.int .u8 0] 5)) (Nat.le_refl _) (by unfold maxLen; omega) rfl rfl; refine Lib.wpList_append_own_string _ rfl (.tmp 29) (.tmp 30) 44 9 rfl w6.heap.size 5 i5 Try.underlying44 Try.underlying9 ji0 jz0 jz1 jz2 (.slice (some ⟨w6.heap.size, 0, none⟩) 1 1) 1 [bv 0] rfl ho7 (tx s) rfl (by rw [HSSZ.out]; have := HSL.out; unfold maxLen; omega) (by rw [HSSZ.out]; have := HSL.out; omega) (by simp) ?_; intro v8 w8 ho8 hg8 _; rw [HSSZ.out, strCells_tx] at ho8; obtain ⟨A8, c8, rfl, hc8⟩ := own_slice ho8; have HO8 := Lib.hid (World.ownsRow.alloc ho8 (.cells #[.slice A8 (1 + s.length) c8] 44)); have HC8 := Lib.hid hc8; have HB9 := Lib.hid ((((Below.refl w6.heap.size w6).alloc (Nat.le_refl _) (.cells #[.int .u8 0] 5)).grown hg8 (by simp) (fun g hg => by have h1 : w6.heap.size = g := (by simpa [Value.ownBlock] using hg); omega)).alloc (by have h1 := hg8.size; simp at h1; omega) (.cells #[.slice A8 (1 + s.length) c8] 44)); have HR9 := Lib.hid (reads_one_row w8 44 (.slice A8 (1 + s.length) c8)); have HRV9 := Lib.hid (HB.out.2.2.2.2.2.below HB9.out); clear ho7 ho8 hg8 hc8)
          | (go_at_call 21; refine HID.out.mono ?_; rintro e w6 ⟨rfl, ht6, htu6⟩; have HB := Lib.hid (BEH.out w6 ht6 htu6); clear ht6 htu6))
        have htu10 : Turn (fun k => va.ownBlock = some k) w6 w10 := (Turn.of_below HB9.out).grown HG10.out (fun k hk _ => hk)
        have hvb := HB.out.2.2.2.2.2.2.1
        refine ⟨⟨i + 1, _, _, rfl, by rw [← HM.out]; omega, by go_num, HB.out.1.turn htu10 (fun k h1 _ h2 => hvb k h2 h1), fun k hk => ⟨Nat.lt_of_lt_of_le hk.2 htu10.2.2.2.1, (HB.out.2.1 k hk).2⟩, by rw [← HM.out]; exact own_heap HB.out.2.2.1 (fun g hg => htu10.2.2.2.2 g (own_lt HB.out.2.2.1 g hg) (fun h => own_apart HB.out.2.2.1 HB.out.2.2.2.2.2.1 (by decide) g hg h)), HB.out.2.2.2.1, ?_, HB.out.2.2.2.2.1.trans htu10 (fun k h1 h2 => by have := own_block HB.out.2.2.2.2.2.1 k h2; omega)⟩, by simp [intOf]; omega⟩
        rw [HFL.out, if_neg HIN.out]
        refine ⟨_, HRV9.out.push (v := .slice A8 (1 + s.length) c8) (p := 0 :: s) ?_ ?_ HO10.out HG10.out HV10.out ?_⟩
        · have h1 := own_less HO8.out (show w.heap.size ≤ w6.heap.size from HB.out.2.2.2.2.1.2.2.2.1)
          rw [show (0 :: s).length = 1 + s.length by simp; omega]
          exact h1
        · exact own_set HO8.out (fun k hk => hk.2)
        · intro h
          have h1 := HB9.out.size
          have h2 := h.2
          omega
    · obtain rfl : i = m := by omega
      rw [HM.out, List.take_length] at ht hrows
      have HTT := Lib.hid ht
      have HRR := Lib.hid hrows
      clear ht hrows hs' hon hgn htu
      go_wp2
      go_ret
      exact ⟨_, S', rfl, HTT.out, HS'.out, HRR.out, HTU.out⟩

end Go.Proofs.Ytfdncdejjlcgpaa
