/- Texts of one proof, one behind the other. -/
import Derived.Lib.ConvBytes
import Derived.Laws.AppendOwn
import Derived.Test.YtidkahmjjknkmaaMh13
import Derived.Test.YtidkahmjjknkmaaMh27
import Derived.Test.YtidkahmjjknkmaaMh35
import Derived.Test.YtidkahmjjknkmaaMh4

/- The law's bytes, with what lies where. -/
namespace Go.Proofs.Ytidkahmjjknkmaa
open Go.RowKit

/-- What stands at a round of bytes: rows that are read, each in a block of its own. -/
def ByRelT (w : World) (ps : List (List UInt8)) (va idx : Value) (wr : World) : Prop :=
  ∃ (i : Nat) (vs : List Value) (va' : Value), va' = va ∧ i ≤ ps.length ∧ idx = .int .i64 (i : Int) ∧ wr.ownsRow w.heap.size 44 1 va' i vs ∧ Below w.heap.size w wr ∧ ∀ (j : Nat) (p : List UInt8), j < i → ps[j]? = some p → ∃ (b c' : Nat) (cs : Array Value) (f : Nat × Nat), vs[j]? = some (.slice (some ⟨b, 0, none⟩) p.length c') ∧ (w.heap.size ≤ b ∧ p.length ≤ c') ∧ wr.heap[b]? = some (.cells cs 5 f) ∧ ∀ (k : Nat) (u : Value), (p.map bv)[k]? = some u → cs[k]? = some u

set_option maxRecDepth 100000 in
set_option maxHeartbeats 1000000 in
theorem bytes_anyT (L : Option Addr) (n c : Nat) (ps : List (List UInt8)) (hn : n ≤ 1000000) (hps : ∀ p ∈ ps, p.length ≤ 1000000) (w : World) (h : Reads w w.heap.size 1 L n (ps.map tsv)) :
    Calls Try.prog 18 #[.slice L n c] w fun e w' => ∃ A' c', e = .returned (.slice A' n c') ∧ (A' = none → c' = 0) ∧ (∀ S : Nat → Prop, (∀ k, S k → k < w.heap.size) → PlsT w' w'.heap.size S A' n c' ps) ∧ Below w.heap.size w w' := by
  obtain ⟨i0, ii0, iz0, iz1, iz2⟩ := info_parts (show (Try.prog.info? 44).map (fun i => (i.zero, i.size, i.bytes)) = some (some (.slice none 0 0), 1, 24) from by kernel_rfl)
  have HL : Hid (ps.length = n) := by have := h.1; show _ = _; simpa using this
  have H1 := Lib.hid h
  have HP := Lib.hid hps
  clear h hps
  go_enter Try.func18, Try.ntmps18
  go_wp2
  go_loopw [3, 8] (fun va idx wr => ByRelT w ps va idx wr) (fun va idx wr => n - (intOf idx).toNat)
  case atStart => exact ⟨0, [], _, rfl, by omega, rfl, World.ownsRow_nil _ _ _ _, Below.refl _ _, fun j p hj => by omega⟩
  case round =>
    obtain ⟨i, vs, va, rfl, hi, rfl, hown, hb, hall⟩ := hrel
    rw [HL.out] at hi
    have HO := Lib.hid hown
    have HBR := Lib.hid hb
    have HALL := Lib.hid hall
    by_cases hlt : i < n
    · obtain ⟨p, hp⟩ : ∃ p, ps[i]? = some p := ⟨_, List.getElem?_eq_getElem (by rw [HL.out]; exact hlt)⟩
      obtain ⟨ad, rfl, _, hcx⟩ := (H1.out.below hb).2 (by omega)
      have k0 := hcx i (tsv p) (by rw [List.getElem?_map, hp]; rfl)
      unfold tsv at k0
      have hpl := HP.out p (List.mem_of_getElem? hp)
      have hcv : (convert 9 44 (.string (tx p))).run Try.prog wr = .ok (.slice (some ⟨wr.heap.size, 0, none⟩) (tx p).size (grownCap wr (tx p).size 0 5)) (Lib.bytesWorld wr 5 (tx p)) := Lib.run_convert_string_bytes wr 9 44 5 (tx p) Try.underlying9 Try.underlying44 Try.underlying5
      obtain ⟨X, hX⟩ : ∃ X, X = Lib.bytesWorld wr 5 (tx p) := ⟨_, rfl⟩
      obtain ⟨cap, hcap⟩ : ∃ cap, cap = grownCap wr (tx p).size 0 5 := ⟨_, rfl⟩
      have hbX : Below wr.heap.size wr X := by
        rw [hX]
        exact ⟨rfl, rfl, rfl, by rw [Lib.bytesWorld_size]; omega, fun k hk => Lib.bytesWorld_at_old wr _ _ k hk⟩
      have hXs : X.heap.size = wr.heap.size + 1 := by rw [hX]; exact Lib.bytesWorld_size _ _ _
      have hXn : X.heap[wr.heap.size]? = some (.cells (Lib.bytesCells wr 5 (tx p)) 5 ((Lib.bytesCells wr 5 (tx p)).size, (Lib.bytesCells wr 5 (tx p)).size + 1)) := by rw [hX]; exact Lib.bytesWorld_at_new _ _ _
      have hcg : p.length ≤ cap := by rw [hcap, ← tx_size p]; exact grownCap_ge _ _ _ _
      have HCG := Lib.hid hcg
      have HWS : Hid (w.heap.size ≤ wr.heap.size) := hb.size
      have hcs : ∀ (k : Nat) (u : Value), (p.map bv)[k]? = some u → (Lib.bytesCells wr 5 (tx p))[k]? = some u := fun k u hu => by
        have hk : k < p.length := by simpa using (List.getElem?_eq_some_iff.1 hu).1
        unfold Lib.bytesCells
        rw [Array.getElem?_append_left (by simp [tx]; exact hk)]
        simp [tx, hk] at hu ⊢
        exact hu
      rw [← hX, ← hcap, tx_size] at hcv
      have HBX := Lib.hid hbX
      have HXS := Lib.hid hXs
      have HXN := Lib.hid hXn
      have HCS := Lib.hid hcs
      have hp5 := Lib.hid hp
      have HOX := Lib.hid (World.ownsRow.alloc (own_below hown hbX) (.cells #[.slice (some ⟨wr.heap.size, 0, none⟩) p.length cap] 44))
      have HB2 := Lib.hid ((hb.trans (hbX.mono hb.size)).alloc (by have := hb.size; omega) (.cells #[.slice (some ⟨wr.heap.size, 0, none⟩) p.length cap] 44))
      have HR2 := Lib.hid (reads_one_row X 44 (.slice (some ⟨wr.heap.size, 0, none⟩) p.length cap))
      have hi0 : (0 : Int) ≤ (i : Int) := by omega
      have hi1 : (i : Int) < (n : Int) := by omega
      obtain ⟨m, hm⟩ : ∃ m, m = p.length := ⟨_, rfl⟩
      rw [← hm] at hcv HOX HB2 HR2
      have HM := Lib.hid hm
      clear hcg hp hcx hown hb hall hX hcap hbX hXs hXn hcs hpl hm
      go_wp2_with (at_builtin; refine wpList_append_told _ rfl (.tmp 12) (.tmp 15) 32 rfl w.heap.size 44 i0 _ 1 24 Try.underlying32 ii0 iz0 iz1 iz2 rfl (by decide) _ i _ rfl HOX.out (some ⟨X.heap.size, 0, none⟩) 1 1 (X.heap.size + 1) [.slice (some ⟨wr.heap.size, 0, none⟩) m cap] rfl (by simp) HR2.out (fun u hu => by obtain rfl := List.mem_singleton.1 hu; rfl) (by unfold maxLen; omega) (by omega) HB2.out.size ?_; intro v6 w6 ho6 hg6 hv6; have HO6 := Lib.hid ho6; have HG6 := Lib.hid hg6; have HB6 := Lib.hid (HB2.out.grown hg6 HB2.out.size (own_block HOX.out)); clear ho6 hg6 hv6)
      refine ⟨⟨i + 1, _, _, rfl, by rw [HL.out]; omega, by go_num, HO6.out, HB6.out, fun j q hj hq => ?_⟩, by simp [intOf]; omega⟩
      have keep : ∀ (b : Nat) (cs : Array Value) (f : Nat × Nat), X.heap[b]? = some (.cells cs 5 f) → w6.heap[b]? = some (.cells cs 5 f) := fun b cs f h => by
        have hlt : b < X.heap.size := by
          rcases Nat.lt_or_ge b X.heap.size with h2 | h2
          · exact h2
          · rw [Array.getElem?_eq_none h2] at h; cases h
        have h2 := (Below.heap_alloc X (.cells #[.slice (some ⟨wr.heap.size, 0, none⟩) m cap] 44) b hlt).trans h
        exact (HG6.out.block b (by simp; omega) (fun h3 => own_cells HOX.out h2 (by decide) h3.symm)).trans h2
      have hvl : vs.length = i := by have := HO.out.1; omega
      rcases Nat.lt_or_ge j i with hji | hji
      · obtain ⟨b, c', cs, f, h1, hbc, h2, h3⟩ := HALL.out j q hji hq
        refine ⟨b, c', cs, f, by rw [List.getElem?_append_left (by omega)]; exact h1, hbc, keep b cs f ?_, h3⟩
        have hblt : b < wr.heap.size := by
          rcases Nat.lt_or_ge b wr.heap.size with h4 | h4
          · exact h4
          · rw [Array.getElem?_eq_none h4] at h2; cases h2
        exact (HBX.out.block b hblt).trans h2
      · obtain rfl : j = i := by omega
        rw [hp5.out] at hq
        obtain rfl : p = q := Option.some.inj hq
        exact ⟨wr.heap.size, cap, _, _, by rw [List.getElem?_append_right (by omega), hvl, Nat.sub_self, ← HM.out]; rfl, ⟨HWS.out, HCG.out⟩, keep _ _ _ HXN.out, HCS.out⟩
    · obtain rfl : i = n := by omega
      obtain ⟨A', c', rfl, hc'⟩ := own_slice HO.out
      have FIN : Hid (∀ S : Nat → Prop, (∀ k, S k → k < w.heap.size) → PlsT wr wr.heap.size S A' i c' ps) := by
        intro S hS
        refine ⟨own_room HO.out, HL.out, vs, Reads.of_own HO.out, fun ad e _ hs => ?_, fun j p hp => ?_⟩
        · subst e
          have h1 := own_block HO.out ad.block rfl
          have h2 := hS _ hs
          omega
        · have hj : j < i := by have := (List.getElem?_eq_some_iff.1 hp).1; rw [HL.out] at this; exact this
          obtain ⟨b, c', cs, f, h1, ⟨hb1, hb2⟩, h2, h3⟩ := HALL.out j p hj hp
          refine ⟨_, c', h1, hb2, ⟨by simp, fun _ => ⟨_, rfl, ?_, fun k u hu => ?_⟩⟩, fun ad e _ hs => ?_⟩
          · show b < wr.heap.size
            rcases Nat.lt_or_ge b wr.heap.size with h4 | h4
            · exact h4
            · rw [Array.getElem?_eq_none h4] at h2; cases h2
          · rw [show (⟨b, 0, none⟩ : Addr).add k = ⟨b, k, none⟩ from by unfold Addr.add; split <;> simp_all]
            simp [World.cell?, h2, h3 k u hu]
          · obtain rfl : (⟨b, 0, none⟩ : Addr) = ad := Option.some.inj e
            have h4 := hS _ hs
            have h5 : w.heap.size ≤ b := hb1
            have h6 : b < w.heap.size := h4
            omega
      clear hown hb hall
      go_wp2
      go_ret
      exact ⟨A', c', rfl, hc', FIN.out, HBR.out⟩


end Go.Proofs.Ytidkahmjjknkmaa

/- SchemaGets: words on what stands behind the two Gets. -/
namespace Go.Proofs.Ytidkahmjjknkmaa
open Go.RowKit

theorem wp_cuts {P : Program} {c : Code} {Q : Exit → Act → World → Prop} {K : Act → World → Prop} {a : Act} {w : World} (M : Act → World → Prop) (hm : ∀ a w, M a w → K a w) (h : c.wp P (Exit.then M Q) a w) : c.wp P (Exit.then K Q) a w :=
  Code.wp_mono (fun e a w q => by cases e <;> first | exact hm _ _ q | exact q) h
theorem size_recs : (Try.prog.info? 26).map (·.size) = some 7 := by kernel_rfl
set_option maxHeartbeats 2000000 in
/-- A record stored into a box of its own. -/
theorem wp_store_recbox {o : Oper} {a : Act} {w : World} {K : Act → World → Prop} {Q : Exit → Act → World → Prop} (x y : Operand) (ho : o.op = .store 26 x y) (g : Nat) (c0 c1 c2 c3 c4 c5 c6 d0 d1 d2 d3 d4 d5 d6 : Value)
    (hx : a.eval x = .pointer (some ⟨g, 0, none⟩)) (hy : a.eval y = .agg #[d0, d1, d2, d3, d4, d5, d6]) (hg : w.heap[g]? = some (.cells #[c0, c1, c2, c3, c4, c5, c6] 26 (0, 0))) (h1 : ∀ v ∈ [d0, d1, d2, d3, d4, d5, d6], v.oneCell' = true)
    (h : ∀ w', w'.heap[g]? = some (.cells #[d0, d1, d2, d3, d4, d5, d6] 26 (0, 0)) → w.grownBy w' (some g) → K (a.put o.dst undef) w') : o.wp Try.prog a w K Q := by
  have hown : w.ownsRow 0 26 7 (.slice (some ⟨g, 0, none⟩) 1 1) 1 [c0, c1, c2, c3, c4, c5, c6] := ⟨rfl, .inr ⟨g, 1, #[c0, c1, c2, c3, c4, c5, c6], rfl, Nat.zero_le _, hg, Nat.le_refl _, by unfold maxLen; omega, rfl, rfl⟩⟩
  have hrow : (storeVar 26 ⟨g, 0, none⟩ (.agg #[d0, d1, d2, d3, d4, d5, d6])).run Try.prog w = .ok () (w.setCells g 0 [d0, d1, d2, d3, d4, d5, d6]) := by
    have hs := run_storeCells_cells (P := Try.prog) g 0 [d0, d1, d2, d3, d4, d5, d6] 0 w (fun j hj => by
        have hj4 : j < 7 := hj
        have hlt : 0 + 0 + j < [c0, c1, c2, c3, c4, c5, c6].length := by show 0 + 0 + j < 7; omega
        rw [hown.cellAt _ (by show 0 + 0 + j < 7; omega), List.getElem?_eq_getElem hlt]
        rfl) (fun j _ => hown.frozenAt _) h1
    have hsz := size_recs
    cases hq : Try.prog.info? 26 with
    | none => simp [hq] at hsz
    | some q =>
      have hs4 : q.size = 7 := by simpa [hq] using hsz
      have hc : (Value.agg #[d0, d1, d2, d3, d4, d5, d6]).cells.toList = [d0, d1, d2, d3, d4, d5, d6] := rfl
      have hcs : (Value.agg #[d0, d1, d2, d3, d4, d5, d6]).cells.size = 7 := rfl
      simp [storeVar, sizeOf, typeInfo, hq, hcs, hs4, hc]
      simpa using hs
  unfold Oper.wp execOp
  simp only [ho, hx, hy, Instr.storeAt, Instr.sureAddr, Sem.run_bind, Sem.run_pure, Result.andThen_ok, hrow]
  refine h _ ?_ ?_
  · exact (set_same (set_same (set_same (set_same (set_same (set_same (set_same hg 0 d0) 1 d1) 2 d2) 3 d3) 4 d4) 5 d5) 6 d6)
  · obtain ⟨a1, b1⟩ := hown.stored 0 d0
    obtain ⟨a2, b2⟩ := a1.stored 1 d1
    obtain ⟨a3, b3⟩ := a2.stored 2 d2
    obtain ⟨a4, b4⟩ := a3.stored 3 d3
    obtain ⟨a5, b5⟩ := a4.stored 4 d4
    obtain ⟨a6, b6⟩ := a5.stored 5 d5
    obtain ⟨a7, b7⟩ := a6.stored 6 d6
    exact (((((b1.trans b2).trans b3).trans b4).trans b5).trans b6).trans b7

theorem PlsT.more {w : World} {B B' : Nat} {S : Nat → Prop} {A : Option Addr} {n c : Nat} {ps : List (List UInt8)} (h : PlsT w B S A n c ps) (hB : B ≤ B') : PlsT w B' S A n c ps := by
  obtain ⟨h0, h2, vs, h1, ha, h3⟩ := h
  refine ⟨h0, h2, vs, h1.more hB, ha, fun i p hp => ?_⟩
  obtain ⟨A', c', h4, h5, h6, h7⟩ := h3 i p hp
  exact ⟨A', c', h4, h5, h6.more hB, h7⟩
theorem PlsT.below {w w' : World} {S : Nat → Prop} {A : Option Addr} {n c : Nat} {ps : List (List UInt8)} (h : PlsT w w.heap.size S A n c ps) (hb : Below w.heap.size w w') : PlsT w' w'.heap.size S A n c ps :=
  (h.turn (Turn.of_below hb) (Nat.le_refl _)).more hb.size

/-- What a record is in a box, and its deps. -/
def RecBox (v : World) (base b : Nat) (r : Rc) (l : List Dp) (A : Option Addr) (n c : Nat) : Prop :=
  v.heap[b]? = some (.cells #[.int .i64 r.kind, .string (tx r.target), .int .u64 r.rule, .slice A n c, .int .u64 r.out, .int .u64 r.time, .string (tx r.tag)] 26 (0, 0)) ∧ base ≤ b ∧ v.ownsRow base 55 3 (.slice A n c) n (dps l)
theorem lt_heap6y {w : World} {b : Nat} {o : Obj} (h : w.heap[b]? = some o) : b < w.heap.size := (Array.getElem?_eq_some_iff.1 h).1
theorem RecBox.below {v v' : World} {base b : Nat} {r : Rc} {l : List Dp} {A : Option Addr} {n c : Nat} (h : RecBox v base b r l A n c) (hb : Below v.heap.size v v') : RecBox v' base b r l A n c :=
  ⟨(hb.block b (lt_heap6y h.1)).trans h.1, h.2.1, own_below h.2.2 hb⟩

/-- Both Gets, each in one word: what the program answers. -/
def UP (ver : Int) (tl ps : List (List UInt8)) (at_ : Int) (r : Rc) (l : List Dp) (nx e9 : Int) (tl9 : List (List UInt8)) : Prop := ∀ (S : Nat → Prop) (bt N n c : Nat) (A : Option Addr) (w : World), N ≤ 10000000 → (∀ k, S k → k < w.heap.size) → Tab w S bt N tl → PlsT w w.heap.size S A n c ps → (A = none → c = 0) →
  Calls Try.prog 16 #[.int .i64 ver, .pointer (some ⟨bt, 0, none⟩), .slice A n c, .int .i64 at_] w fun e w' => ∃ (A' : Option Addr) (n' c' : Nat) (S' : Nat → Prop), e = .returned (.tuple #[.agg #[.int .i64 r.kind, .string (tx r.target), .int .u64 r.rule, .slice A' n' c', .int .u64 r.out, .int .u64 r.time, .string (tx r.tag)], .int .i64 nx, .int .i64 e9]) ∧ w'.ownsRow w.heap.size 55 3 (.slice A' n' c') n' (dps l) ∧ (∃ N', N' ≤ N + 100036 ∧ Tab w' S' bt N' tl9) ∧ (∀ k, S' k → k < w'.heap.size ∧ (S k ∨ w.heap.size ≤ k)) ∧ Turn S w w'
/-- What the document answers. -/
def UD (ver : Int) (tl ps : List (List UInt8)) (at_ : Int) (r : Rc) (l : List Dp) (nx e9 : Int) (tl9 : List (List UInt8)) : Prop := ∀ (T A : Option Addr) (tk n c B0 : Nat) (w : World), B0 ≤ w.heap.size → Own w B0 (.slice T tl.length tk) tl → Reads w w.heap.size 1 A n (ps.map tsv) →
  Calls Try.prog 19 #[.int .i64 ver, .slice T tl.length tk, .slice A n c, .int .i64 at_] w fun e w' => ∃ (A' : Option Addr) (c' : Nat) (v2 : Value), e = .returned (.tuple #[.agg #[.int .i64 r.kind, .string (tx r.target), .int .u64 r.rule, .slice A' l.length c', .int .u64 r.out, .int .u64 r.time, .string (tx r.tag)], .int .i64 nx, v2, .int .i64 e9]) ∧ w'.ownsRow w.heap.size 55 3 (.slice A' l.length c') l.length (dps l) ∧ Own w' B0 v2 tl9 ∧ Below w.heap.size w w'
def rc0 : Rc := ⟨0, [], 0, 0, 0, []⟩
theorem up_no {ver at_ e9 : Int} {tl ps : List (List UInt8)} (h : PNo ver tl ps at_ e9) : UP ver tl ps at_ rc0 [] 0 e9 tl := by
  intro S bt N n c A w hN hS hT hP hA
  refine (h S bt N n c A w hN hS hT hP (fun e => ⟨by have := hA e; have := hP.1; omega, hA e⟩)).mono ?_
  rintro e w' ⟨S', rfl, h1, h2, h3⟩
  exact ⟨none, 0, 0, S', rfl, World.ownsRow_nil _ _ _ _, h1, h2, h3⟩
theorem ud_no {ver at_ e9 : Int} {tl ps : List (List UInt8)} (h : DNo ver tl ps at_ e9) : UD ver tl ps at_ rc0 [] 0 e9 tl := by
  intro T A tk n c B0 w hB hO hR
  refine (h T A tk n c B0 w hB hO hR).mono ?_
  rintro e w' ⟨rfl, h1⟩
  exact ⟨none, 0, _, rfl, World.ownsRow_nil _ _ _ _, own_below hO h1, h1⟩
theorem up_yes {ver : Int} {tl ps : List (List UInt8)} {a nx : Nat} {r : Rc} {l : List Dp} (h : PYes ver tl ps a nx r l) : UP ver tl ps (a : Int) r l (nx : Int) 0 (tabT ver tl r l) := by
  intro S bt N n c A w hN hS hT hP hA
  refine (h S bt N n c A w hN hT hP).mono ?_
  rintro e w' ⟨A', n', c', S', rfl, h1, ⟨N', h2, h3⟩, h4, h5⟩
  exact ⟨A', n', c', S', rfl, h1.1, ⟨N', by omega, h3⟩, h4, h5⟩
theorem ud_yes {ver : Int} {tl ps : List (List UInt8)} {a nx : Nat} {r : Rc} {l : List Dp} (h : DYes ver tl ps a nx r l) : UD ver tl ps (a : Int) r l (nx : Int) 0 (tabT ver tl r l) := by
  intro T A tk n c B0 w hB hO hR
  refine (h T A tk n c B0 w hB hO hR).mono ?_
  rintro e w' ⟨A', c', v2, rfl, h1, h2, h3⟩
  exact ⟨A', c', v2, rfl, h1, h2, h3⟩
/-- A store into a box of its own: what else stands stays. -/
theorem grown_tab {w w' : World} {S : Nat → Prop} {b N g : Nat} {l : List (List UInt8)} (h : Tab w S b N l) (hg : w.grownBy w' (some g)) (hn : ¬ S g) : Tab w' S b N l :=
  h.keep fun k hk hlt => hg.block k hlt (fun e => hn ((Option.some.inj e) ▸ hk))
theorem grown_own {w w' : World} {base size n g : Nat} {e : TypeId} {v : Value} {xs : List Value} (h : w.ownsRow base e size v n xs) (hg : w.grownBy w' (some g)) (hn : v.ownBlock ≠ some g) : w'.ownsRow base e size v n xs :=
  own_heap h fun k hk => hg.block k (own_lt h k hk) (fun e => hn (by rw [hk, Option.some.inj e]))

end Go.Proofs.Ytidkahmjjknkmaa
