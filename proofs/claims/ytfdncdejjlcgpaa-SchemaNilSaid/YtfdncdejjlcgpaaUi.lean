/- Payloads that are read; the law's strings, bytes and few. -/
import Derived.Lib.ConvBytes
import Derived.Test.YtfdncdejjlcgpaaUh
namespace Go.Proofs.Ytfdncdejjlcgpaa
open Go.RowKit

/-- Payloads as they lie in memory. -/
def PlsV (w : World) (B : Nat) (A : Option Addr) (n : Nat) (ps : List (List UInt8)) (vs : List Value) : Prop :=
  Reads w B 1 A n vs ∧ ps.length = n ∧ ∀ (i : Nat) (p : List UInt8), ps[i]? = some p → ∃ (A' : Option Addr) (c' : Nat), vs[i]? = some (.slice A' p.length c') ∧ Reads w B 1 A' p.length (p.map bv)
def Pls (w : World) (B : Nat) (A : Option Addr) (n : Nat) (ps : List (List UInt8)) : Prop := ∃ vs, PlsV w B A n ps vs
theorem Pls.below {w w' : World} {B : Nat} {A : Option Addr} {n : Nat} {ps : List (List UInt8)} (h : Pls w B A n ps) (hb : Below B w w') : Pls w' B A n ps := by
  obtain ⟨vs, h1, h2, h3⟩ := h
  refine ⟨vs, h1.below hb, h2, fun i p hp => ?_⟩
  obtain ⟨A', c', h4, h5⟩ := h3 i p hp
  exact ⟨A', c', h4, h5.below hb⟩
theorem Pls.more {w : World} {B B' : Nat} {A : Option Addr} {n : Nat} {ps : List (List UInt8)} (h : Pls w B A n ps) (hB : B ≤ B') : Pls w B' A n ps := by
  obtain ⟨vs, h1, h2, h3⟩ := h
  refine ⟨vs, h1.more hB, h2, fun i p hp => ?_⟩
  obtain ⟨A', c', h4, h5⟩ := h3 i p hp
  exact ⟨A', c', h4, h5.more hB⟩
theorem Pls.of_rows {w : World} {base : Nat} {S : Nat → Prop} {va : Value} {ps : List (List UInt8)} (h : Rows w base S va ps) : ∃ A c, va = .slice A ps.length c ∧ (A = none → c = 0) ∧ Pls w w.heap.size A ps.length ps := by
  obtain ⟨vs, h1, h2, h3, h4⟩ := h
  obtain ⟨A, c, rfl, hc⟩ := own_slice h1
  refine ⟨A, c, rfl, hc, vs, Reads.of_own h1, rfl, fun i p hp => ?_⟩
  obtain ⟨v, h5, h6, h7⟩ := h4 i p hp
  obtain ⟨A', c', rfl, _⟩ := own_slice h6
  exact ⟨A', c', h5, Reads.of_own h6⟩

def StRel (w : World) (ps : List (List UInt8)) (va idx : Value) (wr : World) : Prop :=
  ∃ i : Nat, i ≤ ps.length ∧ idx = .int .i64 (i : Int) ∧ wr.ownsRow w.heap.size 9 1 va i ((ps.take i).map tsv) ∧ Below w.heap.size w wr

set_option maxRecDepth 100000 in
set_option maxHeartbeats 1000000 in
theorem strings_any (A : Option Addr) (n c : Nat) (ps : List (List UInt8)) (hn : n ≤ 1000000) (w : World) (h : Pls w w.heap.size A n ps) :
    Calls Try.prog 15 #[.slice A n c] w fun e w' => ∃ A' c', e = .returned (.slice A' n c') ∧ Reads w' w'.heap.size 1 A' n (ps.map tsv) ∧ Below w.heap.size w w' := by
  obtain ⟨i0, ii0, iz0, iz1, iz2⟩ := info_parts tinfo
  obtain ⟨vs, h1, h2, h3⟩ := h
  have H1 := Lib.hid h1
  have HL := Lib.hid h2
  have H3 := Lib.hid h3
  clear h1 h2 h3
  go_enter Try.func15, Try.ntmps15
  go_wp2
  go_loopw [3, 9] (fun va idx wr => StRel w ps va idx wr) (fun va idx wr => n - (intOf idx).toNat)
  case atStart => exact ⟨0, by omega, rfl, own_empty w _, (Below.refl _ _).alloc (Nat.le_refl _) _⟩
  case round =>
    obtain ⟨i, hi, rfl, hown, hb⟩ := hrel
    rw [HL.out] at hi
    have HO := Lib.hid hown
    have HBR := Lib.hid hb
    by_cases hlt : i < n
    · obtain ⟨p, hp⟩ : ∃ p, ps[i]? = some p := ⟨_, List.getElem?_eq_getElem (by rw [HL.out]; exact hlt)⟩
      obtain ⟨A4, c4, hv, hr4⟩ := H3.out i p hp
      obtain ⟨ad, rfl, _, hcx⟩ := (H1.out.below hb).2 (by omega)
      have k0 := hcx i _ hv
      have hr5 : Reads wr w.heap.size 1 A4 p.length (p.map bv) := hr4.below hb
      have hcv : (convert 44 9 (.slice A4 p.length c4)).run Try.prog wr = .ok (.string (tx p)) wr := conv_reads Try.underlying44 Try.underlying5 Try.underlying9 hr5
      have htk : (ps.take (i + 1)).map tsv = (ps.take i).map tsv ++ [.string (tx p)] := by rw [List.take_add_one, hp, List.map_append]; rfl
      have HTK := Lib.hid htk
      have HO2 := Lib.hid (World.ownsRow.alloc hown (.cells #[.string (tx p)] 9))
      have HB2 := Lib.hid (hb.alloc hb.size (.cells #[.string (tx p)] 9))
      have HR2 := Lib.hid (reads_one_row wr 9 (.string (tx p)))
      have hi0 : (0 : Int) ≤ (i : Int) := by omega
      have hi1 : (i : Int) < (n : Int) := by omega
      obtain ⟨m, hm⟩ : ∃ m, m = p.length := ⟨_, rfl⟩
      rw [← hm] at k0 hcv
      clear hp hv hr4 hcx hr5 htk hown hb hm
      go_wp2_with (at_builtin; refine wpList_append_told _ rfl (.tmp 13) (.tmp 16) 22 rfl w.heap.size 9 i0 _ 1 16 Try.underlying22 ii0 iz0 iz1 iz2 rfl (by decide) _ i _ rfl HO2.out (some ⟨wr.heap.size, 0, none⟩) 1 1 (wr.heap.size + 1) [.string (tx p)] rfl (by simp) HR2.out (fun u hu => by obtain rfl := List.mem_singleton.1 hu; rfl) (by unfold maxLen; omega) (by omega) HB2.out.size ?_; intro v6 w6 ho6 hg6 hv6; rw [← HTK.out] at ho6; have HO6 := Lib.hid ho6; have HB6 := Lib.hid (HB2.out.grown hg6 HB2.out.size (own_block HO2.out)); clear ho6 hg6 hv6)
      exact ⟨⟨i + 1, by rw [HL.out]; omega, by go_num, HO6.out, HB6.out⟩, by simp [intOf]; omega⟩
    · obtain rfl : i = n := by omega
      rw [List.take_of_length_le (by rw [HL.out]; omega)] at HO
      obtain ⟨A', c', rfl, _⟩ := own_slice HO.out
      clear hown hb
      go_wp2
      go_ret
      exact ⟨A', c', rfl, Reads.of_own HO.out, HBR.out⟩

/-- What stands at a round of bytes: rows that are read, each in a block of its own. -/
def ByRel (w : World) (ps : List (List UInt8)) (va idx : Value) (wr : World) : Prop :=
  ∃ (i : Nat) (vs : List Value) (va' : Value), va' = va ∧ i ≤ ps.length ∧ idx = .int .i64 (i : Int) ∧ wr.ownsRow w.heap.size 44 1 va' i vs ∧ Below w.heap.size w wr ∧ ∀ (j : Nat) (p : List UInt8), j < i → ps[j]? = some p → ∃ (b c' : Nat) (cs : Array Value) (f : Nat × Nat), vs[j]? = some (.slice (some ⟨b, 0, none⟩) p.length c') ∧ wr.heap[b]? = some (.cells cs 5 f) ∧ ∀ (k : Nat) (u : Value), (p.map bv)[k]? = some u → cs[k]? = some u

set_option maxRecDepth 100000 in
set_option maxHeartbeats 1000000 in
theorem bytes_any (L : Option Addr) (n c : Nat) (ps : List (List UInt8)) (hn : n ≤ 1000000) (hps : ∀ p ∈ ps, p.length ≤ 1000000) (w : World) (h : Reads w w.heap.size 1 L n (ps.map tsv)) :
    Calls Try.prog 19 #[.slice L n c] w fun e w' => ∃ A' c', e = .returned (.slice A' n c') ∧ (A' = none → c' = 0) ∧ Pls w' w'.heap.size A' n ps ∧ Below w.heap.size w w' := by
  obtain ⟨i0, ii0, iz0, iz1, iz2⟩ := info_parts (show (Try.prog.info? 44).map (fun i => (i.zero, i.size, i.bytes)) = some (some (.slice none 0 0), 1, 24) from by kernel_rfl)
  have HL : Hid (ps.length = n) := by have := h.1; show _ = _; simpa using this
  have H1 := Lib.hid h
  have HP := Lib.hid hps
  clear h hps
  go_enter Try.func19, Try.ntmps19
  go_wp2
  go_loopw [3, 8] (fun va idx wr => ByRel w ps va idx wr) (fun va idx wr => n - (intOf idx).toNat)
  case atStart => exact ⟨0, [], _, rfl, by omega, rfl, World.ownsRow_nil _ _ _ _, Below.refl _ _, fun j p hj => by omega⟩
  case round =>
    obtain ⟨i, vs, va, rfl, hi, rfl, hown, hb, hall⟩ := hrel
    rw [HL.out] at hi
    have HO := Lib.hid hown
    have HBR := Lib.hid hb
    have HALL := Lib.hid hall
    by_cases hlt : i < n
    · obtain ⟨p, hp⟩ : ∃ p, ps[i]? = some p := ⟨_, List.getElem?_eq_getElem (by rw [HL.out]; exact hlt)⟩
      obtain ⟨ad, rfl, _, hcx⟩ := (H1.out.below hb).2 (by omega)
      have k0 := hcx i (tsv p) (by rw [List.getElem?_map, hp]; rfl)
      unfold tsv at k0
      have hpl := HP.out p (List.mem_of_getElem? hp)
      have hcv : (convert 9 44 (.string (tx p))).run Try.prog wr = .ok (.slice (some ⟨wr.heap.size, 0, none⟩) (tx p).size (grownCap wr (tx p).size 0 5)) (Lib.bytesWorld wr 5 (tx p)) := Lib.run_convert_string_bytes wr 9 44 5 (tx p) Try.underlying9 Try.underlying44 Try.underlying5
      obtain ⟨X, hX⟩ : ∃ X, X = Lib.bytesWorld wr 5 (tx p) := ⟨_, rfl⟩
      obtain ⟨cap, hcap⟩ : ∃ cap, cap = grownCap wr (tx p).size 0 5 := ⟨_, rfl⟩
      have hbX : Below wr.heap.size wr X := by
        rw [hX]
        exact ⟨rfl, rfl, rfl, by rw [Lib.bytesWorld_size]; omega, fun k hk => Lib.bytesWorld_at_old wr _ _ k hk⟩
      have hXs : X.heap.size = wr.heap.size + 1 := by rw [hX]; exact Lib.bytesWorld_size _ _ _
      have hXn : X.heap[wr.heap.size]? = some (.cells (Lib.bytesCells wr 5 (tx p)) 5 ((Lib.bytesCells wr 5 (tx p)).size, (Lib.bytesCells wr 5 (tx p)).size + 1)) := by rw [hX]; exact Lib.bytesWorld_at_new _ _ _
      have hcs : ∀ (k : Nat) (u : Value), (p.map bv)[k]? = some u → (Lib.bytesCells wr 5 (tx p))[k]? = some u := fun k u hu => by
        have hk : k < p.length := by simpa using (List.getElem?_eq_some_iff.1 hu).1
        unfold Lib.bytesCells
        rw [Array.getElem?_append_left (by simp [tx]; exact hk)]
        simp [tx, hk] at hu ⊢
        exact hu
      rw [← hX, ← hcap, tx_size] at hcv
      have HBX := Lib.hid hbX
      have HXS := Lib.hid hXs
      have HXN := Lib.hid hXn
      have HCS := Lib.hid hcs
      have hp5 := Lib.hid hp
      have HOX := Lib.hid (World.ownsRow.alloc (own_below hown hbX) (.cells #[.slice (some ⟨wr.heap.size, 0, none⟩) p.length cap] 44))
      have HB2 := Lib.hid ((hb.trans (hbX.mono hb.size)).alloc (by have := hb.size; omega) (.cells #[.slice (some ⟨wr.heap.size, 0, none⟩) p.length cap] 44))
      have HR2 := Lib.hid (reads_one_row X 44 (.slice (some ⟨wr.heap.size, 0, none⟩) p.length cap))
      have hi0 : (0 : Int) ≤ (i : Int) := by omega
      have hi1 : (i : Int) < (n : Int) := by omega
      obtain ⟨m, hm⟩ : ∃ m, m = p.length := ⟨_, rfl⟩
      rw [← hm] at hcv HOX HB2 HR2
      have HM := Lib.hid hm
      clear hp hcx hown hb hall hX hcap hbX hXs hXn hcs hpl hm
      go_wp2_with (at_builtin; refine wpList_append_told _ rfl (.tmp 12) (.tmp 15) 32 rfl w.heap.size 44 i0 _ 1 24 Try.underlying32 ii0 iz0 iz1 iz2 rfl (by decide) _ i _ rfl HOX.out (some ⟨X.heap.size, 0, none⟩) 1 1 (X.heap.size + 1) [.slice (some ⟨wr.heap.size, 0, none⟩) m cap] rfl (by simp) HR2.out (fun u hu => by obtain rfl := List.mem_singleton.1 hu; rfl) (by unfold maxLen; omega) (by omega) HB2.out.size ?_; intro v6 w6 ho6 hg6 hv6; have HO6 := Lib.hid ho6; have HG6 := Lib.hid hg6; have HB6 := Lib.hid (HB2.out.grown hg6 HB2.out.size (own_block HOX.out)); clear ho6 hg6 hv6)
      refine ⟨⟨i + 1, _, _, rfl, by rw [HL.out]; omega, by go_num, HO6.out, HB6.out, fun j q hj hq => ?_⟩, by simp [intOf]; omega⟩
      have keep : ∀ (b : Nat) (cs : Array Value) (f : Nat × Nat), X.heap[b]? = some (.cells cs 5 f) → w6.heap[b]? = some (.cells cs 5 f) := fun b cs f h => by
        have hlt : b < X.heap.size := by
          rcases Nat.lt_or_ge b X.heap.size with h2 | h2
          · exact h2
          · rw [Array.getElem?_eq_none h2] at h; cases h
        have h2 := (Below.heap_alloc X (.cells #[.slice (some ⟨wr.heap.size, 0, none⟩) m cap] 44) b hlt).trans h
        exact (HG6.out.block b (by simp; omega) (fun h3 => own_cells HOX.out h2 (by decide) h3.symm)).trans h2
      have hvl : vs.length = i := by have := HO.out.1; omega
      rcases Nat.lt_or_ge j i with hji | hji
      · obtain ⟨b, c', cs, f, h1, h2, h3⟩ := HALL.out j q hji hq
        refine ⟨b, c', cs, f, by rw [List.getElem?_append_left (by omega)]; exact h1, keep b cs f ?_, h3⟩
        have hblt : b < wr.heap.size := by
          rcases Nat.lt_or_ge b wr.heap.size with h4 | h4
          · exact h4
          · rw [Array.getElem?_eq_none h4] at h2; cases h2
        exact (HBX.out.block b hblt).trans h2
      · obtain rfl : j = i := by omega
        rw [hp5.out] at hq
        obtain rfl : p = q := Option.some.inj hq
        exact ⟨wr.heap.size, cap, _, _, by rw [List.getElem?_append_right (by omega), hvl, Nat.sub_self, ← HM.out]; rfl, keep _ _ _ HXN.out, HCS.out⟩
    · obtain rfl : i = n := by omega
      obtain ⟨A', c', rfl, hc'⟩ := own_slice HO.out
      have FIN : Hid (Pls wr wr.heap.size A' i ps) := by
        refine ⟨vs, Reads.of_own HO.out, HL.out, fun j p hp => ?_⟩
        have hj : j < i := by have := (List.getElem?_eq_some_iff.1 hp).1; rw [HL.out] at this; exact this
        obtain ⟨b, c', cs, f, h1, h2, h3⟩ := HALL.out j p hj hp
        refine ⟨_, c', h1, by simp, fun _ => ⟨_, rfl, ?_, fun k u hu => ?_⟩⟩
        · show b < wr.heap.size
          rcases Nat.lt_or_ge b wr.heap.size with h4 | h4
          · exact h4
          · rw [Array.getElem?_eq_none h4] at h2; cases h2
        · rw [show (⟨b, 0, none⟩ : Addr).add k = ⟨b, k, none⟩ from by unfold Addr.add; split <;> simp_all]
          simp [World.cell?, h2, h3 k u hu]
      clear hown hb hall
      go_wp2
      go_ret
      exact ⟨A', c', rfl, hc', FIN.out, HBR.out⟩

def fewP (ps : List (List UInt8)) : Prop := (∀ p ∈ ps, p.length ≤ 3000) ∧ ps.length ≤ 40

set_option maxRecDepth 100000 in
set_option maxHeartbeats 1000000 in
theorem few_any (L : Option Addr) (n c : Nat) (ps : List (List UInt8)) (hn : n ≤ maxLen) (hps : ∀ p ∈ ps, p.length ≤ maxLen) (w : World) (h : Reads w w.heap.size 1 L n (ps.map tsv)) :
    Calls Try.prog 7 #[.slice L n c] w fun e w' => Tells (fewP ps) e ∧ w = w' := by
  have HL : Hid (ps.length = n) := by have := h.1; show _ = _; simpa using this
  have H1 := Lib.hid h
  have HP := Lib.hid hps
  unfold maxLen at hn
  clear h hps
  go_enter Try.func7, Try.ntmps7
  go_wp2
  go_loopw [7] (fun idx wr => ∃ i : Nat, i ≤ n ∧ idx = .int .i64 (i : Int) ∧ (∀ p ∈ ps.take i, p.length ≤ 3000) ∧ wr = w) (fun idx wr => n - (intOf idx).toNat)
  case atStart => exact ⟨0, by omega, rfl, by simp, by trivial⟩
  case round =>
    obtain ⟨i, hi, rfl, hsm, rfl⟩ := hrel
    have HSM := Lib.hid hsm
    clear hsm
    by_cases hlt : i < n
    · obtain ⟨p, hp⟩ : ∃ p, ps[i]? = some p := ⟨_, List.getElem?_eq_getElem (by rw [HL.out]; exact hlt)⟩
      obtain ⟨ad, rfl, _, hcx⟩ := H1.out.2 (by omega)
      have k0 := hcx i (tsv p) (by rw [List.getElem?_map, hp]; rfl)
      unfold tsv at k0
      have hpl := HP.out p (List.mem_of_getElem? hp)
      have HX : Hid (p.length ≤ 3000 → ∀ q ∈ ps.take (i + 1), q.length ≤ 3000) := fun hle q hq => by
        rw [List.take_add_one, hp, List.mem_append] at hq
        rcases hq with hq | hq
        · exact HSM.out q hq
        · simp at hq; subst hq; exact hle
      have HNS : Hid (¬ p.length ≤ 3000 → ¬ fewP ps) := fun hle h => hle (h.1 p (List.mem_of_getElem? hp))
      have hsz := tx_size0 p
      have hi0 : (0 : Int) ≤ (i : Int) := by omega
      have hi1 : (i : Int) < (n : Int) := by omega
      obtain ⟨m, hm⟩ : ∃ m, m = p.length := ⟨_, rfl⟩
      rw [← hm] at hsz hpl HX HNS
      unfold maxLen at hpl
      clear hp hcx hm
      by_cases h3 : m ≤ 3000
      · have hd1 : decide ((m : Int) > 3000) = false := decide_eq_false (by omega)
        have HX2 := Lib.hid (HX.out h3)
        clear HX HNS
        go_wp2
        exact ⟨⟨i + 1, by omega, by go_num, HX2.out, by trivial⟩, by simp [intOf]; omega⟩
      · have hd1 : decide ((m : Int) > 3000) = true := decide_eq_true (by omega)
        have HN2 := Lib.hid (HNS.out h3)
        clear HX HNS
        go_wp2
        go_ret
        exact ⟨tells_false HN2.out, rfl⟩
    · obtain rfl : i = n := by omega
      rw [List.take_of_length_le (by rw [HL.out]; omega)] at HSM
      by_cases h4 : i ≤ 40
      · have HQ : Hid (fewP ps) := ⟨HSM.out, by rw [HL.out]; exact h4⟩
        have END : Hid (∀ b : Bool, b = true → Tells (fewP ps) (.returned (.bool b))) := fun b h => h ▸ tells_true HQ.out
        go_wp2
        go_ret
        exact ⟨END.out _ (by first | rfl | (simp; omega)), rfl⟩
      · have HQ : Hid (¬ fewP ps) := fun h => h4 (by have := h.2; rw [HL.out] at this; exact this)
        have END : Hid (∀ b : Bool, b = false → Tells (fewP ps) (.returned (.bool b))) := fun b h => h ▸ tells_false HQ.out
        go_wp2
        go_ret
        exact ⟨END.out _ (by first | rfl | (simp; omega)), rfl⟩

end Go.Proofs.Ytfdncdejjlcgpaa
