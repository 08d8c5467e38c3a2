/- graph.ordered. -/
import Derived.Test.YtcfmpajdhbcimaaXg
namespace Go.Proofs.Ytcfmpajdhbcimaa
open Go.RowKit Go.Sort

/-- Places as values. -/
def ivs (o : List Nat) : List Value := o.map fun j : Nat => Value.int .i64 (j : Int)
def slen : Value → Nat
  | .slice _ n _ => n
  | _ => 0
theorem ivs_app (a b : List Nat) : ivs (a ++ b) = ivs a ++ ivs b := List.map_append
theorem ivs_len (a : List Nat) : (ivs a).length = a.length := List.length_map ..
theorem info_int : (Try.prog.info? 3).map (fun i => (i.zero, i.size, i.bytes)) = some (some (.int .i64 0), 1, 8) := by kernel_rfl

set_option maxRecDepth 100000 in
set_option maxHeartbeats 4000000 in
theorem ordered_any (A : Option Addr) (n c : Nat) (xs : List Nw) (hn : n ≤ 1000000) (hok : NOk xs) (hnd : ((nds xs).map Nd.name).Nodup) (w : World) (h : Nodes w w.heap.size A n xs) :
    Calls Try.prog 18 #[.slice A n c] w fun e w' => (∃ A' c', e = .returned (.slice A' (ord (nds xs)).length c') ∧ w'.ownsRow w.heap.size 3 1 (.slice A' (ord (nds xs)).length c') (ord (nds xs)).length (ivs (ord (nds xs)))) ∧ Below w.heap.size w w' := by
  have HL : Hid (xs.length = n) := h.len
  have HLD : Hid ((nds xs).length = n) := by show _ = _; rw [nds_len]; exact h.len
  have HNS := Lib.hid h
  have HF := Lib.hid hok
  have HT0 := Lib.hid (tmap_start w)
  have HB0 := Lib.hid ((Below.refl w.heap.size w).alloc (Nat.le_refl _) (.map #[] 0))
  have HS0 : Hid (w.heap.size + 1 ≤ (w.alloc (.map #[] 0)).heap.size) := by show w.heap.size + 1 ≤ _; simp
  have HLS := Lib.hid (fun (W : World) (hb : Below w.heap.size w W) (k : Nat) (f : List UInt8 → Option Value) (hh : Has f (nmOf (nds xs) (ordN (nds xs) k))) (ht : TMap W w.heap.size k f) => least_any A n c xs w.heap.size k f _ hn hok hnd hh W ((h.below hb).more hb.size) ht)
  have hmm := @run_makeMap Try.prog
  obtain ⟨ii, hi0, hz0, hz1, hz2⟩ := info_parts info_int
  clear h hok hnd
  go_enter Try.func18, Try.ntmps18
  go_wp2
  go_loopw [3] (fun v wr => ∃ A3 k c3, v = .slice A3 k c3 ∧ k ≤ n ∧ (ordN (nds xs) k).length = k ∧ wr.ownsRow (w.heap.size + 1) 3 1 v k (ivs (ordN (nds xs) k)) ∧ (∃ f, TMap wr w.heap.size k f ∧ Has f (nmOf (nds xs) (ordN (nds xs) k))) ∧ Below w.heap.size w wr ∧ w.heap.size + 1 ≤ wr.heap.size) (fun v _ => n - slen v)
  case atStart => exact ⟨none, 0, 0, rfl, by omega, rfl, World.ownsRow_nil _ _ _ _, ⟨_, HT0.out, Has.none⟩, HB0.out, HS0.out⟩
  case round =>
    obtain ⟨A3, k, c3, rfl, hk, hlen, hown, ⟨f, ht, hhas⟩, hb, hsz⟩ := hrel
    have HOWN := Lib.hid hown
    have HT := Lib.hid ht
    have HHAS := Lib.hid hhas
    have HB := Lib.hid hb
    have HLEN := Lib.hid hlen
    have HSZ := Lib.hid hsz
    have HCALL := Lib.hid (HLS.out wr hb k f hhas ht)
    cases hl : lstN (nds xs) (nmOf (nds xs) (ordN (nds xs) k)) n with
    | none =>
      rw [hl] at HCALL
      have HFU : Hid (ordN (nds xs) k = ord (nds xs)) := by
        show _ = _
        exact ord_full (by rw [HLD.out]; exact hk) (by rw [HLD.out]; exact hl)
      clear hown ht hhas hb hsz hl hlen
      go_wp2_with (go_at_call 24; refine HCALL.out.mono ?_; rintro e w2 ⟨⟨v4, v5, hv, rfl⟩, hb2⟩; have HV := Lib.hid hv; obtain ⟨rfl, rfl⟩ : v4 = .int .i64 0 ∧ v5 = .bool false := (by rcases HV.out with ⟨_, a, b⟩ | ⟨_, a, _⟩; exact ⟨a, b⟩; cases a); have HB2 := Lib.hid (HB.out.trans (hb2.mono HB.out.size)); have HO2 := Lib.hid (own_below HOWN.out hb2); clear hb2 hv HV)
      go_ret
      have he : (ord (nds xs)).length = k := by rw [← HFU.out]; exact HLEN.out
      rw [he, ← HFU.out]
      exact ⟨⟨A3, c3, rfl, own_less HO2.out (by omega)⟩, HB2.out⟩
    | some i =>
      rw [hl] at HCALL
      obtain ⟨y, hy, hin, hry, _⟩ := lst_some hl
      have HST : Hid (ordN (nds xs) (k + 1) = ordN (nds xs) k ++ [i]) := ord_step (by rw [HLD.out]; exact hl)
      have HKN : Hid (k < n) := by
        have := ord_end hlen (i := i) (by rw [HLD.out]; exact hl)
        rw [HLD.out] at this
        exact this
      obtain ⟨x, hx⟩ : ∃ x, xs[i]? = some x := ⟨_, List.getElem?_eq_getElem (by rw [HL.out]; exact hin)⟩
      have hyd : x.d = y := by have h1 := nds_at hx; rw [hy] at h1; exact (Option.some.inj h1).symm
      have HNM : Hid (nmOf (nds xs) (ordN (nds xs) (k + 1)) = nmOf (nds xs) (ordN (nds xs) k) ++ [x.d.name]) := by
        show _ = _
        rw [HST.out, nm_app, nm_one hy, hyd]
      have hfx := HF.out x (List.mem_of_getElem? hx)
      have HFX := Lib.hid hfx.1.1
      have HXX := Lib.hid hx
      have hj0 : (0 : Int) ≤ (i : Int) := by omega
      have hj1 : (i : Int) < (n : Int) := by omega
      have hk0 : ¬ (k : Int) < 0 := by omega
      clear hown ht hhas hb hsz hl hlen hy hry hx hyd hfx
      go_wp2_with (first
        | (at_builtin; refine wpList_append_many _ rfl (.tmp 25) (.tmp 27) 37 rfl (w.heap.size + 1) 3 ii _ 1 8 Try.underlying37 hi0 hz0 hz1 hz2 rfl (by decide) (.slice A3 k c3) k _ rfl (HO3.out.alloc _) (some ⟨w3.heap.size, 0, none⟩) 1 1 (w3.heap.size + 1) [.int .i64 (i : Int)] rfl (by intro h; cases h) (reads_one_row w3 3 _) (by intro u hu; simp at hu; subst hu; rfl) (by unfold maxLen; omega) (by omega) (by have := HZ3.out; simp; omega) ?_; intro v4 w4 ho4 hg4; have HO4 := Lib.hid ho4; have HG4 := Lib.hid hg4; clear ho4 hg4)
        | (at_mapUpdate; refine wpList_tput _ rfl _ _ _ 31 rfl 3 Try.underlying31 w.heap.size k _ rfl HT2.out (by unfold maxLen; have := HKN.out; omega) x.d.name _ rfl rfl HFX.out ?_; intro w3 ht3 hg3; have HT3 := Lib.hid ht3; have HO3 := Lib.hid (HO2.out.kept hg3 (.inr (fun e => by have := own_block HO2.out _ e; omega))); have HB3 := Lib.hid (HB2.out.grown hg3 HB2.out.size (fun j hj => by cases hj; exact Nat.le_refl _)); have HZ3 : Hid (w.heap.size + 1 ≤ w3.heap.size) := Nat.le_trans HZ2.out hg3.size; clear ht3 hg3)
        | (go_at_call 24; refine HCALL.out.mono ?_; rintro e w2 ⟨⟨v4, v5, hv, rfl⟩, hb2⟩; have HV := Lib.hid hv; obtain ⟨rfl, rfl⟩ : v4 = .int .i64 (i : Int) ∧ v5 = .bool true := (by rcases HV.out with ⟨a, _, _⟩ | ⟨q, a, b, c⟩; cases a; cases a; exact ⟨b, c⟩); have HB2 := Lib.hid (HB.out.trans (hb2.mono HB.out.size)); have HO2 := Lib.hid (own_below HOWN.out hb2); have HT2 := Lib.hid (HT.out.below hb2); have HZ2 : Hid (w.heap.size + 1 ≤ w2.heap.size) := Nat.le_trans HSZ.out hb2.size; obtain ⟨ad, rfl, hab, j0, _⟩ := nodes_cells (HNS.out.below HB2.out).1 i x HXX.out; clear hb2 hv HV))
      have hsl := own_slice HO4.out
      obtain ⟨A5, c5, rfl, _⟩ := hsl
      have hal : Below w3.heap.size w3 (w3.alloc (.cells #[.int .i64 (i : Int)] 3)) := (Below.refl _ w3).alloc (Nat.le_refl _) _
      have ht4 := (HT3.out.below hal).kept HG4.out (fun e => by have := own_block HO3.out _ e.symm; omega)
      have hb4 := ((HB3.out.trans (hal.mono HB3.out.size)).grown HG4.out (by have := HB3.out.size; simp; omega) (fun j hj => by have := own_block HO3.out _ hj; omega))
      have hz4 : w.heap.size + 1 ≤ w4.heap.size := Nat.le_trans HZ3.out (Nat.le_trans hal.size HG4.out.size)
      have hlen2 : (ordN (nds xs) (k + 1)).length = k + 1 := by rw [HST.out, List.length_append, HLEN.out]; rfl
      have ho5 : w4.ownsRow (w.heap.size + 1) 3 1 (.slice A5 (k + 1) c5) (k + 1) (ivs (ordN (nds xs) (k + 1))) := by rw [HST.out, ivs_app]; exact HO4.out
      exact ⟨⟨A5, k + 1, c5, rfl, HKN.out, hlen2, ho5, ⟨_, ht4, by rw [HNM.out]; exact HHAS.out.put _ _⟩, hb4, hz4⟩, by have := HKN.out; simp only [slen]; omega⟩

end Go.Proofs.Ytcfmpajdhbcimaa
