/- graph.Order. -/
import Derived.Test.YtcfmpajdhbcimaaXh
namespace Go.Proofs.Ytcfmpajdhbcimaa
open Go.RowKit Go.Sort

/-- What Order answers. -/
def OrdV (xs : List Nw) (w w' : World) (v : Value) : Prop :=
  (chk (nds xs) ≠ 0 ∧ v = .slice none 0 0) ∨ (chk (nds xs) = 0 ∧ ∃ A c, v = .slice A (ord (nds xs)).length c ∧ w'.ownsRow w.heap.size 3 1 v (ord (nds xs)).length (ivs (ord (nds xs))))
theorem pl_big {xs : List Nw} {n : Nat} {w w' : World} {e : Ending} (h : PlPost xs n w e w') (h64 : 64 < n) : e = .returned (.tuple #[.map none, .int .i64 5]) ∧ Below w.heap.size w w' := by
  obtain ⟨hb, ⟨_, h1⟩ | ⟨h1, _⟩ | ⟨h1, _⟩⟩ := h
  · exact ⟨h1, hb⟩
  · omega
  · omega
theorem pl_bad {xs : List Nw} {n : Nat} {w w' : World} {e : Ending} (h : PlPost xs n w e w') (h64 : n ≤ 64) (he : errN (nds xs) n ≠ 0) : e = .returned (.tuple #[.map none, .int .i64 (errN (nds xs) n)]) ∧ Below w.heap.size w w' := by
  obtain ⟨hb, ⟨h1, _⟩ | ⟨_, _, h1⟩ | ⟨_, h1, _⟩⟩ := h
  · omega
  · exact ⟨h1, hb⟩
  · exact absurd h1 he
theorem pl_good {xs : List Nw} {n : Nat} {w w' : World} {e : Ending} (h : PlPost xs n w e w') (h64 : n ≤ 64) (he : errN (nds xs) n = 0) : ∃ b N f, e = .returned (.tuple #[.map (some b), .int .i64 0]) ∧ TMap w' b N f ∧ Has f ((nds xs).map Nd.name) ∧ Below w.heap.size w w' := by
  obtain ⟨hb, ⟨h1, _⟩ | ⟨_, h1, _⟩ | ⟨_, _, b, N, f, h1, h2, h3⟩⟩ := h
  · omega
  · exact absurd he h1
  · exact ⟨b, N, f, h1, h2, h3, hb⟩
theorem in_step {l : List Nd} {S : List (List UInt8)} {i : Nat} {x : Nd} (hx : l[i]? = some x) (h : ∀ y ∈ l.take i, ∀ d ∈ y.deps, d ∈ S) (hd : ∀ d ∈ x.deps, d ∈ S) : ∀ y ∈ l.take (i + 1), ∀ d ∈ y.deps, d ∈ S := fun y hy => by
  rw [List.take_add_one, hx, List.mem_append] at hy
  rcases hy with hy | hy
  · exact h y hy
  · obtain rfl : y = x := by simpa using hy
    exact hd

set_option maxRecDepth 100000 in
set_option maxHeartbeats 4000000 in
theorem order_any (A : Option Addr) (n c : Nat) (xs : List Nw) (hn : n ≤ 1000000) (hok : NOk xs) (w : World) (h : Nodes w w.heap.size A n xs) :
    Calls Try.prog 9 #[.slice A n c] w fun e w' => (∃ v, e = .returned (.tuple #[v, .int .i64 (chk (nds xs))]) ∧ OrdV xs w w' v) ∧ Below w.heap.size w w' := by
  have HL : Hid (xs.length = n) := h.len
  have HLD : Hid ((nds xs).length = n) := by show _ = _; rw [nds_len]; exact h.len
  have HNS := Lib.hid h
  have HF := Lib.hid hok
  have HPL := Lib.hid (placed_any A n c xs hn hok w h)
  have HCK : Hid (chk (nds xs) = if 64 < n then 5 else if errN (nds xs) n ≠ 0 then errN (nds xs) n else if ¬ depsIn (nds xs) then 6 else if (ord (nds xs)).length < n then 9 else 0) := by
    show chk _ = _
    unfold chk
    rw [HLD.out]
  by_cases h64 : 64 < n
  · have HCE : Hid (chk (nds xs) = 5) := HCK.out.trans (if_pos h64)
    clear h hok
    go_enter Try.func9, Try.ntmps9
    go_wp2_with (go_at_call 16; refine HPL.out.mono ?_; intro e w2 hp; obtain ⟨rfl, hb2⟩ := pl_big hp h64; have HB2 := Lib.hid hb2; clear hb2 hp)
    go_ret2
    exact ⟨⟨_, by rw [HCE.out]; rfl, .inl ⟨by rw [HCE.out]; decide, rfl⟩⟩, HB2.out⟩
  have h64n : n ≤ 64 := by omega
  by_cases her : errN (nds xs) n = 0
  · have HER := Lib.hid her
    have HND : Hid (((nds xs).map Nd.name).Nodup) := by
      have := (err_ok (l := nds xs) (i := n) (by rw [HLD.out]; omega)).1 her
      rw [List.take_of_length_le (by rw [HLD.out]; omega)] at this
      exact this.1
    have HOR := Lib.hid (fun (W : World) (hb : Below w.heap.size w W) => ordered_any A n c xs hn hok HND.out W ((h.below hb).more hb.size))
    have HC2 : Hid (chk (nds xs) = if ¬ depsIn (nds xs) then 6 else if (ord (nds xs)).length < n then 9 else 0) := HCK.out.trans (by rw [if_neg h64, if_neg (by simpa using her)])
    have HOLE : Hid ((ord (nds xs)).length ≤ n) := by
      show _ ≤ _
      have := ord_len (nds xs) (nds xs).length
      rw [HLD.out] at this
      unfold ord
      rw [HLD.out]
      exact this
    clear h hok her h64
    go_enter Try.func9, Try.ntmps9
    go_wp2_with (go_at_call 16; refine HPL.out.mono ?_; intro e w2 hp; obtain ⟨b, N, f, rfl, ht2, hh2, hb2⟩ := pl_good hp h64n HER.out; have HB2 := Lib.hid hb2; have HT2 := Lib.hid ht2; have HHAS := Lib.hid hh2; clear hb2 hp ht2 hh2)
    go_loopw [19] (fun idx wr => ∃ i : Nat, i ≤ n ∧ idx = .int .i64 (i : Int) ∧ (∀ y ∈ (nds xs).take i, ∀ d ∈ y.deps, d ∈ (nds xs).map Nd.name) ∧ Below w2.heap.size w2 wr) (fun idx _ => n - (intOf idx).toNat)
    case atStart => exact ⟨0, by omega, rfl, by simp, Below.refl _ _⟩
    case round =>
      obtain ⟨i, hi, rfl, hin0, hb⟩ := hrel
      have HIN0 := Lib.hid hin0
      have hbw := HB2.out.trans (hb.mono HB2.out.size)
      have HBW := Lib.hid hbw
      by_cases hlt : i < n
      · obtain ⟨x, hx⟩ : ∃ x, xs[i]? = some x := ⟨_, List.getElem?_eq_getElem (by rw [HL.out]; exact hlt)⟩
        have hnr := (HNS.out.below hbw)
        obtain ⟨ad, rfl, hab, k0, k1, k2, k3⟩ := nodes_cells hnr.1 i x hx
        have hmx := List.mem_of_getElem? hx
        have hfx := HF.out x hmx
        have hin := Reads.more (hnr.2 x hmx) hbw.size
        have HXD := Lib.hid (nds_at hx)
        obtain ⟨⟨nm, sc, ru, ds⟩, xA, xn, xc⟩ := x
        simp only at k0 k1 k2 k3 hfx hin HXD
        have hnew := one_new wr (.cells #[.string (tx nm), .bool sc, .int .u64 ru, .slice xA xn xc] 36)
        have p0 := at_cell (i := 0) hnew rfl
        have p1 := at_cell (i := 1) hnew rfl
        have p2 := at_cell (i := 2) hnew rfl
        have p3 := at_cell (i := 3) hnew rfl
        have hal : Below wr.heap.size wr (wr.alloc (.cells #[.string (tx nm), .bool sc, .int .u64 ru, .slice xA xn xc] 36)) := (Below.refl wr.heap.size wr).alloc (Nat.le_refl _) (.cells #[.string (tx nm), .bool sc, .int .u64 ru, .slice xA xn xc] 36)
        have HB3 := Lib.hid (hb.trans (hal.mono hb.size))
        have HAI := Lib.hid (allin_any b N f xA xn xc ds hfx.2 hfx.1.2 (wr.alloc (.cells #[.string (tx nm), .bool sc, .int .u64 ru, .slice xA xn xc] 36)) (HT2.out.below (hb.trans (hal.mono hb.size))) (Reads.more (Reads.below hin hal) hal.size))
        have hi0 : (0 : Int) ≤ (i : Int) := by omega
        have hi1 : (i : Int) < (n : Int) := by omega
        by_cases hall : ∀ d ∈ ds, (f d).isSome = true
        · have HALL := Lib.hid hall
          have HIN1 := Lib.hid (in_step HXD.out HIN0.out (fun d hd => (HHAS.out d).1 (hall d hd)))
          clear hx hmx hfx hin hnr hnew hal hb hbw hall hin0
          go_wp2_with (go_at_call 17; refine HAI.out.mono ?_; rintro e w3 ⟨he, rfl⟩; obtain rfl := he.yes HALL.out)
          exact ⟨⟨i + 1, by omega, by go_num, HIN1.out, HB3.out⟩, by simp [intOf]; omega⟩
        · have HALL := Lib.hid hall
          have HCE : Hid (chk (nds xs) = 6) := HC2.out.trans (if_pos (fun h => HALL.out (fun d hd => (HHAS.out d).2 (h _ (List.mem_of_getElem? HXD.out) d hd))))
          clear hx hmx hfx hin hnr hnew hal hb hbw hall hin0
          go_wp2_with (go_at_call 17; refine HAI.out.mono ?_; rintro e w3 ⟨he, rfl⟩; obtain rfl := he.no HALL.out)
          go_ret2
          exact ⟨⟨_, by rw [HCE.out]; rfl, .inl ⟨by rw [HCE.out]; decide, rfl⟩⟩, HB2.out.trans (HB3.out.mono HB2.out.size)⟩
      · obtain rfl : i = n := by omega
        have HDI : Hid (depsIn (nds xs)) := by
          show depsIn _
          have := HIN0.out
          rw [List.take_of_length_le (by rw [HLD.out]; omega)] at this
          exact this
        have HC3 : Hid (chk (nds xs) = if (ord (nds xs)).length < i then 9 else 0) := HC2.out.trans (if_neg (by simpa using HDI.out))
        have HOC := Lib.hid (HOR.out wr hbw)
        have hle := HOLE.out
        obtain ⟨m, hm⟩ : ∃ m, m = (ord (nds xs)).length := ⟨_, rfl⟩
        rw [← hm] at HC3 hle
        have HM := Lib.hid hm
        clear hm hb hbw hin0
        by_cases hmi : m < i
        · have HCE : Hid (chk (nds xs) = 9) := HC3.out.trans (if_pos hmi)
          have d1 : decide ((m : Int) < (i : Int)) = true := decide_eq_true (by omega)
          go_wp2_with (go_at_call 18; refine HOC.out.mono ?_; rintro e w5 ⟨⟨A5, c5, rfl, ho⟩, hb5⟩; rw [← HM.out]; have HB5 := Lib.hid (HBW.out.trans (hb5.mono HBW.out.size)); clear hb5)
          go_ret2
          exact ⟨⟨_, by rw [HCE.out]; rfl, .inl ⟨by rw [HCE.out]; decide, rfl⟩⟩, HB5.out⟩
        · have HCE : Hid (chk (nds xs) = 0) := HC3.out.trans (if_neg hmi)
          have d1 : decide ((m : Int) < (i : Int)) = false := decide_eq_false (by omega)
          go_wp2_with (go_at_call 18; refine HOC.out.mono ?_; rintro e w5 ⟨⟨A5, c5, rfl, ho⟩, hb5⟩; rw [← HM.out]; have HO5 := Lib.hid ho; have HB5 := Lib.hid (HBW.out.trans (hb5.mono HBW.out.size)); clear hb5 ho)
          go_ret2
          rw [← HM.out] at HO5
          exact ⟨⟨.slice A5 m c5, by rw [HCE.out]; rfl, .inr ⟨HCE.out, A5, c5, congrArg (fun q => Value.slice A5 q c5) HM.out, by rw [← HM.out]; exact own_less HO5.out HBW.out.size⟩⟩, HB5.out⟩
  · have HCE : Hid (chk (nds xs) = errN (nds xs) n) := HCK.out.trans (by rw [if_neg h64, if_pos her])
    have HER := Lib.hid her
    obtain ⟨z, hz⟩ : ∃ z, z = errN (nds xs) n := ⟨_, rfl⟩
    rw [← hz] at HCE
    have HZ := Lib.hid hz
    have hne : (z != 0) = true := by rw [bne_iff_ne, hz]; exact her
    have HNE := Lib.hid hne
    clear h hok hz her
    go_enter Try.func9, Try.ntmps9
    go_wp2_with (go_at_call 16; refine HPL.out.mono ?_; intro e w2 hp; obtain ⟨rfl, hb2⟩ := pl_bad hp h64n HER.out; rw [← HZ.out]; have HB2 := Lib.hid hb2; clear hb2 hp)
    go_ret2
    exact ⟨⟨_, by rw [HCE.out]; rfl, .inl ⟨by rw [HCE.out]; exact bne_iff_ne.1 HNE.out, rfl⟩⟩, HB2.out⟩

end Go.Proofs.Ytcfmpajdhbcimaa
