/- The walk of CrcSums: it returns true at any parts. -/
import Derived.Test.YtbbkbpclhohglaaDoorCg
import Derived.Test.YtbbkbpclhohglaaDoorH
namespace Go.Proofs.YtbbkbpclhohglaaDoor
open Go.RowKit

/-- A row of bytes of whatever length. -/
def ARow (w : World) (B : Nat) (v : Value) (bs : List UInt8) : Prop := ∃ A n c, v = .slice A n c ∧ n ≤ c ∧ Reads w B 1 A n (bs.map bv)
def ARows (w : World) (B : Nat) (vs : List Value) (ps : List (List UInt8)) : Prop := vs.length = ps.length ∧ ∀ (i : Nat) (v : Value), vs[i]? = some v → ∃ bs : List UInt8, ps[i]? = some bs ∧ ARow w B v bs

theorem ARows.rows {w : World} {B : Nat} {vs : List Value} {ps : List (List UInt8)} (h : ARows w B vs ps) (hs : ∀ (i : Nat) (bs : List UInt8), ps[i]? = some bs → bs.length ≤ 300) : PRows w B vs ps :=
  ⟨h.1, fun i v hv => by
    obtain ⟨bs, hb, A, n, c, rfl, hc, hr⟩ := h.2 i v hv
    have h1 := hs i bs hb
    have h2 : bs.length = n := by have := hr.1; simpa using this
    exact ⟨bs, hb, A, n, c, rfl, hc, by omega, hr⟩⟩
theorem PRows.below {w w' : World} {B : Nat} {vs : List Value} {ps : List (List UInt8)} (h : PRows w B vs ps) (hb : Below B w w') : PRows w' B vs ps :=
  ⟨h.1, fun i v hv => by
    obtain ⟨bs, h1, h2⟩ := h.2 i v hv
    exact ⟨bs, h1, h2.below hb⟩⟩
theorem PRows.more {w : World} {B B' : Nat} {vs : List Value} {ps : List (List UInt8)} (h : PRows w B vs ps) (hB : B ≤ B') : PRows w B' vs ps :=
  ⟨h.1, fun i v hv => by
    obtain ⟨bs, h1, h2⟩ := h.2 i v hv
    exact ⟨bs, h1, h2.more hB⟩⟩

theorem flat_len : ∀ (ps : List (List UInt8)), (∀ bs ∈ ps, bs.length ≤ 300) → ps.flatten.length ≤ 300 * ps.length
  | [], _ => by simp
  | p :: ps, h => by
    have h1 := flat_len ps (fun bs hb => h bs (by simp [hb]))
    have h2 := h p (by simp)
    simp only [List.flatten_cons, List.length_append, List.length_cons]
    omega

theorem text_row (W : World) (bs : List UInt8) (cap : Nat) (fr : Nat × Nat) (hb : bs.length ≤ 1073741824) (hc : bs.length ≤ cap) :
    PRow (W.alloc (.cells (bytesRow (tx bs) cap) 5 fr)) (W.heap.size + 1) (.slice (some ⟨W.heap.size, 0, none⟩) bs.length cap) bs :=
  ⟨_, _, _, rfl, hc, hb, by simp, fun _ => ⟨_, rfl, by simp, fun j u hu => by
    have h0 : Addr.add ⟨W.heap.size, 0, none⟩ j = ⟨W.heap.size, j, none⟩ := by
      unfold Addr.add
      split
      · rename_i h; rw [h]
      · simp
    have hj : j < bs.length := by
      have := (List.getElem?_eq_some_iff.1 hu).1
      simpa using this
    rw [h0]
    simp only [World.cell?, World.alloc, Array.getElem?_push_size]
    rw [bytesRow_at (tx bs) cap j (by simpa [tx] using hj)]
    rw [List.getElem?_map, List.getElem?_eq_getElem hj] at hu
    have hu' : bv bs[j] = u := by simpa using hu
    rw [← hu']
    rfl⟩⟩

/-- The sum of '[]byte(s)', in a slice of parts that was just laid. -/
theorem text_sum (bs : List UInt8) (hb : bs.length ≤ 1073741824) (W : World) (hl : Laid W) (X : World)
    (hX : X = (W.drew.alloc (.cells (bytesRow (tx bs) (grownCap W (tx bs).size 0 5)) 5 ((bytesRow (tx bs) (grownCap W (tx bs).size 0 5)).size, (bytesRow (tx bs) (grownCap W (tx bs).size 0 5)).size + 1))).alloc (.cells #[.slice (some ⟨W.heap.size, 0, none⟩) (tx bs).size (grownCap W (tx bs).size 0 5)] 24)) :
    Calls Tryd.prog 8 #[.slice (some ⟨W.heap.size + 1, 0, none⟩) 1 1] X fun e w' => e = .returned (wv (crc bs)) ∧ X = w' := by
  have hge := grownCap_ge W (tx bs).size 0 5
  generalize grownCap W (tx bs).size 0 5 = cap at hge hX
  generalize ((bytesRow (tx bs) cap).size, (bytesRow (tx bs) cap).size + 1) = fr at hX
  subst hX
  rw [tx_size] at hge ⊢
  have hrow := text_row W.drew bs cap fr hb hge
  have hld : Laid (W.drew.alloc (.cells (bytesRow (tx bs) cap) 5 fr)) := hl.below ((Below.refl _ W).drew.alloc (by simp) _)
  have h := sum_one (W.drew.alloc (.cells (bytesRow (tx bs) cap) 5 fr)) (.slice (some ⟨W.heap.size, 0, none⟩) bs.length cap) bs hld (hrow.more (by simp))
  have e : (W.drew.alloc (.cells (bytesRow (tx bs) cap) 5 fr)).heap.size = W.heap.size + 1 := by simp
  rw [e] at h
  exact h

def SRel (ps : List (List UInt8)) (w : World) (v idx : Value) (wr : World) : Prop :=
  ∃ j : Nat, j ≤ ps.length ∧ idx = .int .i64 (j : Int) ∧ v = .string (tx (ps.take j).flatten) ∧ (∀ bs ∈ ps.take j, bs.length ≤ 300) ∧ w = wr

set_option maxRecDepth 100000 in
set_option maxHeartbeats 400000 in
theorem sums_long (L : Option Addr) (m d : Nat) (h : 20 < m) (w : World) (hl : Laid w) :
    Calls Tryd.prog 3 #[.slice L m d] w fun e w' => e = .returned (.bool true) ∧ Below w.heap.size w w' := by
  have HF := Lib.hid (fixed_any w hl)
  clear hl
  go_enter Tryd.func3, Tryd.ntmps3
  go_wp2_with (go_at_call 7; refine HF.out.mono ?_; rintro e w3 ⟨rfl, hb3⟩)
  go_ret
  exact ⟨rfl, hb3⟩

set_option maxRecDepth 100000 in
set_option maxHeartbeats 1000000 in
theorem sums_short (L : Option Addr) (m d : Nat) (vs : List Value) (ps : List (List UInt8)) (hm : m ≤ 20) (w : World) (hl : Laid w) (hr : Reads w w.heap.size 1 L m vs) (hp : ARows w w.heap.size vs ps) :
    Calls Tryd.prog 3 #[.slice L m d] w fun e w' => e = .returned (.bool true) ∧ Below w.heap.size w w' := by
  have HF : Hid (∀ W, Laid W → Calls Tryd.prog 7 #[] W fun e w' => e = .returned (.bool true) ∧ Below W.heap.size W w') := fun W h => fixed_any W h
  have hml : ps.length = m := by have := hr.1; have := hp.1; omega
  have HML := Lib.hid hml
  have HP := Lib.hid hp
  have HL := Lib.hid hl
  clear hml hp hl
  go_enter Tryd.func3, Tryd.ntmps3
  go_wp2_with fail
  go_loopw [3, 12] (fun v idx wr => SRel ps w v idx wr) (fun v idx wr => m - (intOf idx).toNat)
  case atStart => exact ⟨0, by omega, rfl, rfl, by simp, rfl⟩
  case round =>
    obtain ⟨i, hi, rfl, rfl, hall, rfl⟩ := hrel
    rw [HML.out] at hi
    have HALL := Lib.hid hall
    clear hall
    by_cases hlt : i < m
    · obtain ⟨ad, u, rfl, hadb, hx, hcell⟩ := hr.at_ hlt
      obtain ⟨bs, hbs, A, n, c, rfl, hnc, hrb⟩ := HP.out.2 i u hx
      have hbn : bs.length = n := by have := hrb.1; simpa using this
      have HBN := Lib.hid hbn
      have HBS := Lib.hid hbs
      clear hx hbs hbn
      by_cases h300 : 300 < n
      · go_wp2_with (go_at_call 7; refine (HF.out _ HL.out).mono ?_; rintro e w3 ⟨rfl, hb3⟩)
        go_ret
        exact ⟨rfl, hb3⟩
      · have hcv := conv_reads (P := Tryd.prog) (src := 24) (dst := 9) (c := c) Tryd.underlying24 Tryd.underlying5 Tryd.underlying9 hrb
        have hall2 : ∀ p ∈ ps.take (i + 1), p.length ≤ 300 := by
          intro p hp
          rw [List.take_add_one, HBS.out] at hp
          rcases List.mem_append.1 hp with hp | hp
          · exact HALL.out p hp
          · have : p = bs := by simpa using hp
            rw [this, HBN.out]
            omega
        have hfl : (ps.take (i + 1)).flatten = (ps.take i).flatten ++ bs := by rw [List.take_add_one, HBS.out]; simp
        have hbig := flat_len (ps.take i) HALL.out
        have hbig2 : (ps.take i).flatten.length + bs.length ≤ 9223372036854775807 := by
          have : (ps.take i).length ≤ i := by simp; omega
          rw [HBN.out]
          omega
        have hadd : ∀ W : World, (Op.stringOp .add (tx (ps.take i).flatten) (tx bs)).run Tryd.prog W = .ok (.string (tx (ps.take (i + 1)).flatten)) W := fun W => by
          rw [hfl]
          exact add_tx W _ bs hbig2
        have HA2 := Lib.hid hall2
        have HADD := hadd
        generalize hq : tx (ps.take (i + 1)).flatten = q at hadd
        generalize hq0 : tx (ps.take i).flatten = q0 at hadd
        generalize hq1 : tx bs = q1 at hadd hcv
        have HQ := Lib.hid hq
        clear HADD hall2 hfl hbig hbig2 hq hq0 hq1 hrb
        go_wp2_with fail
        exact ⟨⟨i + 1, by rw [HML.out]; omega, by go_num, by rw [HQ.out], HA2.out, rfl⟩, by simp [intOf]; omega⟩
    · obtain rfl : i = m := by omega
      have hall : ps.take i = ps := List.take_of_length_le (by rw [HML.out]; omega)
      rw [hall]
      rw [hall] at HALL
      have hrows : PRows w w.heap.size vs ps := HP.out.rows (fun j bs hb => HALL.out bs (List.mem_of_getElem? hb))
      have hlen : ps.flatten.length ≤ 6000 := by have := flat_len ps HALL.out; rw [HML.out] at this; omega
      have HSUM : Hid (∀ W, Below w.heap.size w W → Calls Tryd.prog 8 #[.slice L i d] W fun e w' => e = .returned (wv (crc ps.flatten)) ∧ W = w') := fun W hb =>
        sum_any L i d vs ps (by omega) W (HL.out.below hb) ((hr.below hb).more hb.size) ((hrows.below hb).more hb.size)
      have HREF : Hid (∀ W, Calls Tryd.prog 9 #[.string (tx ps.flatten)] W fun e w' => e = .returned (wv (crc ps.flatten)) ∧ W = w') := fun W => refsum_any _ (by omega) W
      have HTX : Hid (∀ W X, Below w.heap.size w W → X = (W.drew.alloc (.cells (bytesRow (tx ps.flatten) (grownCap W (tx ps.flatten).size 0 5)) 5 ((bytesRow (tx ps.flatten) (grownCap W (tx ps.flatten).size 0 5)).size, (bytesRow (tx ps.flatten) (grownCap W (tx ps.flatten).size 0 5)).size + 1))).alloc (.cells #[.slice (some ⟨W.heap.size, 0, none⟩) (tx ps.flatten).size (grownCap W (tx ps.flatten).size 0 5)] 24) →
          Calls Tryd.prog 8 #[.slice (some ⟨W.heap.size + 1, 0, none⟩) 1 1] X fun e w' => e = .returned (wv (crc ps.flatten)) ∧ X = w') := fun W X hb hX => text_sum ps.flatten (by omega) W (HL.out.below hb) X hX
      generalize tx ps.flatten = s at HREF HTX ⊢
      have hv : wv (crc ps.flatten) = .int .u32 ((crc ps.flatten).toNat : Int) := rfl
      rw [hv] at HSUM HREF HTX
      generalize (crc ps.flatten).toNat = z at HSUM HREF HTX
      clear hv hall hrows hlen HALL
      have hcs := fun (W : World) => run_bytes_of_string (P := Tryd.prog) W 9 24 5 s Tryd.underlying9 Tryd.underlying24 Tryd.underlying5
      go_wp2_with fail
      refine (HF.out _ HL.out).mono ?_
      rintro e w3 ⟨rfl, hb3⟩
      go_wp2_with fail
      refine (HSUM.out _ hb3).mono ?_
      rintro e w' ⟨rfl, rfl⟩
      go_wp2_with fail
      refine (HREF.out _).mono ?_
      rintro e w' ⟨rfl, rfl⟩
      go_wp2_with fail
      refine (HTX.out _ _ hb3 rfl).mono ?_
      rintro e w' ⟨rfl, rfl⟩
      go_wp2_with fail
      refine (HREF.out _).mono ?_
      rintro e w' ⟨rfl, rfl⟩
      go_wp2_with fail
      go_ret
      exact ⟨rfl, (hb3.drew.alloc (by have := hb3.size; simp; omega) _).alloc (by have := hb3.size; simp; omega) _⟩

/-- **CrcSums answers true, at any parts.** -/
theorem sums_all (L : Option Addr) (m d : Nat) (vs : List Value) (ps : List (List UInt8)) (w : World) (hl : Laid w) (hr : Reads w w.heap.size 1 L m vs) (hp : ARows w w.heap.size vs ps) :
    Calls Tryd.prog 3 #[.slice L m d] w fun e w' => e = .returned (.bool true) ∧ Below w.heap.size w w' := by
  by_cases h : 20 < m
  · exact sums_long L m d h w hl
  · exact sums_short L m d vs ps (by omega) w hl hr hp
end Go.Proofs.YtbbkbpclhohglaaDoor
