/- escape.write, escape.Put. -/
import Derived.Laws.BitsLemmas
import Derived.Lib.ConvBytes
import Derived.OrdersHeld
import Derived.Test.YthpnfdnhaphfgaaDoorEc
namespace Go.Proofs.YthpnfdnhaphfgaaDoor
open Go.RowKit

/-- What a conversion of a text to bytes leaves. -/
theorem bytes_world (w : World) (l : List UInt8) : ∃ (X : World) (cap : Nat), (convert 9 53 (.string (tx l))).run Tryd.prog w = .ok (.slice (some ⟨w.heap.size, 0, none⟩) l.length cap) X ∧ Below w.heap.size w X ∧ X.heap.size = w.heap.size + 1 ∧ ∀ (k : Nat) (b : UInt8), l[k]? = some b → X.cell? ⟨w.heap.size, k, none⟩ = some (bv b) := by
  have hcv := Lib.run_convert_string_bytes (P := Tryd.prog) w 9 53 5 (tx l) Tryd.underlying9 Tryd.underlying53 Tryd.underlying5
  rw [tx_size] at hcv
  refine ⟨_, _, hcv, ⟨rfl, rfl, rfl, by rw [Lib.bytesWorld_size]; omega, fun k hk => Lib.bytesWorld_at_old w _ _ k hk⟩, Lib.bytesWorld_size _ _ _, fun k b hk => ?_⟩
  have hlt : k < l.length := (List.getElem?_eq_some_iff.1 hk).1
  have hn := Lib.bytesWorld_at_new w 5 (tx l)
  have hc : (Lib.bytesCells w 5 (tx l))[k]? = some (bv b) := by
    unfold Lib.bytesCells
    rw [Array.getElem?_append_left (by simp [tx]; exact hlt)]
    have h2 : l[k] = b := by rw [List.getElem?_eq_getElem hlt] at hk; exact Option.some.inj hk
    simp [tx, hlt, h2, bv]
  simp [World.cell?, hn, hc]

/-- At the head of a round of write. -/
def WRel (all : Bool) (l acc : List UInt8) (base bx G : Nat) (X : World) (idx : Value) (wr : World) : Prop :=
  ∃ i : Nat, i ≤ l.length ∧ idx = .int .i64 (i : Int) ∧ Bx wr base bx G (acc ++ (l.take i).flatMap (sgn all)) ∧ Turn (fun k => base ≤ k ∧ k ≠ G) X wr

theorem flat_snoc {all : Bool} {l : List UInt8} {i : Nat} {b : UInt8} (h : l[i]? = some b) : (l.take (i + 1)).flatMap (sgn all) = (l.take i).flatMap (sgn all) ++ sgn all b := by
  rw [List.take_add_one, h, List.flatMap_append]; simp

set_option maxRecDepth 100000 in
set_option maxHeartbeats 1000000 in
theorem write_any0 (all : Bool) (fn : Nat) (hfn : fn = if all then 61 else 62) (l acc : List UInt8) (hl : l.length ≤ 1000) (hacc : acc.length ≤ 1000) (base bx : Nat) (w : World) (hB : Bx w base bx w.heap.size acc) :
    Calls Tryd.prog 47 #[.string (tx l), .func (.func fn) #[] #[], .func (.func 49) #[] #[.pointer (some ⟨bx, 0, none⟩)]] w fun e w' => e = .returned (.tuple #[]) ∧ Bx w' base bx w.heap.size (acc ++ l.flatMap (sgn all)) ∧ Below base w w' := by
  obtain ⟨X, cap, hcv, hbX, hXs, hcell⟩ := bytes_world w l
  have hbx := hB.lt
  have hbase := hB.1
  have HBX := Lib.hid (hB.below hbX)
  obtain ⟨n, hn⟩ : ∃ n, n = l.length := ⟨_, rfl⟩
  rw [← hn] at hcv hl
  have HN := Lib.hid hn
  have HXS := Lib.hid hXs
  have HBL := Lib.hid hbX
  have HC := Lib.hid hcell
  have HFN := Lib.hid hfn
  clear hfn hB hn hXs hbX hcell
  go_enter Tryd.func47, Tryd.ntmps47
  go_wp2
  clear hcv
  go_loopw [11] (fun idx wr => WRel all l acc base bx w.heap.size X idx wr) (fun idx wr => n - (intOf idx).toNat)
  case atStart => exact ⟨0, by omega, rfl, by simpa using HBX.out, Turn.refl _ _⟩
  case round =>
    obtain ⟨i, hi, rfl, hbx2, htu⟩ := hrel
    rw [← HN.out] at hi
    by_cases hlt : i < n
    · obtain ⟨b, hb⟩ : ∃ b, l[i]? = some b := ⟨_, List.getElem?_eq_getElem (by rw [← HN.out]; exact hlt)⟩
      have hsz : w.heap.size < wr.heap.size := by have h1 := htu.2.2.2.1; rw [HXS.out] at h1; omega
      have k0 : wr.cell? ⟨w.heap.size, i, none⟩ = some (bv b) := by
        have h1 := htu.2.2.2.2 w.heap.size (by rw [HXS.out]; omega) (fun h => h.2 rfl)
        have h2 := HC.out i b hb
        unfold World.cell? at h2 ⊢
        rw [h1]
        exact h2
      have HS := Lib.hid (flat_snoc (all := all) hb)
      have hfl : ((l.take i).flatMap (sgn all)).length ≤ 3000 := by
        have h1 := flat_len3 all (l.take i)
        rw [List.length_take] at h1
        omega
      have HPUT : Hid (∀ (W : World) (xs : List UInt8) (A : Option Addr) (m c : Nat), m ≤ 10 → Below wr.heap.size wr W → (A = none → c = 0) → Reads W W.heap.size 1 A m (xs.map bv) → sgn all b = xs →
          Calls Tryd.prog 49 #[.slice A m c, .pointer (some ⟨bx, 0, none⟩)] W fun e w' => e = .returned (.tuple #[]) ∧ Bx w' base bx w.heap.size (acc ++ (l.take (i + 1)).flatMap (sgn all)) ∧ Turn (fun k => base ≤ k ∧ k ≠ w.heap.size) X w') := fun W xs A m c hm hb hA hr hx => by
        refine (put1_any base bx w.heap.size _ xs A m c hm (by rw [List.length_append]; omega) (by omega) W (by have := hb.size; omega) (hbx2.below hb) hA hr).mono fun e w' h => ⟨h.1, ?_, ?_⟩
        · rw [HS.out, hx, ← List.append_assoc]; exact h.2.1
        · exact (htu.trans (Turn.of_below hb) (fun _ _ h => h)).trans h.2.2 (fun _ _ h => h)
      have hi0 : (0 : Int) ≤ (i : Int) := by omega
      have hi1 : (i : Int) < (n : Int) := by omega
      unfold bv at k0
      have HK := Lib.hid hb
      clear hb hbx2 htu HC hfl HS HBX
      have hb8 := b.toNat_lt
      by_cases h : all = false ∧ okb b = true
      · obtain ⟨rfl, hok⟩ := h
        have hfn := HFN.out
        rw [if_neg (by decide)] at hfn
        subst hfn
        have hself := fun W => self2_any b W
        rw [hok] at hself
        have HSELF := Lib.hid hself
        have HPU := Lib.hid (HPUT.out (wr.alloc (.cells #[bv b] 5)) [b] (some ⟨wr.heap.size, 0, none⟩) 1 1 (by omega) ((Below.refl _ _).alloc (Nat.le_refl _) _) (fun h => by cases h) (by have h1 := reads_one wr 5 b; rw [show (wr.alloc (.cells #[bv b] 5)).heap.size = wr.heap.size + 1 by simp]; exact h1) (sgn_self hok))
        unfold bv at HPU
        clear hself HPUT hok
        go_wp2_with (first
          | (go_at_call 62; refine (HSELF.out _).mono ?_; rintro e w3 ⟨rfl, rfl⟩)
          | (go_at_call 49; refine HPU.out.mono ?_; rintro e w4 ⟨rfl, hb4, ht4⟩; have HB4 := Lib.hid hb4; have HT4 := Lib.hid ht4; clear hb4 ht4))
        exact ⟨⟨i + 1, by rw [← HN.out]; omega, by go_num, HB4.out, HT4.out⟩, by simp [intOf]; omega⟩
      · have HX := HPUT.out
        rw [sgn_three h] at HX
        have HSELF : Hid (∀ W, Calls Tryd.prog fn #[.int .u8 (b.toNat : Int)] W fun e w' => e = .returned (.bool false) ∧ W = w') := fun W => by
          have hfn := HFN.out
          cases all with
          | true => rw [if_pos rfl] at hfn; subst hfn; exact self1_any b W
          | false =>
            rw [if_neg (by decide)] at hfn
            subst hfn
            have := self2_any b W
            rwa [show okb b = false from by simpa using h] at this
        have H16 := fun W => HX W [92, dig (b.toNat / 16), dig (b.toNat % 16)] (some ⟨wr.heap.size, 0, none⟩) 3 3 (by omega)
        clear HPUT HX h
        have h12 : fn = 61 ∨ fn = 62 := by
          have hfn := HFN.out
          cases all with
          | true => rw [if_pos rfl] at hfn; exact .inl hfn
          | false => rw [if_neg (by decide)] at hfn; exact .inr hfn
        clear HFN
        rcases h12 with rfl | rfl
        · go_wp2_with fail
          refine (HSELF.out _).mono ?_
          rintro e w3 ⟨rfl, rfl⟩
          go_wp2_with fail
          refine wp_region_held (S := fun _ => True) (by kernel_rfl) ?_
          refine h_take 0 (.func (.func 49) #[] #[.pointer (some ⟨bx, 0, none⟩)]) rfl (by kernel_rfl) (by kernel_rfl) (by kernel_rfl) (fun _ _ _ h => h) (by kernel_rfl) trivial (fun _ _ => by kernel_rfl) ?_
          refine h_take 1 (.int .u8 (b.toNat : Int)) rfl (by kernel_rfl) (by kernel_rfl) (by kernel_rfl) (fun _ _ _ h => h) (by kernel_rfl) trivial (fun _ _ => by kernel_rfl) ?_
          refine h_take 2 (.int .u8 ((b.toNat / 16 : Nat) : Int)) rfl (by kernel_rfl) (by kernel_rfl) (by kernel_rfl) (fun _ _ _ h => h) (by kernel_rfl) trivial (by intro v hv; go_simp) ?_
          refine h_take 3 (.int .u8 ((dig (b.toNat / 16)).toNat : Int)) rfl (by kernel_rfl) (by kernel_rfl) (by kernel_rfl) (fun _ _ _ h => h) (by kernel_rfl) trivial (by intro v hv; go_simp; exact digs_ix _ _ (by omega) (by omega) _ _ _) ?_
          refine h_take 4 (.int .u8 (b.toNat : Int)) rfl (by kernel_rfl) (by kernel_rfl) (by kernel_rfl) (fun _ _ _ h => h) (by kernel_rfl) trivial (fun _ _ => by kernel_rfl) ?_
          refine h_take 5 (.int .u8 ((b.toNat % 16 : Nat) : Int)) rfl (by kernel_rfl) (by kernel_rfl) (by kernel_rfl) (fun _ _ _ h => h) (by kernel_rfl) trivial (by intro v hv; go_simp; exact u8_and15 _ (by omega) (by omega)) ?_
          refine h_take 6 (.int .u8 ((dig (b.toNat % 16)).toNat : Int)) rfl (by kernel_rfl) (by kernel_rfl) (by kernel_rfl) (fun _ _ _ h => h) (by kernel_rfl) trivial (by intro v hv; go_simp; exact digs_ix _ _ (by omega) (by omega) _ _ _) ?_
          refine h_one 7 rfl (by kernel_rfl) (by kernel_rfl) (fun K hK => ?_)
          go_simp
          refine hK _ _ trivial ?_
          clear hK K
          refine h_one 8 rfl (by kernel_rfl) (by kernel_rfl) (fun K hK => ?_)
          go_simp
          refine (H16 _ (((Below.refl _ wr).drew).alloc (Nat.le_refl _) _) (fun h => by cases h) ((reads_three wr.drew 5 92 (dig (b.toNat / 16)) (dig (b.toNat % 16))).more (by simp)) (by trivial)).mono ?_
          rintro e w4 ⟨rfl, hb4, ht4⟩
          have HB4 := Lib.hid hb4
          have HT4 := Lib.hid ht4
          clear hb4 ht4
          refine hK _ _ trivial ?_
          clear hK K
          refine wpAnyH_done (by kernel_rfl) ?_ _
          go_simp
          go_wp2
          exact ⟨⟨i + 1, by rw [← HN.out]; omega, by go_num, HB4.out, HT4.out⟩, by simp [intOf]; omega⟩
        · go_wp2_with fail
          refine (HSELF.out _).mono ?_
          rintro e w3 ⟨rfl, rfl⟩
          go_wp2_with fail
          refine wp_region_held (S := fun _ => True) (by kernel_rfl) ?_
          refine h_take 0 (.func (.func 49) #[] #[.pointer (some ⟨bx, 0, none⟩)]) rfl (by kernel_rfl) (by kernel_rfl) (by kernel_rfl) (fun _ _ _ h => h) (by kernel_rfl) trivial (fun _ _ => by kernel_rfl) ?_
          refine h_take 1 (.int .u8 (b.toNat : Int)) rfl (by kernel_rfl) (by kernel_rfl) (by kernel_rfl) (fun _ _ _ h => h) (by kernel_rfl) trivial (fun _ _ => by kernel_rfl) ?_
          refine h_take 2 (.int .u8 ((b.toNat / 16 : Nat) : Int)) rfl (by kernel_rfl) (by kernel_rfl) (by kernel_rfl) (fun _ _ _ h => h) (by kernel_rfl) trivial (by intro v hv; go_simp) ?_
          refine h_take 3 (.int .u8 ((dig (b.toNat / 16)).toNat : Int)) rfl (by kernel_rfl) (by kernel_rfl) (by kernel_rfl) (fun _ _ _ h => h) (by kernel_rfl) trivial (by intro v hv; go_simp; exact digs_ix _ _ (by omega) (by omega) _ _ _) ?_
          refine h_take 4 (.int .u8 (b.toNat : Int)) rfl (by kernel_rfl) (by kernel_rfl) (by kernel_rfl) (fun _ _ _ h => h) (by kernel_rfl) trivial (fun _ _ => by kernel_rfl) ?_
          refine h_take 5 (.int .u8 ((b.toNat % 16 : Nat) : Int)) rfl (by kernel_rfl) (by kernel_rfl) (by kernel_rfl) (fun _ _ _ h => h) (by kernel_rfl) trivial (by intro v hv; go_simp; exact u8_and15 _ (by omega) (by omega)) ?_
          refine h_take 6 (.int .u8 ((dig (b.toNat % 16)).toNat : Int)) rfl (by kernel_rfl) (by kernel_rfl) (by kernel_rfl) (fun _ _ _ h => h) (by kernel_rfl) trivial (by intro v hv; go_simp; exact digs_ix _ _ (by omega) (by omega) _ _ _) ?_
          refine h_one 7 rfl (by kernel_rfl) (by kernel_rfl) (fun K hK => ?_)
          go_simp
          refine hK _ _ trivial ?_
          clear hK K
          refine h_one 8 rfl (by kernel_rfl) (by kernel_rfl) (fun K hK => ?_)
          go_simp
          refine (H16 _ (((Below.refl _ wr).drew).alloc (Nat.le_refl _) _) (fun h => by cases h) ((reads_three wr.drew 5 92 (dig (b.toNat / 16)) (dig (b.toNat % 16))).more (by simp)) (by trivial)).mono ?_
          rintro e w4 ⟨rfl, hb4, ht4⟩
          have HB4 := Lib.hid hb4
          have HT4 := Lib.hid ht4
          clear hb4 ht4
          refine hK _ _ trivial ?_
          clear hK K
          refine wpAnyH_done (by kernel_rfl) ?_ _
          go_simp
          go_wp2
          exact ⟨⟨i + 1, by rw [← HN.out]; omega, by go_num, HB4.out, HT4.out⟩, by simp [intOf]; omega⟩
    · obtain rfl : i = n := by omega
      rw [List.take_of_length_le (by rw [← HN.out]; omega)] at hbx2
      have HB2 := Lib.hid hbx2
      have HT2 := Lib.hid (Turn.below (n0 := base) htu (fun _ h => h.1) (by rw [HXS.out]; omega))
      clear hbx2 htu
      go_wp2
      go_end0
      exact ⟨rfl, HB2.out, (HBL.out.mono (by omega)).trans HT2.out⟩

end Go.Proofs.YthpnfdnhaphfgaaDoor
