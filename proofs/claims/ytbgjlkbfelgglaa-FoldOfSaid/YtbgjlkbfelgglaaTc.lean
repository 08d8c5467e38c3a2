/- The document's All: are records the same? -/
import Derived.Test.YtbgjlkbfelgglaaTa
import Derived.Test.YtbgjlkbfelgglaaRj0
namespace Go.Proofs.Ytbgjlkbfelgglaa
open Go.RowKit

theorem say_eq {x y : Rw} : x.say = y.say ↔ x.r = y.r ∧ x.l = y.l := by
  unfold Rw.say
  exact Prod.mk.injEq .. ▸ Iff.rfl

set_option maxRecDepth 100000 in
set_option maxHeartbeats 2000000 in
theorem rall_any (A B : Option Addr) (n m c d : Nat) (xs ys : List Rw) (hn : n ≤ maxLen) (hm : m ≤ maxLen) (hs : ∀ x ∈ xs, x.n ≤ 1000000) (w : World) (h1 : Recs w w.heap.size A n xs) (h2 : Recs w w.heap.size B m ys) :
    Calls Try.prog 11 #[.slice A n c, .slice B m d] w fun e w' => Tells (xs.map Rw.say = ys.map Rw.say) e ∧ Below w.heap.size w w' := by
  have HL1 : Hid (xs.length = n) := h1.len
  have HL2 : Hid (ys.length = m) := h2.len
  have H1 := Lib.hid h1
  have H2 := Lib.hid h2
  have HS := Lib.hid hs
  unfold maxLen at hn hm
  clear h1 h2 hs
  by_cases hnm : n = m
  · subst hnm
    have hd0 : decide ((n : Int) = (n : Int)) = true := by simp
    have hd1 : ((n : Int) != (n : Int)) = false := by simp
    go_enter Try.func11, Try.ntmps11
    go_wp2
    go_loopw [5] (fun idx wr => ∃ i : Nat, i ≤ n ∧ idx = .int .i64 (i : Int) ∧ (xs.take i).map Rw.say = (ys.take i).map Rw.say ∧ Below w.heap.size w wr) (fun idx wr => n - (intOf idx).toNat)
    case atStart => exact ⟨0, by omega, rfl, by simp, Below.refl _ _⟩
    case round =>
      obtain ⟨i, hi, rfl, htk, hb⟩ := hrel
      have HTK := Lib.hid htk
      have HBR := Lib.hid hb
      clear htk
      by_cases hlt : i < n
      · obtain ⟨x, hx⟩ : ∃ x, xs[i]? = some x := ⟨_, List.getElem?_eq_getElem (by rw [HL1.out]; exact hlt)⟩
        obtain ⟨y, hy⟩ : ∃ y, ys[i]? = some y := ⟨_, List.getElem?_eq_getElem (by rw [HL2.out]; exact hlt)⟩
        have hmx := List.mem_of_getElem? hx
        have hmy := List.mem_of_getElem? hy
        have hnx := HS.out x hmx
        have hrx := (H1.out.2 x hmx).1
        have hry := (H2.out.2 y hmy).1
        obtain ⟨ad, rfl, hab, k0, k1, k2, k3, k4, k5, k6⟩ := recs_cells (H1.out.below hb).1 i x hx
        obtain ⟨ad', rfl, hab', j0, j1, j2, j3, j4, j5, j6⟩ := recs_cells (H2.out.below hb).1 i y hy
        have HX : Hid (x.r = y.r ∧ x.l = y.l → (xs.take (i + 1)).map Rw.say = (ys.take (i + 1)).map Rw.say) := fun he => by
          rw [List.take_add_one, List.take_add_one, hx, hy, List.map_append, List.map_append, HTK.out]
          simp [say_eq.2 he]
        have HNO : Hid (¬ (x.r = y.r ∧ x.l = y.l) → ¬ xs.map Rw.say = ys.map Rw.say) := fun he h => he (say_eq.1 (by
          have e := congrArg (fun l : List (Rc × List Dp) => l[i]?) h
          simp only [List.getElem?_map, hx, hy, Option.map_some] at e
          exact Option.some.inj e))
        obtain ⟨⟨k, t, u, o, m, g⟩, A4, n4, c4, l4⟩ := x
        obtain ⟨⟨kb, tb, ub, ob, mb, gb⟩, B4, m4, d4, l5⟩ := y
        simp only at k0 k1 k2 k3 k4 k5 k6 j0 j1 j2 j3 j4 j5 j6 hnx hrx hry
        have HRX := Lib.hid hrx
        have HRY := Lib.hid hry
        have HNX := Lib.hid hnx
        have hi0 : (0 : Int) ≤ (i : Int) := by omega
        have hi1 : (i : Int) < (n : Int) := by omega
        clear hx hy hmx hmy hnx hrx hry hb
        go_wp2_with fail
        by_cases he : (⟨k, t, u, o, m, g⟩ : Rc) = ⟨kb, tb, ub, ob, mb, gb⟩ ∧ l4 = l5
        · have HE := Lib.hid he
          clear he
          refine wp_region_held (S := fun v => Below wr.heap.size wr v) (by kernel_rfl) ?_
          have hS : Below wr.heap.size wr wr.drew := (Below.refl _ wr).drew
          refine h_take 0 (.slice (some ad) n c) rfl (by kernel_rfl) (by kernel_rfl) (by kernel_rfl) (fun _ _ _ h => h) (by kernel_rfl) hS (fun _ _ => by kernel_rfl) ?_
          refine h_take 1 (.int .i64 (i : Int)) rfl (by kernel_rfl) (by kernel_rfl) (by kernel_rfl) (fun _ _ _ h => h) (by kernel_rfl) hS (fun _ _ => by kernel_rfl) ?_
          refine h_take 2 (.pointer (some (ad.add (i * 7)))) rfl (by kernel_rfl) (by kernel_rfl) (by kernel_rfl) (fun _ _ _ h => h) (by kernel_rfl) hS (by intro v hv; go_simp) ?_
          refine h_take 3 (.agg #[.int .i64 k, .string (tx t), .int .u64 u, .slice A4 n4 c4, .int .u64 o, .int .u64 m, .string (tx g)]) rfl (by kernel_rfl) (by kernel_rfl) (by kernel_rfl) (fun _ _ _ h => h) (by kernel_rfl) hS (by intro v hv; have q0 := (hv.cell (p := ad.add (i * 7)) (show (ad.add (i * 7)).block < _ by rw [block_of_add]; have h1 := HBR.out.size; omega)).trans k0; have q1 := (hv.cell (p := ⟨(ad.add (i * 7)).block, (ad.add (i * 7)).off + 1, none⟩) (show (ad.add (i * 7)).block < _ by rw [block_of_add]; have h1 := HBR.out.size; omega)).trans k1; have q2 := (hv.cell (p := ⟨(ad.add (i * 7)).block, (ad.add (i * 7)).off + 2, none⟩) (show (ad.add (i * 7)).block < _ by rw [block_of_add]; have h1 := HBR.out.size; omega)).trans k2; have q3 := (hv.cell (p := ⟨(ad.add (i * 7)).block, (ad.add (i * 7)).off + 3, none⟩) (show (ad.add (i * 7)).block < _ by rw [block_of_add]; have h1 := HBR.out.size; omega)).trans k3; have q4 := (hv.cell (p := ⟨(ad.add (i * 7)).block, (ad.add (i * 7)).off + 4, none⟩) (show (ad.add (i * 7)).block < _ by rw [block_of_add]; have h1 := HBR.out.size; omega)).trans k4; have q5 := (hv.cell (p := ⟨(ad.add (i * 7)).block, (ad.add (i * 7)).off + 5, none⟩) (show (ad.add (i * 7)).block < _ by rw [block_of_add]; have h1 := HBR.out.size; omega)).trans k5; have q6 := (hv.cell (p := ⟨(ad.add (i * 7)).block, (ad.add (i * 7)).off + 6, none⟩) (show (ad.add (i * 7)).block < _ by rw [block_of_add]; have h1 := HBR.out.size; omega)).trans k6; go_simp; try rfl) ?_
          refine h_take 4 (.slice (some ad') n d) rfl (by kernel_rfl) (by kernel_rfl) (by kernel_rfl) (fun _ _ _ h => h) (by kernel_rfl) hS (fun _ _ => by kernel_rfl) ?_
          refine h_take 5 (.int .i64 (i : Int)) rfl (by kernel_rfl) (by kernel_rfl) (by kernel_rfl) (fun _ _ _ h => h) (by kernel_rfl) hS (fun _ _ => by kernel_rfl) ?_
          refine h_take 6 (.pointer (some (ad'.add (i * 7)))) rfl (by kernel_rfl) (by kernel_rfl) (by kernel_rfl) (fun _ _ _ h => h) (by kernel_rfl) hS (by intro v hv; go_simp) ?_
          refine h_take 7 (.agg #[.int .i64 kb, .string (tx tb), .int .u64 ub, .slice B4 m4 d4, .int .u64 ob, .int .u64 mb, .string (tx gb)]) rfl (by kernel_rfl) (by kernel_rfl) (by kernel_rfl) (fun _ _ _ h => h) (by kernel_rfl) hS (by intro v hv; have q0 := (hv.cell (p := ad'.add (i * 7)) (show (ad'.add (i * 7)).block < _ by rw [block_of_add]; have h1 := HBR.out.size; omega)).trans j0; have q1 := (hv.cell (p := ⟨(ad'.add (i * 7)).block, (ad'.add (i * 7)).off + 1, none⟩) (show (ad'.add (i * 7)).block < _ by rw [block_of_add]; have h1 := HBR.out.size; omega)).trans j1; have q2 := (hv.cell (p := ⟨(ad'.add (i * 7)).block, (ad'.add (i * 7)).off + 2, none⟩) (show (ad'.add (i * 7)).block < _ by rw [block_of_add]; have h1 := HBR.out.size; omega)).trans j2; have q3 := (hv.cell (p := ⟨(ad'.add (i * 7)).block, (ad'.add (i * 7)).off + 3, none⟩) (show (ad'.add (i * 7)).block < _ by rw [block_of_add]; have h1 := HBR.out.size; omega)).trans j3; have q4 := (hv.cell (p := ⟨(ad'.add (i * 7)).block, (ad'.add (i * 7)).off + 4, none⟩) (show (ad'.add (i * 7)).block < _ by rw [block_of_add]; have h1 := HBR.out.size; omega)).trans j4; have q5 := (hv.cell (p := ⟨(ad'.add (i * 7)).block, (ad'.add (i * 7)).off + 5, none⟩) (show (ad'.add (i * 7)).block < _ by rw [block_of_add]; have h1 := HBR.out.size; omega)).trans j5; have q6 := (hv.cell (p := ⟨(ad'.add (i * 7)).block, (ad'.add (i * 7)).off + 6, none⟩) (show (ad'.add (i * 7)).block < _ by rw [block_of_add]; have h1 := HBR.out.size; omega)).trans j6; go_simp; try rfl) ?_
          refine h_one 8 rfl (by kernel_rfl) (by kernel_rfl) (fun K hK => ?_)
          go_simp
          refine (rsame_any ⟨k, t, u, o, m, g⟩ ⟨kb, tb, ub, ob, mb, gb⟩ A4 B4 n4 m4 c4 d4 l4 l5 HNX.out _ ((HRX.out.below HBR.out.drew).more HBR.out.drew.size) ((HRY.out.below HBR.out.drew).more HBR.out.drew.size)).mono ?_
          rintro e w3 ⟨q, hq, rfl, hb3⟩
          obtain rfl : q = true := hq.2 HE.out
          have HB3 := Lib.hid (HBR.out.drew.trans (hb3.mono HBR.out.drew.size))
          have hS3 : Below wr.heap.size wr w3 := hS.trans (hb3.mono hS.size)
          clear hb3 hq
          refine hK _ _ hS3 ?_
          clear hK K
          refine h_take 9 (.bool false) rfl (by kernel_rfl) (by kernel_rfl) (by kernel_rfl) (fun _ _ _ h => h) (by kernel_rfl) hS3 (by intro v hv; go_simp) ?_
          refine wpAnyH_done (by kernel_rfl) ?_ _
          go_simp
          go_wp2
          exact ⟨⟨i + 1, by omega, by go_num, HX.out HE.out, HB3.out⟩, by simp [intOf]; omega⟩
        · have HE := Lib.hid he
          clear he
          refine wp_region_held (S := fun v => Below wr.heap.size wr v) (by kernel_rfl) ?_
          have hS : Below wr.heap.size wr wr.drew := (Below.refl _ wr).drew
          refine h_take 0 (.slice (some ad) n c) rfl (by kernel_rfl) (by kernel_rfl) (by kernel_rfl) (fun _ _ _ h => h) (by kernel_rfl) hS (fun _ _ => by kernel_rfl) ?_
          refine h_take 1 (.int .i64 (i : Int)) rfl (by kernel_rfl) (by kernel_rfl) (by kernel_rfl) (fun _ _ _ h => h) (by kernel_rfl) hS (fun _ _ => by kernel_rfl) ?_
          refine h_take 2 (.pointer (some (ad.add (i * 7)))) rfl (by kernel_rfl) (by kernel_rfl) (by kernel_rfl) (fun _ _ _ h => h) (by kernel_rfl) hS (by intro v hv; go_simp) ?_
          refine h_take 3 (.agg #[.int .i64 k, .string (tx t), .int .u64 u, .slice A4 n4 c4, .int .u64 o, .int .u64 m, .string (tx g)]) rfl (by kernel_rfl) (by kernel_rfl) (by kernel_rfl) (fun _ _ _ h => h) (by kernel_rfl) hS (by intro v hv; have q0 := (hv.cell (p := ad.add (i * 7)) (show (ad.add (i * 7)).block < _ by rw [block_of_add]; have h1 := HBR.out.size; omega)).trans k0; have q1 := (hv.cell (p := ⟨(ad.add (i * 7)).block, (ad.add (i * 7)).off + 1, none⟩) (show (ad.add (i * 7)).block < _ by rw [block_of_add]; have h1 := HBR.out.size; omega)).trans k1; have q2 := (hv.cell (p := ⟨(ad.add (i * 7)).block, (ad.add (i * 7)).off + 2, none⟩) (show (ad.add (i * 7)).block < _ by rw [block_of_add]; have h1 := HBR.out.size; omega)).trans k2; have q3 := (hv.cell (p := ⟨(ad.add (i * 7)).block, (ad.add (i * 7)).off + 3, none⟩) (show (ad.add (i * 7)).block < _ by rw [block_of_add]; have h1 := HBR.out.size; omega)).trans k3; have q4 := (hv.cell (p := ⟨(ad.add (i * 7)).block, (ad.add (i * 7)).off + 4, none⟩) (show (ad.add (i * 7)).block < _ by rw [block_of_add]; have h1 := HBR.out.size; omega)).trans k4; have q5 := (hv.cell (p := ⟨(ad.add (i * 7)).block, (ad.add (i * 7)).off + 5, none⟩) (show (ad.add (i * 7)).block < _ by rw [block_of_add]; have h1 := HBR.out.size; omega)).trans k5; have q6 := (hv.cell (p := ⟨(ad.add (i * 7)).block, (ad.add (i * 7)).off + 6, none⟩) (show (ad.add (i * 7)).block < _ by rw [block_of_add]; have h1 := HBR.out.size; omega)).trans k6; go_simp; try rfl) ?_
          refine h_take 4 (.slice (some ad') n d) rfl (by kernel_rfl) (by kernel_rfl) (by kernel_rfl) (fun _ _ _ h => h) (by kernel_rfl) hS (fun _ _ => by kernel_rfl) ?_
          refine h_take 5 (.int .i64 (i : Int)) rfl (by kernel_rfl) (by kernel_rfl) (by kernel_rfl) (fun _ _ _ h => h) (by kernel_rfl) hS (fun _ _ => by kernel_rfl) ?_
          refine h_take 6 (.pointer (some (ad'.add (i * 7)))) rfl (by kernel_rfl) (by kernel_rfl) (by kernel_rfl) (fun _ _ _ h => h) (by kernel_rfl) hS (by intro v hv; go_simp) ?_
          refine h_take 7 (.agg #[.int .i64 kb, .string (tx tb), .int .u64 ub, .slice B4 m4 d4, .int .u64 ob, .int .u64 mb, .string (tx gb)]) rfl (by kernel_rfl) (by kernel_rfl) (by kernel_rfl) (fun _ _ _ h => h) (by kernel_rfl) hS (by intro v hv; have q0 := (hv.cell (p := ad'.add (i * 7)) (show (ad'.add (i * 7)).block < _ by rw [block_of_add]; have h1 := HBR.out.size; omega)).trans j0; have q1 := (hv.cell (p := ⟨(ad'.add (i * 7)).block, (ad'.add (i * 7)).off + 1, none⟩) (show (ad'.add (i * 7)).block < _ by rw [block_of_add]; have h1 := HBR.out.size; omega)).trans j1; have q2 := (hv.cell (p := ⟨(ad'.add (i * 7)).block, (ad'.add (i * 7)).off + 2, none⟩) (show (ad'.add (i * 7)).block < _ by rw [block_of_add]; have h1 := HBR.out.size; omega)).trans j2; have q3 := (hv.cell (p := ⟨(ad'.add (i * 7)).block, (ad'.add (i * 7)).off + 3, none⟩) (show (ad'.add (i * 7)).block < _ by rw [block_of_add]; have h1 := HBR.out.size; omega)).trans j3; have q4 := (hv.cell (p := ⟨(ad'.add (i * 7)).block, (ad'.add (i * 7)).off + 4, none⟩) (show (ad'.add (i * 7)).block < _ by rw [block_of_add]; have h1 := HBR.out.size; omega)).trans j4; have q5 := (hv.cell (p := ⟨(ad'.add (i * 7)).block, (ad'.add (i * 7)).off + 5, none⟩) (show (ad'.add (i * 7)).block < _ by rw [block_of_add]; have h1 := HBR.out.size; omega)).trans j5; have q6 := (hv.cell (p := ⟨(ad'.add (i * 7)).block, (ad'.add (i * 7)).off + 6, none⟩) (show (ad'.add (i * 7)).block < _ by rw [block_of_add]; have h1 := HBR.out.size; omega)).trans j6; go_simp; try rfl) ?_
          refine h_one 8 rfl (by kernel_rfl) (by kernel_rfl) (fun K hK => ?_)
          go_simp
          refine (rsame_any ⟨k, t, u, o, m, g⟩ ⟨kb, tb, ub, ob, mb, gb⟩ A4 B4 n4 m4 c4 d4 l4 l5 HNX.out _ ((HRX.out.below HBR.out.drew).more HBR.out.drew.size) ((HRY.out.below HBR.out.drew).more HBR.out.drew.size)).mono ?_
          rintro e w3 ⟨q, hq, rfl, hb3⟩
          obtain rfl : q = false := by rw [← Bool.not_eq_true, hq]; exact HE.out
          have HB3 := Lib.hid (HBR.out.drew.trans (hb3.mono HBR.out.drew.size))
          have hS3 : Below wr.heap.size wr w3 := hS.trans (hb3.mono hS.size)
          clear hb3 hq
          refine hK _ _ hS3 ?_
          clear hK K
          refine h_take 9 (.bool true) rfl (by kernel_rfl) (by kernel_rfl) (by kernel_rfl) (fun _ _ _ h => h) (by kernel_rfl) hS3 (by intro v hv; go_simp) ?_
          refine wpAnyH_done (by kernel_rfl) ?_ _
          go_simp
          go_wp2
          go_ret
          exact ⟨tells_false (HNO.out HE.out), HB3.out⟩
      · obtain rfl : i = n := by omega
        have htk := HTK.out
        rw [List.take_of_length_le (by rw [HL1.out]; omega), List.take_of_length_le (by rw [HL2.out]; omega)] at htk
        have HTK2 := Lib.hid htk
        clear htk hb
        go_wp2
        go_ret
        exact ⟨tells_true HTK2.out, HBR.out⟩
  · have hd0 : decide ((n : Int) = (m : Int)) = false := decide_eq_false (by omega)
    have hd1 : ((n : Int) != (m : Int)) = true := by rw [bne_iff_ne]; omega
    have HNE : Hid (¬ xs.map Rw.say = ys.map Rw.say) := fun h => hnm (by have := congrArg List.length h; simpa [HL1.out, HL2.out] using this)
    go_enter Try.func11, Try.ntmps11
    go_wp2
    go_ret
    exact ⟨tells_false HNE.out, Below.refl _ _⟩

end Go.Proofs.Ytbgjlkbfelgglaa
