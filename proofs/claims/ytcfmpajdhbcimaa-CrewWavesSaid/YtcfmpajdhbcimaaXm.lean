/- Layer 21's Great. -/
import Derived.Test.YtcfmpajdhbcimaaXl
namespace Go.Proofs.Ytcfmpajdhbcimaa
open Go.RowKit Go.Sort

/-- A node, a graph that is not too great. -/
def GSm1 (x : Nd) : Prop := x.deps.length ≤ 30 ∧ x.name.length ≤ 100 ∧ ∀ d ∈ x.deps, d.length ≤ 100
def GSm (l : List Nd) : Prop := (∀ x ∈ l, GSm1 x) ∧ l.length ≤ 80
theorem gsm_step {l : List Nd} {i : Nat} {x : Nd} (hx : l[i]? = some x) (h : ∀ y ∈ l.take i, GSm1 y) (hd : GSm1 x) : ∀ y ∈ l.take (i + 1), GSm1 y := fun y hy => by
  rw [List.take_add_one, hx, List.mem_append] at hy
  rcases hy with hy | hy
  · exact h y hy
  · obtain rfl : y = x := by simpa using hy
    exact hd

set_option maxRecDepth 100000 in
set_option maxHeartbeats 4000000 in
theorem ggreat_any (A : Option Addr) (n c : Nat) (xs : List Nw) (hn : n ≤ maxLen) (hok : ∀ x ∈ xs, NFits x.d ∧ x.n ≤ maxLen) (w : World) (h : Nodes w w.heap.size A n xs) :
    Calls Try.prog 4 #[.slice A n c] w fun e w' => Tells (¬ GSm (nds xs)) e ∧ Below w.heap.size w w' := by
  have HL : Hid (xs.length = n) := h.len
  have HLD : Hid ((nds xs).length = n) := by show _ = _; rw [nds_len]; exact h.len
  have HNS := Lib.hid h
  have HF := Lib.hid hok
  unfold maxLen at hn
  have hn2 : (n : Int) ≤ 9223372036854775807 := by omega
  clear h hok
  go_enter Try.func4, Try.ntmps4
  go_wp2
  go_loopw [9] (fun idx wr => ∃ i : Nat, i ≤ n ∧ idx = .int .i64 (i : Int) ∧ (∀ y ∈ (nds xs).take i, GSm1 y) ∧ Below w.heap.size w wr) (fun idx _ => n - (intOf idx).toNat)
  case atStart => exact ⟨0, by omega, rfl, by simp, Below.refl _ _⟩
  case round =>
    obtain ⟨i, hi, rfl, hall, hb⟩ := hrel
    have HALL := Lib.hid hall
    have HB := Lib.hid hb
    by_cases hlt : i < n
    · obtain ⟨x, hx⟩ : ∃ x, xs[i]? = some x := ⟨_, List.getElem?_eq_getElem (by rw [HL.out]; exact hlt)⟩
      have hnr := (HNS.out.below hb)
      obtain ⟨ad, rfl, hab, k0, k1, k2, k3⟩ := nodes_cells hnr.1 i x hx
      have hmx := List.mem_of_getElem? hx
      have hfx := HF.out x hmx
      have hin : Reads wr wr.heap.size 1 x.A x.n (x.d.deps.map tsv) := Reads.more (hnr.2 x hmx) hb.size
      have HDL : Hid (x.d.deps.length = x.n) := (hnr.2 x hmx).len
      have HXD := Lib.hid (nds_at hx)
      obtain ⟨⟨nm, sc, ru, ds⟩, xA, xn, xc⟩ := x
      simp only at k0 k1 k2 k3 hfx hin HXD HDL
      have hnew := one_new wr (.cells #[.string (tx nm), .bool sc, .int .u64 ru, .slice xA xn xc] 36)
      have HNEW := Lib.hid hnew
      have p0 := at_cell (i := 0) hnew rfl
      have p1 := at_cell (i := 1) hnew rfl
      have p2 := at_cell (i := 2) hnew rfl
      have p3 := at_cell (i := 3) hnew rfl
      have hal : Below wr.heap.size wr (wr.alloc (.cells #[.string (tx nm), .bool sc, .int .u64 ru, .slice xA xn xc] 36)) := (Below.refl wr.heap.size wr).alloc (Nat.le_refl _) (.cells #[.string (tx nm), .bool sc, .int .u64 ru, .slice xA xn xc] 36)
      have HB3 := Lib.hid (hb.trans (hal.mono hb.size))
      have HIN : Hid (Reads (wr.alloc (.cells #[.string (tx nm), .bool sc, .int .u64 ru, .slice xA xn xc] 36)) wr.heap.size 1 xA xn (ds.map tsv)) := hin.below hal
      have HDF := Lib.hid hfx.1.2
      have hs0 := tx_size0 nm
      have hsl := hfx.1.1
      have hxn := hfx.2
      obtain ⟨q, hq⟩ : ∃ q, q = nm.length := ⟨_, rfl⟩
      have HQ := Lib.hid hq
      simp only at hsl
      rw [← hq] at hs0 hsl
      unfold maxLen at hsl hxn
      have hi0 : (0 : Int) ≤ (i : Int) := by omega
      have hi1 : (i : Int) < (n : Int) := by omega
      have HGM : Hid (GSm (nds xs) → GSm1 ⟨nm, sc, ru, ds⟩) := fun h => h.1 _ (List.mem_of_getElem? HXD.out)
      clear hx hnr hmx hfx hin hnew hal hb hall hq
      by_cases c1 : xn ≤ 30
      · have d1 : decide ((xn : Int) > 30) = false := decide_eq_false (by omega)
        by_cases c2 : q ≤ 100
        · have d2 : decide ((q : Int) > 100) = false := decide_eq_false (by omega)
          go_wp2
          go_loopw [26] (fun v7 w3 => ∃ (j : Nat), j ≤ xn ∧ v7 = .int .i64 (j : Int) ∧ (∀ d ∈ ds.take j, d.length ≤ 100) ∧ (wr.alloc (.cells #[.string (tx nm), .bool sc, .int .u64 ru, .slice xA xn xc] 36)) = w3) (fun v7 _ => xn - (intOf v7).toNat)
          case atStart => exact ⟨0, by omega, rfl, by simp, rfl⟩
          case round =>
            obtain ⟨j, hj, rfl, hdd, rfl⟩ := hrel
            have HDD := Lib.hid hdd
            clear hdd
            by_cases hlt3 : j < xn
            · obtain ⟨s, hs⟩ : ∃ s, ds[j]? = some s := ⟨_, List.getElem?_eq_getElem (by rw [HDL.out]; exact hlt3)⟩
              obtain ⟨ax, sv, rfl, hxb, hsv, hsc⟩ := HIN.out.at_ hlt3
              obtain rfl : sv = tsv s := by rw [List.getElem?_map, hs] at hsv; simpa using hsv.symm
              unfold tsv at hsc
              have HTK : Hid (ds.take (j + 1) = ds.take j ++ [s]) := by show _ = _; rw [List.take_add_one, hs]; rfl
              have HSM := Lib.hid (List.mem_of_getElem? hs)
              have hj0 : (0 : Int) ≤ (j : Int) := by omega
              have hj1 : (j : Int) < (xn : Int) := by omega
              have hss := tx_size0 s
              have hsl2 := HDF.out s HSM.out
              obtain ⟨p, hp⟩ : ∃ p, p = s.length := ⟨_, rfl⟩
              have HP := Lib.hid hp
              rw [← hp] at hss hsl2
              unfold maxLen at hsl2
              clear hs hsv hp
              by_cases c3 : p ≤ 100
              · have d3 : decide ((p : Int) > 100) = false := decide_eq_false (by omega)
                have HD2 : Hid (∀ d ∈ ds.take (j + 1), d.length ≤ 100) := fun d hd => by
                  rw [HTK.out] at hd
                  rcases List.mem_append.1 hd with hd | hd
                  · exact HDD.out d hd
                  · rw [List.mem_singleton.1 hd, ← HP.out]; exact c3
                go_wp2
                exact ⟨⟨j + 1, by omega, by go_num, HD2.out, by first | rfl | trivial⟩, by simp [intOf]; omega⟩
              · have d3 : decide ((p : Int) > 100) = true := decide_eq_true (by omega)
                have HNO : Hid (¬ GSm (nds xs)) := fun h => c3 (by rw [HP.out]; exact (HGM.out h).2.2 s HSM.out)
                go_wp2
                go_ret
                exact ⟨tells_true HNO.out, HB3.out⟩
            · obtain rfl : xn = j := by omega
              rw [List.take_of_length_le (by rw [HDL.out]; omega)] at HDD
              have HA2 := Lib.hid (gsm_step HXD.out HALL.out ⟨by rw [HDL.out]; exact c1, by show nm.length ≤ 100; rw [← HQ.out]; exact c2, HDD.out⟩)
              go_wp2
              exact ⟨⟨i + 1, by omega, by go_num, HA2.out, HB3.out⟩, by simp [intOf]; omega⟩
        · have d2 : decide ((q : Int) > 100) = true := decide_eq_true (by omega)
          have HNO : Hid (¬ GSm (nds xs)) := fun h => c2 (by rw [HQ.out]; exact (HGM.out h).2.1)
          go_wp2
          go_ret
          exact ⟨tells_true HNO.out, HB3.out⟩
      · have d1 : decide ((xn : Int) > 30) = true := decide_eq_true (by omega)
        have HNO : Hid (¬ GSm (nds xs)) := fun h => c1 (by rw [← HDL.out]; exact (HGM.out h).1)
        go_wp2
        go_ret
        exact ⟨tells_true HNO.out, HB3.out⟩
    · obtain rfl : n = i := by omega
      rw [List.take_of_length_le (by rw [HLD.out]; omega)] at HALL
      clear hb hall
      by_cases c1 : n ≤ 80
      · have d1 : decide ((n : Int) > 80) = false := decide_eq_false (by omega)
        have HNO : Hid (¬ ¬ GSm (nds xs)) := fun h => h ⟨HALL.out, by rw [HLD.out]; exact c1⟩
        have END : Hid (∀ b : Bool, b = false → Tells (¬ GSm (nds xs)) (.returned (.bool b))) := fun b h => h ▸ tells_false HNO.out
        go_wp2
        go_ret
        exact ⟨END.out _ (by first | rfl | (simp; omega)), HB.out⟩
      · have d1 : decide ((n : Int) > 80) = true := decide_eq_true (by omega)
        have HNO : Hid (¬ GSm (nds xs)) := fun h => c1 (by rw [← HLD.out]; exact h.2)
        have END : Hid (∀ b : Bool, b = true → Tells (¬ GSm (nds xs)) (.returned (.bool b))) := fun b h => h ▸ tells_true HNO.out
        go_wp2
        go_ret
        exact ⟨END.out _ (by first | rfl | (simp; omega)), HB.out⟩

end Go.Proofs.Ytcfmpajdhbcimaa
