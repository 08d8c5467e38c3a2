/- What traces come to, as a state in new memory; fold.Of and fold.Put. -/
import Derived.Test.YtbaokcigfgfoaaaGe
import Derived.Test.YtbaokcigfgfoaaaRk
import Derived.Test.YtbaokcigfgfoaaaShl
namespace Go.Proofs.Ytbaokcigfgfoaaa
open Go.RowKit Go.Maps Go.ChangeMaps Go.WideMaps Go.Sort

theorem sortP : SortP := fun blk off cap ss w hH hb hs => Go.Proofs.Try.slices_Sort_string blk off cap ss w hH hb hs

theorem rws_put (zs S : List Rw) (x y : Rw) : lput (rws (zs ++ x :: S)) (zs.length * 7) y.cells = rws (zs ++ y :: S) := by
  rw [lput_eq _ _ _ (by rw [rws_len, cells_len]; simp; omega), rws_app, rws_cons, rws_app, rws_cons]
  have e : zs.length * 7 = (rws zs).length := (rws_len zs).symm
  rw [e, List.take_left, cells_len, ← cells_len x, ← List.append_assoc, ← List.length_append, ← List.append_assoc (rws zs) x.cells, List.drop_left]
  simp

/-- A state in new memory. -/
def StateIn (w : World) (base : Nat) (A : Option Addr) (n c : Nat) (zs : List Rw) : Prop :=
  w.ownsRow base 36 7 (.slice A n c) n (rws zs) ∧ (A = none → c = 0) ∧ ∀ z ∈ zs, Deps w base z.A z.n z.c z.l

theorem StateIn.less {w : World} {base base' : Nat} {A : Option Addr} {n c : Nat} {zs : List Rw} (h : StateIn w base A n c zs) (hb : base' ≤ base) : StateIn w base' A n c zs := ⟨own_less h.1 hb, h.2.1, fun z hz => deps_less (h.2.2 z hz) hb⟩
/-- What records wants to be gone through: no great rows, and deps that can be read. -/
def Sound (w : World) (S : List Rw) : Prop := ∀ x ∈ S, x.t.length ≤ maxLen ∧ x.n ≤ 1000000 ∧ Reads w w.heap.size 3 x.A x.n (dps x.l) ∧ (x.A = none → x.c = 0)
theorem Sound.below {w w' : World} {S : List Rw} (h : Sound w S) (hb : Below w.heap.size w w') : Sound w' S := fun x hx =>
  ⟨(h x hx).1, (h x hx).2.1, ((h x hx).2.2.1.below hb).more hb.size, (h x hx).2.2.2⟩

set_option maxRecDepth 100000 in
set_option maxHeartbeats 1000000 in
theorem told_any (b N : Nat) (hN : N ≤ 1000000) (S : List Rw) (hS : S.length ≤ 1000000) (w : World) (hd : Sound w S) (h : RMap w b N S) :
    Calls Try.prog 26 #[.map (some b)] w fun e w' => ∃ A c zs, e = .returned (.slice A S.length c) ∧ zs.map Rw.say = S.map Rw.say ∧ StateIn w' w.heap.size A S.length c zs ∧ Below w.heap.size w w' := by
  have HV := Lib.hid (values_any sortP b N hN S (fun x hx => (hd x hx).1) w h)
  have HD := Lib.hid hd
  obtain ⟨n, hn⟩ : ∃ n, n = S.length := ⟨_, rfl⟩
  rw [← hn] at HV hS ⊢
  have HL := Lib.hid hn
  clear hd h hn
  go_enter Try.func26, Try.ntmps26
  go_wp2_with (go_at_call 36; refine HV.out.mono ?_; rintro e w1 ⟨g, rfl, hr1, hb1⟩; have HR1 := Lib.hid hr1; have HB1 := Lib.hid hb1; clear hr1 hb1)
  go_loopw [10] (fun idx wr => ∃ (i : Nat) (zs : List Rw), i ≤ n ∧ idx = .int .i64 (i : Int) ∧ wr.ownsRow w.heap.size 36 7 (.slice (some ⟨g, 0, none⟩) n n) n (rws (zs ++ S.drop i)) ∧ zs.map Rw.say = (S.take i).map Rw.say ∧ (∀ z ∈ zs, Deps wr w.heap.size z.A z.n z.c z.l) ∧ Below w.heap.size w wr) (fun idx _ => n - (intOf idx).toNat)
  case atStart => exact ⟨0, [], by omega, rfl, HR1.out, rfl, by simp, HB1.out⟩
  case round =>
    obtain ⟨i, zs, hi, rfl, hr, hsay, hz, hb⟩ := hrel
    have HR := Lib.hid hr
    have HSAY := Lib.hid hsay
    have HZ := Lib.hid hz
    have HB := Lib.hid hb
    by_cases hlt : i < n
    · obtain ⟨x, hx⟩ : ∃ x, S[i]? = some x := ⟨_, List.getElem?_eq_getElem (by rw [← HL.out]; exact hlt)⟩
      have hzl : zs.length = i := by
        have := congrArg List.length hsay
        simp at this
        have h2 := HL.out
        omega
      have hdr : S.drop i = x :: S.drop (i + 1) := by
        obtain ⟨h1, h2⟩ := List.getElem?_eq_some_iff.1 hx
        rw [← h2, List.getElem_cons_drop]
      have hat : (zs ++ S.drop i)[i]? = some x := by
        rw [hdr, List.getElem?_append_right (by omega), hzl, Nat.sub_self]
        rfl
      have hc := fun k u hu => own_cell hr (i * 7 + k) (rws_at _ i x hat k u hu)
      have hgb := own_block hr g rfl
      have HPUT := Lib.hid (fun y : Rw => rws_put zs (S.drop (i + 1)) x y)
      rw [← hdr, hzl] at HPUT
      have hdx := HD.out x (List.mem_of_getElem? hx)
      have HDX := Lib.hid hdx.2.2.1
      have HSX : Hid (∀ y : Rw, y.say = x.say → (zs ++ [y]).map Rw.say = (S.take (i + 1)).map Rw.say) := fun y hy => by
        rw [List.map_append, HSAY.out, List.take_add_one, hx, List.map_append]
        simp [hy]
      have HTH := Lib.hid (fun (W : World) (h : W.ownsRow w.heap.size 36 7 (.slice (some ⟨g, 0, none⟩) n n) n (rws (zs ++ S.drop i))) => own_there h (i * 7) 7 (by rw [h.1]; omega))
      obtain ⟨⟨k, t, u, o, m, gg⟩, A4, n4, c4, l4⟩ := x
      have k0 := hc 0 _ rfl
      have k1 := hc 1 _ rfl
      have k2 := hc 2 _ rfl
      have k3 := hc 3 _ rfl
      have k4 := hc 4 _ rfl
      have k5 := hc 5 _ rfl
      have k6 := hc 6 _ rfl
      have HCL := Lib.hid (fun W h => rclone_any ⟨k, t, u, o, m, gg⟩ A4 n4 c4 l4 hdx.2.2.2 hdx.2.1 W h)
      unfold rcv rsv at HCL
      simp only [Nat.add_zero] at k0 k1 k2 k3 k4 k5 k6 HCL HDX
      have hi0 : (0 : Int) ≤ (i : Int) := by omega
      have hi1 : (i : Int) < (n : Int) := by omega
      have HB2 := Lib.hid (hb.alloc hb.size (.cells #[.int .i64 k, .string (tx t), .int .u64 u, .slice A4 n4 c4, .int .u64 o, .int .u64 m, .string (tx gg)] 36))
      have HR2 := Lib.hid (hr.alloc (.cells #[.int .i64 k, .string (tx t), .int .u64 u, .slice A4 n4 c4, .int .u64 o, .int .u64 m, .string (tx gg)] 36))
      clear hc hat hdr hzl hx hdx hr hsay hz hb
      go_wp2_with fail
      refine (HCL.out _ ((HDX.out.below HB2.out).more HB2.out.size)).mono ?_
      rintro e w2 ⟨A5, c5, rfl, hd2, hb2⟩
      have HB3 := Lib.hid (HB2.out.trans (hb2.mono HB2.out.size))
      have hr3 := own_below HR2.out hb2
      have HTH2 : Hid (w2.there g (i * 7) (#[.int .i64 k, .string (tx t), .int .u64 u, .slice A5 n4 c5, .int .u64 o, .int .u64 m, .string (tx gg)] : Array Value).size) := HTH.out w2 hr3
      have HST := own_setCells [.int .i64 k, .string (tx t), .int .u64 u, .slice A5 n4 c5, .int .u64 o, .int .u64 m, .string (tx gg)] _ (i * 7) w2 hr3
      have hput := HPUT.out ⟨⟨k, t, u, o, m, gg⟩, A5, n4, c5, l4⟩
      unfold Rw.cells at hput
      simp only at hput
      rw [hput] at HST
      have hz3 : ∀ z ∈ zs, Deps w2 w.heap.size z.A z.n z.c z.l := fun z hz => deps_below (deps_alloc (HZ.out z hz) _) hb2
      have HZ3 : Hid (∀ z ∈ zs ++ [⟨⟨k, t, u, o, m, gg⟩, A5, n4, c5, l4⟩], Deps (w2.setCells g (i * 7) [.int .i64 k, .string (tx t), .int .u64 u, .slice A5 n4 c5, .int .u64 o, .int .u64 m, .string (tx gg)]) w.heap.size z.A z.n z.c z.l) := fun z hz => by
        rcases List.mem_append.1 hz with hz | hz
        · exact deps_kept (hz3 z hz) hr3 HST.2
        · obtain rfl := List.mem_singleton.1 hz
          exact deps_kept (deps_less hd2 HB2.out.size) hr3 HST.2
      have HST2 := Lib.hid HST
      have HB4 := Lib.hid (HB3.out.grown HST.2 HB3.out.size (fun j hj => by cases hj; exact hgb))
      have HONE : Hid ((#[.int .i64 k, .string (tx t), .int .u64 u, .slice A5 n4 c5, .int .u64 o, .int .u64 m, .string (tx gg)] : Array Value).all (·.oneCell') = true) := by show _ = _; simp [Value.oneCell']
      have HSI : Hid ((Try.prog.info? 36).map (·.size) = some (#[.int .i64 k, .string (tx t), .int .u64 u, .slice A5 n4 c5, .int .u64 o, .int .u64 m, .string (tx gg)] : Array Value).size) := by show _ = _; kernel_rfl
      clear hd2 hb2 hr3 HST hput hz3
      go_wp2_with ((with_reducible show wpList _ _ _ (Oper.mk _ (Op.store _ _ _) _ _ _ _ :: _) _ _); refine wpList_store_mid rfl 36 (.tmp 19) (.tmp 18) rfl g (i * 7) #[.int .i64 k, .string (tx t), .int .u64 u, .slice A5 n4 c5, .int .u64 o, .int .u64 m, .string (tx gg)] rfl rfl HTH2.out HSI.out HONE.out ?_)
      exact ⟨⟨i + 1, zs ++ [⟨⟨k, t, u, o, m, gg⟩, A5, n4, c5, l4⟩], by omega, by go_num, by simpa using HST2.out.1, HSX.out _ rfl, HZ3.out, HB4.out⟩, by simp [intOf]; omega⟩
    · obtain rfl : i = n := by omega
      have e1 : S.drop i = [] := List.drop_of_length_le (by have := HL.out; omega)
      have e2 : S.take i = S := List.take_of_length_le (by have := HL.out; omega)
      rw [e1, List.append_nil] at HR
      rw [e2] at HSAY
      clear hr hsay hz hb e1 e2
      go_wp2
      go_ret
      exact ⟨_, _, zs, rfl, HSAY.out, ⟨HR.out, (fun h => by cases h), HZ.out⟩, HB.out⟩

theorem fo_sound {w : World} {A : Option Addr} {n : Nat} {xs : List Rw} (hf : ∀ x ∈ xs, x.t.length ≤ maxLen ∧ x.n ≤ 1000000) (h : Recs w w.heap.size A n xs) {S : List Rw} (hS : ∀ x ∈ S, x ∈ xs) : Sound w S := fun x hx =>
  ⟨(hf x (hS x hx)).1, (hf x (hS x hx)).2, (h.2 x (hS x hx)).1, (h.2 x (hS x hx)).2⟩

end Go.Proofs.Ytbaokcigfgfoaaa
