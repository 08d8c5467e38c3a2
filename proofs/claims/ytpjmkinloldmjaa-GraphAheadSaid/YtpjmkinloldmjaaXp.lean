/- GraphAhead: nodes shuffled. -/
import Derived.Test.YtpjmkinloldmjaaXo
import Derived.Test.YtpjmkinloldmjaaH3
namespace Go.Proofs.Ytpjmkinloldmjaa
open Go.RowKit Go.Sort

theorem info_node : (Try.prog.info? 40).map (fun i => (i.zero, i.size, i.bytes)) = some (some (.agg #[.string { data := #[] }, .bool false, .int .u64 0, .slice none 0 0]), 4, 56) := by kernel_rfl
theorem swap_perm {α : Type} {l : List α} {a b : Nat} {x y : α} (hx : l[a]? = some x) (hy : l[b]? = some y) : ((l.set a y).set b x).Perm l := by
  obtain ⟨ha, ha2⟩ := List.getElem?_eq_some_iff.1 hx
  obtain ⟨hb, hb2⟩ := List.getElem?_eq_some_iff.1 hy
  have h := Array.swap_perm (xs := l.toArray) (i := a) (j := b) (by simpa using ha) (by simpa using hb)
  rw [Array.perm_iff_toList_perm] at h
  simp only [Array.swap_def, List.getElem_toArray, List.set_toArray] at h
  rw [ha2, hb2] at h
  exact h
/-- What the shuffled row is. -/
def Shuf (w : World) (A5 : Option Addr) (n cap : Nat) (xs : List Nw) (W : World) : Prop := ∃ ys : List Nw, ys.Perm xs ∧ W.ownsRow w.heap.size 40 4 (.slice A5 n cap) n (nws ys) ∧ Below w.heap.size w W
theorem order_ok (A : Option Addr) (n c : Nat) (xs : List Nw) (hn : n ≤ 1000000) (hok : NOk xs) (hc : chk (nds xs) = 0) (w : World) (h : Nodes w w.heap.size A n xs) :
    Calls Try.prog 9 #[.slice A n c] w fun e w' => (∃ A5 c5, e = .returned (.tuple #[.slice A5 n c5, .int .i64 0]) ∧ Reads w' w'.heap.size 1 A5 n (ivs (ord (nds xs)))) ∧ Below w.heap.size w w' :=
  Calls.mono (order_any A n c xs hn hok w h) (fun e w' ⟨⟨v, he, hv⟩, hb2⟩ => by
    have hl : (ord (nds xs)).length = n := by rw [(chk_ok.1 hc).2.2.2.2, nds_len]; exact h.len
    rw [hc] at he
    rcases hv with ⟨h0, _⟩ | ⟨_, A5, c5, h1, h2⟩
    · exact absurd hc h0
    · subst h1
      rw [hl] at he h2
      exact ⟨⟨A5, c5, he, Reads.of_own h2⟩, hb2⟩)
theorem order_bad (A : Option Addr) (n c : Nat) (xs : List Nw) (hn : n ≤ 1000000) (hok : NOk xs) (hc : chk (nds xs) ≠ 0) (w : World) (h : Nodes w w.heap.size A n xs) :
    Calls Try.prog 9 #[.slice A n c] w fun e w' => (∃ z : Int, z ≠ 0 ∧ e = .returned (.tuple #[.slice none 0 0, .int .i64 z])) ∧ Below w.heap.size w w' :=
  Calls.mono (order_any A n c xs hn hok w h) (fun e w' ⟨⟨v, he, hv⟩, hb2⟩ => by
    rcases hv with ⟨_, h1⟩ | ⟨h0, _⟩
    · subst h1
      exact ⟨⟨_, hc, he⟩, hb2⟩
    · exact absurd h0 hc)
theorem nm_at {l : List Nd} : ∀ {o : List Nat}, (∀ j ∈ o, j < l.length) → ∀ {i j : Nat} {x : Nd}, o[i]? = some j → l[j]? = some x → (nmOf l o)[i]? = some x.name
  | [], _, i, j, x, h, _ => by simp at h
  | a :: o, hb, i, j, x, h, hx => by
    obtain ⟨y, hy⟩ : ∃ y, l[a]? = some y := ⟨_, List.getElem?_eq_getElem (hb a (by simp))⟩
    have e : nmOf l (a :: o) = y.name :: nmOf l o := by rw [show a :: o = [a] ++ o from rfl, nm_app, nm_one hy]; rfl
    rw [e]
    cases i with
    | zero =>
      obtain rfl : a = j := by simpa using h
      rw [hx] at hy
      obtain rfl := Option.some.inj hy
      rfl
    | succ i =>
      rw [List.getElem?_cons_succ]
      exact nm_at (fun j hj => hb j (List.mem_cons_of_mem _ hj)) (by simpa using h) hx
/-- At one place of both orders stand nodes of one name. -/
theorem ord_names {l m : List Nd} (hp : l.Perm m) (hn : (l.map Nd.name).Nodup) {i j1 j2 : Nat} {x y : Nd} (h1 : (ord l)[i]? = some j1) (h2 : (ord m)[i]? = some j2) (hx : l[j1]? = some x) (hy : m[j2]? = some y) : x.name = y.name := by
  have e := ord_same hp hn l.length
  have e1 := nm_at (ord_good l l.length).1 h1 hx
  have e2 := nm_at (ord_good m m.length).1 h2 hy
  rw [e, hp.length_eq] at e1
  rw [e2] at e1
  exact (Option.some.inj e1).symm

set_option maxRecDepth 100000 in
set_option maxHeartbeats 8000000 in
theorem gahead_any (A : Option Addr) (n c : Nat) (xs : List Nw) (hnc : n ≤ c) (hcm : c ≤ maxLen) (hac : A = none → c = 0) (Aa : Option Addr) (m d : Nat) (bs : List UInt8) (w : World) (hg : ∀ x ∈ xs, NGood w x) (h : Nodes w w.heap.size A n xs) (hb : Reads w w.heap.size 1 Aa m (bs.map bv)) :
    Calls Try.prog 5 #[.slice A n c, .slice Aa m d] w fun e w' => e = .returned (.bool true) ∧ Below w.heap.size w w' := by
  have HLD : Hid ((nds xs).length = n) := by show _ = _; rw [nds_len]; exact h.len
  have HL : Hid (xs.length = n) := h.len
  have HG := Lib.hid (ggreat_any A n c xs (by omega) (fun x hx => ⟨(hg x hx).1, by have := (hg x hx).2.1; have := (hg x hx).2.2.1; omega⟩) w h)
  have HNS := Lib.hid h
  have HBS := Lib.hid hb
  have HBL : Hid (bs.length = m) := by show _ = _; have := hb.1; simpa using this
  by_cases gs : GSm (nds xs)
  · have GS := Lib.hid gs
    by_cases h100 : m ≤ 100
    · have d1 : decide ((m : Int) > 100) = false := decide_eq_false (by omega)
      have hn80 : n ≤ 80 := by rw [← HLD.out]; exact gs.2
      have hn : n ≤ 1000000 := by omega
      obtain ⟨ii, hi0, hz0, hz1, hz2⟩ := info_parts info_node
      have hok : NOk xs := fun x hx => ⟨(hg x hx).1, by
        have h1 := (gs.1 x.d (List.mem_map.2 ⟨x, hx, rfl⟩)).1
        rw [(h.2 x hx).len] at h1
        omega⟩
      have HOK := Lib.hid hok
      clear hok hg h gs hb
      · go_enter Try.func5, Try.ntmps5
        go_wp2_with (first
          | (at_builtin; refine wpList_append_many _ rfl (.tmp 27) (.tmp 28) 22 rfl w.heap.size 40 ii _ 4 56 Try.underlying22 hi0 hz0 hz1 hz2 rfl (by decide) (.slice (some ⟨w2.heap.size, 0, none⟩) 0 0) 0 [] rfl (own_less (⟨rfl, .inr ⟨w2.heap.size, 0, #[], rfl, Nat.le_refl _, one_new w2 _, Nat.le_refl _, by unfold maxLen; omega, rfl, rfl⟩⟩ : (w2.alloc (.cells #[] 40)).ownsRow w2.heap.size 40 4 (.slice (some ⟨w2.heap.size, 0, none⟩) 0 0) 0 []) HB2.out.size) A n c w.heap.size (nws xs) rfl hac ((HNS.out.below HB2.out).1.alloc HB2.out.size _) (nws_one xs) (by unfold maxLen; omega) (by omega) (by have := HB2.out.size; simp; omega) ?_; intro v5 w5 ho5 hg5; have HO5 := Lib.hid ho5; have HG5 := Lib.hid hg5; clear ho5 hg5; rw [Nat.zero_add, List.nil_append] at HO5; obtain ⟨A5, cap, hv5, _⟩ := own_slice HO5.out; subst hv5)
          | (go_at_call 7; refine HG.out.mono ?_; rintro e w2 ⟨he, hb2⟩; obtain rfl := he.no (fun h => h GS.out); have HB2 := Lib.hid hb2; clear hb2))
        have HB5 : Hid (Below w.heap.size w w5) := (HB2.out.alloc HB2.out.size (.cells #[] 40)).grown HG5.out (by have := HB2.out.size; simp; omega) (fun j hj => by cases hj; exact HB2.out.size)
        go_loopw [32] (fun idx wr => ∃ i : Nat, i ≤ m ∧ idx = .int .i64 (i : Int) ∧ Shuf w A5 n cap xs wr) (fun idx _ => m - (intOf idx).toNat)
        case atStart => exact ⟨0, by omega, rfl, xs, List.Perm.refl _, HO5.out, HB5.out⟩
        case round =>
          obtain ⟨i, hi, rfl, ys, hp, hy, hb6⟩ := hrel
          have HP := Lib.hid hp
          have HY := Lib.hid hy
          have HB := Lib.hid hb6
          by_cases hlt : i < m
          · by_cases hn0 : 0 < n
            case neg =>
              obtain rfl : n = 0 := by omega
              obtain ⟨ax, u, rfl, _, hu, hcell⟩ := (HBS.out.below hb6).at_ hlt
              obtain ⟨q, hq⟩ : ∃ q, bs[i]? = some q := ⟨_, List.getElem?_eq_getElem (by rw [HBL.out]; exact hlt)⟩
              obtain rfl : u = .int .u8 (q.toNat : Int) := by rw [List.getElem?_map, hq] at hu; exact (Option.some.inj hu).symm
              have hi0 : (0 : Int) ≤ (i : Int) := by omega
              have hi1 : (i : Int) < (m : Int) := by omega
              clear hp hy hb6 hu hq hlt
              go_wp2
              exact ⟨⟨i + 1, by omega, by go_num, ys, HP.out, HY.out, HB.out⟩, by simp [intOf]; omega⟩
            obtain ⟨g, cap', hv5, _⟩ := hy.form hn0
            injection hv5 with hv5 _ hv6
            subst hv5
            subst hv6
            have HGB : Hid (w.heap.size ≤ g) := own_block hy g rfl
            obtain ⟨ax, u, rfl, _, hu, hcell⟩ := (HBS.out.below hb6).at_ hlt
            obtain ⟨q, hq⟩ : ∃ q, bs[i]? = some q := ⟨_, List.getElem?_eq_getElem (by rw [HBL.out]; exact hlt)⟩
            obtain rfl : u = .int .u8 (q.toNat : Int) := by rw [List.getElem?_map, hq] at hu; exact (Option.some.inj hu).symm
            have hq8 := q.toNat_lt
            obtain ⟨k, hk⟩ : ∃ k, k = q.toNat := ⟨_, rfl⟩
            rw [← hk] at hcell hq8
            have hi0 : (0 : Int) ≤ (i : Int) := by omega
            have hi1 : (i : Int) < (m : Int) := by omega
            have hnz : (n : Int) ≠ 0 := by omega
            have dn : decide ((n : Int) > 0) = true := decide_eq_true (by omega)
            have hr1 : (i : Int).tmod (n : Int) = ((i % n : Nat) : Int) := by rw [Int.tmod_eq_emod_of_nonneg (by omega)]; omega
            have hr2 : (k : Int).tmod (n : Int) = ((k % n : Nat) : Int) := by rw [Int.tmod_eq_emod_of_nonneg (by omega)]; omega
            have hka : i % n < n := Nat.mod_lt _ hn0
            have hkb : k % n < n := Nat.mod_lt _ hn0
            obtain ⟨ka, hka2⟩ : ∃ ka, ka = i % n := ⟨_, rfl⟩
            obtain ⟨kb, hkb2⟩ : ∃ kb, kb = k % n := ⟨_, rfl⟩
            rw [← hka2] at hr1 hka
            rw [← hkb2] at hr2 hkb
            have HYL : Hid (ys.length = n) := hp.length_eq.trans HL.out
            obtain ⟨za, hza⟩ : ∃ z, ys[ka]? = some z := ⟨_, List.getElem?_eq_getElem (by rw [HYL.out]; exact hka)⟩
            obtain ⟨zb, hzb⟩ : ∃ z, ys[kb]? = some z := ⟨_, List.getElem?_eq_getElem (by rw [HYL.out]; exact hkb)⟩
            have HZA := Lib.hid hza
            have HZB := Lib.hid hzb
            have HKA := Lib.hid hka
            have HKB := Lib.hid hkb
            have hrr := Reads.of_own hy
            obtain ⟨ad, e1, _, a0, a1, a2, a3⟩ := nodes_cells hrr ka za hza
            obtain rfl : (⟨g, 0, none⟩ : Addr) = ad := Option.some.inj e1
            obtain ⟨ad, e2, _, b0, b1, b2, b3⟩ := nodes_cells hrr kb zb hzb
            obtain rfl : (⟨g, 0, none⟩ : Addr) = ad := Option.some.inj e2
            rw [add_zero_at] at a0 a1 a2 a3 b0 b1 b2 b3
            simp only at a1 a2 a3 b1 b2 b3
            have hka0 : (0 : Int) ≤ ((ka : Nat) : Int) := by omega
            have hka1 : ((ka : Nat) : Int) < (n : Int) := by omega
            have hkb0 : (0 : Int) ≤ ((kb : Nat) : Int) := by omega
            have hkb1 : ((kb : Nat) : Int) < (n : Int) := by omega
            clear hp hy hb6 hu hq hk hka2 hkb2 hza hzb hrr e1 e2 hka hkb hlt
            go_wp2
            go_quiet (fail)
            go_wp2
            refine wp_region_held (S := fun _ => True) (by kernel_rfl) (show wpAnyH _ _ _ _ _ _ _ _ ((wr.drewN nq).drew) from ?_)
            have ea0 := (show ((wr.drewN nq).drew).cell? ⟨g, ka * 4, none⟩ = some (.string (tx za.d.name)) from a0)
            have ea1 := (show ((wr.drewN nq).drew).cell? ⟨g, ka * 4 + 1, none⟩ = some (.bool za.d.src) from a1)
            have ea2 := (show ((wr.drewN nq).drew).cell? ⟨g, ka * 4 + 2, none⟩ = some (.int .u64 za.d.rule) from a2)
            have ea3 := (show ((wr.drewN nq).drew).cell? ⟨g, ka * 4 + 3, none⟩ = some (.slice za.A za.n za.c) from a3)
            have eb0 := (show ((wr.drewN nq).drew).cell? ⟨g, kb * 4, none⟩ = some (.string (tx zb.d.name)) from b0)
            have eb1 := (show ((wr.drewN nq).drew).cell? ⟨g, kb * 4 + 1, none⟩ = some (.bool zb.d.src) from b1)
            have eb2 := (show ((wr.drewN nq).drew).cell? ⟨g, kb * 4 + 2, none⟩ = some (.int .u64 zb.d.rule) from b2)
            have eb3 := (show ((wr.drewN nq).drew).cell? ⟨g, kb * 4 + 3, none⟩ = some (.slice zb.A zb.n zb.c) from b3)
            have HYQ : Hid (((wr.drewN nq).drew).ownsRow w.heap.size 40 4 (.slice (some ⟨g, 0, none⟩) n cap) n (nws ys)) := HY.out
            have HBQ : Hid (Below w.heap.size w ((wr.drewN nq).drew)) := HB.out.trans ⟨rfl, rfl, rfl, Nat.le_refl _, fun _ _ => rfl⟩
            clear HY HB a0 a1 a2 a3 b0 b1 b2 b3
            generalize (wr.drewN nq).drew = wq at ea0 ea1 ea2 ea3 eb0 eb1 eb2 eb3 HYQ HBQ ⊢
            refine h_take 0 (.slice (some ⟨g, 0, none⟩) n cap) rfl (by kernel_rfl) (by kernel_rfl) (by kernel_rfl) (fun _ _ _ h => h) (by kernel_rfl) trivial (fun _ _ => by kernel_rfl) ?_
            refine h_take 1 (.int .i64 ((ka : Nat) : Int)) rfl (by kernel_rfl) (by kernel_rfl) (by kernel_rfl) (fun _ _ _ h => h) (by kernel_rfl) trivial (fun _ _ => by kernel_rfl) ?_
            refine h_take 2 (.slice (some ⟨g, 0, none⟩) n cap) rfl (by kernel_rfl) (by kernel_rfl) (by kernel_rfl) (fun _ _ _ h => h) (by kernel_rfl) trivial (fun _ _ => by kernel_rfl) ?_
            refine h_take 3 (.int .i64 ((kb : Nat) : Int)) rfl (by kernel_rfl) (by kernel_rfl) (by kernel_rfl) (fun _ _ _ h => h) (by kernel_rfl) trivial (fun _ _ => by kernel_rfl) ?_
            refine h_take 4 (.slice (some ⟨g, 0, none⟩) n cap) rfl (by kernel_rfl) (by kernel_rfl) (by kernel_rfl) (fun _ _ _ h => h) (by kernel_rfl) trivial (fun _ _ => by kernel_rfl) ?_
            refine h_take 5 (.int .i64 ((kb : Nat) : Int)) rfl (by kernel_rfl) (by kernel_rfl) (by kernel_rfl) (fun _ _ _ h => h) (by kernel_rfl) trivial (fun _ _ => by kernel_rfl) ?_
            refine h_take 6 (.pointer (some ⟨g, kb * 4, none⟩)) rfl (by kernel_rfl) (by kernel_rfl) (by kernel_rfl) (fun _ _ _ h => h) (by kernel_rfl) trivial (fun _ _ => by go_simp; first | done | rw [add_zero_at]) ?_
            refine h_take 8 (.slice (some ⟨g, 0, none⟩) n cap) rfl (by kernel_rfl) (by kernel_rfl) (by kernel_rfl) (fun _ _ _ h => h) (by kernel_rfl) trivial (fun _ _ => by kernel_rfl) ?_
            refine h_take 9 (.int .i64 ((ka : Nat) : Int)) rfl (by kernel_rfl) (by kernel_rfl) (by kernel_rfl) (fun _ _ _ h => h) (by kernel_rfl) trivial (fun _ _ => by kernel_rfl) ?_
            refine h_take 10 (.pointer (some ⟨g, ka * 4, none⟩)) rfl (by kernel_rfl) (by kernel_rfl) (by kernel_rfl) (fun _ _ _ h => h) (by kernel_rfl) trivial (fun _ _ => by go_simp; first | done | rw [add_zero_at]) ?_
            refine h_either 7 11 rfl rfl (by kernel_rfl) (by kernel_rfl) (by kernel_rfl) (fun K hK => ?_) (fun K hK => ?_)
            · go_simp
              refine hK _ _ trivial ?_
              clear hK K
              refine h_one 11 rfl (by kernel_rfl) (by kernel_rfl) (fun K hK => ?_)
              go_simp
              refine hK _ _ trivial ?_
              clear hK K
              refine h_take 12 (.pointer (some ⟨g, ka * 4, none⟩)) rfl (by kernel_rfl) (by kernel_rfl) (by kernel_rfl) (fun _ _ _ h => h) (by kernel_rfl) trivial (fun _ _ => by go_simp; first | done | rw [add_zero_at]) ?_
              refine h_one 13 rfl (by kernel_rfl) (by kernel_rfl) (fun K hK => ?_)
              refine wp_store_node (.tmp 61) (.tmp 56) rfl g ka zb rfl rfl w.heap.size n cap ys HYQ.out (by rw [HYL.out]; exact HKA.out) ?_
              intro w8 ho8 hg8
              have HO8 := Lib.hid ho8
              have HG8 := Lib.hid hg8
              clear ho8 hg8
              refine hK _ _ trivial ?_
              clear hK K
              refine h_take 14 (.pointer (some ⟨g, kb * 4, none⟩)) rfl (by kernel_rfl) (by kernel_rfl) (by kernel_rfl) (fun _ _ _ h => h) (by kernel_rfl) trivial (fun _ _ => by go_simp; first | done | rw [add_zero_at]) ?_
              refine h_one 15 rfl (by kernel_rfl) (by kernel_rfl) (fun K hK => ?_)
              refine wp_store_node (.tmp 62) (.tmp 60) rfl g kb za rfl rfl w.heap.size n cap (ys.set ka zb) HO8.out (by rw [List.length_set, HYL.out]; exact HKB.out) ?_
              intro w9 ho9 hg9
              have HO9 := Lib.hid ho9
              have HG9 := Lib.hid hg9
              clear ho9 hg9
              refine hK _ _ trivial ?_
              clear hK K
              refine wpAnyH_done (by kernel_rfl) ?_ _
              go_simp
              go_wp2
              exact ⟨⟨i + 1, by omega, by go_num, (ys.set ka zb).set kb za, (swap_perm HZA.out HZB.out).trans HP.out, HO9.out, (HBQ.out.grown HG8.out HBQ.out.size (fun j hj => by cases hj; exact HGB.out)).grown HG9.out (Nat.le_trans HBQ.out.size HG8.out.size) (fun j hj => by cases hj; exact HGB.out)⟩, by simp [intOf]; omega⟩
            · go_simp
              refine hK _ _ trivial ?_
              clear hK K
              refine h_one 7 rfl (by kernel_rfl) (by kernel_rfl) (fun K hK => ?_)
              go_simp
              refine hK _ _ trivial ?_
              clear hK K
              refine h_take 12 (.pointer (some ⟨g, ka * 4, none⟩)) rfl (by kernel_rfl) (by kernel_rfl) (by kernel_rfl) (fun _ _ _ h => h) (by kernel_rfl) trivial (fun _ _ => by go_simp; first | done | rw [add_zero_at]) ?_
              refine h_one 13 rfl (by kernel_rfl) (by kernel_rfl) (fun K hK => ?_)
              refine wp_store_node (.tmp 61) (.tmp 56) rfl g ka zb rfl rfl w.heap.size n cap ys HYQ.out (by rw [HYL.out]; exact HKA.out) ?_
              intro w8 ho8 hg8
              have HO8 := Lib.hid ho8
              have HG8 := Lib.hid hg8
              clear ho8 hg8
              refine hK _ _ trivial ?_
              clear hK K
              refine h_take 14 (.pointer (some ⟨g, kb * 4, none⟩)) rfl (by kernel_rfl) (by kernel_rfl) (by kernel_rfl) (fun _ _ _ h => h) (by kernel_rfl) trivial (fun _ _ => by go_simp; first | done | rw [add_zero_at]) ?_
              refine h_one 15 rfl (by kernel_rfl) (by kernel_rfl) (fun K hK => ?_)
              refine wp_store_node (.tmp 62) (.tmp 60) rfl g kb za rfl rfl w.heap.size n cap (ys.set ka zb) HO8.out (by rw [List.length_set, HYL.out]; exact HKB.out) ?_
              intro w9 ho9 hg9
              have HO9 := Lib.hid ho9
              have HG9 := Lib.hid hg9
              clear ho9 hg9
              refine hK _ _ trivial ?_
              clear hK K
              refine wpAnyH_done (by kernel_rfl) ?_ _
              go_simp
              go_wp2
              exact ⟨⟨i + 1, by omega, by go_num, (ys.set ka zb).set kb za, (swap_perm HZA.out HZB.out).trans HP.out, HO9.out, (HBQ.out.grown HG8.out HBQ.out.size (fun j hj => by cases hj; exact HGB.out)).grown HG9.out (Nat.le_trans HBQ.out.size HG8.out.size) (fun j hj => by cases hj; exact HGB.out)⟩, by simp [intOf]; omega⟩
          · obtain rfl : m = i := by omega
            have HBW := Lib.hid hb6
            have HPN : Hid ((nds ys).Perm (nds xs)) := hp.map Nw.d
            have HNY : Hid (∀ (W : World), Below wr.heap.size wr W → Nodes W W.heap.size A5 n ys) := fun W hb => ⟨((Reads.of_own hy).below hb).more hb.size, fun y hyy => Reads.more (Reads.below (HNS.out.2 y (hp.mem_iff.1 hyy)) (hb6.trans (hb.mono hb6.size))) ((hb6.trans (hb.mono hb6.size)).size)⟩
            have HOKY : Hid (NOk ys) := fun y hyy => HOK.out y (hp.mem_iff.1 hyy)
            have HYL : Hid (ys.length = n) := hp.length_eq.trans HL.out
            obtain ⟨wA, hwA⟩ : ∃ x, x = wr := ⟨_, rfl⟩
            subst hwA
            clear hp hy hb6 hlt hi HP HY HO5 HG5
            by_cases hc0 : chk (nds xs) = 0
            · have hcy : chk (nds ys) = 0 := chk_perm HPN.out.symm hc0
              obtain ⟨_, hnd, _, _, hol⟩ := chk_ok.1 hc0
              have hol2 := (chk_ok.1 hcy).2.2.2.2
              have HND := Lib.hid hnd
              have HO1 := Lib.hid (fun (W : World) (hb : Below w.heap.size w W) => order_ok A n c xs hn HOK.out hc0 W ((HNS.out.below hb).more hb.size))
              have HO2 := Lib.hid (fun (W : World) (hb : Below wA.heap.size wA W) => order_ok A5 n cap ys hn HOKY.out hcy W (HNY.out W hb))
              have HLO : Hid ((ord (nds xs)).length = n) := hol.trans HLD.out
              have HLO2 : Hid ((ord (nds ys)).length = n) := hol2.trans (by rw [nds_len]; exact HYL.out)
              have hmm := @run_makeMap Try.prog
              clear hc0 hcy hnd hol hol2
              go_wp2_with (first
                | (go_at_call 9; refine (HO2.out _ HBA6.out).mono ?_; rintro e w7 ⟨⟨A7, c7, rfl, hr7⟩, hb7⟩; have HR7 := Lib.hid hr7; have HB7 := Lib.hid ((HBW.out.trans (HBA6.out.mono HBW.out.size)).trans (hb7.mono (HBW.out.trans (HBA6.out.mono HBW.out.size)).size)); have HBA7 := Lib.hid (HBA6.out.trans (hb7.mono HBA6.out.size)); have HR67 := Lib.hid ((HR6.out.below hb7).more hb7.size); clear hb7 hr7)
                | (go_at_call 9; refine (HO1.out _ HBW.out).mono ?_; rintro e w6 ⟨⟨A6, c6, rfl, hr6⟩, hb6⟩; have HR6 := Lib.hid hr6; have HBA6 := Lib.hid hb6; clear hb6 hr6))
              have HT0 := Lib.hid (tmap_start w7)
              have HB80 := Lib.hid ((Below.refl w7.heap.size w7).alloc (Nat.le_refl _) (.map #[] 0))
              obtain ⟨wB, hwB⟩ : ∃ x, x = w7 := ⟨_, rfl⟩
              subst hwB
              go_loopw [108] (fun idx wr => ∃ i : Nat, i ≤ n ∧ idx = .int .i64 (i : Int) ∧ TMap wr wB.heap.size i (setF (nmOf (nds xs) ((ord (nds xs)).take i))) ∧ Below wB.heap.size wB wr) (fun idx _ => n - (intOf idx).toNat)
              case atStart => exact ⟨0, by omega, rfl, HT0.out.same (fun u => by simp [setF, nmOf]), HB80.out⟩
              case round =>
                obtain ⟨i, hi, rfl, ht, hb8⟩ := hrel
                have HT := Lib.hid ht
                have HB8 := Lib.hid hb8
                have HB8W := Lib.hid (HB7.out.trans (hb8.mono HB7.out.size))
                by_cases hlt : i < n
                · obtain ⟨j1, hj1⟩ : ∃ j, (ord (nds xs))[i]? = some j := ⟨_, List.getElem?_eq_getElem (by rw [HLO.out]; exact hlt)⟩
                  obtain ⟨j2, hj2⟩ : ∃ j, (ord (nds ys))[i]? = some j := ⟨_, List.getElem?_eq_getElem (by rw [HLO2.out]; exact hlt)⟩
                  obtain ⟨xd, hxd, hrd⟩ := ord_ready hj1
                  have hj1n : j1 < n := by rw [← HLD.out]; exact (List.getElem?_eq_some_iff.1 hxd).1
                  have hj2n : j2 < n := by rw [← HYL.out, ← nds_len]; exact (ord_good (nds ys) _).1 j2 (List.mem_of_getElem? hj2)
                  obtain ⟨x, hx⟩ : ∃ x, xs[j1]? = some x := ⟨_, List.getElem?_eq_getElem (by rw [HL.out]; exact hj1n)⟩
                  obtain ⟨y, hy⟩ : ∃ y, ys[j2]? = some y := ⟨_, List.getElem?_eq_getElem (by rw [HYL.out]; exact hj2n)⟩
                  have hxe : x.d = xd := by have h1 := nds_at hx; rw [hxd] at h1; exact (Option.some.inj h1).symm
                  have hnm := ord_names HPN.out.symm HND.out hj1 hj2 (nds_at hx) (nds_at hy)
                  have HRD : Hid (Ready (nmOf (nds xs) ((ord (nds xs)).take i)) x.d) := by rw [hxe]; exact hrd
                  have HNT : Hid (nmOf (nds xs) ((ord (nds xs)).take (i + 1)) = nmOf (nds xs) ((ord (nds xs)).take i) ++ [x.d.name]) := by
                    show _ = _
                    rw [List.take_add_one, hj1, nm_app]
                    exact congrArg _ (nm_one (nds_at hx))
                  have hmx := List.mem_of_getElem? hx
                  have HFX := Lib.hid (HOK.out x hmx)
                  have HDS : Hid (Reads wr wr.heap.size 1 x.A x.n (x.d.deps.map tsv)) := Reads.more (Reads.below (HNS.out.2 x hmx) HB8W.out) HB8W.out.size
                  have HDL : Hid (x.d.deps.length = x.n) := (HNS.out.2 x hmx).len
                  obtain ⟨ad, rfl, hab, k0, k1, k2, k3⟩ := nodes_cells ((HNS.out.below HB8W.out).1) j1 x hx
                  obtain ⟨ay, rfl, _, l0, _⟩ := nodes_cells (HNY.out wr (HBA7.out.trans (hb8.mono HBA7.out.size))).1 j2 y hy
                  rw [← hnm] at l0
                  obtain ⟨a6, u6, rfl, _, hu6, hc6⟩ := (HR67.out.below hb8).at_ hlt
                  obtain rfl : u6 = .int .i64 (j1 : Int) := by unfold ivs at hu6; rw [List.getElem?_map, hj1] at hu6; simpa using hu6.symm
                  obtain ⟨a7, u7, rfl, _, hu7, hc7⟩ := (HR7.out.below hb8).at_ hlt
                  obtain rfl : u7 = .int .i64 (j2 : Int) := by unfold ivs at hu7; rw [List.getElem?_map, hj2] at hu7; simpa using hu7.symm
                  obtain ⟨⟨nm, sc, ru, ds⟩, xA, xn, xc⟩ := x
                  simp only at k0 k1 k2 k3 l0 HFX HDS HDL HRD HNT
                  have hlk : ∀ q : Nat, (Instr.lookup 41 (.map (some wB.heap.size)) (.string (tx nm)) false).run Try.prog (wr.drewN q) = .ok (.bool false) (wr.drewN q) := fun q => by
                    rw [(ht.below (below_drewN _ _ q)).look HFX.out.1.1 Try.underlying41 (zeroB _)]
                    unfold setF
                    rw [if_neg HRD.out.1]
                    rfl
                  have hself : ((tx nm).toList == (tx nm).toList) = true := by simp
                  have hxn6 : xn ≤ 1000000 := HFX.out.2
                  have hi0 : (0 : Int) ≤ (i : Int) := by omega
                  have hi1 : (i : Int) < (n : Int) := by omega
                  have g1 : decide ((j1 : Int) < 0) = false := decide_eq_false (by omega)
                  have g2 : decide ((j1 : Int) ≥ (n : Int)) = false := decide_eq_false (by omega)
                  have g2b : decide (n ≤ j1) = false := decide_eq_false (by omega)
                  have g2c : decide ((n : Int) ≤ (j1 : Int)) = false := decide_eq_false (by omega)
                  have g4b : decide (n ≤ j2) = false := decide_eq_false (by omega)
                  have g4c : decide ((n : Int) ≤ (j2 : Int)) = false := decide_eq_false (by omega)
                  have g3 : decide ((j2 : Int) < 0) = false := decide_eq_false (by omega)
                  have g4 : decide ((j2 : Int) ≥ (n : Int)) = false := decide_eq_false (by omega)
                  have g5 : (0 : Int) ≤ (j1 : Int) := by omega
                  have g6 : (j1 : Int) < (n : Int) := by omega
                  have g7 : (0 : Int) ≤ (j2 : Int) := by omega
                  have g8 : (j2 : Int) < (n : Int) := by omega
                  clear hj1 hj2 hxd hrd hj1n hj2n hx hy hxe hnm hmx hu6 hu7 ht hb8
                  go_wp2
                  go_quiet (fail)
                  go_wp2
                  go_loopw [168] (fun v7 w3 => ∃ (j : Nat), j ≤ xn ∧ v7 = .int .i64 (j : Int) ∧ wr.drewN nq = w3) (fun v7 _ => xn - (intOf v7).toNat)
                  case atStart => exact ⟨0, by omega, rfl, rfl⟩
                  case round =>
                    obtain ⟨j, hj, rfl, rfl⟩ := hrel
                    by_cases hlt3 : j < xn
                    · obtain ⟨s, hs⟩ : ∃ s, ds[j]? = some s := ⟨_, List.getElem?_eq_getElem (by rw [HDL.out]; exact hlt3)⟩
                      obtain ⟨ax, sv, rfl, hxb, hsv, hsc⟩ := HDS.out.at_ hlt3
                      obtain rfl : sv = tsv s := by rw [List.getElem?_map, hs] at hsv; simpa using hsv.symm
                      unfold tsv at hsc
                      have hsm := List.mem_of_getElem? hs
                      have hlk2 : (Instr.lookup 41 (.map (some wB.heap.size)) (.string (tx s)) false).run Try.prog (wr.drewN nq) = .ok (.bool true) (wr.drewN nq) := by
                        rw [(HT.out.below (below_drewN _ _ nq)).look (HFX.out.1.2 s hsm) Try.underlying41 (zeroB _)]
                        unfold setF
                        rw [if_pos (HRD.out.2 s hsm)]
                        rfl
                      have hj0 : (0 : Int) ≤ (j : Int) := by omega
                      have hj1 : (j : Int) < (xn : Int) := by omega
                      clear hs hsv hsm
                      go_wp2
                      exact ⟨⟨j + 1, by omega, by go_num, by first | rfl | trivial⟩, by simp [intOf]; omega⟩
                    · obtain rfl : xn = j := by omega
                      go_wp2_with (at_mapUpdate; refine wpList_tput _ rfl _ _ _ 41 rfl 4 Try.underlying41 wB.heap.size i _ rfl (HT.out.below (below_drewN _ _ nq)) (by unfold maxLen; omega) nm _ rfl rfl HFX.out.1.1 ?_; intro w9 ht9 hg9; have HT9 : Hid (TMap w9 wB.heap.size (i + 1) (setF (nmOf (nds xs) ((ord (nds xs)).take (i + 1))))) := (by rw [HNT.out]; exact ht9.same (fun u => setF_put _ nm u)); have HB9 := Lib.hid ((HB8.out.trans (below_drewN _ _ nq)).grown hg9 (HB8.out.trans (below_drewN _ _ nq)).size (fun j hj => by cases hj; exact Nat.le_refl _)); clear ht9 hg9)
                      exact ⟨⟨i + 1, by omega, by go_num, HT9.out, HB9.out⟩, by simp [intOf]; omega⟩
                · obtain rfl : n = i := by omega
                  clear ht hb8
                  go_wp2_with (go_at_call 8; refine (gfixed_any _).mono ?_; rintro e w9 ⟨rfl, hb9⟩; have HB9 := Lib.hid (HB8W.out.trans (hb9.mono HB8W.out.size)); clear hb9)
                  go_ret
                  exact ⟨rfl, HB9.out⟩
            · have hcy : chk (nds ys) ≠ 0 := fun h => hc0 (chk_perm HPN.out h)
              have HO1 := Lib.hid (fun (W : World) (hb : Below w.heap.size w W) => order_bad A n c xs hn HOK.out hc0 W ((HNS.out.below hb).more hb.size))
              have HO2 := Lib.hid (fun (W : World) (hb : Below wA.heap.size wA W) => order_bad A5 n cap ys hn HOKY.out hcy W (HNY.out W hb))
              clear hc0 hcy
              go_wp2_with (first
                | (go_at_call 8; refine (gfixed_any _).mono ?_; rintro e w9 ⟨rfl, hb9⟩; have HB9 := Lib.hid (HB7.out.trans (hb9.mono HB7.out.size)); clear hb9)
                | (go_at_call 9; refine (HO2.out _ HBA6.out).mono ?_; rintro e w7 ⟨⟨z7, hz7, rfl⟩, hb7⟩; have hne7 : (z7 != 0) = true := (by rw [bne_iff_ne]; exact hz7); have HB7 := Lib.hid ((HBW.out.trans (HBA6.out.mono HBW.out.size)).trans (hb7.mono (HBW.out.trans (HBA6.out.mono HBW.out.size)).size)); clear hb7 hz7)
                | (go_at_call 9; refine (HO1.out _ HBW.out).mono ?_; rintro e w6 ⟨⟨z6, hz6, rfl⟩, hb6⟩; have hne6 : (z6 != 0) = true := (by rw [bne_iff_ne]; exact hz6); have HBA6 := Lib.hid hb6; clear hb6 hz6))
              go_ret
              exact ⟨rfl, HB9.out⟩
    · have d1 : decide ((m : Int) > 100) = true := decide_eq_true (by omega)
      clear hg h gs hb
      go_enter Try.func5, Try.ntmps5
      go_wp2_with (first
        | (go_at_call 8; refine (gfixed_any _).mono ?_; rintro e w3 ⟨rfl, hb3⟩; have HB3 := Lib.hid (HB2.out.trans (hb3.mono HB2.out.size)); clear hb3)
        | (go_at_call 7; refine HG.out.mono ?_; rintro e w2 ⟨he, hb2⟩; obtain rfl := he.no (fun h => h GS.out); have HB2 := Lib.hid hb2; clear hb2))
      go_ret
      exact ⟨rfl, HB3.out⟩
  · have GS := Lib.hid gs
    clear hg h gs hb
    go_enter Try.func5, Try.ntmps5
    go_wp2_with (first
      | (go_at_call 8; refine (gfixed_any _).mono ?_; rintro e w3 ⟨rfl, hb3⟩; have HB3 := Lib.hid (HB2.out.trans (hb3.mono HB2.out.size)); clear hb3)
      | (go_at_call 7; refine HG.out.mono ?_; rintro e w2 ⟨he, hb2⟩; obtain rfl := he.yes GS.out; have HB2 := Lib.hid hb2; clear hb2))
    go_ret
    exact ⟨rfl, HB3.out⟩

end Go.Proofs.Ytpjmkinloldmjaa
