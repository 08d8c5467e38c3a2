/- One thing after the other: the mathematics of many; the walks of Byte, Number and Text. -/
import Derived.Test.YtkpgnpiofhgcpaaJc
namespace Go.Proofs.Ytkpgnpiofhgcpaa
open Go.RowKit

namespace Cu

theorem cnt_many {α : Type} (one : Cu → α × Cu) (c : Cu) (most : Int) : many one (c.cnt most).1 (c.cnt most).2 = many one c.num.1 (c.cnt most).2 := by
  unfold cnt
  split
  · rename_i h
    have h0 : c.num.2.e = 0 := by
      rcases Decidable.em (c.num.2.e = 0) with h1 | h1
      · exact h1
      · have := num_bad h1
        omega
    have h5 : (c.num.2.fail 5).e ≠ 0 := by rw [fail, if_pos h0]; simp
    rw [many_stop h5, many_stop h5]
  · rfl

/-- So many have been taken: the list l of them, from the cursor c1 to d; N in all are asked for. -/
structure MInv {α : Type} (one : Cu → α × Cu) (N : Nat) (c1 d : Cu) (l : List α) (k : Nat) : Prop where
  le : k ≤ N
  list : (many one N c1).1 = l ++ (many one (N - k) d).1
  cur : (many one N c1).2 = (many one (N - k) d).2
  len1 : l.length ≤ d.at_ + 1
  len2 : d.e = 0 → l.length ≤ d.at_
  ok : d.ok
  bs : d.bs = c1.bs

theorem MInv.start {α : Type} {one : Cu → α × Cu} {N : Nat} {c1 : Cu} (h : c1.ok) : MInv one N c1 c1 [] 0 :=
  ⟨Nat.zero_le _, rfl, rfl, by simp, by simp, h, rfl⟩

theorem MInv.step {α : Type} {one : Cu → α × Cu} {N : Nat} {c1 d : Cu} {l : List α} {k : Nat} (h : MInv one N c1 d l k) (hk : k < N) (he : d.e = 0)
    (hto : To d (one d).2) (hon : (one d).2.e = 0 → d.at_ < (one d).2.at_) : MInv one N c1 (one d).2 (l ++ [(one d).1]) (k + 1) := by
  have e : N - k = (N - (k + 1)) + 1 := by omega
  have h2 := h.len2 he
  refine ⟨hk, ?_, ?_, ?_, ?_, hto.good, hto.bs.trans h.bs⟩
  · rw [h.list, e, many_next he]; simp
  · rw [h.cur, e, many_next he]
  · have := hto.le; simp; omega
  · intro h3; have := hon h3; simp; omega

theorem MInv.stop {α : Type} {one : Cu → α × Cu} {N : Nat} {c1 d : Cu} {l : List α} {k : Nat} (h : MInv one N c1 d l k) (hs : d.e ≠ 0 ∨ N ≤ k) : many one N c1 = (l, d) := by
  have e : many one (N - k) d = ([], d) := by
    rcases hs with hs | hs
    · exact many_stop hs
    · rw [show N - k = 0 by omega]; rfl
  have h1 := h.list
  have h2 := h.cur
  rw [e] at h1 h2
  rw [List.append_nil] at h1
  exact Prod.ext h1 h2

theorem all_end {α : Type} {one : Cu → α × Cu} {c d : Cu} {most : Int} {l : List α} {m k : Nat} (hcm : many one (c.cnt most).1 (c.cnt most).2 = many one m (c.cnt most).2)
    (h : MInv one m (c.cnt most).2 d l k) (hs : d.e ≠ 0 ∨ m ≤ k) : all one c most = (if d.e = 0 then l else [], d) := by
  rw [all, hcm, h.stop hs]

end Cu

def nv (n : Nat) : Value := .int .u64 (n : Int)

theorem own_only {w w' : World} {b base n size : Nat} {e : TypeId} {v : Value} {xs : List Value} (h : w.ownsRow base e size v n xs) (hb : Only b w w') (hlt : b < base) : w'.ownsRow base e size v n xs := by
  obtain ⟨h1, h2 | ⟨g, cap, cur, hv, hbg, hg, r⟩⟩ := h
  · exact ⟨h1, .inl h2⟩
  · have hl : g < w.heap.size := lt_of_block hg
    exact ⟨h1, .inr ⟨g, cap, cur, hv, hbg, by rw [hb.block g hl (by omega)]; exact hg, r⟩⟩

theorem Only.next {b : Nat} {w x y : World} (h : Only b w x) (k : Below w.heap.size x y) : Only b w y :=
  ⟨k.os.trans h.os, k.tape.trans h.tape, k.output.trans h.output, Nat.le_trans h.size k.size, fun i hi hn => (k.block i hi).trans (h.block i hi hn)⟩

theorem reads_val (W : World) (e : TypeId) (u : Value) : Reads (W.alloc (.cells #[u] e)) (W.heap.size + 1) 1 (some ⟨W.heap.size, 0, none⟩) 1 [u] :=
  ⟨rfl, fun _ => ⟨_, rfl, by simp, fun j x hx => by
    cases j with
    | zero =>
      have hu' : u = x := by simpa using hx
      subst hu'
      simp [Addr.add]
    | succ j => simp at hx⟩⟩

theorem byte_any (B b : Nat) (c : Cu) (w : World) (h : CurIn w B b c) :
    Calls Try.prog 12 #[.pointer (some ⟨b, 0, none⟩)] w fun e w' => e = .returned (.int .u8 (c.byte.1.toNat : Int)) ∧ CurIn w' B b c.byte.2 ∧ Only b w w' := by
  have ht := take_byte B b c w h
  generalize (c.byte.1.toNat : Int) = v at *
  have HT := Lib.hid ht
  clear ht h
  go_enter Try.func12, Try.ntmps12
  go_wp2_with fail
  refine HT.out.mono ?_
  rintro e w1 ⟨rfl, hc, ho⟩
  go_wp2
  go_ret
  exact ⟨rfl, hc, ho⟩

theorem number_any (B b : Nat) (c : Cu) (w : World) (h : CurIn w B b c) :
    Calls Try.prog 13 #[.pointer (some ⟨b, 0, none⟩)] w fun e w' => e = .returned (.int .u64 (c.num.1 : Int)) ∧ CurIn w' B b c.num.2 ∧ Only b w w' := by
  have ht := take_num B b c w h
  generalize (c.num.1 : Int) = v at *
  have HT := Lib.hid ht
  clear ht h
  go_enter Try.func13, Try.ntmps13
  go_wp2_with fail
  refine HT.out.mono ?_
  rintro e w1 ⟨rfl, hc, ho⟩
  go_wp2
  go_ret
  exact ⟨rfl, hc, ho⟩

theorem text_any (B b : Nat) (c : Cu) (most : Int) (hm : most < 9223372036854775808) (w : World) (h : CurIn w B b c) :
    Calls Try.prog 14 #[.pointer (some ⟨b, 0, none⟩), .int .i64 most] w fun e w' => e = .returned (.string (tx (c.text most).1)) ∧ CurIn w' B b (c.text most).2 ∧ Only b w w' := by
  have hmf : ∀ (fn : Fn) (first cap : Array Value) (w : World), (Instr.makeFunc fn first cap).run Try.prog w = .ok (.func fn first cap) w := fun _ _ _ _ => rfl
  have hlt := h.lt
  have hb : Below w.heap.size w (w.alloc (.cells #[.int .i64 most] 3)) := (Below.refl _ w).alloc (Nat.le_refl _) _
  have ht := take_text B b c w.heap.size most hm (w.alloc (.cells #[.int .i64 most] 3)) (h.below hb hlt) (by simp) (by simp only [World.cell?, World.alloc, Array.getElem?_push_size]; rfl)
  generalize tx (c.text most).1 = v at *
  have HT := Lib.hid ht
  have HB := Lib.hid hb
  clear ht h hb hlt hm
  go_enter Try.func14, Try.ntmps14
  go_wp2_with fail
  refine HT.out.mono ?_
  rintro e w1 ⟨rfl, hc, ho⟩
  go_wp2
  go_ret
  exact ⟨rfl, hc, (Only.of_below HB.out).trans ho⟩

end Go.Proofs.Ytkpgnpiofhgcpaa
