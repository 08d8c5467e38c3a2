/- A map of records in memory; fold.put. -/
import Derived.Test.YtbaokcigfgfoaaaGb
import Derived.Test.YtbaokcigfgfoaaaRk0
import Derived.Test.YtbaokcigfgfoaaaMw
namespace Go.Proofs.Ytbaokcigfgfoaaa
open Go.RowKit Go.Maps Go.ChangeMaps Go.WideMaps

theorem gkey : Keyed Try.prog 9 := string_keyed Try.underlying9
theorem gkeyOf {s : List UInt8} (h : s.length ≤ maxLen) : keyOf Try.prog 9 (.string (tx s)) = some (.string s) := by
  rw [keyOf_string_mk Try.underlying9 (by simpa [tx, ByteArray.size] using h)]
  simp [tx]
/-- A map in memory that holds a state. -/
def RMap (w : World) (b N : Nat) (S : List Rw) : Prop := ∃ D : DataW Value, w.ownsMap Try.prog 9 selfElem b N D ∧ MapOf D S
theorem RMap.kept {w w' : World} {b N : Nat} {S : List Rw} {row : Option Nat} (h : RMap w b N S) (hg : w.grownBy w' row) (hne : some b ≠ row) : RMap w' b N S := by
  obtain ⟨D, h1, h2⟩ := h
  exact ⟨D, h1.kept hg hne, h2⟩
theorem RMap.below {w w' : World} {b N : Nat} {S : List Rw} (h : RMap w b N S) (hb : Below w.heap.size w w') : RMap w' b N S := by
  obtain ⟨D, h1, h2⟩ := h
  have hl := h1.lt
  obtain ⟨es, clock, hq, r⟩ := h1
  exact ⟨D, ⟨es, clock, (hb.block b hl).trans hq, r⟩, h2⟩
theorem RMap.lt {w : World} {b N : Nat} {S : List Rw} (h : RMap w b N S) : b < w.heap.size := by
  obtain ⟨D, h1, _⟩ := h
  exact h1.lt
theorem rmap_start (w : World) : RMap (w.alloc (.map #[] 0)) w.heap.size 0 [] := ⟨.map [], World.ownsMap_made w _ _ _, MapOf.start⟩

theorem below_turned {w w' : World} {b n0 : Nat} (h : w.mapTurned w' b) (hb : n0 ≤ b) (hn : n0 ≤ w.heap.size) : Below n0 w w' := by
  have hg := h.grown
  exact ⟨hg.os, hg.tape, hg.output, hg.size, fun k hk => hg.block k (by omega) (by simp; omega)⟩

set_option maxRecDepth 100000 in
set_option maxHeartbeats 1000000 in
theorem fput_any (x : Rw) (b N : Nat) (S : List Rw) (hN : N < 1073741824) (ht : x.t.length ≤ maxLen) (w : World) (h : RMap w b N S) :
    Calls Try.prog 25 #[.map (some b), x.val] w fun e w' => e = .returned (.tuple #[]) ∧ RMap w' b (N + 1) (put1 Rw.k Rw.t S x) ∧ w.grownBy w' (some b) := by
  obtain ⟨D, hm, hs⟩ := h
  have hkey := gkeyOf ht
  have HPUT := Lib.hid (hs.put hm.isMap x)
  have HDEL := Lib.hid (hs.del x)
  have HS := Lib.hid hs
  have HM := Lib.hid hm
  have hn : N < maxLen := by unfold maxLen; omega
  have HN := Lib.hid hn
  unfold put1
  obtain ⟨⟨k, t, u, o, m, g⟩, A, n, c, l⟩ := x
  unfold Rw.val rcv rsv at *
  unfold Rw.t Rw.k at *
  simp only at hkey ht ⊢
  have hbx := one_new w (.cells #[.int .i64 k, .string (tx t), .int .u64 u, .slice A n c, .int .u64 o, .int .u64 m, .string (tx g)] 36)
  have q0 := at_cell (i := 0) hbx rfl
  have q1 := at_cell (i := 1) hbx rfl
  have q2 := at_cell (i := 2) hbx rfl
  have q3 := at_cell (i := 3) hbx rfl
  have q4 := at_cell (i := 4) hbx rfl
  have q5 := at_cell (i := 5) hbx rfl
  have q6 := at_cell (i := 6) hbx rfl
  have HG := Lib.hid (World.grownBy_alloc w (.cells #[.int .i64 k, .string (tx t), .int .u64 u, .slice A n c, .int .u64 o, .int .u64 m, .string (tx g)] 36) (some b))
  have HM1 := Lib.hid (hm.alloc (.cells #[.int .i64 k, .string (tx t), .int .u64 u, .slice A n c, .int .u64 o, .int .u64 m, .string (tx g)] 36))
  clear hbx hm hs hn ht
  by_cases h1 : k = 1
  · subst h1
    have END : Hid (∀ w', World.ownsMap w' Try.prog 9 selfElem b (N + 1) (D.put (.string t) (.held (.agg #[.int .i64 1, .string (tx t), .int .u64 u, .slice A n c, .int .u64 o, .int .u64 m, .string (tx g)]))) → RMap w' b (N + 1) (if (1 : Int) = 1 then rput (fun x => x.r.target) ⟨⟨1, t, u, o, m, g⟩, A, n, c, l⟩ false S else if (1 : Int) = 2 then rput (fun x => x.r.target) ⟨⟨1, t, u, o, m, g⟩, A, n, c, l⟩ true S else S)) := fun w' h => ⟨_, h, HPUT.out⟩
    clear HPUT HDEL
    go_enter Try.func25, Try.ntmps25
    go_wp2_with (at_mapUpdate; refine wpList_mapUpdate_own _ rfl _ _ _ 63 rfl 9 36 gkey Try.underlying63 selfElem b N D rfl HM1.out HN.out _ _ (.string t) rfl rfl hkey _ _ rfl ?_; intro w2 hm2 hg2)
    go_end0
    exact ⟨rfl, END.out _ hm2, HG.out.andThen hg2 (fun j hj => .inr hj)⟩
  · by_cases h2 : k = 2
    · subst h2
      have END : Hid (∀ w', World.ownsMap w' Try.prog 9 selfElem b N (D.del (.string t)) → RMap w' b (N + 1) (if (2 : Int) = 1 then rput (fun x => x.r.target) ⟨⟨2, t, u, o, m, g⟩, A, n, c, l⟩ false S else if (2 : Int) = 2 then rput (fun x => x.r.target) ⟨⟨2, t, u, o, m, g⟩, A, n, c, l⟩ true S else S)) := fun w' h => ⟨_, h.mono (Nat.le_succ _), HDEL.out⟩
      clear HPUT HDEL
      go_enter Try.func25, Try.ntmps25
      go_wp2_with (at_delete; refine wpList_delete_own _ rfl _ _ 63 9 rfl 36 gkey Try.underlying63 selfElem b N D rfl HM1.out _ (.string t) rfl hkey ?_; intro w2 hm2 hg2)
      go_end0
      exact ⟨rfl, END.out _ hm2, HG.out.andThen hg2.grown (fun j hj => .inr hj)⟩
    · have END2 : Hid (RMap (w.alloc (.cells #[.int .i64 k, .string (tx t), .int .u64 u, .slice A n c, .int .u64 o, .int .u64 m, .string (tx g)] 36)) b (N + 1) S) := ⟨_, HM1.out.mono (Nat.le_succ _), HS.out⟩
      have d1 : decide (k = 1) = false := decide_eq_false h1
      have d2 : decide (k = 2) = false := decide_eq_false h2
      clear HPUT HDEL
      go_enter Try.func25, Try.ntmps25
      go_wp2
      go_end0
      exact ⟨rfl, END2.out, HG.out⟩

end Go.Proofs.Ytbaokcigfgfoaaa
