/- The mathematics of lines. -/
import Derived.Lib.Split
import Derived.Lib.SplitLaws
import Derived.Lib.CountLaws
import Derived.Lib.IndexBytes
import Derived.Lib.Join
import Derived.Test.YthpnfdnhaphfgaaDoorMw
import Derived.Test.YthpnfdnhaphfgaaDoorEa
namespace Go.Proofs.YthpnfdnhaphfgaaDoor

/-- A line's parts. -/
def words : List UInt8 → List (List UInt8)
  | [] => [[]]
  | c :: l => if c = 32 then [] :: words l else match words l with
    | [] => [[c]]
    | w :: ws => (c :: w) :: ws

theorem words_ne (l : List UInt8) : words l ≠ [] := by
  cases l with
  | nil => simp [words]
  | cons c l =>
    unfold words
    split
    · simp
    · split <;> simp
theorem words_miss : ∀ (a : List UInt8), (∀ b ∈ a, b ≠ 32) → words a = [a]
  | [], _ => rfl
  | c :: a, h => by
    have ih := words_miss a (fun b hb => h b (by simp [hb]))
    unfold words
    rw [if_neg (h c (by simp)), ih]
theorem words_hit : ∀ (a r : List UInt8), (∀ b ∈ a, b ≠ 32) → words (a ++ 32 :: r) = a :: words r
  | [], r, _ => by
    show words (32 :: r) = _
    rw [words, if_pos rfl]
  | c :: a, r, h => by
    have ih := words_hit a r (fun b hb => h b (by simp [hb]))
    show words (c :: (a ++ 32 :: r)) = _
    rw [words, if_neg (h c (by simp)), ih]

/-- Parts as a line. -/
def joinw (ws : List (List UInt8)) : List UInt8 := Lib.join ws [32]
theorem joinw_nil : joinw [] = [] := rfl
theorem joinw_one (a : List UInt8) : joinw [a] = a := by simp [joinw, Lib.join, List.intercalate]
theorem joinw_cons (a : List UInt8) (ws : List (List UInt8)) (h : ws ≠ []) : joinw (a :: ws) = a ++ 32 :: joinw ws := by
  cases ws with
  | nil => contradiction
  | cons b ws => simp [joinw, Lib.join, List.intercalate]

theorem part_at (l : List UInt8) : (∀ b ∈ l, b ≠ 32) ∨ ∃ a r, l = a ++ 32 :: r ∧ ∀ b ∈ a, b ≠ 32 := by
  induction l with
  | nil => left; simp
  | cons c l ih =>
    by_cases hc : c = 32
    · subst hc
      exact .inr ⟨[], l, rfl, by simp⟩
    · rcases ih with ih | ⟨a, r, rfl, ih⟩
      · left
        intro b hb
        rcases List.mem_cons.1 hb with rfl | hb
        · exact hc
        · exact ih b hb
      · refine .inr ⟨c :: a, r, rfl, ?_⟩
        intro b hb
        rcases List.mem_cons.1 hb with rfl | hb
        · exact hc
        · exact ih b hb

theorem joinw_words : ∀ (n : Nat) (l : List UInt8), l.length ≤ n → joinw (words l) = l
  | 0, l, h => by
    have : l = [] := List.eq_nil_of_length_eq_zero (by omega)
    subst this
    rfl
  | n + 1, l, h => by
    rcases part_at l with hm | ⟨a, r, rfl, ha⟩
    · rw [words_miss l hm, joinw_one]
    · rw [words_hit a r ha, joinw_cons a _ (words_ne r), joinw_words n r (by simp at h; omega)]

theorem words_joinw : ∀ (ws : List (List UInt8)), ws ≠ [] → (∀ w ∈ ws, ∀ b ∈ w, b ≠ 32) → words (joinw ws) = ws
  | [], h, _ => absurd rfl h
  | [a], _, h => by rw [joinw_one, words_miss a (h a (by simp))]
  | a :: b :: ws, _, h => by
    rw [joinw_cons a (b :: ws) (by simp), words_hit a _ (h a (by simp)), words_joinw (b :: ws) (by simp) (fun w hw => h w (by simp [hw]))]

theorem words_len : ∀ (n : Nat) (l : List UInt8), l.length ≤ n → (words l).length ≤ l.length + 1
  | 0, l, h => by
    have : l = [] := List.eq_nil_of_length_eq_zero (by omega)
    subst this
    simp [words]
  | n + 1, l, h => by
    rcases part_at l with hm | ⟨a, r, rfl, ha⟩
    · rw [words_miss l hm]; simp
    · rw [words_hit a r ha]
      have := words_len n r (by simp at h; omega)
      simp
      omega

/-- What Split makes. -/
theorem ixb_miss : ∀ {a : List UInt8}, (∀ b ∈ a, b ≠ 32) → Lib.indexByte a 32 = -1
  | [], _ => rfl
  | c :: a, h => by
    have ih := ixb_miss (a := a) (fun b hb => h b (by simp [hb]))
    have hc : (c == 32) = false := by simpa using h c (by simp)
    unfold Lib.indexByte
    rw [hc, ih]
    rfl
theorem ixb_hit : ∀ {a r : List UInt8}, (∀ b ∈ a, b ≠ 32) → Lib.indexByte (a ++ 32 :: r) 32 = (a.length : Int)
  | [], r, _ => by simp [Lib.indexByte]
  | c :: a, r, h => by
    have ih := ixb_hit (a := a) (r := r) (fun b hb => h b (by simp [hb]))
    have hc : (c == 32) = false := by simpa using h c (by simp)
    show Lib.indexByte (c :: (a ++ 32 :: r)) 32 = _
    unfold Lib.indexByte
    rw [hc, ih]
    have h2 : ((a.length : Int) == -1) = false := by rw [beq_eq_false_iff_ne]; omega
    simp [h2]

theorem split_words (sep : ByteArray) (hsep : sep = tx [32]) : ∀ (n : Nat) (l : List UInt8), l.length ≤ n → (Lib.splitB sep 0 (Lib.countB (tx l) sep) (tx l)).map Value.string = (words l).map tsv ∧ Lib.countB (tx l) sep + 1 = (words l).length := by
  have h1s : 1 ≤ sep.size := by rw [hsep, tx_size]; simp
  have hix : ∀ l : List UInt8, Lib.indexB (tx l) sep = Lib.indexByte l 32 := fun l => by
    rw [hsep]
    show Lib.index (tx l).data.toList (tx [32]).data.toList = _
    exact Lib.index_one _ _
  have hsz : sep.size = 1 := by rw [hsep, tx_size]; rfl
  have hex : ∀ (a r : List UInt8), (tx (a ++ 32 :: r)).extract (a.length + sep.size) (tx (a ++ 32 :: r)).size = tx r := fun a r => by
    rw [hsz]
    apply ByteArray.ext
    simp [tx, ByteArray.data_extract, ByteArray.size]
    rw [show a.length + (r.length + 1) - (a.length + 1) = r.length by omega, List.take_length]
  have hex0 : ∀ (a r : List UInt8), (tx (a ++ 32 :: r)).extract 0 (a.length + 0) = tx a := fun a r => by
    apply ByteArray.ext
    simp [tx, ByteArray.data_extract]
  intro n
  induction n with
  | zero =>
    intro l h
    have : l = [] := List.eq_nil_of_length_eq_zero (by omega)
    subst this
    have hm : Lib.indexB (tx []) sep = -1 := by rw [hix]; rfl
    rw [Lib.countB_miss _ _ hm, Lib.splitB_miss _ _ _ _ hm]
    exact ⟨rfl, rfl⟩
  | succ n ih =>
    intro l h
    rcases part_at l with hm | ⟨a, r, rfl, ha⟩
    · have hm2 : Lib.indexB (tx l) sep = -1 := by rw [hix]; exact ixb_miss hm
      rw [Lib.countB_miss _ _ hm2, Lib.splitB_miss _ _ _ _ hm2, words_miss l hm]
      exact ⟨rfl, rfl⟩
    · have hh : Lib.indexB (tx (a ++ 32 :: r)) sep = (a.length : Int) := by rw [hix]; exact ixb_hit ha
      have hr := ih r (by simp at h; omega)
      rw [Lib.countB_hit _ _ a.length h1s hh, hex, words_hit a r ha, Nat.add_comm 1, Lib.splitB_hit _ _ _ _ a.length hh, hex, hex0, List.map_cons, hr.1, List.length_cons]
      exact ⟨rfl, by omega⟩

end Go.Proofs.YthpnfdnhaphfgaaDoor
