import Derived.Test.YtpfbbfbghldmjaaM4
namespace Go.Proofs.Ytpfbbfbghldmjaa
open Go.RowKit Go.Sort Orl
set_option linter.unusedVariables false
set_option linter.unusedSimpArgs false

/-! ### lists laid behind lists -/
/-- where a slice was born: its block lies between two sizes of the heap -/
def Born (lo hi : Nat) (o : Option Addr) : Prop := ∀ k, inO o k → lo ≤ k ∧ k < hi
theorem born_of {α : Type} {E : El α} {w w' : World} {o : Option Addr} {c : Nat} {xs : List α} (hn : New w o) (ho : Own E w' o c xs) : Born w.heap.size w'.heap.size o := fun k hk => ⟨hn k hk, ho.lt k hk⟩
theorem Born.apart {a b c d : Nat} {o o' : Option Addr} (h : Born a b o) (h' : Born c d o') (hbc : b ≤ c) : ∀ k, inO o k → ¬ inO o' k := fun k h1 h2 => by
  have := h k h1; have := h' k h2; omega
theorem Born.mono {a b c d : Nat} {o : Option Addr} (h : Born a b o) (h1 : c ≤ a) (h2 : b ≤ d) : Born c d o := fun k hk => by
  have := h k hk; omega

theorem getD_append {α : Type} (l m : List α) (j : Nat) (d : α) : (l ++ m).getD j d = if j < l.length then l.getD j d else m.getD (j - l.length) d := by
  simp only [List.getD_eq_getElem?_getD]
  split
  · rw [List.getElem?_append_left (by assumption)]
  · rw [List.getElem?_append_right (by omega)]

/-- new lists, each by itself, laid behind the old ones -/
theorem Lots.push {w w' : World} {oL : Option Addr} {cL : Nat} {LL : List SlT} (h : Lots w oL cL LL) (NS : List SlT)
    (hE : ∀ j, j < NS.length → Own TE w (NS.getD j s0).o (NS.getD j s0).c (NS.getD j s0).xs)
    (hN : ∀ i j, i < j → j < NS.length → ∀ k, inO (NS.getD i s0).o k → ¬ inO (NS.getD j s0).o k)
    (hO : ∀ i j, i < LL.length → j < NS.length → ∀ k, inO (LL.getD i s0).o k → ¬ inO (NS.getD j s0).o k)
    {o' : Option Addr} {c' : Nat} (ho : Own XE w' o' c' (LL ++ NS)) (hap : Ap w oL o' w') : Lots w' o' c' (LL ++ NS) := by
  have hk : Keeps (inO oL) w w' := by
    rcases hap with ⟨_, hk⟩ | ⟨_, hk⟩
    · exact hk
    · exact hk.of_no
  refine ⟨ho, ?_, ?_⟩
  · intro j hj
    rw [List.length_append] at hj
    rw [getD_append]
    split
    · rename_i h1
      exact (h.each j h1).keeps hk (fun b hb1 hb2 => tags_ne (by decide) (h.each j h1) h.own b hb1 hb2)
    · have h2 := hE (j - LL.length) (by omega)
      exact h2.keeps hk (fun b hb1 hb2 => tags_ne (by decide) h2 h.own b hb1 hb2)
  · intro a b ha hb hab x hx hx2
    rw [List.length_append] at ha hb
    rw [getD_append] at hx hx2
    by_cases h1 : a < LL.length
    · rw [if_pos h1] at hx
      by_cases h2 : b < LL.length
      · rw [if_pos h2] at hx2; exact h.far a b h1 h2 hab x hx hx2
      · rw [if_neg h2] at hx2; exact hO a (b - LL.length) h1 (by omega) x hx hx2
    · rw [if_neg h1] at hx
      by_cases h2 : b < LL.length
      · rw [if_pos h2] at hx2; exact hO b (a - LL.length) h2 (by omega) x hx2 hx
      · rw [if_neg h2] at hx2
        rcases Nat.lt_or_gt_of_ne (show a - LL.length ≠ b - LL.length by omega) with h3 | h3
        · exact hN _ _ h3 (by omega) x hx hx2
        · exact hN _ _ h3 (by omega) x hx2 hx
theorem lots_nil (w : World) : Lots w none 0 [] := ⟨own_nil _, fun j hj => absurd hj (Nat.not_lt_zero _), fun i j hi => absurd hi (Nat.not_lt_zero _)⟩
/-- a row of slices as a literal lays it -/
theorem litX (w : World) (vs : List SlT) : Sl XE (w.alloc (.cells (XE.cells vs).toArray 22)) (some ⟨w.heap.size, 0, none⟩) vs.length vs := by
  refine ⟨.inr ⟨w.heap.size, 0, rfl, fun j u hj => ?_⟩, Nat.le_refl _, by simp⟩
  rw [cell_of_blk (blk_new w _)]
  simpa using hj
theorem litY (w : World) (vs : List SlP) : Sl YE (w.alloc (.cells (YE.cells vs).toArray 32)) (some ⟨w.heap.size, 0, none⟩) vs.length vs := by
  refine ⟨.inr ⟨w.heap.size, 0, rfl, fun j u hj => ?_⟩, Nat.le_refl _, by simp⟩
  rw [cell_of_blk (blk_new w _)]
  simpa using hj
/-- one text alone, as a literal lays it, is the call's own -/
theorem own_lit1 (w : World) (x : Tx) : Own TE (w.alloc (.cells #[.string x] 9)) (some ⟨w.heap.size, 0, none⟩) 1 [x] :=
  own_of_shape okT (blk_new w _) (by simp) (by unfold maxLen; omega) (by simp [TE]) (by simp [El.cells, TE])
end Go.Proofs.Ytpfbbfbghldmjaa
