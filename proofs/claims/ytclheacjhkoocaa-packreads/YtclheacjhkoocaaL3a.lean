import Derived.Test.YtclheacjhkoocaaSm
namespace Go.Proofs.Ytclheacjhkoocaa
open Go.RowKit
open Pk
set_option linter.unusedVariables false
set_option linter.unusedSimpArgs false

/-- both readers behind a call -/
def RStep2 (w : World) (a1 : Nat) (o1 : Option Addr) (a2 : Nat) (o2 : Option Addr) (st : RS) (w' : World) : Prop :=
  ∃ o1' c1' o2' c2', IsR 68 w' a1 o1' c1' st.1 st.2 ∧ IsR 87 w' a2 o2' c2' st.1 st.2 ∧ SubO o1 o1' ∧ SubO o2 o2' ∧ Keeps (fun k => k = a1 ∨ k = a2) w w'

theorem foot_sub {a : Nat} {o o' : Option Addr} (h : SubO o o') : ∀ k, footW a o' k → footW a o k := by
  rintro k (rfl | hk)
  · exact .inl rfl
  · exact .inr (h.in k hk)

theorem rstep2_of {w wa w1 w2 : World} {a1 a2 : Nat} {o1 o2 : Option Addr} {c2 : Nat} {bs : List Nat} {e0 : Nat} {st : RS} (hk : Keeps (fun _ => False) w wa) (hd1 : ¬ footW a2 o2 a1) (hd2 : ¬ footW a1 o1 a2)
    (h1 : RStep 68 wa a1 o1 st w1) (h2 : RStep 87 w1 a2 o2 st w2) : RStep2 w a1 o1 a2 o2 st w2 := by
  obtain ⟨o1', c1', hR1, hs1, hk1⟩ := h1
  obtain ⟨o2', c2', hR2, hs2, hk2⟩ := h2
  refine ⟨o1', c1', o2', c2', hR1.keeps hk2 (fun k hf e => ?_), hR2, hs1, hs2, ?_⟩
  · subst e; exact hd2 (foot_sub hs1 _ hf)
  · exact (hk.mono (fun _ h => h.elim)).trans ((hk1.mono (fun _ h => .inl h)).trans (hk2.mono (fun _ h => .inr h)))

theorem rstep2_then {w w1 w2 : World} {a1 a2 : Nat} {o1 o2 : Option Addr} {st : RS} (h : RStep2 w a1 o1 a2 o2 st w1) (hk : Keeps (fun _ => False) w1 w2) : RStep2 w a1 o1 a2 o2 st w2 := by
  obtain ⟨o1', c1', o2', c2', hR1, hR2, hs1, hs2, hk1⟩ := h
  exact ⟨o1', c1', o2', c2', hR1.keeps hk (fun _ _ h => h), hR2.keeps hk (fun _ _ h => h), hs1, hs2, hk1.trans (hk.mono (fun _ h => h.elim))⟩
theorem texts_row {w w' : World} {a : Nat} {o oS : Option Addr} {cS : Nat} {st : RS} {ss : List ByteArray} (h : RStep 87 w a o st w') (hown : OwnsS w oS cS ss) (hne : ∀ k, inO oS k → k ≠ a) : RowS w' oS ss := by
  obtain ⟨_, _, _, _, hk⟩ := h
  exact (hown.keeps hk hne).row

theorem texts_len {n : Nat} {l : List (List Nat)} (h : n = l.length) : n = (l.map text).length := by rw [List.length_map]; exact h
theorem texts_le {n : Nat} (h : n ≤ 4294967296) : n ≤ 140737488355328 := by omega
theorem texts_row2 {wa w w' : World} {a c : Nat} {o oS : Option Addr} {cS : Nat} {st : RS} {ss : List ByteArray} {bs : List Nat} {e0 : Nat} {o' : Option Addr} (hR : IsR 87 wa a o' c bs e0) (h : RStep 87 w a o st w') (hown : OwnsS w oS cS ss) (hnew : ∀ k, inO oS k → wa.heap.size ≤ k) : RowS w' oS ss :=
  texts_row h hown (fun k hk e => by have := hnew k hk; have := lt_of_block hR.blk; omega)

end Go.Proofs.Ytclheacjhkoocaa
