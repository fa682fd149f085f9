import Derived.Test.YtagekdmkidbhpaaGreatOf
/- Two stores. -/
namespace Go.Proofs.YtagekdmkidbhpaaGreat
open Go.RowKit Go.Maps Go.Sort Orl
set_option linter.unusedVariables false
set_option linter.unusedSimpArgs false

def Tw (w0 w : World) (p : Nat) (s : St) (N : Nat) (p' : Nat) (s' : St) (N' : Nat) (P : Nat → Prop) : Prop := ∃ T T', Ows w0 w p T s N ∧ Ows w0 w p' T' s' N' ∧ (∀ b, T b ≠ none → T' b = none) ∧ ∀ b, P b → T b = none ∧ T' b = none ∧ w0.heap.size ≤ b ∧ b < w.heap.size
section
variable {w0 w w' : World} {p : Nat} {s : St} {N : Nat} {p' : Nat} {s' : St} {N' : Nat} {P : Nat → Prop}
theorem Tw.swap (h : Tw w0 w p s N p' s' N' P) : Tw w0 w p' s' N' p s N P := by
  obtain ⟨T, T', h1, h2, h3, h4⟩ := h
  refine ⟨T', T, h2, h1, fun b hb => ?_, fun b hb => ⟨(h4 b hb).2.1, (h4 b hb).1, (h4 b hb).2.2⟩⟩
  cases e : T b with
  | none => rfl
  | some r => exact absurd (h3 b (by rw [e]; simp)) hb
theorem Tw.left (h : Tw w0 w p s N p' s' N' P) : ∃ P1, Ow w0 w p s N P1 ∧ (∀ b, P b → P1 b) ∧ ∀ w2 s2 N2, Ow w0 w2 p s2 N2 P1 → Keeps (fun b => ¬ P1 b) w w2 → Tw w0 w2 p s2 N2 p' s' N' P := by
  obtain ⟨T, T', h1, h2, h3, h4⟩ := h
  have hT' : ∀ b, T' b ≠ none → T b = none := fun b hb => by
    cases e : T b with
    | none => rfl
    | some r => exact absurd (h3 b (by rw [e]; simp)) hb
  refine ⟨fun b => P b ∨ T' b ≠ none, ⟨T, h1, fun b hb => ?_⟩, fun b hb => .inl hb, fun w2 s2 N2 ho hk => ?_⟩
  · rcases hb with hb | hb
    · exact ⟨(h4 b hb).1, (h4 b hb).2.2⟩
    · exact ⟨hT' b hb, h2.new b hb, h2.is.lt b hb⟩
  · obtain ⟨T2, o1, o2⟩ := ho
    refine ⟨T2, T', o1, ⟨h2.is.keeps hk (fun b hb hc => hc (.inr hb)), h2.ok, h2.new, o1.keep⟩, fun b hb => ?_, fun b hb => ⟨(o2 b (.inl hb)).1, (h4 b hb).2.1, (o2 b (.inl hb)).2⟩⟩
    cases e : T' b with
    | none => rfl
    | some r => exact absurd (o2 b (.inr (by rw [e]; simp))).1 hb
theorem Tw.go (h : Tw w0 w p s N p' s' N' P) (hk : Keeps no w w') : Tw w0 w' p s N p' s' N' P := by
  obtain ⟨T, T', h1, h2, h3, h4⟩ := h
  exact ⟨T, T', h1.go hk, h2.go hk, h3, fun b hb => ⟨(h4 b hb).1, (h4 b hb).2.1, (h4 b hb).2.2.1, Nat.lt_of_lt_of_le (h4 b hb).2.2.2 hk.size⟩⟩
theorem Tw.first (h : Tw w0 w p s N p' s' N' P) : Ow w0 w p s N P := by
  obtain ⟨T, T', h1, h2, h3, h4⟩ := h
  exact ⟨T, h1, fun b hb => ⟨(h4 b hb).1, (h4 b hb).2.2⟩⟩
/-- a second store, made behind the first -/
theorem Tw.made (h : Ow w0 w p s N P) (h' : Ow w w' p' s' N' no) : Tw w0 w' p s N p' s' N' P := by
  obtain ⟨T, h1, h2⟩ := h
  obtain ⟨T', h3, _⟩ := h'
  have hd : ∀ b, T' b ≠ none → T b = none := fun b hb => by
    cases e : T b with
    | none => rfl
    | some r =>
      have := h1.is.lt b (by rw [e]; simp)
      have := h3.new b hb
      omega
  refine ⟨T, T', h1.go h3.keep, ⟨h3.is, h3.ok, fun b hb => Nat.le_trans h1.keep.size (h3.new b hb), h1.keep.trans h3.keep⟩, fun b hb => ?_, fun b hb => ⟨(h2 b hb).1, ?_, (h2 b hb).2.1, Nat.lt_of_lt_of_le (h2 b hb).2.2 h3.keep.size⟩⟩
  · cases e : T' b with
    | none => rfl
    | some r => exact absurd (hd b (by rw [e]; simp)) hb
  · cases e : T' b with
    | none => rfl
    | some r =>
      have := h3.new b (by rw [e]; simp)
      have := (h2 b hb).2.2
      omega
theorem Tw.sub (h : Tw w0 w p s N p' s' N' P) {Q : Nat → Prop} (hQ : ∀ b, Q b → P b) : Tw w0 w p s N p' s' N' Q := by
  obtain ⟨T, T', h1, h2, h3, h4⟩ := h
  exact ⟨T, T', h1, h2, h3, fun b hb => h4 b (hQ b hb)⟩
theorem Tw.grow (h : Tw w0 w p s N p' s' N' P) (hk : Keeps no w w') : Tw w0 w' p s N p' s' N' (fun b => P b ∨ (w.heap.size ≤ b ∧ b < w'.heap.size)) := by
  obtain ⟨T, T', h1, h2, h3, h4⟩ := h
  refine ⟨T, T', h1.go hk, h2.go hk, h3, fun b hb => ?_⟩
  rcases hb with hb | ⟨hb1, hb2⟩
  · exact ⟨(h4 b hb).1, (h4 b hb).2.1, (h4 b hb).2.2.1, Nat.lt_of_lt_of_le (h4 b hb).2.2.2 hk.size⟩
  · refine ⟨?_, ?_, Nat.le_trans h1.keep.size hb1, hb2⟩
    · cases e : T b with
      | none => rfl
      | some r => have := h1.is.lt b (by rw [e]; simp); omega
    · cases e : T' b with
      | none => rfl
      | some r => have := h2.is.lt b (by rw [e]; simp); omega
theorem Tw.other (h : Tw w0 w p s N p' s' N' P) (hk : Keeps P w w') : Tw w0 w' p s N p' s' N' P := by
  obtain ⟨T, T', h1, h2, h3, h4⟩ := h
  refine ⟨T, T', ⟨h1.is.keeps hk (fun b hb hc => hb (h4 b hc).1), h1.ok, h1.new, h1.keep.then hk (fun b hb => .inr (h4 b hb).2.2.1)⟩, ⟨h2.is.keeps hk (fun b hb hc => hb (h4 b hc).2.1), h2.ok, h2.new, h2.keep.then hk (fun b hb => .inr (h4 b hb).2.2.1)⟩, h3, fun b hb => ⟨(h4 b hb).1, (h4 b hb).2.1, (h4 b hb).2.2.1, Nat.lt_of_lt_of_le (h4 b hb).2.2.2 hk.size⟩⟩
end
end Go.Proofs.YtagekdmkidbhpaaGreat
