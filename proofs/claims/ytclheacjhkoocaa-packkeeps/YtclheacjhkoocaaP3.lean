import Derived.Test.YtclheacjhkoocaaC1
import Derived.Test.YtclheacjhkoocaaP1
namespace Go.Proofs.Ytclheacjhkoocaa
open Go.RowKit
open Pk
set_option linter.unusedVariables false
set_option linter.unusedSimpArgs false

theorem foot_sub' {a : Nat} {o o' : Option Addr} (h : SubO o o') : ∀ k, footW a o' k → footW a o k := by
  rintro k (rfl | hk)
  · exact .inl rfl
  · exact .inr (h.in k hk)
/-- a writer and a reader of the call's own, apart from one another and from what came in -/
structure Two (w wr : World) (a : Nat) (oa : Option Addr) (ca L : Nat) (bs : List Nat) (e : Nat) (b : Nat) (oR : Option Addr) (cR : Nat) (rs : List Nat) (re : Nat) : Prop where
  W : IsW 65 wr a oa ca L bs e
  R : IsR 68 wr b oR cR rs re
  fa : ∀ x, footW a oa x → w.heap.size ≤ x
  fb : ∀ x, footW b oR x → w.heap.size ≤ x
  dis : ∀ x, footW a oa x → ¬ footW b oR x
  K : Keeps (fun _ => False) w wr

theorem Two.keep {w wr w' : World} {a : Nat} {oa : Option Addr} {ca L : Nat} {bs : List Nat} {e : Nat} {b : Nat} {oR : Option Addr} {cR : Nat} {rs : List Nat} {re : Nat} (h : Two w wr a oa ca L bs e b oR cR rs re) (hk : Keeps (fun _ => False) wr w') : Two w w' a oa ca L bs e b oR cR rs re :=
  ⟨h.W.keeps hk (fun _ _ h => h), h.R.keeps hk (fun _ _ h => h), h.fa, h.fb, h.dis, h.K.trans hk⟩
theorem Two.write {w wr w' : World} {a : Nat} {oa : Option Addr} {ca L : Nat} {bs : List Nat} {e : Nat} {b : Nat} {oR : Option Addr} {cR : Nat} {rs : List Nat} {re : Nat} {st : WS} (h : Two w wr a oa ca L bs e b oR cR rs re) (hs : WStep 65 wr a oa L st w') : ∃ oa' ca', Two w w' a oa' ca' L st.1 st.2 b oR cR rs re := by
  obtain ⟨oa', ca', hW, hf, hk⟩ := hs
  exact ⟨oa', ca', hW, h.R.keeps hk (fun x hx hx' => h.dis x hx' hx), foot_step hf h.fa h.K.size, h.fb, foot_apart hf h.dis h.R.lt, h.K.then hk (fun x hx => .inr (h.fa x hx))⟩
theorem Two.read {w wr w' : World} {a : Nat} {oa : Option Addr} {ca L : Nat} {bs : List Nat} {e : Nat} {b : Nat} {oR : Option Addr} {cR : Nat} {rs : List Nat} {re : Nat} {st : RS} (h : Two w wr a oa ca L bs e b oR cR rs re) (hs : RStep 68 wr b oR st w') : ∃ oR' cR', Two w w' a oa ca L bs e b oR' cR' st.1 st.2 := by
  obtain ⟨oR', cR', hR, hf, hk⟩ := hs
  exact ⟨oR', cR', h.W.keeps hk (fun x hx e => h.dis x hx (.inl e)), hR, h.fa, fun x hx => h.fb x (foot_sub' hf x hx), fun x hx hx' => h.dis x hx (foot_sub' hf x hx'), h.K.then hk (fun x hx => .inr (h.fb x (.inl hx)))⟩

theorem lay_same (L : Nat) (st : WS) (news : List Nat) : (lay L st news).2 ≠ 0 → (lay L st news).1 = st.1 := by
  unfold lay
  split
  · intro _; rfl
  · split
    · intro _; rfl
    · intro h; exact absurd rfl h
theorem lay_grows (L : Nat) (st : WS) (news : List Nat) : st.1.length ≤ (lay L st news).1.length := by
  unfold lay
  split
  · omega
  · split
    · simp
    · simp

/-- what every call on a reader keeps to -/
def Tame (st st' : RS) : Prop := (st'.2 ≠ 0 → st'.1 = st.1) ∧ st'.1.length ≤ st.1.length ∧ (st.2 ≠ 0 → st' = st)
theorem tame_rnum (k : Nat) (st : RS) : Tame st (rnum k st).2 := by
  unfold rnum
  split
  · exact ⟨fun _ => rfl, Nat.le_refl _, fun _ => rfl⟩
  · rename_i h
    split
    · exact ⟨fun _ => rfl, Nat.le_refl _, fun h' => absurd h' h⟩
    · exact ⟨fun h' => absurd rfl h', by simp, fun h' => absurd h' h⟩
theorem ccount_len (b : List Nat) (most : Int) : (ccount b most).2.1.length ≤ b.length := by
  unfold ccount
  split
  · simp
  · split
    · simp
    · simp
theorem tame_rcount (most : Int) (st : RS) : Tame st (rcount most st).2 := by
  unfold rcount
  split
  · exact ⟨fun _ => rfl, Nat.le_refl _, fun _ => rfl⟩
  · rename_i h
    have hl := ccount_len st.1 most
    generalize ccount st.1 most = q at hl ⊢
    obtain ⟨n, r, e⟩ := q
    dsimp only at hl ⊢
    split
    · exact ⟨fun _ => rfl, Nat.le_refl _, fun h' => absurd h' h⟩
    · exact ⟨fun h' => absurd rfl h', hl, fun h' => absurd h' h⟩
theorem ctext_len (b : List Nat) (most : Int) : (ctext b most).2.1.length ≤ b.length := by
  unfold ctext
  have hl := ccount_len b most
  generalize ccount b most = q at hl ⊢
  obtain ⟨n, r, e⟩ := q
  dsimp only at hl ⊢
  split
  · simp
  · split
    · simp
    · simp; omega
theorem tame_rtext (most : Int) (st : RS) : Tame st (rtext most st).2 := by
  unfold rtext
  split
  · exact ⟨fun _ => rfl, Nat.le_refl _, fun _ => rfl⟩
  · rename_i h
    have hl := ctext_len st.1 most
    generalize ctext st.1 most = q at hl ⊢
    obtain ⟨n, r, e⟩ := q
    dsimp only at hl ⊢
    split
    · exact ⟨fun _ => rfl, Nat.le_refl _, fun h' => absurd h' h⟩
    · exact ⟨fun h' => absurd rfl h', hl, fun h' => absurd h' h⟩
theorem ctextsN_len (most : Int) (n : Nat) : ∀ b : List Nat, (ctextsN n b most).2.1.length ≤ b.length := by
  induction n with
  | zero => intro b; simp [ctextsN]
  | succ n ih =>
    intro b
    rw [ctextsN_succ]
    have hl := ctext_len b most
    generalize ctext b most = q at hl ⊢
    obtain ⟨s, r, e⟩ := q
    dsimp only at hl ⊢
    split
    · simp
    · have := ih r
      generalize ctextsN n r most = q at this ⊢
      obtain ⟨l, r', e'⟩ := q
      dsimp only at this ⊢
      split
      · simp
      · simp; omega
theorem ctexts_len (b : List Nat) (count most : Int) : (ctexts b count most).2.1.length ≤ b.length := by
  unfold ctexts
  have hl := ccount_len b count
  generalize ccount b count = q at hl ⊢
  obtain ⟨n, r, e⟩ := q
  dsimp only at hl ⊢
  split
  · simp
  · have := ctextsN_len most n r
    generalize ctextsN n r most = q at this ⊢
    obtain ⟨l, r', e'⟩ := q
    dsimp only at this ⊢
    split
    · simp
    · simp; omega
theorem tame_rtexts (count most : Int) (st : RS) : Tame st (rtexts count most st).2 := by
  unfold rtexts
  split
  · exact ⟨fun _ => rfl, Nat.le_refl _, fun _ => rfl⟩
  · rename_i h
    have hl := ctexts_len st.1 count most
    generalize ctexts st.1 count most = q at hl ⊢
    obtain ⟨n, r, e⟩ := q
    dsimp only at hl ⊢
    split
    · exact ⟨fun _ => rfl, Nat.le_refl _, fun h' => absurd h' h⟩
    · exact ⟨fun h' => absurd rfl h', hl, fun h' => absurd h' h⟩
theorem tame_rst (p : OpV) (st : RS) : Tame st (p.rst st) := by
  unfold OpV.rst
  split
  · exact tame_rnum _ _
  · split
    · exact tame_rnum _ _
    · split
      · exact tame_rnum _ _
      · split
        · exact tame_rtext _ _
        · split
          · exact tame_rtexts _ _ _
          · split
            · exact tame_rcount _ _
            · exact ⟨fun _ => rfl, Nat.le_refl _, fun _ => rfl⟩
end Go.Proofs.Ytclheacjhkoocaa
