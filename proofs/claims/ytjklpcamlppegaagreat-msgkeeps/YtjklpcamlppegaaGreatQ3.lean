/- What is read fits: lengths and numbers of what read makes. -/
import Derived.Test.YtjklpcamlppegaaGreatQ2
namespace Go.Proofs.YtjklpcamlppegaaGreat
open Go.RowKit Go.Sort Orl Pk
set_option linter.unusedVariables false
set_option linter.unusedSimpArgs false

theorem ccount_le (b : List Nat) (most : Int) : (ccount b most).1 ≤ most.toNat := by
  unfold ccount
  repeat' split
  all_goals first | exact Nat.zero_le _ | (simp only; omega)
theorem ctext_len (b : List Nat) (most : Int) : (ctext b most).1.length ≤ most.toNat := by
  unfold ctext
  have := ccount_le b most
  generalize ccount b most = c at this
  obtain ⟨n, r, e⟩ := c
  simp only at this ⊢
  split
  · simp
  · split
    · simp
    · simp only [List.length_take]; omega
theorem ctextsN_len (most : Int) : ∀ (n : Nat) (b : List Nat), (ctextsN n b most).1.length ≤ n ∧ ∀ s ∈ (ctextsN n b most).1, s.length ≤ most.toNat
  | 0, b => by simp [ctextsN]
  | n + 1, b => by
    unfold ctextsN
    have t1 := ctext_len b most
    generalize ctext b most = c at t1
    obtain ⟨s, r, e⟩ := c
    simp only at t1 ⊢
    split
    · simp
    · have ih := ctextsN_len most n r
      generalize ctextsN n r most = d at ih
      obtain ⟨l, r', e'⟩ := d
      simp only at ih ⊢
      split
      · simp
      · refine ⟨by simp only [List.length_cons]; omega, ?_⟩
        intro x hx
        rcases List.mem_cons.1 hx with rfl | hx
        · exact t1
        · exact ih.2 x hx
theorem ctexts_len (b : List Nat) (count most : Int) : (ctexts b count most).1.length ≤ count.toNat ∧ ∀ s ∈ (ctexts b count most).1, s.length ≤ most.toNat := by
  unfold ctexts
  have t1 := ccount_le b count
  generalize ccount b count = c at t1
  obtain ⟨n, r, e⟩ := c
  simp only at t1 ⊢
  split
  · simp
  · have ih := ctextsN_len most n r
    generalize ctextsN n r most = d at ih
    obtain ⟨l, r', e'⟩ := d
    simp only at ih ⊢
    split
    · simp
    · exact ⟨by simp only; omega, ih.2⟩
theorem rkeys_txs (st : RS) : Txs (rkeys st).1 := by
  obtain ⟨b, e⟩ := st
  have hx : (rtexts 1024 65535 (b, e)).1.length ≤ 1024 ∧ ∀ s ∈ (rtexts 1024 65535 (b, e)).1, s.length ≤ 65535 := by
    unfold rtexts
    split
    · simp
    · have := ctexts_len b 1024 65535
      generalize ctexts b 1024 65535 = d at this
      obtain ⟨l, r', e'⟩ := d
      simp only at this ⊢
      split
      · simp
      · exact this
  unfold rkeys
  refine ⟨by simp only [List.length_map]; exact hx.1, ?_⟩
  intro s hs
  simp only [List.mem_map] at hs
  obtain ⟨l, hl, rfl⟩ := hs
  rw [text_size]; exact hx.2 l hl
theorem rmany_mem {α : Type} (f : RS → α × RS) (P : α → Prop) (h : ∀ st, P (f st).1) : ∀ (n : Nat) (st : RS), ∀ x ∈ (rmany f n st).1, P x
  | 0, st, x, hx => by simp [rmany] at hx
  | n + 1, st, x, hx => by
    simp only [rmany, List.mem_append, List.mem_singleton] at hx
    rcases hx with hx | rfl
    · exact rmany_mem f P h n st x hx
    · exact h _
theorem rmany_memB {α : Type} (f : RS → α × RS) (P : α → Prop) (h : ∀ st, Byt st → P (f st).1 ∧ Byt (f st).2) : ∀ (n : Nat) (st : RS), Byt st → Byt (rmany f n st).2 ∧ ∀ x ∈ (rmany f n st).1, P x
  | 0, st, hb => ⟨hb, fun x hx => by simp [rmany] at hx⟩
  | n + 1, st, hb => by
    obtain ⟨i1, i2⟩ := rmany_memB f P h n st hb
    have := h _ i1
    refine ⟨this.2, fun x hx => ?_⟩
    simp only [rmany, List.mem_append, List.mem_singleton] at hx
    rcases hx with hx | rfl
    · exact i2 x hx
    · exact this.1
theorem tsz (st : RS) : (text (rtext 65535 st).1).size ≤ 65535 := by rw [text_size]; exact rtext_len 65535 st
theorem rpairs_fit (st : RS) : (rpairs st).1.length ≤ 1024 ∧ ∀ p ∈ (rpairs st).1, p.1.size ≤ 65535 ∧ p.2.size ≤ 65535 := by
  unfold rpairs
  refine ⟨by rw [rmany_length]; exact rcount_le 1024 st, ?_⟩
  exact rmany_mem rpair (fun p => p.1.size ≤ 65535 ∧ p.2.size ≤ 65535) (fun st => ⟨tsz _, tsz _⟩) _ _
theorem num8_lt (st : RS) (hb : Byt st) : (rnum 8 st).1 < 18446744073709551616 := by
  have := rnum_lt 8 st.1 st.2 hb
  omega
theorem rwants_fit (st : RS) (hb : Byt st) : (rwants st).1.length ≤ 1024 ∧ ∀ p ∈ (rwants st).1, p.1.size ≤ 65535 ∧ p.2 < 18446744073709551616 := by
  unfold rwants
  refine ⟨by rw [rmany_length]; exact rcount_le 1024 st, ?_⟩
  refine (rmany_memB rwant (fun p => p.1.size ≤ 65535 ∧ p.2 < 18446744073709551616) (fun st hb => ?_) _ _ ((rcount_stp 1024 st).1 hb)).2
  have h1 := (rtext_stp 65535 st).1 hb
  exact ⟨⟨tsz _, num8_lt _ h1⟩, (rnum_stp 8 _).1 h1⟩
theorem rver_fit (st : RS) (hb : Byt st) : OkV (rver st).1 ∧ (rver st).1.id < 18446744073709551616 := by
  unfold rver
  split
  · exact ⟨⟨tsz _, (by show ByteArray.size e0 ≤ 65535; decide), ⟨by simp, fun s hs => by cases hs⟩⟩, by simp⟩
  · exact ⟨⟨tsz _, tsz _, rkeys_txs _⟩, num8_lt _ ((rtext_stp 65535 st).1 hb)⟩
theorem fitM_of {m : Msg} (h1 : Txs m.keys) (h2 : m.pairs.length ≤ 1024 ∧ ∀ p ∈ m.pairs, p.1.size ≤ 65535 ∧ p.2.size ≤ 65535) (h3 : m.wants.length ≤ 1024 ∧ ∀ p ∈ m.wants, p.1.size ≤ 65535) (h4 : m.vers.length ≤ 1 ∧ ∀ v ∈ m.vers, OkV v) : FitM m := by
  refine ⟨by have := h1.1; omega, fun s hs => by have := h1.2 s hs; omega, by have := h2.1; omega, fun p hp => by have := h2.2 p hp; omega, by have := h3.1; omega, fun p hp => by have := h3.2 p hp; omega, by have := h4.1; omega, fun v hv => ?_⟩
  obtain ⟨a, b, c⟩ := h4.2 v hv
  exact ⟨by omega, by omega, by have := c.1; omega, fun s hs => by have := c.2 s hs; omega⟩
theorem txs_nil : Txs [] := ⟨by simp, fun s hs => by cases hs⟩
theorem rfield_fit (k c q : Nat) (st : RS) (hb : Byt st) (hk : k < 256) (hc : c < 256) (hq : q < 18446744073709551616) : Rng (rfield k c q st).1 ∧ FitM (rfield k c q st).1 := by
  obtain ⟨t1, t2, t3⟩ := rfield_top k c q st
  have hi : (rfield k c q st).1.id < 18446744073709551616 := by
    unfold rfield
    repeat' split
    all_goals first | exact num8_lt st hb | (simp only; omega)
  have hw : ((rfield k c q st).1.wants.length ≤ 1024 ∧ ∀ p ∈ (rfield k c q st).1.wants, p.1.size ≤ 65535 ∧ p.2 < 18446744073709551616) := by
    unfold rfield
    repeat' split
    all_goals first | exact rwants_fit st hb | exact ⟨by simp, fun p hp => by cases hp⟩
  have hv : (rfield k c q st).1.vers.length ≤ 1 ∧ ∀ v ∈ (rfield k c q st).1.vers, OkV v ∧ v.id < 18446744073709551616 := by
    unfold rfield
    repeat' split
    all_goals first | (refine ⟨by simp, fun v hv => ?_⟩; rw [List.mem_singleton.1 hv]; exact rver_fit st hb) | exact ⟨by simp, fun p hp => by cases hp⟩
  have hks : Txs (rfield k c q st).1.keys := by
    unfold rfield
    repeat' split
    all_goals first | exact rkeys_txs _ | exact txs_nil
  have hp : (rfield k c q st).1.pairs.length ≤ 1024 ∧ ∀ p ∈ (rfield k c q st).1.pairs, p.1.size ≤ 65535 ∧ p.2.size ≤ 65535 := by
    unfold rfield
    repeat' split
    all_goals first | exact rpairs_fit _ | exact ⟨by simp, fun p hp => by cases hp⟩
  exact ⟨⟨by rw [t1]; omega, by rw [t1]; omega, by rw [t2]; omega, by rw [t2]; omega, by rw [t3]; exact hq, hi, fun p hp => (hw.2 p hp).2, fun v hvv => (hv.2 v hvv).2⟩,
    fitM_of hks hp ⟨hw.1, fun p hp => (hw.2 p hp).1⟩ ⟨hv.1, fun v hvv => (hv.2 v hvv).1⟩⟩
end Go.Proofs.YtjklpcamlppegaaGreat
