/- Plain mathematics: what is read was laid so: one form. -/
import Derived.Test.YtjklpcamlppegaaGreatMs
namespace Go.Proofs.YtjklpcamlppegaaGreat
open Pk Orl Go.Sort
set_option linter.unusedVariables false
set_option linter.unusedSimpArgs false

def Byt (st : RS) : Prop := ∀ c ∈ st.1, c < 256
/-- a step of a reader: behind it all is bytes still; and where it ends without an error, these were read -/
def Stp (st : RS) (x : List Nat) (st' : RS) : Prop := (Byt st → Byt st') ∧ (Byt st → st'.2 = 0 → st.2 = 0 ∧ st.1 = x ++ st'.1)
theorem Stp.refl (st : RS) : Stp st [] st := ⟨id, fun _ h => ⟨h, rfl⟩⟩
theorem Stp.trans {a b c : RS} {x y : List Nat} (h : Stp a x b) (k : Stp b y c) : Stp a (x ++ y) c := by
  refine ⟨fun hb => k.1 (h.1 hb), fun hb he => ?_⟩
  obtain ⟨k1, k2⟩ := k.2 (h.1 hb) he
  obtain ⟨h1, h2⟩ := h.2 hb k1
  exact ⟨h1, by rw [h2, k2, List.append_assoc]⟩

theorem num_val : ∀ (k : Nat) (l : List Nat), l.length = k → (∀ c ∈ l, c < 256) → num k (Pk.val l) = l
  | 0, l, h, _ => by rw [len0 h]; rfl
  | k + 1, l, h, hb => by
    have e : l = l.take k ++ [l.getD k 0] := by
      have := List.take_succ_eq_append_getElem (l := l) (i := k) (by omega)
      rw [List.take_of_length_le (by omega)] at this
      simpa [List.getD_eq_getElem?_getD, show k < l.length by omega] using this
    have hv : Pk.val l = Pk.val (l.take k) * 256 + l.getD k 0 := by
      conv => lhs; rw [e]
      simp [Pk.val]
    have hc : l.getD k 0 < 256 := by
      apply hb
      rw [List.getD_eq_getElem?_getD, List.getElem?_eq_getElem (by omega)]
      exact List.getElem_mem _
    have ih := num_val k (l.take k) (by rw [List.length_take]; omega) (fun c hx => hb c (List.mem_of_mem_take hx))
    rw [num, hv, show (Pk.val (l.take k) * 256 + l.getD k 0) / 256 = Pk.val (l.take k) by omega, show (Pk.val (l.take k) * 256 + l.getD k 0) % 256 = l.getD k 0 by omega, ih]
    exact e.symm

theorem byt_drop {b : List Nat} (h : ∀ c ∈ b, c < 256) (k : Nat) : ∀ c ∈ b.drop k, c < 256 := fun c hc => h c (List.mem_of_mem_drop hc)
theorem byt_take {b : List Nat} (h : ∀ c ∈ b, c < 256) (k : Nat) : ∀ c ∈ b.take k, c < 256 := fun c hc => h c (List.mem_of_mem_take hc)

theorem rnum_stp (k : Nat) (st : RS) : Stp st (num k (rnum k st).1) (rnum k st).2 := by
  obtain ⟨b, e⟩ := st
  unfold rnum
  by_cases he : e = 0
  · subst he
    rw [if_neg (by simp)]
    by_cases hl : b.length < k
    · rw [if_pos hl]
      exact ⟨fun h => h, fun _ h => by simp at h⟩
    · rw [if_neg hl]
      refine ⟨fun h => byt_drop h k, fun h _ => ⟨rfl, ?_⟩⟩
      simp only
      rw [num_val k (b.take k) (by rw [List.length_take]; omega) (byt_take h k), List.take_append_drop]
  · rw [if_pos he]
    exact ⟨fun h => h, fun _ h => absurd h he⟩

theorem ccount_stp (b : List Nat) (most : Int) (hb : ∀ c ∈ b, c < 256) (h : (ccount b most).2.2 = 0) : b = num 4 (ccount b most).1 ++ (ccount b most).2.1 ∧ (ccount b most).1 ≤ most.toNat := by
  unfold ccount at h ⊢
  by_cases h1 : b.length < 4
  · simp [h1] at h
  · rw [if_neg h1] at h ⊢
    by_cases h2 : most.toNat < Pk.val (b.take 4)
    · rw [if_pos h2] at h; simp at h
    · rw [if_neg h2]
      refine ⟨?_, by simp only; omega⟩
      simp only
      rw [num_val 4 (b.take 4) (by rw [List.length_take]; omega) (byt_take hb 4), List.take_append_drop]
theorem ccount_byt (b : List Nat) (most : Int) (hb : ∀ c ∈ b, c < 256) : ∀ c ∈ (ccount b most).2.1, c < 256 := by
  unfold ccount
  repeat' split
  all_goals first | exact hb | exact byt_drop hb 4
theorem rcount_stp (most : Int) (st : RS) : Stp st (num 4 (rcount most st).1) (rcount most st).2 := by
  obtain ⟨b, e⟩ := st
  unfold rcount
  by_cases he : e = 0
  · subst he
    rw [if_neg (by simp)]
    simp only
    by_cases hz : (ccount b most).2.2 = 0
    · rw [if_neg (by simp [hz])]
      exact ⟨fun h => ccount_byt b most h, fun h _ => ⟨rfl, (ccount_stp b most h hz).1⟩⟩
    · rw [if_pos hz]
      exact ⟨fun h => h, fun _ h => absurd h hz⟩
  · rw [if_pos he]
    exact ⟨fun h => h, fun _ h => absurd h he⟩
theorem rcount_le (most : Int) (st : RS) : (rcount most st).1 ≤ most.toNat := by
  obtain ⟨b, e⟩ := st
  unfold rcount
  split
  · exact Nat.zero_le _
  · simp only
    split
    · exact Nat.zero_le _
    · unfold ccount
      repeat' split
      all_goals first | exact Nat.zero_le _ | (simp only; omega)

theorem ctext_stp (b : List Nat) (most : Int) (hb : ∀ c ∈ b, c < 256) (h : (ctext b most).2.2 = 0) : b = txt (ctext b most).1 ++ (ctext b most).2.1 := by
  unfold ctext at h ⊢
  generalize hc : ccount b most = c at h ⊢
  obtain ⟨n, r, e⟩ := c
  simp only at h ⊢
  by_cases he : e = 0
  · subst he
    rw [if_neg (by simp)] at h ⊢
    have := ccount_stp b most hb (by rw [hc])
    rw [hc] at this
    simp only at this
    by_cases hl : r.length < n
    · rw [if_pos hl] at h; simp at h
    · rw [if_neg hl]
      simp only
      unfold txt
      rw [List.length_take, Nat.min_eq_left (by omega), List.append_assoc, List.take_append_drop]
      exact this.1
  · rw [if_pos he] at h; exact absurd h he
theorem ctext_byt (b : List Nat) (most : Int) (hb : ∀ c ∈ b, c < 256) : (∀ c ∈ (ctext b most).2.1, c < 256) ∧ ∀ c ∈ (ctext b most).1, c < 256 := by
  unfold ctext
  have := ccount_byt b most hb
  generalize hc : ccount b most = c at this
  obtain ⟨n, r, e⟩ := c
  simp only at this ⊢
  repeat' split
  all_goals first | exact ⟨hb, by simp⟩ | exact ⟨byt_drop this n, byt_take this n⟩
theorem rtext_stp (most : Int) (st : RS) : Stp st (txt (rtext most st).1) (rtext most st).2 := by
  obtain ⟨b, e⟩ := st
  unfold rtext
  by_cases he : e = 0
  · subst he
    rw [if_neg (by simp)]
    simp only
    by_cases hz : (ctext b most).2.2 = 0
    · rw [if_neg (by simp [hz])]
      exact ⟨fun h => (ctext_byt b most h).1, fun h _ => ⟨rfl, ctext_stp b most h hz⟩⟩
    · rw [if_pos hz]
      exact ⟨fun h => h, fun _ h => absurd h hz⟩
  · rw [if_pos he]
    exact ⟨fun h => h, fun _ h => absurd h he⟩
theorem rtext_byt (most : Int) (st : RS) (h : Byt st) : ∀ c ∈ (rtext most st).1, c < 256 := by
  obtain ⟨b, e⟩ := st
  unfold rtext
  by_cases he : e = 0
  · subst he
    rw [if_neg (by simp)]
    simp only
    by_cases hz : (ctext b most).2.2 = 0
    · rw [if_neg (by simp [hz])]
      exact (ctext_byt b most h).2
    · rw [if_pos hz]
      intro c hc; cases hc
  · rw [if_pos he]
    intro c hc; cases hc
theorem rtext_stp' (most : Int) (st : RS) (hb : Byt st) : Stp st (txt (nats (text (rtext most st).1))) (rtext most st).2 := by
  rw [nats_text _ (rtext_byt most st hb)]
  exact rtext_stp most st

theorem ctextsN_stp (most : Int) : ∀ (n : Nat) (b : List Nat), (∀ c ∈ b, c < 256) → (∀ c ∈ (ctextsN n b most).2.1, c < 256) ∧ (∀ s ∈ (ctextsN n b most).1, ∀ c ∈ s, c < 256) ∧ ((ctextsN n b most).2.2 = 0 → b = txtsBody (ctextsN n b most).1 ++ (ctextsN n b most).2.1 ∧ (ctextsN n b most).1.length = n)
  | 0, b, hb => by simp [ctextsN, txtsBody]; exact hb
  | n + 1, b, hb => by
    unfold ctextsN
    have t1 := ctext_stp b most hb
    have t2 := ctext_byt b most hb
    generalize hc : ctext b most = c at t1 t2
    obtain ⟨s, r, e⟩ := c
    simp only at t1 t2 ⊢
    by_cases he : e = 0
    · subst he
      rw [if_neg (by simp)]
      have ih := ctextsN_stp most n r t2.1
      generalize hd : ctextsN n r most = d at ih
      obtain ⟨l, r', e'⟩ := d
      simp only at ih ⊢
      by_cases he' : e' = 0
      · subst he'
        rw [if_neg (by simp)]
        refine ⟨ih.1, ?_, fun _ => ⟨?_, ?_⟩⟩
        · intro x hx
          rcases List.mem_cons.1 hx with rfl | hx
          · exact t2.2
          · exact ih.2.1 x hx
        · simp only [txtsBody]
          rw [List.append_assoc, ← (ih.2.2 rfl).1]
          exact t1 rfl
        · simp only [List.length_cons]; rw [(ih.2.2 rfl).2]
      · rw [if_pos he']
        exact ⟨hb, (by intro x hx; cases hx), fun h => absurd h he'⟩
    · rw [if_pos he]
      exact ⟨hb, (by intro x hx; cases hx), fun h => absurd h he⟩
theorem ctexts_stp (b : List Nat) (count most : Int) (hb : ∀ c ∈ b, c < 256) : (∀ c ∈ (ctexts b count most).2.1, c < 256) ∧ (∀ s ∈ (ctexts b count most).1, ∀ c ∈ s, c < 256) ∧ ((ctexts b count most).2.2 = 0 → b = txts (ctexts b count most).1 ++ (ctexts b count most).2.1) := by
  unfold ctexts
  have t1 := ccount_stp b count hb
  have t2 := ccount_byt b count hb
  generalize hc : ccount b count = c at t1 t2
  obtain ⟨n, r, e⟩ := c
  simp only at t1 t2 ⊢
  by_cases he : e = 0
  · subst he
    rw [if_neg (by simp)]
    have ih := ctextsN_stp most n r t2
    generalize hd : ctextsN n r most = d at ih
    obtain ⟨l, r', e'⟩ := d
    simp only at ih ⊢
    by_cases he' : e' = 0
    · subst he'
      rw [if_neg (by simp)]
      refine ⟨ih.1, ih.2.1, fun _ => ?_⟩
      obtain ⟨i1, i2⟩ := ih.2.2 rfl
      simp only
      unfold txts
      rw [i2, List.append_assoc, ← i1]
      exact (t1 rfl).1
    · rw [if_pos he']
      exact ⟨hb, (by intro x hx; cases hx), fun h => absurd h he'⟩
  · rw [if_pos he]
    exact ⟨hb, (by intro x hx; cases hx), fun h => absurd h he⟩
theorem rkeys_stp (st : RS) (hB : Byt st) : Stp st (txts (natss (rkeys st).1)) (rkeys st).2 := by
  obtain ⟨b, e⟩ := st
  unfold rkeys rtexts
  by_cases he : e = 0
  · subst he
    rw [if_neg (by simp)]
    simp only
    obtain ⟨c1, c2, c3⟩ := ctexts_stp b 1024 65535 hB
    by_cases hz : (ctexts b 1024 65535).2.2 = 0
    · rw [if_neg (by simp [hz])]
      refine ⟨fun _ => c1, fun h _ => ⟨rfl, ?_⟩⟩
      simp only
      have e : natss ((ctexts b 1024 65535).1.map text) = (ctexts b 1024 65535).1 := by
        unfold natss; rw [List.map_map]
        conv => rhs; rw [← List.map_id (ctexts b 1024 65535).1]
        exact List.map_congr_left (fun x hx => nats_text x (c2 x hx))
      rw [e]; exact c3 hz
    · rw [if_pos hz]
      exact ⟨fun h => h, fun _ h => absurd h hz⟩
  · rw [if_pos he]
    exact ⟨fun h => h, fun _ h => absurd h he⟩
theorem rmany_stp {α : Type} (f : RS → α × RS) (lay1 : α → List Nat) (h : ∀ st, Byt st → Stp st (lay1 (f st).1) (f st).2) : ∀ (n : Nat) (st : RS), Byt st → Stp st ((rmany f n st).1.flatMap lay1) (rmany f n st).2 ∧ (rmany f n st).1.length = n
  | 0, st, _ => by simp [rmany]; exact Stp.refl st
  | n + 1, st, hb => by
    obtain ⟨i1, i2⟩ := rmany_stp f lay1 h n st hb
    have k := h _ (i1.1 hb)
    rw [rmany]
    refine ⟨?_, by simp [i2]⟩
    simp only [List.flatMap_append, List.flatMap_cons, List.flatMap_nil, List.append_nil]
    exact i1.trans k
theorem rpair_stp (st : RS) (hb : Byt st) : Stp st (layP1 (rpair st).1) (rpair st).2 := by
  have h1 := rtext_stp' 65535 st hb
  exact h1.trans (rtext_stp' 65535 _ (h1.1 hb))
theorem rwant_stp (st : RS) (hb : Byt st) : Stp st (layW1 (rwant st).1) (rwant st).2 := by
  have h1 := rtext_stp' 65535 st hb
  exact h1.trans (rnum_stp 8 _)
theorem rpairs_stp (st : RS) (hb : Byt st) : Stp st (num 4 (rpairs st).1.length ++ layP (rpairs st).1) (rpairs st).2 := by
  have h1 := rcount_stp 1024 st
  obtain ⟨h2, h3⟩ := rmany_stp rpair layP1 rpair_stp (rcount 1024 st).1 _ (h1.1 hb)
  unfold rpairs
  rw [h3]
  exact h1.trans h2
theorem rwants_stp (st : RS) (hb : Byt st) : Stp st (num 4 (rwants st).1.length ++ layW (rwants st).1) (rwants st).2 := by
  have h1 := rcount_stp 1024 st
  obtain ⟨h2, h3⟩ := rmany_stp rwant layW1 rwant_stp (rcount 1024 st).1 _ (h1.1 hb)
  unfold rwants
  rw [h3]
  exact h1.trans h2
theorem rver_stp (st : RS) (hb : Byt st) : Stp st (layV (rver st).1) (rver st).2 := by
  have h1 := rtext_stp' 65535 st hb
  have h2 := rnum_stp 8 (rtext 65535 st).2
  have h12 := h1.trans h2
  unfold rver layV
  by_cases h0 : (rnum 8 (rtext 65535 st).2).1 = 0
  · rw [if_pos h0]
    simp only [if_true, List.append_nil]
    rw [h0] at h12
    exact h12
  · rw [if_neg h0]
    simp only [if_neg h0]
    have h3 := rtext_stp' 65535 _ (h12.1 hb)
    have h4 := rkeys_stp _ (h3.1 (h12.1 hb))
    have := h12.trans (h3.trans h4)
    rwa [List.append_assoc] at this
theorem rfield_stp (k c q : Nat) (st : RS) (hb : Byt st) (hm : mayF (rfield k c q st).1 = true) : Stp st (layF (rfield k c q st).1) (rfield k c q st).2 := by
  unfold rfield at hm ⊢
  by_cases h1 : (k : Int) = 1
  · rw [if_pos h1]
    unfold layF
    simp only [if_pos h1]
    have s1 := rnum_stp 8 st
    have s2 := rkeys_stp _ (s1.1 hb)
    have s3 := rpairs_stp _ (s2.1 (s1.1 hb))
    exact s1.trans (s2.trans s3)
  · rw [if_neg h1] at hm ⊢
    by_cases h2 : plainK k
    · have h3 : ¬ (k : Int) = 3 := by unfold plainK at h2; omega
      have h4 : ¬ (k : Int) = 4 := by unfold plainK at h2; omega
      have h7 : ¬ (k : Int) = 7 := by unfold plainK at h2; omega
      rw [if_pos h2]
      unfold layF
      simp only [if_neg h1, if_neg h3, if_neg h4, if_neg h7]
      exact rnum_stp 8 st
    · rw [if_neg h2] at hm ⊢
      by_cases h3 : (k : Int) = 3
      · rw [if_pos h3]
        unfold layF
        simp only [if_neg h1, if_pos h3]
        exact rkeys_stp st hb
      · rw [if_neg h3] at hm ⊢
        by_cases h4 : (k : Int) = 4
        · rw [if_pos h4]
          unfold layF
          simp only [if_neg h1, if_neg h3, if_pos h4]
          exact rwants_stp st hb
        · rw [if_neg h4] at hm ⊢
          by_cases h7 : (k : Int) = 7
          · rw [if_pos h7]
            unfold layF
            simp only [if_neg h1, if_neg h3, if_neg h4, if_pos h7]
            exact rver_stp st hb
          · rw [if_neg h7] at hm
            unfold mayF at hm
            simp [h1, h2, h3, h4, h7] at hm
theorem rfield_top (k c q : Nat) (st : RS) : (rfield k c q st).1.kind = k ∧ (rfield k c q st).1.client = c ∧ (rfield k c q st).1.req = q := by
  unfold rfield
  repeat' split
  all_goals exact ⟨rfl, rfl, rfl⟩
theorem body_read (b : List Nat) (hb : ∀ c ∈ b, c < 256) (h : rok b = true) : body (rmsg b).1 = b := by
  unfold rok rend0 at h
  simp only [Bool.and_eq_true, decide_eq_true_eq] at h
  obtain ⟨⟨e1, e2⟩, hm⟩ := h
  have hf : mayF (rmsg b).1 = true := by unfold may at hm; simp at hm; exact hm.2
  have s1 := rnum_stp 1 (b, 0)
  have b1 := s1.1 hb
  have s2 := rnum_stp 1 (rnum 1 (b, 0)).2
  have b2 := s2.1 b1
  have s3 := rnum_stp 8 (rnum 1 (rnum 1 (b, 0)).2).2
  have b3 := s3.1 b2
  have s4 := rfield_stp _ _ _ _ b3 hf
  obtain ⟨t1, t2, t3⟩ := rfield_top (rnum 1 (b, 0)).1 (rnum 1 (rnum 1 (b, 0)).2).1 (rnum 8 (rnum 1 (rnum 1 (b, 0)).2).2).1 (rnum 8 (rnum 1 (rnum 1 (b, 0)).2).2).2
  have s := s1.trans (s2.trans (s3.trans s4))
  obtain ⟨_, hs⟩ := s.2 hb e1
  have e2' : (rfield (rnum 1 (b, 0)).1 (rnum 1 (rnum 1 (b, 0)).2).1 (rnum 8 (rnum 1 (rnum 1 (b, 0)).2).2).1 (rnum 8 (rnum 1 (rnum 1 (b, 0)).2).2).2).2.1 = [] := e2
  rw [e2', List.append_nil] at hs
  have hs' : b = num 1 (rnum 1 (b, 0)).1 ++ (num 1 (rnum 1 (rnum 1 (b, 0)).2).1 ++ (num 8 (rnum 8 (rnum 1 (rnum 1 (b, 0)).2).2).1 ++ layF (rmsg b).1)) := hs
  unfold body
  have u1 : (rmsg b).1.kind = _ := t1
  have u2 : (rmsg b).1.client = _ := t2
  have u3 : (rmsg b).1.req = _ := t3
  rw [u1, u2, u3]
  simp only [Int.toNat_natCast]
  exact hs'.symm
theorem dec_ok {b : List Nat} {m : Msg} (h : dec b = (m, 0)) : m = (rmsg (b.drop 4)).1 ∧ rok (b.drop 4) = true ∧ 4 ≤ b.length ∧ Pk.val (b.take 4) = b.length - 4 ∧ b.length - 4 ≤ 1048576 := by
  unfold dec at h
  by_cases h1 : b.length < 4
  · rw [if_pos h1] at h; simp at h
  · rw [if_neg h1] at h
    by_cases h2 : 1048576 < Pk.val (b.take 4)
    · rw [if_pos h2] at h; simp at h
    · rw [if_neg h2] at h
      by_cases h3 : b.length - 4 < Pk.val (b.take 4)
      · rw [if_pos h3] at h; simp at h
      · rw [if_neg h3] at h
        by_cases h4 : Pk.val (b.take 4) < b.length - 4
        · rw [if_pos h4] at h; simp at h
        · rw [if_neg h4] at h
          by_cases h5 : rok (b.drop 4) = true
          · rw [if_pos h5] at h
            simp only [Prod.mk.injEq, and_true] at h
            exact ⟨h.symm, h5, by omega, by omega, by omega⟩
          · rw [if_neg h5] at h; simp at h
theorem dec_back {b : List Nat} {m : Msg} (hb : ∀ c ∈ b, c < 256) (h : dec b = (m, 0)) : enc m = b ∧ may m = true ∧ (body m).length ≤ 1048576 ∧ 5 ≤ b.length := by
  obtain ⟨rfl, h1, h2, h3, h4⟩ := dec_ok h
  have hm : may (rmsg (b.drop 4)).1 = true := by unfold rok at h1; simp at h1; exact h1.2
  have e := body_read (b.drop 4) (byt_drop hb 4) h1
  have hl : (b.drop 4).length = b.length - 4 := List.length_drop
  have hl0 : 10 ≤ (body (rmsg (b.drop 4)).1).length := by
    unfold body
    simp only [List.length_append, num_length]
    omega
  refine ⟨?_, hm, by rw [e, hl]; omega, by rw [e, hl] at hl0; omega⟩
  unfold enc
  rw [e, hl, ← h3, num_val 4 (b.take 4) (by rw [List.length_take]; omega) (byt_take hb 4), List.take_append_drop]
theorem dec_errs (b : List Nat) : dec b = ((rmsg (b.drop 4)).1, 0) ∨ dec b = (m0, 2) ∨ dec b = (m0, 3) ∨ dec b = (m0, 4) ∨ dec b = (m0, 5) := by
  unfold dec
  repeat' split
  all_goals simp
end Go.Proofs.YtjklpcamlppegaaGreat
