import Derived.Test.YtdemoghlibnooaaGreatDoorA2
import Derived.Test.YtdemoghlibnooaaGreatDoorB9
/- Snapshots in pure lists. -/
namespace Go.Proofs.YtdemoghlibnooaaGreatDoor
open Pk Orl Go.Sort Go.Maps
set_option linter.unusedVariables false
set_option linter.unusedSimpArgs false

/-- a version without its stamp -/
abbrev VT := Mk × Tx × List Tx
def KV.vt (x : KV) : VT := (x.m, x.val, x.keys)
def layL1 (l : Mk) : List Nat := txt (nats l.1) ++ num 8 l.2
def layL (ls : List Mk) : List Nat := ls.flatMap layL1
def layV1 (v : VT) : List Nat := txt (nats v.1.1) ++ (num 8 v.1.2 ++ (txt (nats v.2.1) ++ txts (natss v.2.2)))
def layV (vs : List VT) : List Nat := vs.flatMap layV1
def snHead (g : Nat) : List Nat := num 4 1918987632 ++ (num 1 1 ++ num 8 g)
def snBody (g : Nat) (ls : List Mk) (vs : List VT) : List Nat := snHead g ++ ((num 4 ls.length ++ layL ls) ++ (num 4 vs.length ++ layV vs))
def snap (g : Nat) (ls : List Mk) (vs : List VT) : List Nat := snBody g ls vs ++ num 4 (Crc.sum (snBody g ls vs))

/-! ### what may be -/
def LimL (l : Mk) : Prop := l.1.size ≤ 65535 ∧ l.2 < 18446744073709551616
def LimV (v : VT) : Prop := v.1.1.size ≤ 65535 ∧ v.1.2 < 18446744073709551616 ∧ v.2.1.size ≤ 65535 ∧ v.2.2.length ≤ 1024 ∧ ∀ s ∈ v.2.2, s.size ≤ 65535
structure Lims (g : Nat) (ls : List Mk) (vs : List VT) : Prop where
  g : g < 18446744073709551616
  l : ∀ l ∈ ls, LimL l
  v : ∀ v ∈ vs, LimV v
  nl : ls.length < 4294967296
  nv : vs.length < 4294967296

/-! ### lengths -/
theorem layL1_length (l : Mk) : (layL1 l).length = 12 + l.1.size := by simp [layL1, txt_length, nats_length, num_length]; omega
theorem layL_le (ls : List Mk) : 12 * ls.length ≤ (layL ls).length := by
  induction ls with
  | nil => simp [layL]
  | cons l r ih => simp only [layL, List.flatMap_cons, List.length_append, layL1_length, List.length_cons] at ih ⊢; omega
theorem layL_max (ls : List Mk) (h : ∀ l ∈ ls, l.1.size ≤ 65535) : (layL ls).length ≤ 65547 * ls.length := by
  induction ls with
  | nil => simp [layL]
  | cons l r ih =>
    have := ih (fun x hx => h x (by simp [hx]))
    have h1 := h l (by simp)
    simp only [layL, List.flatMap_cons, List.length_append, layL1_length, List.length_cons] at this ⊢
    omega
theorem layV1_length (v : VT) : (layV1 v).length = 20 + v.1.1.size + v.2.1.size + bodyLen (natss v.2.2) := by simp [layV1, txt_length, nats_length, num_length, txts_length]; omega
theorem layV_le (vs : List VT) : 20 * vs.length ≤ (layV vs).length := by
  induction vs with
  | nil => simp [layV]
  | cons v r ih => simp only [layV, List.flatMap_cons, List.length_append, layV1_length, List.length_cons] at ih ⊢; omega
theorem bodyLen_max : ∀ (ss : List Tx), (∀ s ∈ ss, s.size ≤ 65535) → bodyLen (natss ss) ≤ ss.length * 65539
  | [], _ => by simp [natss, bodyLen]
  | s :: l, h => by
    have ih := bodyLen_max l (fun x hx => h x (List.mem_cons_of_mem _ hx))
    have h0 := h s List.mem_cons_self
    show 4 + (nats s).length + bodyLen (natss l) ≤ _
    rw [nats_length, List.length_cons, Nat.add_mul]; omega
theorem layV1_max {v : VT} (h : LimV v) : (layV1 v).length ≤ 67243026 := by
  obtain ⟨h1, h2, h3, h4, h5⟩ := h
  have := bodyLen_max _ h5
  have h6 : v.2.2.length * 65539 ≤ 1024 * 65539 := Nat.mul_le_mul_right _ h4
  rw [layV1_length]
  omega
theorem layV_max (vs : List VT) (h : ∀ v ∈ vs, LimV v) : (layV vs).length ≤ 67243026 * vs.length := by
  induction vs with
  | nil => simp [layV]
  | cons v r ih =>
    have := ih (fun x hx => h x (by simp [hx]))
    have h1 := layV1_max (h v (by simp))
    simp only [layV, List.flatMap_cons, List.length_append, List.length_cons] at this ⊢
    omega
theorem snHead_length (g : Nat) : (snHead g).length = 13 := by simp [snHead, num_length]
theorem snBody_length (g : Nat) (ls : List Mk) (vs : List VT) : (snBody g ls vs).length = 21 + (layL ls).length + (layV vs).length := by simp [snBody, snHead_length, num_length]; omega
theorem snap_length (g : Nat) (ls : List Mk) (vs : List VT) : (snap g ls vs).length = (snBody g ls vs).length + 4 := by simp [snap, num_length]
theorem snap_max {g : Nat} {ls : List Mk} {vs : List VT} (hl : ∀ l ∈ ls, LimL l) (hv : ∀ v ∈ vs, LimV v) {N : Nat} (h1 : ls.length ≤ N) (h2 : vs.length ≤ N) (hN : N ≤ 2000000) : (snap g ls vs).length + 100 ≤ 140737488355328 := by
  have := layL_max ls (fun l h => (hl l h).1)
  have := layV_max vs hv
  rw [snap_length, snBody_length]
  omega

/-! ### bytes -/
theorem app_lt3 {a b : List Nat} (h1 : ∀ c ∈ a, c < 256) (h2 : ∀ c ∈ b, c < 256) : ∀ c ∈ a ++ b, c < 256 := app_lt h1 h2
theorem layL_lt (ls : List Mk) : ∀ c ∈ layL ls, c < 256 := by
  induction ls with
  | nil => intro c hc; cases hc
  | cons l r ih => simp only [layL, List.flatMap_cons] at ih ⊢; exact app_lt (app_lt (txt_lt l.1) (num_lt _ _)) ih
theorem body_lt : ∀ (ss : List Tx), ∀ c ∈ txtsBody (natss ss), c < 256
  | [] => by intro c hc; cases hc
  | s :: l => by show ∀ c ∈ txt (nats s) ++ txtsBody (natss l), c < 256; exact app_lt (txt_lt s) (body_lt l)
theorem txts_lt (ss : List Tx) : ∀ c ∈ txts (natss ss), c < 256 := app_lt (num_lt _ _) (body_lt ss)
theorem layV1_lt (v : VT) : ∀ c ∈ layV1 v, c < 256 := app_lt (txt_lt _) (app_lt (num_lt _ _) (app_lt (txt_lt _) (txts_lt _)))
theorem layV_lt (vs : List VT) : ∀ c ∈ layV vs, c < 256 := by
  induction vs with
  | nil => intro c hc; cases hc
  | cons v r ih => simp only [layV, List.flatMap_cons] at ih ⊢; exact app_lt (layV1_lt v) ih
theorem snBody_lt (g : Nat) (ls : List Mk) (vs : List VT) : ∀ c ∈ snBody g ls vs, c < 256 :=
  app_lt (app_lt (num_lt _ _) (app_lt (num_lt _ _) (num_lt _ _))) (app_lt (app_lt (num_lt _ _) (layL_lt _)) (app_lt (num_lt _ _) (layV_lt _)))
theorem snap_lt (g : Nat) (ls : List Mk) (vs : List VT) : ∀ c ∈ snap g ls vs, c < 256 := app_lt (snBody_lt _ _ _) (num_lt _ _)
theorem snSum_lt (g : Nat) (ls : List Mk) (vs : List VT) : Crc.sum (snBody g ls vs) < 4294967296 := Crc.update_lt 0 _ (by decide) (snBody_lt _ _ _)

/-! ### reading -/
def rlast (st : RS) : Mk × RS := ((text (rtext 65535 st).1, (rnum 8 (rtext 65535 st).2).1), (rnum 8 (rtext 65535 st).2).2)
def rver (st : RS) : VT × RS :=
  (((text (rtext 65535 st).1, (rnum 8 (rtext 65535 st).2).1), text (rtext 65535 (rnum 8 (rtext 65535 st).2).2).1, (rkeys (rtext 65535 (rnum 8 (rtext 65535 st).2).2).2).1), (rkeys (rtext 65535 (rnum 8 (rtext 65535 st).2).2).2).2)
def rcnt (st : RS) : Nat × RS := rcount (st.1.length : Int) st
def rlasts (st : RS) : List Mk × RS := rmany rlast (rcnt st).1 (rcnt st).2
def rvers (st : RS) : List VT × RS := rmany rver (rcnt st).1 (rcnt st).2
/-- behind the head -/
def hd1 (b : List Nat) : Nat × RS := rnum 4 (b, 0)
def hd2 (b : List Nat) : Nat × RS := rnum 1 (hd1 b).2
def hd3 (b : List Nat) : Nat × RS := rnum 8 (hd2 b).2
def marked (b : List Nat) : Bool := decide ((hd1 b).1 = 1918987632) && decide ((hd2 b).1 = 1)
def genOk (g : Nat) : Bool := decide (1 ≤ g ∧ g ≤ 9223372036854775807)
def headOk (b : List Nat) : Bool := marked b && genOk (hd3 b).1
def rdLs (b : List Nat) : List Mk × RS := rlasts (hd3 b).2
def rdVs (b : List Nat) : List VT × RS := rvers (rdLs b).2
def bodyOk (b : List Nat) : Bool := headOk b && rend0 (rdVs b).2

theorem rlast_stp (st : RS) (hb : Byt st) : Stp st (layL1 (rlast st).1) (rlast st).2 := by
  have h1 := rtext_stp' 65535 st hb
  exact h1.trans (rnum_stp 8 _)
theorem rver_stp (st : RS) (hb : Byt st) : Stp st (layV1 (rver st).1) (rver st).2 := by
  have h1 := rtext_stp' 65535 st hb
  have h2 := rnum_stp 8 (rtext 65535 st).2
  have b2 := h2.1 (h1.1 hb)
  have h3 := rtext_stp' 65535 _ b2
  have h4 := rkeys_stp _ (h3.1 b2)
  exact h1.trans (h2.trans (h3.trans h4))
theorem rcnt_stp (st : RS) : Stp st (num 4 (rcnt st).1) (rcnt st).2 := rcount_stp _ st
theorem rlasts_stp (st : RS) (hb : Byt st) : Stp st (num 4 (rlasts st).1.length ++ layL (rlasts st).1) (rlasts st).2 := by
  have h1 := rcnt_stp st
  obtain ⟨h2, h3⟩ := rmany_stp rlast layL1 rlast_stp (rcnt st).1 _ (h1.1 hb)
  unfold rlasts
  rw [h3]
  exact h1.trans h2
theorem rvers_stp (st : RS) (hb : Byt st) : Stp st (num 4 (rvers st).1.length ++ layV (rvers st).1) (rvers st).2 := by
  have h1 := rcnt_stp st
  obtain ⟨h2, h3⟩ := rmany_stp rver layV1 rver_stp (rcnt st).1 _ (h1.1 hb)
  unfold rvers
  rw [h3]
  exact h1.trans h2
theorem rnum_lt' (k : Nat) (st : RS) (h : Byt st) : (rnum k st).1 < 256 ^ k := rnum_lt k st.1 st.2 h
theorem rmany_mem {α : Type} {f : RS → α × RS} {lay1 : α → List Nat} (hs : ∀ st, Byt st → Stp st (lay1 (f st).1) (f st).2) {P : α → Prop} (h : ∀ st, Byt st → P (f st).1) : ∀ (n : Nat) (st : RS), Byt st → ∀ x ∈ (rmany f n st).1, P x
  | 0, st, _ => by intro x hx; cases hx
  | n + 1, st, hb => by
    intro x hx
    rw [rmany] at hx
    rcases List.mem_append.1 hx with hx | hx
    · exact rmany_mem hs h n st hb x hx
    · simp at hx
      subst hx
      exact h _ ((rmany_stp f lay1 hs n st hb).1.1 hb)
theorem text_lim (st : RS) : (text (rtext 65535 st).1).size ≤ 65535 := by rw [text_size]; exact rtext_len 65535 st
theorem rlast_lim (st : RS) (hb : Byt st) : LimL (rlast st).1 := by
  refine ⟨text_lim st, ?_⟩
  have := rnum_lt' 8 (rtext 65535 st).2 ((rtext_stp 65535 st).1 hb)
  exact this
theorem ctextsN_lim (most : Int) : ∀ (n : Nat) (b : List Nat), ((ctextsN n b most).1.length ≤ n) ∧ ∀ s ∈ (ctextsN n b most).1, s.length ≤ most.toNat
  | 0, b => by simp [ctextsN]
  | n + 1, b => by
    unfold ctextsN
    generalize hc : ctext b most = c
    obtain ⟨s, r, e⟩ := c
    simp only
    have ih := ctextsN_lim most n r
    have hs : e = 0 → s.length ≤ most.toNat := fun he => by
      have := rtext_len most (b, 0)
      unfold rtext at this
      rw [if_neg (by simp)] at this
      simp only [hc, he] at this
      simpa using this
    by_cases he : e = 0
    · rw [if_neg (by simp [he])]
      generalize hd : ctextsN n r most = d at ih
      obtain ⟨l, r', e'⟩ := d
      simp only at ih ⊢
      by_cases he' : e' = 0
      · rw [if_neg (by simp [he'])]
        refine ⟨by simp; exact ih.1, fun x hx => ?_⟩
        rcases List.mem_cons.1 hx with rfl | hx
        · exact hs he
        · exact ih.2 x hx
      · rw [if_pos he']
        exact ⟨by simp, fun x hx => by cases hx⟩
    · rw [if_pos he]
      exact ⟨by simp, fun x hx => by cases hx⟩
theorem rkeys_lim (st : RS) : (rkeys st).1.length ≤ 1024 ∧ ∀ s ∈ (rkeys st).1, s.size ≤ 65535 := by
  obtain ⟨b, e⟩ := st
  unfold rkeys rtexts
  by_cases he : e = 0
  · subst he
    rw [if_neg (by simp)]
    simp only
    by_cases hz : (ctexts b 1024 65535).2.2 = 0
    · rw [if_neg (by simp [hz])]
      unfold ctexts at hz ⊢
      simp only at hz ⊢
      have hcl := ccount_le b 1024
      generalize hc : ccount b 1024 = c at hz hcl
      obtain ⟨n, r, e1⟩ := c
      simp only at hz hcl ⊢
      by_cases h1 : e1 = 0
      · rw [if_neg (by simp [h1])] at hz ⊢
        have ih := ctextsN_lim 65535 n r
        generalize hd : ctextsN n r 65535 = d at hz ih
        obtain ⟨l, r', e2⟩ := d
        simp only at hz ih ⊢
        by_cases h2 : e2 = 0
        · rw [if_neg (by simp [h2])]
          simp only [List.length_map]
          refine ⟨by have : (1024 : Int).toNat = 1024 := rfl; omega, fun s hs => ?_⟩
          obtain ⟨x, hx, rfl⟩ := List.mem_map.1 hs
          rw [text_size]
          exact ih.2 x hx
        · rw [if_pos h2] at hz; exact absurd hz h2
      · rw [if_pos h1] at hz; exact absurd hz h1
    · rw [if_pos hz]; simp
  · rw [if_pos he]; simp
theorem rver_lim (st : RS) (hb : Byt st) : LimV (rver st).1 := by
  have h1 := (rtext_stp 65535 st).1 hb
  have := rnum_lt' 8 (rtext 65535 st).2 h1
  exact ⟨text_lim st, this, text_lim _, (rkeys_lim _).1, (rkeys_lim _).2⟩
theorem rcnt_lt (st : RS) (hb : Byt st) : (rcnt st).1 < 4294967296 := by
  obtain ⟨b, e⟩ := st
  unfold rcnt rcount
  by_cases he : e = 0
  · rw [if_neg (by simp [he])]
    simp only
    by_cases hz : (ccount b (b.length : Int)).2.2 = 0
    · rw [if_neg (by simp [hz])]
      unfold ccount
      have := val_lt (b.take 4) (byt_take hb 4)
      repeat' split
      all_goals first | (simp only; omega) | skip
      simp only
      refine Nat.lt_of_lt_of_le this ?_
      have hl : (b.take 4).length ≤ 4 := by rw [List.length_take]; omega
      exact Nat.pow_le_pow_right (n := 256) (by omega) hl
    · rw [if_pos hz]; simp
  · rw [if_pos he]; simp
theorem rlasts_lim (st : RS) (hb : Byt st) : (∀ l ∈ (rlasts st).1, LimL l) ∧ (rlasts st).1.length < 4294967296 := by
  refine ⟨rmany_mem rlast_stp rlast_lim _ _ ((rcnt_stp st).1 hb), ?_⟩
  unfold rlasts; rw [rmany_length]; exact rcnt_lt st hb
theorem rvers_lim (st : RS) (hb : Byt st) : (∀ v ∈ (rvers st).1, LimV v) ∧ (rvers st).1.length < 4294967296 := by
  refine ⟨rmany_mem rver_stp rver_lim _ _ ((rcnt_stp st).1 hb), ?_⟩
  unfold rvers; rw [rmany_length]; exact rcnt_lt st hb
theorem hd3_byt {b : List Nat} (hb : ∀ c ∈ b, c < 256) : Byt (hd3 b).2 := (rnum_stp 8 _).1 ((rnum_stp 1 _).1 ((rnum_stp 4 _).1 hb))
theorem rdL_byt {b : List Nat} (hb : ∀ c ∈ b, c < 256) : Byt (rdLs b).2 := (rlasts_stp _ (hd3_byt hb)).1 (hd3_byt hb)
theorem rd_lims {b : List Nat} (hb : ∀ c ∈ b, c < 256) : Lims (hd3 b).1 (rdLs b).1 (rdVs b).1 := by
  have h1 := rlasts_lim _ (hd3_byt hb)
  have h2 := rvers_lim _ (rdL_byt hb)
  exact ⟨rnum_lt' 8 _ ((rnum_stp 1 _).1 ((rnum_stp 4 _).1 hb)), h1.1, h2.1, h1.2, h2.2⟩
/-- what is read is what was laid -/
theorem body_read {b : List Nat} (hb : ∀ c ∈ b, c < 256) (h : bodyOk b = true) : b = snBody (hd3 b).1 (rdLs b).1 (rdVs b).1 := by
  unfold bodyOk headOk marked at h
  simp only [Bool.and_eq_true, decide_eq_true_eq] at h
  obtain ⟨⟨⟨h1, h2⟩, h3⟩, h4⟩ := h
  unfold rend0 at h4
  simp only [decide_eq_true_eq] at h4
  have s1 := rnum_stp 4 (b, 0)
  have s2 := rnum_stp 1 (hd1 b).2
  have s3 := rnum_stp 8 (hd2 b).2
  have s4 := rlasts_stp _ (hd3_byt hb)
  have s5 := rvers_stp _ (rdL_byt hb)
  have := (s1.trans (s2.trans (s3.trans (s4.trans s5)))).2 hb h4.1
  have e := this.2
  rw [show (rvers (rdLs b).2).2 = (rdVs b).2 from rfl, h4.2, List.append_nil] at e
  rw [show (rnum 4 (b, 0)).1 = (hd1 b).1 from rfl, h1, show (rnum 1 (hd1 b).2).1 = (hd2 b).1 from rfl, h2] at e
  refine Eq.trans e ?_
  unfold snBody snHead
  simp only [List.append_assoc]
  rfl
theorem rlast_lay (l : Mk) (h : LimL l) (t : List Nat) : rlast (layL1 l ++ t, 0) = (l, (t, 0)) := by
  unfold rlast layL1
  rw [List.append_assoc, rtext_lay _ h.1, rnum_full]
  simp only
  rw [text_nats, Nat.mod_eq_of_lt h.2]
theorem rver_lay (v : VT) (h : LimV v) (t : List Nat) : rver (layV1 v ++ t, 0) = (v, (t, 0)) := by
  obtain ⟨h1, h2, h3, h4, h5⟩ := h
  unfold rver layV1
  simp only [List.append_assoc]
  rw [rtext_lay _ h1, rnum_full]
  simp only
  rw [rtext_lay _ h3]
  simp only
  rw [rkeys_lay _ h4 h5]
  simp only
  rw [text_nats, text_nats, Nat.mod_eq_of_lt h2]
theorem rlasts_lay (ls : List Mk) (h : ∀ l ∈ ls, LimL l) (hn : ls.length < 4294967296) (t : List Nat) : rlasts (num 4 ls.length ++ (layL ls ++ t), 0) = (ls, (t, 0)) := by
  have hl := layL_le ls
  have hc : rcnt (num 4 ls.length ++ (layL ls ++ t), 0) = (ls.length, (layL ls ++ t, 0)) := by
    unfold rcnt
    refine rcount_full _ _ _ hn ?_
    simp only [List.length_append, num_length, Int.toNat_natCast]
    omega
  unfold rlasts
  rw [hc]
  exact rmany_all rlast layL1 ls t (fun x hx t => rlast_lay x (h x hx) t)
theorem rvers_lay (vs : List VT) (h : ∀ v ∈ vs, LimV v) (hn : vs.length < 4294967296) (t : List Nat) : rvers (num 4 vs.length ++ (layV vs ++ t), 0) = (vs, (t, 0)) := by
  have hl := layV_le vs
  have hc : rcnt (num 4 vs.length ++ (layV vs ++ t), 0) = (vs.length, (layV vs ++ t, 0)) := by
    unfold rcnt
    refine rcount_full _ _ _ hn ?_
    simp only [List.length_append, num_length, Int.toNat_natCast]
    omega
  unfold rvers
  rw [hc]
  exact rmany_all rver layV1 vs t (fun x hx t => rver_lay x (h x hx) t)
/-- what was laid is read -/
theorem body_back {g : Nat} {ls : List Mk} {vs : List VT} (h : Lims g ls vs) : marked (snBody g ls vs) = true ∧ (hd3 (snBody g ls vs)).1 = g ∧ (rdLs (snBody g ls vs)).1 = ls ∧ rdVs (snBody g ls vs) = (vs, ([], 0)) := by
  have e1 : hd1 (snBody g ls vs) = (1918987632, (num 1 1 ++ (num 8 g ++ ((num 4 ls.length ++ layL ls) ++ (num 4 vs.length ++ layV vs))), 0)) := by
    unfold hd1 snBody snHead
    simp only [List.append_assoc]
    rw [rnum_full]
  have e2 : hd2 (snBody g ls vs) = (1, (num 8 g ++ ((num 4 ls.length ++ layL ls) ++ (num 4 vs.length ++ layV vs)), 0)) := by
    unfold hd2
    rw [e1, rnum_full]
  have e3 : hd3 (snBody g ls vs) = (g, ((num 4 ls.length ++ layL ls) ++ (num 4 vs.length ++ layV vs), 0)) := by
    unfold hd3
    rw [e2, rnum_full, Nat.mod_eq_of_lt h.g]
  have e4 : rdLs (snBody g ls vs) = (ls, (num 4 vs.length ++ layV vs, 0)) := by
    unfold rdLs
    rw [e3]
    simp only [List.append_assoc]
    exact rlasts_lay ls h.l h.nl _
  have e5 : rdVs (snBody g ls vs) = (vs, ([], 0)) := by
    unfold rdVs
    rw [e4]
    have := rvers_lay vs h.v h.nv []
    rwa [List.append_nil] at this
  refine ⟨?_, by rw [e3], by rw [e4], e5⟩
  unfold marked
  rw [e1, e2]
  rfl
theorem body_back_ok {g : Nat} {ls : List Mk} {vs : List VT} (h : Lims g ls vs) (hg : genOk g = true) : bodyOk (snBody g ls vs) = true := by
  obtain ⟨h1, h2, h3, h4⟩ := body_back h
  unfold bodyOk headOk rend0
  rw [h1, h2, hg, h4]
  rfl

/-! ### sealed bytes -/
def bodyO (b : List Nat) : List Nat := b.take (b.length - 4)
def tailO (b : List Nat) : List Nat := b.drop (b.length - 4)
def sumOk (b : List Nat) : Bool := decide (4 ≤ b.length) && decide ((rnum 4 (tailO b, 0)).1 = Crc.sum (bodyO b))
theorem bodyO_snap (x : List Nat) (n : Nat) : bodyO (x ++ num 4 n) = x := by
  unfold bodyO
  rw [List.length_append, num_length, Nat.add_sub_cancel]
  exact List.take_left
theorem tailO_snap (x : List Nat) (n : Nat) : tailO (x ++ num 4 n) = num 4 n := by
  unfold tailO
  rw [List.length_append, num_length, Nat.add_sub_cancel]
  exact List.drop_left
theorem sumOk_snap (x : List Nat) (hb : ∀ c ∈ x, c < 256) : sumOk (x ++ num 4 (Crc.sum x)) = true := by
  unfold sumOk
  rw [bodyO_snap, tailO_snap]
  have h := rnum_full 4 (Crc.sum x) []
  rw [List.append_nil] at h
  rw [h]
  have h2 : Crc.sum x < 256 ^ 4 := Crc.update_lt 0 _ (by decide) hb
  rw [Nat.mod_eq_of_lt h2]
  simp [num_length]
theorem sumOk_read {b : List Nat} (hb : ∀ c ∈ b, c < 256) (h : sumOk b = true) : b = bodyO b ++ num 4 (Crc.sum (bodyO b)) := by
  unfold sumOk at h
  simp only [Bool.and_eq_true, decide_eq_true_eq] at h
  obtain ⟨h1, h2⟩ := h
  have ht : (tailO b).length = 4 := by unfold tailO; rw [List.length_drop]; omega
  have h3 : (rnum 4 (tailO b, 0)) = (Pk.val (tailO b), ([], 0)) := by
    unfold rnum
    rw [if_neg (by simp), if_neg (by simp only; omega)]
    simp only
    rw [List.take_of_length_le (by omega), List.drop_eq_nil_of_le (by omega)]
  rw [h3] at h2
  simp only at h2
  rw [← h2, num_val 4 _ ht (byt_drop hb _)]
  exact (List.take_append_drop _ _).symm
end Go.Proofs.YtdemoghlibnooaaGreatDoor
