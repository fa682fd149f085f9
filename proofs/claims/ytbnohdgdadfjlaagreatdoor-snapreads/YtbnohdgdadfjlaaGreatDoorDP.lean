import Derived.Test.YtbnohdgdadfjlaaGreatDoorDR
/- What the document reads, in pure lists. -/
namespace Go.Proofs.YtbnohdgdadfjlaaGreatDoor
open Go.RowKit Go.Sort Orl Pk Go.Maps
set_option linter.unusedVariables false
set_option linter.unusedSimpArgs false

def dmany {α : Type} (f : DS → α × DS) : Nat → DS → List α × DS
  | 0, st => ([], st)
  | n + 1, st => if (dmany f n st).2.2 = true then dmany f n st else ((dmany f n st).1 ++ [(f (dmany f n st).2).1], (f (dmany f n st).2).2)
theorem dmany_stuck {α : Type} (f : DS → α × DS) (st : DS) (j : Nat) (h : (dmany f j st).2.2 = true) : ∀ n, j ≤ n → dmany f n st = dmany f j st := by
  intro n hn
  induction n with
  | zero => rw [show j = 0 by omega]
  | succ n ih =>
    by_cases e : j = n + 1
    · rw [e]
    · have := ih (by omega)
      rw [dmany, this, if_pos h]
theorem dmany_len {α : Type} (f : DS → α × DS) (st : DS) : ∀ n, (dmany f n st).1.length ≤ n
  | 0 => Nat.le_refl _
  | n + 1 => by
    have := dmany_len f st n
    rw [dmany]
    split
    · omega
    · rw [List.length_append]; simp; omega
theorem dmany_step {α : Type} (f : DS → α × DS) (st : DS) (n : Nat) (h : (dmany f n st).2.2 = false) : dmany f (n + 1) st = ((dmany f n st).1 ++ [(f (dmany f n st).2).1], (f (dmany f n st).2).2) := by
  rw [dmany, if_neg (by rw [h]; simp)]
def dlast (st : DS) : Mk × DS := ((text (dtxt st).1, (dnum 8 (dtxt st).2).1), (dnum 8 (dtxt st).2).2)
def dkey (st : DS) : Tx × DS := (text (dtxt st).1, (dtxt st).2)
def dv2 (st : DS) : Nat × DS := dnum 8 (dtxt st).2
def dv3 (st : DS) : List Nat × DS := dtxt (dv2 st).2
def dv4 (st : DS) : Nat × DS := dnum 4 (dv3 st).2
def dv5 (st : DS) : List Tx × DS := dmany dkey (dv4 st).1 (dv4 st).2
def dver (st : DS) : VT × DS := (((text (dtxt st).1, (dv2 st).1), text (dv3 st).1, (dv5 st).1), (dv5 st).2)
def d1 (b : List Nat) : List Nat × DS := dtake 5 (b, false)
def d2 (b : List Nat) : Nat × DS := dnum 8 (d1 b).2
def d3 (b : List Nat) : Nat × DS := dnum 4 (d2 b).2
def dLs (b : List Nat) : List Mk × DS := dmany dlast (d3 b).1 (d3 b).2
def d5 (b : List Nat) : Nat × DS := dnum 4 (dLs b).2
def dVs (b : List Nat) : List VT × DS := dmany dver (d5 b).1 (d5 b).2

/-! ### what is laid is read -/
theorem dtake_lay (k : Nat) (x r : List Nat) (h : x.length = k) : dtake k (x ++ r, false) = (x, (r, false)) := by
  unfold dtake
  rw [if_neg (by simp [h]), ← h]
  simp
theorem dnum_lay (k v : Nat) (r : List Nat) (hv : v < 256 ^ k) : dnum k (num k v ++ r, false) = (v, (r, false)) := by
  unfold dnum
  rw [dtake_lay k (num k v) r (num_length k v), val_num, Nat.mod_eq_of_lt hv]
theorem dtxt_lay (x r : List Nat) (hx : x.length < 4294967296) : dtxt (txt x ++ r, false) = (x, (r, false)) := by
  unfold dtxt txt
  rw [List.append_assoc, dnum_lay 4 x.length _ hx]
  exact dtake_lay _ x r rfl
theorem dmany_lay {α : Type} (f : DS → α × DS) (lay : α → List Nat) (xs : List α) (r : List Nat) (h : ∀ x ∈ xs, ∀ r, f (lay x ++ r, false) = (x, (r, false))) : ∀ k, k ≤ xs.length → dmany f k (xs.flatMap lay ++ r, false) = (xs.take k, ((xs.drop k).flatMap lay ++ r, false))
  | 0, _ => by simp [dmany]
  | k + 1, hk => by
    have ih := dmany_lay f lay xs r h k (by omega)
    have hk' : k < xs.length := by omega
    rw [dmany_step f _ k (by rw [ih]), ih]
    have e : xs.drop k = xs[k] :: xs.drop (k + 1) := List.drop_eq_getElem_cons hk'
    simp only
    rw [e, List.flatMap_cons, List.append_assoc, h _ (List.getElem_mem hk'), List.take_succ_eq_append_getElem hk']
theorem dmany_all {α : Type} (f : DS → α × DS) (lay : α → List Nat) (xs : List α) (r : List Nat) (h : ∀ x ∈ xs, ∀ r, f (lay x ++ r, false) = (x, (r, false))) : dmany f xs.length (xs.flatMap lay ++ r, false) = (xs, (r, false)) := by
  rw [dmany_lay f lay xs r h xs.length (Nat.le_refl _)]
  simp
theorem dlast_lay (l : Mk) (h : LimL l) (r : List Nat) : dlast (layL1 l ++ r, false) = (l, (r, false)) := by
  obtain ⟨k, i⟩ := l
  obtain ⟨h1, h2⟩ := h
  simp only at h1 h2
  unfold dlast layL1
  rw [List.append_assoc, dtxt_lay _ _ (by rw [nats_length]; simp only; omega)]
  simp only
  rw [dnum_lay 8 i r h2, text_nats]
theorem txtsBody_flat (l : List Tx) : txtsBody (natss l) = l.flatMap fun t => txt (nats t) := by
  induction l with
  | nil => rfl
  | cons x l ih => simp only [natss, List.map_cons, txtsBody, List.flatMap_cons] at ih ⊢; rw [ih]
theorem dver_lay (v : VT) (h : LimV v) (r : List Nat) : dver (layV1 v ++ r, false) = (v, (r, false)) := by
  obtain ⟨⟨k, i⟩, val, keys⟩ := v
  obtain ⟨h1, h2, h3, h4, h5⟩ := h
  simp only at h1 h2 h3 h4 h5
  have e1 : dtxt (layV1 ((k, i), val, keys) ++ r, false) = (nats k, (num 8 i ++ (txt (nats val) ++ (txts (natss keys) ++ r)), false)) := by
    unfold layV1
    simp only [List.append_assoc]
    rw [dtxt_lay _ _ (by rw [nats_length]; omega)]
  have e2 : dv2 (layV1 ((k, i), val, keys) ++ r, false) = (i, (txt (nats val) ++ (txts (natss keys) ++ r), false)) := by
    unfold dv2; rw [e1]; exact dnum_lay 8 i _ h2
  have e3 : dv3 (layV1 ((k, i), val, keys) ++ r, false) = (nats val, (txts (natss keys) ++ r, false)) := by
    unfold dv3; rw [e2]; exact dtxt_lay _ _ (by rw [nats_length]; omega)
  have e4 : dv4 (layV1 ((k, i), val, keys) ++ r, false) = (keys.length, (keys.flatMap (fun t => txt (nats t)) ++ r, false)) := by
    unfold dv4; rw [e3]; simp only; unfold txts
    rw [List.append_assoc, natss_length, txtsBody_flat]
    exact dnum_lay 4 _ _ (by have : (256 : Nat) ^ 4 = 4294967296 := by decide
                             omega)
  have e5 : dv5 (layV1 ((k, i), val, keys) ++ r, false) = (keys, (r, false)) := by
    unfold dv5; rw [e4]
    refine dmany_all dkey (fun t => txt (nats t)) keys r (fun x hx r => ?_)
    unfold dkey
    rw [dtxt_lay _ _ (by have := h5 x hx; rw [nats_length]; omega), text_nats]
  unfold dver
  rw [e5, e3, e2, e1, text_nats, text_nats]
theorem body_dec {g : Nat} {ls : List Mk} {vs : List VT} (h : Lims g ls vs) : (d2 (snBody g ls vs)).1 = g ∧ (dLs (snBody g ls vs)).1 = ls ∧ dVs (snBody g ls vs) = (vs, ([], false)) := by
  have p4 : (256 : Nat) ^ 4 = 4294967296 := by decide
  have p8 : (256 : Nat) ^ 8 = 18446744073709551616 := by decide
  have e1 : (d1 (snBody g ls vs)).2 = (num 8 g ++ ((num 4 ls.length ++ layL ls) ++ (num 4 vs.length ++ layV vs)), false) := by
    unfold d1 snBody snHead
    rw [show num 4 1918987632 ++ (num 1 1 ++ num 8 g) ++ (num 4 ls.length ++ layL ls ++ (num 4 vs.length ++ layV vs)) = (num 4 1918987632 ++ num 1 1) ++ (num 8 g ++ ((num 4 ls.length ++ layL ls) ++ (num 4 vs.length ++ layV vs))) by simp only [List.append_assoc]]
    rw [dtake_lay 5 _ _ (by simp [num_length])]
  have e2 : d2 (snBody g ls vs) = (g, ((num 4 ls.length ++ layL ls) ++ (num 4 vs.length ++ layV vs), false)) := by
    unfold d2; rw [e1]; exact dnum_lay 8 g _ (by rw [p8]; exact h.g)
  have e3 : d3 (snBody g ls vs) = (ls.length, (layL ls ++ (num 4 vs.length ++ layV vs), false)) := by
    unfold d3; rw [e2]; simp only; rw [List.append_assoc]; exact dnum_lay 4 _ _ (by rw [p4]; exact h.nl)
  have e4 : dLs (snBody g ls vs) = (ls, (num 4 vs.length ++ layV vs, false)) := by
    unfold dLs; rw [e3]; exact dmany_all dlast layL1 ls _ (fun x hx r => dlast_lay x (h.l x hx) r)
  have e5 : d5 (snBody g ls vs) = (vs.length, (layV vs, false)) := by
    unfold d5; rw [e4]; exact dnum_lay 4 _ _ (by rw [p4]; exact h.nv)
  have e6 : dVs (snBody g ls vs) = (vs, ([], false)) := by
    unfold dVs; rw [e5]
    have := dmany_all dver layV1 vs [] (fun x hx r => dver_lay x (h.v x hx) r)
    rw [List.append_nil] at this
    exact this
  exact ⟨by rw [e2], by rw [e4], e6⟩

/-! ### so many bytes were read -/
def Cn (st : DS) (n : Nat) (st' : DS) : Prop := st'.2 = false → st.2 = false ∧ st.1.length = n + st'.1.length
theorem Cn.trans {a b c : DS} {n m : Nat} (h : Cn a n b) (k : Cn b m c) : Cn a (n + m) c := fun hc => by
  obtain ⟨k1, k2⟩ := k hc
  obtain ⟨h1, h2⟩ := h k1
  exact ⟨h1, by omega⟩
theorem cn_take (k : Nat) (st : DS) : Cn st k (dtake k st).2 ∧ ((dtake k st).2.2 = false → (dtake k st).1.length = k) := by
  unfold dtake
  by_cases hc : st.2 = true ∨ st.1.length < k
  · rw [if_pos hc]
    exact ⟨fun h => (Bool.noConfusion h), fun h => (Bool.noConfusion h)⟩
  · rw [if_neg hc]
    have h2 : k ≤ st.1.length := by omega
    have h1 : st.2 = false := by cases e : st.2 with | false => rfl | true => exact absurd (.inl e) hc
    refine ⟨fun _ => ⟨h1, by simp only; rw [List.length_drop]; omega⟩, fun _ => by simp only; rw [List.length_take]; omega⟩
theorem cn_txt (st : DS) : Cn st (4 + (dtxt st).1.length) (dtxt st).2 := by
  unfold dtxt
  intro h
  have h2 := cn_take (dnum 4 st).1 (dnum 4 st).2
  have h1 := (cn_take 4 st).1
  have h3 := h2.2 h
  rw [h3]
  exact (Cn.trans (show Cn st 4 (dnum 4 st).2 from h1) h2.1) h
theorem text_size' (x : List Nat) : (text x).size = x.length := by
  rw [← nats_length]
  unfold nats text
  simp
theorem cn_many {α : Type} (f : DS → α × DS) (lay : α → List Nat) (h : ∀ st, Cn st (lay (f st).1).length (f st).2) : ∀ (n : Nat) (st : DS), Cn st ((dmany f n st).1.flatMap lay).length (dmany f n st).2
  | 0, st => fun hc => ⟨hc, by simp [dmany]⟩
  | n + 1, st => by
    have ih := cn_many f lay h n st
    cases hb : (dmany f n st).2.2 with
    | true =>
      rw [dmany_stuck f st n hb (n + 1) (by omega)]
      exact ih
    | false =>
      rw [dmany_step f st n hb]
      simp only [List.flatMap_append, List.length_append, List.flatMap_cons, List.flatMap_nil, List.append_nil]
      exact ih.trans (h _)
theorem cn_last (st : DS) : Cn st (layL1 (dlast st).1).length (dlast st).2 := by
  rw [layL1_length]
  unfold dlast
  have h1 := cn_txt st
  have h2 := (cn_take 8 (dtxt st).2).1
  have := h1.trans h2
  simp only [text_size']
  rw [show 12 + (dtxt st).1.length = 4 + (dtxt st).1.length + 8 by omega]
  exact this
theorem cn_key (st : DS) : Cn st (txt (nats (dkey st).1)).length (dkey st).2 := by
  rw [txt_length, nats_length]
  unfold dkey
  simp only [text_size']
  exact cn_txt st
theorem cn_ver (st : DS) : Cn st (layV1 (dver st).1).length (dver st).2 := by
  have h1 := cn_txt st
  have h2 : Cn (dtxt st).2 8 (dv2 st).2 := (cn_take 8 (dtxt st).2).1
  have h3 : Cn (dv2 st).2 (4 + (dv3 st).1.length) (dv3 st).2 := cn_txt (dv2 st).2
  have h4 : Cn (dv3 st).2 4 (dv4 st).2 := (cn_take 4 (dv3 st).2).1
  have h5 : Cn (dv4 st).2 ((dv5 st).1.flatMap fun t => txt (nats t)).length (dv5 st).2 := cn_many dkey (fun t => txt (nats t)) cn_key _ _
  have := (((h1.trans h2).trans h3).trans h4).trans h5
  rw [layV1_length]
  unfold dver
  simp only [text_size']
  rw [← txtsBody_flat, txtsBody_length] at this
  rw [show 20 + (dtxt st).1.length + (dv3 st).1.length + bodyLen (natss (dv5 st).1) = 4 + (dtxt st).1.length + 8 + (4 + (dv3 st).1.length) + 4 + bodyLen (natss (dv5 st).1) by omega]
  exact this
theorem cn_all (b : List Nat) (h : (dVs b).2 = ([], false)) : b.length = 21 + (layL (dLs b).1).length + (layV (dVs b).1).length := by
  have h1 : Cn (b, false) 5 (d1 b).2 := (cn_take 5 (b, false)).1
  have h2 : Cn (d1 b).2 8 (d2 b).2 := (cn_take 8 (d1 b).2).1
  have h3 : Cn (d2 b).2 4 (d3 b).2 := (cn_take 4 (d2 b).2).1
  have h4 : Cn (d3 b).2 (layL (dLs b).1).length (dLs b).2 := cn_many dlast layL1 cn_last _ _
  have h5 : Cn (dLs b).2 4 (d5 b).2 := (cn_take 4 (dLs b).2).1
  have h6 : Cn (d5 b).2 (layV (dVs b).1).length (dVs b).2 := cn_many dver layV1 cn_ver _ _
  have := ((((h1.trans h2).trans h3).trans h4).trans h5).trans h6
  have := (this (by rw [h])).2
  rw [h] at this
  simp only [List.length_nil] at this
  omega

/-! ### both ways -/
structure DOk (now : Int) (b : List Nat) : Prop where
  all : (dVs (bodyO b)).2 = ([], false)
  load : okLoad (stk now (dLs (bodyO b)).1 (dVs (bodyO b)).1) (dLs (bodyO b)).1 = true
  gen : genOk (d2 (bodyO b)).1 = true
  eq : b = snap (d2 (bodyO b)).1 (dLs (bodyO b)).1 (dVs (bodyO b)).1
theorem lims_of {now : Int} {g : Nat} {ls : List Mk} {vs : List VT} (h : okLoad (stk now ls vs) ls = true) (hok : Ok (loadS (stk now ls vs) ls)) (hg : genOk g = true) (h1 : ls.length < 4294967296) (h2 : vs.length < 4294967296) : Lims g ls vs := by
  have hl := tld_lims hok (load_tld h)
  rw [stk_vts] at hl
  unfold genOk at hg
  simp only [decide_eq_true_eq] at hg
  exact ⟨by omega, hl.1, hl.2, h1, h2⟩
theorem doc_prog {now : Int} {b : List Nat} (h : DOk now b) (hok : Ok (loadS (stk now (dLs (bodyO b)).1 (dVs (bodyO b)).1) (dLs (bodyO b)).1)) (h1 : (dLs (bodyO b)).1.length < 4294967296) (h2 : (dVs (bodyO b)).1.length < 4294967296) :
    sumOk b = true ∧ rdOk now b = true ∧ rdG b = (d2 (bodyO b)).1 ∧ (rdLs (bodyO b)).1 = (dLs (bodyO b)).1 ∧ (rdVs (bodyO b)).1 = (dVs (bodyO b)).1 := by
  have hL := lims_of h.load hok h.gen h1 h2
  have heq := h.eq
  have hld := h.load
  have hgn := h.gen
  generalize (d2 (bodyO b)).1 = g at *
  generalize (dLs (bodyO b)).1 = ls at *
  generalize (dVs (bodyO b)).1 = vs at *
  have eb : bodyO b = snBody g ls vs := by rw [heq]; exact bodyO_snap _ _
  obtain ⟨b1, b2, b3, b4⟩ := body_back hL
  have hs : sumOk b = true := by rw [heq]; exact sumOk_snap _ (snBody_lt _ _ _)
  refine ⟨hs, ?_, ?_, ?_, ?_⟩
  · unfold rdOk rdKs
    rw [eb, b3, b4, body_back_ok hL hgn]
    exact hld
  · unfold rdG; rw [eb]; exact b2
  · rw [eb]; exact b3
  · rw [eb, b4]
theorem prog_doc {now : Int} {b : List Nat} (hb : ∀ c ∈ b, c < 256) (hs : sumOk b = true) (h : rdOk now b = true) (hok : Ok (rdS now b)) (h1 : (rdLs (bodyO b)).1.length < 4294967296) (h2 : (rdVs (bodyO b)).1.length < 4294967296) : DOk now b ∧ rdG b = (d2 (bodyO b)).1 ∧ (rdLs (bodyO b)).1 = (dLs (bodyO b)).1 ∧ (rdVs (bodyO b)).1 = (dVs (bodyO b)).1 := by
  have hg := (read_laid hb hs h).2
  have h0 := h
  unfold rdOk at h0
  rw [Bool.and_eq_true] at h0
  have e1 := sumOk_read hb hs
  have e2 := body_read (bodyO_byt hb) h0.1
  have hL : Lims (rdG b) (rdLs (bodyO b)).1 (rdVs (bodyO b)).1 := lims_of h0.2 hok hg h1 h2
  have h3 := h0.2
  unfold rdKs at h3
  unfold rdG at hg hL ⊢
  generalize hG : (hd3 (bodyO b)).1 = g at *
  generalize hLs : (rdLs (bodyO b)).1 = ls at *
  generalize hVs : (rdVs (bodyO b)).1 = vs at *
  obtain ⟨q1, q2, q3⟩ := body_dec hL
  rw [← e2] at q1 q2 q3
  refine ⟨⟨by rw [q3], by rw [q2, q3]; exact h3, by rw [q1]; exact hg, ?_⟩, q1.symm, q2.symm, by rw [q3]⟩
  rw [q1, q2, q3]
  unfold snap
  rw [← e2]
  exact e1
theorem rcount_lt (most : Int) (st : RS) (hb : Byt st) : (rcount most st).1 < 4294967296 := by
  obtain ⟨b, e⟩ := st
  unfold rcount ccount
  by_cases he : e = 0
  · subst he
    simp only [ne_eq, not_true_eq_false, if_false]
    by_cases h1 : b.length < 4
    · simp [h1]
    · by_cases h2 : most.toNat < val (b.take 4)
      · simp [h1, h2]
      · simp only [h1, h2, if_false]
        have := val_take_lt b hb 4 (by omega)
        have p4 : (256 : Nat) ^ 4 = 4294967296 := by decide
        simp
        omega
  · simp [he]
theorem rd_counts {b : List Nat} (hb : ∀ c ∈ b, c < 256) : (rdLs b).1.length < 4294967296 ∧ (rdVs b).1.length < 4294967296 := by
  have h1 : Byt (hd1 b).2 := (rnum_stp 4 (b, 0)).1 hb
  have h2 : Byt (hd2 b).2 := (rnum_stp 1 _).1 h1
  have h3 : Byt (hd3 b).2 := (rnum_stp 8 _).1 h2
  have h4 : Byt (rdLs b).2 := (rlasts_stp _ h3).1 h3
  refine ⟨?_, ?_⟩
  · unfold rdLs rlasts; rw [rmany_length]; exact rcount_lt _ _ h3
  · unfold rdVs rvers; rw [rmany_length]; exact rcount_lt _ _ h4
end Go.Proofs.YtbnohdgdadfjlaaGreatDoor
