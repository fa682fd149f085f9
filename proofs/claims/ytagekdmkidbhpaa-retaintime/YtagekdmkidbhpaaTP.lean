import Derived.Test.YtagekdmkidbhpaaTB
import Derived.Test.YtagekdmkidbhpaaMX
/- RetainTime: what the book says of the store, in pure functions. -/
namespace Go.Proofs.Ytagekdmkidbhpaa
open Go.RowKit Go.Maps Go.Sort Orl
set_option linter.unusedVariables false
set_option linter.unusedSimpArgs false

structure Inv (s : St) (now : Int) (bk : List BK) (ls : List Mk) : Prop where
  v1 : ∀ x ∈ bk, x.g = false → ∃ v, s.V (x.k, x.i) = some v ∧ v.stamp = x.s
  v2 : ∀ k i, s.V (k, i) ≠ none → ∃ x ∈ bk, hitB x k i = true
  un : bk.Pairwise (fun a b => a.g = false → b.g = false → ¬ (a.k = b.k ∧ a.i = b.i))
  la : ∀ k, lastF ls k = s.last k
  bd : ∀ x ∈ bk, -1 ≤ x.s ∧ x.s ≤ now ∧ x.k ∈ NM ∧ x.i ≤ 1048579
theorem hitB_iff {x : BK} {k : Tx} {i : Nat} : hitB x k i = true ↔ x.k = k ∧ x.i = i ∧ x.g = false := by
  simp [hitB]
theorem inv_new (now : Int) : Inv St.new now [] [] := ⟨(fun x h => by cases h), (fun k i h => absurd rfl h), List.Pairwise.nil, (fun k => rfl), fun x h => by cases h⟩
theorem Inv.mono {s : St} {a b : Int} {bk : List BK} {ls : List Mk} (h : Inv s a bk ls) (hab : a ≤ b) : Inv s b bk ls := { h with bd := fun x hx => by have := h.bd x hx; exact ⟨this.1, by omega, this.2.2⟩ }
/-- no entry, no version -/
theorem Inv.at {s : St} {now : Int} {bk : List BK} {ls : List Mk} (h : Inv s now bk ls) (k : Tx) (i : Nat) : atZ bk 0 k i < 0 ↔ s.V (k, i) = none := by
  rw [atZ_neg]
  constructor
  · intro hn
    cases hv : s.V (k, i) with
    | none => rfl
    | some v =>
      obtain ⟨x, hx, hh⟩ := h.v2 k i (by rw [hv]; simp)
      rw [hn x hx] at hh; cases hh
  · intro hv x hx
    cases hh : hitB x k i with
    | false => rfl
    | true =>
      obtain ⟨h1, h2, h3⟩ := hitB_iff.1 hh
      obtain ⟨v, hv2, _⟩ := h.v1 x hx h3
      rw [h1, h2, hv] at hv2; cases hv2
/-! ### Put -/
def sinceB (ls : List Mk) (i : Nat) (now : Int) (k : Tx) : Int := if i < lastF ls k then now else -1
def addB (i : Nat) (now : Int) (ls : List Mk) (bk : List BK) (k : Tx) : List BK := if atZ bk 0 k i < 0 then bk ++ [⟨k, i, sinceB ls i now k, false⟩] else bk
def addA (i : Nat) (now : Int) (ls : List Mk) (bk : List BK) (ps : List Pr) : List BK := ps.foldl (fun b p => addB i now ls b p.1) bk
theorem addA_snoc (i : Nat) (now : Int) (ls : List Mk) (bk : List BK) (ps : List Pr) (t : Nat) (ht : t < ps.length) : addA i now ls bk (ps.take (t + 1)) = addB i now ls (addA i now ls bk (ps.take t)) (ps.getD t p0).1 := by
  unfold addA
  rw [take_succ_getD ps t p0 ht, List.foldl_append]
  rfl
theorem addB_len (i : Nat) (now : Int) (ls : List Mk) (bk : List BK) (k : Tx) : bk.length ≤ (addB i now ls bk k).length ∧ (addB i now ls bk k).length ≤ bk.length + 1 := by
  unfold addB
  split <;> simp
theorem addA_len (i : Nat) (now : Int) (ls : List Mk) : ∀ (ps : List Pr) (bk : List BK), bk.length ≤ (addA i now ls bk ps).length ∧ (addA i now ls bk ps).length ≤ bk.length + ps.length
  | [], bk => ⟨Nat.le_refl _, Nat.le_refl _⟩
  | p :: r, bk => by
    have h1 := addB_len i now ls bk p.1
    have h2 := addA_len i now ls r (addB i now ls bk p.1)
    have e : addA i now ls bk (p :: r) = addA i now ls (addB i now ls bk p.1) r := rfl
    rw [e]
    simp only [List.length_cons]
    omega
theorem miss_put {s : St} {i : Nat} {keys : List Tx} {now : Int} {p : Pr} : ∀ {r : List Pr}, (∀ q ∈ r, q.1 ≠ p.1) → miss (put1 i keys now s p) i r = miss s i r := by
  intro r h
  unfold miss
  refine List.filter_congr fun q hq => ?_
  have : (put1 i keys now s p).V (q.1, i) = s.V (q.1, i) := if_neg (fun e => h q hq (Prod.mk.inj e).1)
  rw [this]
theorem Inv.add {s : St} {now : Int} {bk : List BK} {ls : List Mk} (h : Inv s now bk ls) (h0 : -1 ≤ now) (i : Nat) (hi : i ≤ 1048579) (keys : List Tx) (p : Pr) (hp : p.1 ∈ NM) (hv : s.V (p.1, i) = none) : Inv (put1 i keys now s p) now (addB i now ls bk p.1) ls := by
  have hV : ∀ m, (put1 i keys now s p).V m = if m = (p.1, i) then some ⟨p.2, keys, stampOf s i now p.1⟩ else s.V m := fun _ => rfl
  have e : addB i now ls bk p.1 = bk ++ [⟨p.1, i, sinceB ls i now p.1, false⟩] := by unfold addB; rw [if_pos ((h.at _ _).2 hv)]
  have es : sinceB ls i now p.1 = stampOf s i now p.1 := by unfold sinceB stampOf; rw [h.la]
  rw [e, es]
  have hne : ∀ x ∈ bk, x.g = false → ¬ (x.k = p.1 ∧ x.i = i) := fun x hx hg hh => by
    obtain ⟨v, hv2, _⟩ := h.v1 x hx hg
    rw [hh.1, hh.2, hv] at hv2; cases hv2
  refine ⟨fun x hx hg => ?_, fun k j hk => ?_, ?_, h.la, fun x hx => ?_⟩
  · rcases List.mem_append.1 hx with hx | hx
    · rw [hV, if_neg (fun e => hne x hx hg ⟨(Prod.mk.inj e).1, (Prod.mk.inj e).2⟩)]
      exact h.v1 x hx hg
    · simp at hx; subst hx
      rw [hV, if_pos rfl]
      exact ⟨_, rfl, rfl⟩
  · rw [hV] at hk
    by_cases e : (k, j) = (p.1, i)
    · obtain ⟨rfl, rfl⟩ := Prod.mk.inj e
      exact ⟨_, List.mem_append.2 (.inr (List.mem_singleton.2 rfl)), hitB_iff.2 ⟨rfl, rfl, rfl⟩⟩
    · rw [if_neg e] at hk
      obtain ⟨x, hx, hh⟩ := h.v2 k j hk
      exact ⟨x, List.mem_append.2 (.inl hx), hh⟩
  · refine List.pairwise_append.2 ⟨h.un, by simp, fun a ha b hb => ?_⟩
    simp at hb; subst hb
    intro hg _ hh
    exact hne a ha hg hh
  · rcases List.mem_append.1 hx with hx | hx
    · exact h.bd x hx
    · simp at hx; subst hx
      refine ⟨?_, ?_, hp, hi⟩
      · show -1 ≤ stampOf s i now p.1
        unfold stampOf; split <;> omega
      · show stampOf s i now p.1 ≤ now
        unfold stampOf; split <;> omega
theorem Inv.put {now : Int} {ls : List Mk} (h0 : -1 ≤ now) (i : Nat) (hi : i ≤ 1048579) (keys : List Tx) : ∀ (ps : List Pr) (s : St) (bk : List BK), (ps.Pairwise fun a b => a.1 ≠ b.1) → (∀ p ∈ ps, p.1 ∈ NM) → Inv s now bk ls → Inv (putAll i keys now s (miss s i ps)) now (addA i now ls bk ps) ls ∧ (addA i now ls bk ps).length = bk.length + (miss s i ps).length
  | [], s, bk, _, _, h => ⟨h, by simp [addA, miss]⟩
  | p :: r, s, bk, hp, hm, h => by
    obtain ⟨hp1, hp2⟩ := List.pairwise_cons.1 hp
    have ea : addA i now ls bk (p :: r) = addA i now ls (addB i now ls bk p.1) r := rfl
    cases hv : s.V (p.1, i) with
    | none =>
      have em : miss s i (p :: r) = p :: miss s i r := by unfold miss; rw [List.filter_cons, if_pos (by rw [hv]; rfl)]
      have e2 := miss_put (s := s) (i := i) (keys := keys) (now := now) (p := p) (r := r) (fun q hq => (hp1 q hq).symm)
      have ih := Inv.put h0 i hi keys r _ _ hp2 (fun q hq => hm q (by simp [hq])) (h.add h0 i hi keys p (hm p (by simp)) hv)
      rw [e2] at ih
      have el : (addB i now ls bk p.1).length = bk.length + 1 := by unfold addB; rw [if_pos ((h.at _ _).2 hv)]; simp
      rw [ea, em]
      refine ⟨ih.1, ?_⟩
      rw [ih.2, el, List.length_cons]; omega
    | some v =>
      have em : miss s i (p :: r) = miss s i r := by unfold miss; rw [List.filter_cons, if_neg (by rw [hv]; simp)]
      have eb : addB i now ls bk p.1 = bk := by unfold addB; rw [if_neg (fun hh => by rw [(h.at _ _).1 hh] at hv; cases hv)]
      rw [ea, em, eb]
      exact Inv.put h0 i hi keys r s bk hp2 (fun q hq => hm q (by simp [hq])) h
theorem ps_ne (x : OV) : x.ps.Pairwise fun a b => a.1 ≠ b.1 := List.Pairwise.imp (fun {a b} h e => by
  have h1 : lts a.1 b.1 = true := h
  rw [e] at h1
  exact absurd h1 (by rw [swoT.irrefl b.1]; simp)) (ps_inc x)
theorem Inv.putO {s : St} {now : Int} {bk : List BK} {ls : List Mk} (h : Inv s now bk ls) (ht : tickB now = true) (x : OV) : Inv (putO s x now) now (addA x.id now ls bk x.ps) ls ∧ (addA x.id now ls bk x.ps).length = bk.length + (miss s x.id x.ps).length := by
  have h0 : -1 ≤ now := by have := (tick_iff.1 ht).1; omega
  have hh := Inv.put (ls := ls) h0 x.id (idn_le x.i).2 x.keys x.ps s bk (ps_ne x) (fun p hp => (ps_mem hp).2.1) h
  unfold Go.Proofs.Ytagekdmkidbhpaa.putO
  rw [okPutO, ht, Bool.and_true]
  by_cases hl : 0 < x.ps.length
  · rw [if_pos (decide_eq_true hl)]
    exact hh
  · rw [if_neg (by simpa using hl)]
    have : x.ps = [] := by
      cases e : x.ps with
      | nil => rfl
      | cons a b => rw [e] at hl; simp at hl
    rw [this] at hh ⊢
    exact hh
/-! ### Commit -/
def setQ (k : Tx) (i : Nat) (q : Mk) : Mk := if q.1 = k then (q.1, i) else q
def setT (k : Tx) (i : Nat) (ls : List Mk) (t : Nat) : List Mk := (ls.take t).map (setQ k i) ++ ls.drop t
def fdB (k : Tx) (ls : List Mk) : Bool := ls.any fun q => decide (q.1 = k)
def raiseL (k : Tx) (i : Nat) (ls : List Mk) : List Mk := if fdB k ls = true then ls.map (setQ k i) else ls ++ [(k, i)]
def stepC (i : Nat) (ls : List Mk) (x : BK) : List Mk := if x.i = i ∧ x.g = false ∧ lastF ls x.k < i then raiseL x.k i ls else ls
theorem raise_len (k : Tx) (i : Nat) (ls : List Mk) : (raiseL k i ls).length ≤ ls.length + 1 := by
  unfold raiseL; split <;> simp
theorem step_len (i : Nat) (ls : List Mk) (x : BK) : (stepC i ls x).length ≤ ls.length + 1 := by
  unfold stepC
  split
  · exact raise_len _ _ _
  · omega
theorem fold_len (i : Nat) : ∀ (bk : List BK) (ls : List Mk), (bk.foldl (stepC i) ls).length ≤ ls.length + bk.length
  | [], ls => Nat.le_refl _
  | x :: r, ls => by
    have h1 := step_len i ls x
    have h2 := fold_len i r (stepC i ls x)
    simp only [List.foldl_cons, List.length_cons]
    omega
theorem last_map (k : Tx) (i : Nat) : ∀ (ls : List Mk) (k' : Tx), lastF (ls.map (setQ k i)) k' = if k' = k ∧ fdB k ls = true then i else lastF ls k'
  | [], k' => by simp [lastF, fdB]
  | q :: r, k' => by
    have ih := last_map k i r k'
    have eq1 : (setQ k i q).1 = q.1 := by unfold setQ; split <;> rfl
    simp only [List.map_cons, lastF, eq1, ih]
    have ef : fdB k (q :: r) = (decide (q.1 = k) || fdB k r) := by simp [fdB]
    rw [ef]
    by_cases e1 : q.1 = k'
    · by_cases e2 : k' = k
      · have e3 : q.1 = k := by rw [e1, e2]
        have : (setQ k i q).2 = i := by unfold setQ; rw [if_pos e3]
        simp [e1, e2, e3, this]
      · have e3 : ¬ q.1 = k := fun h => e2 (by rw [← e1, h])
        have : setQ k i q = q := by unfold setQ; rw [if_neg e3]
        simp [e1, e2, this]
    · by_cases e2 : k' = k
      · have e3 : ¬ q.1 = k := fun h => e1 (by rw [h, e2])
        simp [e1, e2, e3]
      · simp [e1, e2]
theorem last_app (k : Tx) (i : Nat) : ∀ (ls : List Mk) (k' : Tx), fdB k ls = false → lastF (ls ++ [(k, i)]) k' = if k' = k then i else lastF ls k'
  | [], k', _ => by
    by_cases e : k = k'
    · simp [lastF, e]
    · simp [lastF, e, Ne.symm e]
  | q :: r, k', h => by
    have ef : fdB k (q :: r) = (decide (q.1 = k) || fdB k r) := by simp [fdB]
    rw [ef] at h
    simp only [Bool.or_eq_false_iff, decide_eq_false_iff_not] at h
    have ih := last_app k i r k' h.2
    simp only [List.cons_append, lastF, ih]
    by_cases e1 : q.1 = k'
    · have : ¬ k' = k := fun hh => h.1 (by rw [e1, hh])
      simp [e1, this]
    · simp [e1]
theorem last_raise (k : Tx) (i : Nat) (ls : List Mk) (k' : Tx) : lastF (raiseL k i ls) k' = if k' = k then i else lastF ls k' := by
  unfold raiseL
  cases h : fdB k ls with
  | true => rw [if_pos rfl, last_map, h]; simp
  | false => rw [if_neg (by simp), last_app _ _ _ _ h]
theorem last_fold (i : Nat) (k : Tx) : ∀ (bk : List BK) (ls : List Mk), lastF (bk.foldl (stepC i) ls) k = if lastF ls k < i ∧ ∃ x ∈ bk, hitB x k i = true then i else lastF ls k
  | [], ls => by simp
  | x :: r, ls => by
    rw [List.foldl_cons, last_fold i k r]
    by_cases hx : hitB x k i = true ∧ lastF ls k < i
    · obtain ⟨hh, hl⟩ := hx
      obtain ⟨h1, h2, h3⟩ := hitB_iff.1 hh
      have e : lastF (stepC i ls x) k = i := by
        unfold stepC
        rw [if_pos ⟨h2, h3, by rw [h1]; exact hl⟩, last_raise, if_pos h1.symm]
      rw [e, if_neg (by omega), if_pos ⟨hl, x, by simp, hh⟩]
    · have e : lastF (stepC i ls x) k = lastF ls k := by
        unfold stepC
        split
        · rename_i hc
          rw [last_raise]
          by_cases ek : k = x.k
          · exact absurd ⟨hitB_iff.2 ⟨ek.symm, hc.1, hc.2.1⟩, by rw [ek]; exact hc.2.2⟩ hx
          · rw [if_neg ek]
        · rfl
      rw [e]
      by_cases hl : lastF ls k < i
      · have hn : hitB x k i = false := by
          cases hh : hitB x k i with
          | false => rfl
          | true => exact absurd ⟨hh, hl⟩ hx
        have : (∃ y ∈ x :: r, hitB y k i = true) ↔ ∃ y ∈ r, hitB y k i = true := by
          constructor
          · rintro ⟨y, hy, hh⟩
            rcases List.mem_cons.1 hy with rfl | hy
            · rw [hn] at hh; cases hh
            · exact ⟨y, hy, hh⟩
          · rintro ⟨y, hy, hh⟩
            exact ⟨y, by simp [hy], hh⟩
        simp only [this]
      · rw [if_neg (fun h => hl h.1), if_neg (fun h => hl h.1)]
def stB (ls : List Mk) (now : Int) (x : BK) : BK := if x.s < 0 ∧ x.i < lastF ls x.k then { x with s := now } else x
def mapT {α : Type} (f : α → α) (l : List α) (t : Nat) : List α := (l.take t).map f ++ l.drop t
theorem mapT_len {α : Type} (f : α → α) (l : List α) (t : Nat) : (mapT f l t).length = l.length := by unfold mapT; simp; omega
theorem mapT_at {α : Type} (f : α → α) (l : List α) (t : Nat) (d : α) (h : t < l.length) : (mapT f l t).getD t d = l.getD t d := by
  unfold mapT
  have e : ((l.take t).map f).length = t := by simp; omega
  simp only [List.getD]
  rw [List.getElem?_append_right (by rw [e]; exact Nat.le_refl _), e]
  simp
theorem mapT_succ {α : Type} (f : α → α) (l : List α) (t : Nat) (d : α) (h : t < l.length) : mapT f l (t + 1) = (mapT f l t).set t (f (l.getD t d)) := by
  unfold mapT
  have e : ((l.take t).map f).length = t := by simp; omega
  rw [take_succ_getD l t d h, List.map_append, List.set_append_right _ _ (by rw [e]; exact Nat.le_refl _), e]
  have ed : l.drop t = l.getD t d :: l.drop (t + 1) := by
    rw [List.drop_eq_getElem_cons h]
    simp [List.getD, h]
  rw [ed]
  simp
theorem mapT_same {α : Type} (f : α → α) (l : List α) (t : Nat) (d : α) (h : t < l.length) (hf : f (l.getD t d) = l.getD t d) : mapT f l (t + 1) = mapT f l t := by
  rw [mapT_succ f l t d h, hf, ← mapT_at f l t d h]
  apply List.ext_getElem?
  intro j
  rw [List.getElem?_set]
  split
  · rename_i e; subst e
    have hl : t < (mapT f l t).length := by rw [mapT_len]; exact h
    simp [List.getD, hl]
  · rfl
theorem mapT_zero {α : Type} (f : α → α) (l : List α) : mapT f l 0 = l := by simp [mapT]
theorem mapT_all {α : Type} (f : α → α) (l : List α) (t : Nat) (h : l.length ≤ t) : mapT f l t = l.map f := by
  unfold mapT
  rw [List.take_of_length_le h, List.drop_eq_nil_of_le h, List.append_nil]
theorem stB_parts (ls : List Mk) (now : Int) (x : BK) : (stB ls now x).k = x.k ∧ (stB ls now x).i = x.i ∧ (stB ls now x).g = x.g := by
  unfold stB; split <;> exact ⟨rfl, rfl, rfl⟩
theorem Inv.com {s : St} {now : Int} {bk : List BK} {ls : List Mk} (h : Inv s now bk ls) (hs : Ok s) (h0 : 0 ≤ now) (i : Nat) : Inv (commitS s i now) now (bk.map (stB (bk.foldl (stepC i) ls) now)) (bk.foldl (stepC i) ls) := by
  have hup : ∀ k, (lastF ls k < i ∧ ∃ x ∈ bk, hitB x k i = true) ↔ upB s i k = true := fun k => by
    rw [upB_iff, h.la]
    constructor
    · rintro ⟨h1, x, hx, hh⟩
      obtain ⟨e1, e2, e3⟩ := hitB_iff.1 hh
      obtain ⟨v, hv, _⟩ := h.v1 x hx e3
      rw [e1, e2] at hv
      exact ⟨by rw [hv]; simp, h1⟩
    · rintro ⟨h1, h2⟩
      exact ⟨h2, h.v2 k i h1⟩
  have hla : ∀ k, lastF (bk.foldl (stepC i) ls) k = (commitS s i now).last k := fun k => by
    rw [last_fold, com_last, h.la]
    have := hup k
    rw [h.la] at this
    by_cases e : upB s i k = true
    · rw [if_pos e, if_pos (this.2 e)]
    · rw [if_neg e, if_neg (fun hh => e (this.1 hh))]
  generalize hL : bk.foldl (stepC i) ls = ls1 at hla ⊢
  refine ⟨fun x hx hg => ?_, fun k j hk => ?_, ?_, hla, fun x hx => ?_⟩
  · obtain ⟨y, hy, rfl⟩ := List.mem_map.1 hx
    obtain ⟨e1, e2, e3⟩ := stB_parts ls1 now y
    rw [e3] at hg
    obtain ⟨v, hv, hvs⟩ := h.v1 y hy hg
    have hb := (h.bd y hy).1
    rw [e1, e2, com_V, hv]
    have hst := hs.st _ _ hv
    simp only at hst
    unfold stB
    rw [hla, com_last]
    by_cases e : upB s i y.k = true
    · simp only [e, if_true, true_and]
      by_cases hi : y.i < i
      · rw [if_pos hi]
        refine ⟨_, rfl, ?_⟩
        unfold stamped
        by_cases hs1 : v.stamp = -1
        · rw [if_pos hs1, if_pos ⟨by omega, hi⟩]; rfl
        · rw [if_neg hs1, if_neg (by omega)]; exact hvs
      · rw [if_neg hi, if_neg (fun hh => hi hh.2)]
        exact ⟨v, rfl, hvs⟩
    · rw [if_neg (fun hh => e hh.1), if_neg e, if_neg]
      · exact ⟨v, rfl, hvs⟩
      · rintro ⟨h1, h2⟩
        have := (hst.1 h2).1
        omega
  · have hk' := com_none.1 hk
    obtain ⟨x, hx, hh⟩ := h.v2 k j hk'
    refine ⟨_, List.mem_map.2 ⟨x, hx, rfl⟩, ?_⟩
    obtain ⟨e1, e2, e3⟩ := stB_parts ls1 now x
    rw [hitB_iff, e1, e2, e3]
    exact hitB_iff.1 hh
  · rw [List.pairwise_map]
    refine h.un.imp fun {a b} hab => ?_
    obtain ⟨e1, e2, e3⟩ := stB_parts ls1 now a
    obtain ⟨f1, f2, f3⟩ := stB_parts ls1 now b
    rw [e1, e2, e3, f1, f2, f3]
    exact hab
  · obtain ⟨y, hy, rfl⟩ := List.mem_map.1 hx
    obtain ⟨e1, e2, e3⟩ := stB_parts ls1 now y
    have hb := h.bd y hy
    rw [e1, e2]
    refine ⟨?_, ?_, hb.2.2⟩
    · unfold stB; split
      · show -1 ≤ now; omega
      · exact hb.1
    · unfold stB; split
      · exact Int.le_refl _
      · exact hb.2.1
theorem Inv.comO {s : St} {now : Int} {bk : List BK} {ls : List Mk} (h : Inv s now bk ls) (hs : Ok s) (ht : tickB now = true) (x : OV) : Inv (comO s x now) now (bk.map (stB (bk.foldl (stepC x.id) ls) now)) (bk.foldl (stepC x.id) ls) := by
  unfold Go.Proofs.Ytagekdmkidbhpaa.comO
  rw [if_pos ht]
  exact h.com hs (tick_iff.1 ht).1 x.id
/-! ### Collect -/
def dB (now hold : Int) (x : BK) : Bool := !x.g && (decide (0 ≤ x.s) && decide (hold ≤ now - x.s))
def goB (now hold : Int) (x : BK) : BK := if dB now hold x = true then { x with g := true } else x
def cntB (now hold : Int) (bk : List BK) : Nat := (bk.filter (dB now hold)).length
theorem cnt_snoc (now hold : Int) (bk : List BK) (t : Nat) (ht : t < bk.length) : cntB now hold (bk.take (t + 1)) = cntB now hold (bk.take t) + (if dB now hold (bk.getD t bk0) = true then 1 else 0) := by
  unfold cntB
  rw [take_succ_getD bk t bk0 ht, List.filter_append, List.length_append]
  congr 1
  cases h : dB now hold (bk.getD t bk0) with
  | true => rw [List.filter_cons, if_pos h]; simp
  | false => rw [List.filter_cons, if_neg (by rw [h]; simp)]; simp
theorem cnt_le (now hold : Int) (bk : List BK) : cntB now hold bk ≤ bk.length := List.length_filter_le _ _
theorem dB_iff {now hold : Int} {x : BK} : dB now hold x = true ↔ x.g = false ∧ 0 ≤ x.s ∧ hold ≤ now - x.s := by
  simp [dB]
theorem Inv.due {s : St} {now nw hold : Int} {bk : List BK} {ls : List Mk} (h : Inv s nw bk ls) {x : BK} (hx : x ∈ bk) (hg : x.g = false) : dueB s (now - hold) (x.k, x.i) = dB now hold x := by
  obtain ⟨v, hv, hs⟩ := h.v1 x hx hg
  have hb := (h.bd x hx).1
  cases hd : dB now hold x with
  | true =>
    obtain ⟨_, h2, h3⟩ := dB_iff.1 hd
    exact dueB_iff.2 ⟨v, hv, by omega, by omega⟩
  | false =>
    cases he : dueB s (now - hold) (x.k, x.i) with
    | false => rfl
    | true =>
      obtain ⟨u, hu, h1, h2⟩ := dueB_iff.1 he
      rw [hv] at hu; cases hu
      rw [dB_iff.2 ⟨hg, by omega, by omega⟩] at hd; cases hd
def keyB (x : BK) : Mk := (x.k, x.i)
theorem due_nodup (now hold : Int) : ∀ {bk : List BK}, bk.Pairwise (fun a b => a.g = false → b.g = false → ¬ (a.k = b.k ∧ a.i = b.i)) → ((bk.filter (dB now hold)).map keyB).Nodup
  | [], _ => List.nodup_nil
  | x :: r, h => by
    obtain ⟨h1, h2⟩ := List.pairwise_cons.1 h
    have ih := due_nodup now hold h2
    cases hd : dB now hold x with
    | false => rw [List.filter_cons, if_neg (by rw [hd]; simp)]; exact ih
    | true =>
      rw [List.filter_cons, if_pos hd, List.map_cons]
      refine List.nodup_cons.2 ⟨fun hm => ?_, ih⟩
      obtain ⟨y, hy, e⟩ := List.mem_map.1 hm
      obtain ⟨hy1, hy2⟩ := List.mem_filter.1 hy
      exact h1 y hy1 (dB_iff.1 hd).1 (dB_iff.1 hy2).1 ⟨((Prod.mk.inj e).1).symm, ((Prod.mk.inj e).2).symm⟩
theorem inc_nodup {ds : List Mk} (h : Inc ltM ds) : ds.Nodup := by
  refine List.Pairwise.imp (fun {a b} hab e => ?_) h
  rw [e, swoM.irrefl] at hab; cases hab
theorem Inv.count {s : St} {now nw hold : Int} {bk : List BK} {ls : List Mk} (h : Inv s nw bk ls) {ds : List Mk} (hd : IsDue s (now - hold) ds) : ds.length = cntB now hold bk := by
  have e1 : ∀ m, m ∈ (bk.filter (dB now hold)).map keyB ↔ m ∈ ds := fun m => by
    rw [hd.is]
    constructor
    · intro hm
      obtain ⟨y, hy, rfl⟩ := List.mem_map.1 hm
      obtain ⟨hy1, hy2⟩ := List.mem_filter.1 hy
      show dueB s (now - hold) (y.k, y.i) = true
      rw [h.due hy1 (dB_iff.1 hy2).1]; exact hy2
    · intro hm
      obtain ⟨v, hv, _⟩ := dueB_iff.1 hm
      obtain ⟨x, hx, hh⟩ := h.v2 m.1 m.2 (by rw [hv]; simp)
      obtain ⟨a1, a2, a3⟩ := hitB_iff.1 hh
      refine List.mem_map.2 ⟨x, List.mem_filter.2 ⟨hx, ?_⟩, by show (x.k, x.i) = m; rw [a1, a2]⟩
      rw [← h.due hx a3, a1, a2]; exact hm
  have n1 := due_nodup now hold h.un
  have l1 := nodup_le n1 (fun m hm => (e1 m).1 hm)
  have l2 := nodup_le (inc_nodup hd.inc) (fun m hm => (e1 m).2 hm)
  rw [List.length_map] at l1 l2
  unfold cntB
  omega
theorem goB_parts (now hold : Int) (x : BK) : (goB now hold x).k = x.k ∧ (goB now hold x).i = x.i ∧ (goB now hold x).s = x.s := by
  unfold goB; split <;> exact ⟨rfl, rfl, rfl⟩
theorem goB_g {now hold : Int} {x : BK} (h : (goB now hold x).g = false) : x.g = false ∧ dB now hold x = false ∧ goB now hold x = x := by
  unfold goB at h ⊢
  split at h
  · cases h
  · rename_i hn
    refine ⟨h, by simpa using hn, ?_⟩
    rw [if_neg hn]
theorem Inv.coll {s : St} {now nw hold : Int} {bk : List BK} {ls : List Mk} (h : Inv s nw bk ls) : Inv (collS s (now - hold)) nw (bk.map (goB now hold)) ls := by
  have hV : ∀ m, (collS s (now - hold)).V m = if dueB s (now - hold) m = true then none else s.V m := fun _ => rfl
  refine ⟨fun x hx hg => ?_, fun k j hk => ?_, ?_, h.la, fun x hx => ?_⟩
  · obtain ⟨y, hy, rfl⟩ := List.mem_map.1 hx
    obtain ⟨g1, g2, g3⟩ := goB_g hg
    rw [g3, hV, h.due hy g1, g2, if_neg (by simp)]
    exact h.v1 y hy g1
  · rw [hV] at hk
    split at hk
    · exact absurd rfl hk
    · rename_i hn
      obtain ⟨x, hx, hh⟩ := h.v2 k j hk
      obtain ⟨a1, a2, a3⟩ := hitB_iff.1 hh
      refine ⟨_, List.mem_map.2 ⟨x, hx, rfl⟩, ?_⟩
      have hd : dB now hold x = false := by
        rw [← h.due hx a3, a1, a2]; simpa using hn
      have : goB now hold x = x := by unfold goB; rw [if_neg (by rw [hd]; simp)]
      rw [this]; exact hh
  · rw [List.pairwise_map]
    refine h.un.imp fun {a b} hab ha hb => ?_
    obtain ⟨p1, _, p3⟩ := goB_g ha
    obtain ⟨q1, _, q3⟩ := goB_g hb
    rw [p3, q3]
    exact hab p1 q1
  · obtain ⟨y, hy, rfl⟩ := List.mem_map.1 hx
    obtain ⟨e1, e2, e3⟩ := goB_parts now hold y
    rw [e1, e2, e3]
    exact h.bd y hy
/-- what is gone is not there -/
theorem Inv.out {s : St} {now nw hold : Int} {bk : List BK} {ls : List Mk} (h : Inv s nw bk ls) {x : BK} (hx : x ∈ bk) (hd : dB now hold x = true) : byE (collS s (now - hold)) (x.k, x.i) = 110 := by
  have hV : (collS s (now - hold)).V (x.k, x.i) = none := by
    show (if dueB s (now - hold) (x.k, x.i) = true then none else s.V (x.k, x.i)) = none
    rw [if_pos (by rw [h.due hx (dB_iff.1 hd).1]; exact hd)]
  unfold byE
  rw [hV]; rfl
theorem Inv.isin {s : St} {nw : Int} {bk : List BK} {ls : List Mk} (h : Inv s nw bk ls) {x : BK} (hx : x ∈ bk) (hg : x.g = false) : byE s (x.k, x.i) = 0 ∧ ∃ v, s.V (x.k, x.i) = some v := by
  obtain ⟨v, hv, _⟩ := h.v1 x hx hg
  unfold byE
  rw [hv]
  exact ⟨rfl, v, rfl⟩

/-! ### in memory -/
structure Tm (w1 w : World) (p : Nat) (s : St) (ob : Option Addr) (cb : Nat) (bk : List BK) (ol : Option Addr) (cl : Nat) (ls : List Mk) (X : Nat → Prop) : Prop where
  ow : ∃ P, Ow w1 w p s 384 P ∧ (∀ b, inO ob b → P b) ∧ (∀ b, inO ol b → P b) ∧ ∀ b, X b → P b
  bo : Own BE w ob cb bk
  lo : Own LA w ol cl ls
  xb : ∀ b, X b → ¬ inO ob b ∧ ¬ inO ol b
  ap : ∀ b, inO ob b → ¬ inO ol b
section
variable {w1 w w' : World} {p : Nat} {s : St} {ob : Option Addr} {cb : Nat} {bk : List BK} {ol : Option Addr} {cl : Nat} {ls : List Mk} {X : Nat → Prop}
theorem Tm.go (h : Tm w1 w p s ob cb bk ol cl ls X) (hk : Keeps no w w') : Tm w1 w' p s ob cb bk ol cl ls X := by
  obtain ⟨P, h1, h2⟩ := h.ow
  exact ⟨⟨P, h1.go hk, h2⟩, h.bo.keepsN hk, h.lo.keepsN hk, h.xb, h.ap⟩
theorem Tm.keep (h : Tm w1 w p s ob cb bk ol cl ls X) : Keeps no w1 w := by
  obtain ⟨P, h1, h2⟩ := h.ow
  exact h1.keep
theorem Tm.ok (h : Tm w1 w p s ob cb bk ol cl ls X) : Ok s := by
  obtain ⟨P, h1, h2⟩ := h.ow
  exact h1.ok
theorem Tm.sub (h : Tm w1 w p s ob cb bk ol cl ls X) {Y : Nat → Prop} (hY : ∀ b, Y b → X b) : Tm w1 w p s ob cb bk ol cl ls Y := by
  obtain ⟨P, h1, h2, h3, h4⟩ := h.ow
  exact ⟨⟨P, h1, h2, h3, fun b hb => h4 b (hY b hb)⟩, h.bo, h.lo, fun b hb => h.xb b (hY b hb), h.ap⟩
/-- blocks made since are others' -/
theorem Tm.more (h : Tm w1 w p s ob cb bk ol cl ls X) (hk : Keeps no w w') {Y : Nat → Prop} (hY : ∀ b, Y b → w.heap.size ≤ b ∧ b < w'.heap.size) : Tm w1 w' p s ob cb bk ol cl ls Y := by
  obtain ⟨P, h1, h2, h3, h4⟩ := h.ow
  exact ⟨⟨_, h1.grow hk, fun b hb => .inl (h2 b hb), fun b hb => .inl (h3 b hb), fun b hb => .inr (hY b hb)⟩, h.bo.keepsN hk, h.lo.keepsN hk, fun b hb => ⟨fun hc => by have := h.bo.lt b hc; have := (hY b hb).1; omega, fun hc => by have := h.lo.lt b hc; have := (hY b hb).1; omega⟩, h.ap⟩
/-- the store's own calls -/
theorem Tm.calls (h : Tm w1 w p s ob cb bk ol cl ls X) {P : Nat → Prop} {s' : St} (ho : Ow w1 w' p s' 384 P) (hk : Keeps (fun b => ¬ P b) w w') (hb : ∀ b, inO ob b → P b) (hl : ∀ b, inO ol b → P b) (hX : ∀ b, X b → P b) : Tm w1 w' p s' ob cb bk ol cl ls X ∧ Keeps (fun b => ¬ X b) w w' :=
  ⟨⟨⟨P, ho, hb, hl, hX⟩, h.bo.keeps hk (fun b h1 h2 => h2 (hb b h1)), h.lo.keeps hk (fun b h1 h2 => h2 (hl b h1)), h.xb, h.ap⟩, hk.mono (fun b hb hc => hb (hX b hc))⟩
theorem Tm.setB (h : Tm w1 w p s ob cb bk ol cl ls X) {c1 : Nat} {bk' : List BK} (ho : Own BE w' ob c1 bk') (hk : Keeps (inO ob) w w') : Tm w1 w' p s ob c1 bk' ol cl ls X ∧ Keeps (fun b => ¬ X b) w w' := by
  obtain ⟨P, h1, h2, h3, h4⟩ := h.ow
  exact ⟨⟨⟨P, h1.other (hk.mono h2), h2, h3, h4⟩, ho, h.lo.keeps hk (fun b hb hc => h.ap b hc hb), h.xb, h.ap⟩, hk.mono (fun b hb hc => (h.xb b hc).1 hb)⟩
theorem Tm.setL (h : Tm w1 w p s ob cb bk ol cl ls X) {c1 : Nat} {ls' : List Mk} (ho : Own LA w' ol c1 ls') (hk : Keeps (inO ol) w w') : Tm w1 w' p s ob cb bk ol c1 ls' X ∧ Keeps (fun b => ¬ X b) w w' := by
  obtain ⟨P, h1, h2, h3, h4⟩ := h.ow
  exact ⟨⟨⟨P, h1.other (hk.mono h3), h2, h3, h4⟩, h.bo.keeps hk (fun b hb hc => h.ap b hb hc), ho, h.xb, h.ap⟩, hk.mono (fun b hb hc => (h.xb b hc).2 hb)⟩
theorem Tm.pushB (h : Tm w1 w p s ob cb bk ol cl ls X) (hX : ∀ b, X b → b < w.heap.size) {o1 : Option Addr} {c1 : Nat} {bk' : List BK} (ho : Own BE w' o1 c1 bk') (ha : Ap w ob o1 w') : Tm w1 w' p s o1 c1 bk' ol cl ls X ∧ Keeps (fun b => ¬ X b) w w' := by
  rcases ha with ⟨rfl, hk⟩ | ⟨⟨g, rfl, hg⟩, hk⟩
  · exact h.setB ho hk
  · obtain ⟨P, h1, h2, h3, h4⟩ := h.ow
    have hge : ∀ b, inO (some ⟨g, 0, none⟩ : Option Addr) b → w.heap.size ≤ b := fun b ⟨x, hx, e⟩ => by cases hx; subst e; exact hg
    refine ⟨⟨⟨_, h1.grow hk, fun b hb => .inr ⟨hge b hb, ho.lt b hb⟩, fun b hb => .inl (h3 b hb), fun b hb => .inl (h4 b hb)⟩, ho, h.lo.keepsN hk, fun b hb => ⟨fun hc => ?_, (h.xb b hb).2⟩, fun b hb hc => ?_⟩, hk.of_no⟩
    · have := hge b hc; have := hX b hb; omega
    · have := hge b hb; have := h.lo.lt b hc; omega
theorem Tm.pushL (h : Tm w1 w p s ob cb bk ol cl ls X) (hX : ∀ b, X b → b < w.heap.size) {o1 : Option Addr} {c1 : Nat} {ls' : List Mk} (ho : Own LA w' o1 c1 ls') (ha : Ap w ol o1 w') : Tm w1 w' p s ob cb bk o1 c1 ls' X ∧ Keeps (fun b => ¬ X b) w w' := by
  rcases ha with ⟨rfl, hk⟩ | ⟨⟨g, rfl, hg⟩, hk⟩
  · exact h.setL ho hk
  · obtain ⟨P, h1, h2, h3, h4⟩ := h.ow
    have hge : ∀ b, inO (some ⟨g, 0, none⟩ : Option Addr) b → w.heap.size ≤ b := fun b ⟨x, hx, e⟩ => by cases hx; subst e; exact hg
    refine ⟨⟨⟨_, h1.grow hk, fun b hb => .inl (h2 b hb), fun b hb => .inr ⟨hge b hb, ho.lt b hb⟩, fun b hb => .inl (h4 b hb)⟩, h.bo.keepsN hk, ho, fun b hb => ⟨(h.xb b hb).1, fun hc => ?_⟩, fun b hb hc => ?_⟩, hk.of_no⟩
    · have := hge b hc; have := hX b hb; omega
    · have := hge b hc; have := h.bo.lt b hb; omega
end
/-- one cell of one element written over -/
theorem Own.store1 {α : Type} {E : El α} (hE : E.Ok) {w : World} {o : Option Addr} {c : Nat} {xs : List α} (h : Own E w o c xs) (d : α) (j : Nat) (hj : j < xs.length) (f : Nat) (hf : f < E.k) (x : α) (v : Value) (hx : E.enc x = (E.enc (xs.getD j d)).set f v) :
    ∃ g, o = some ⟨g, 0, none⟩ ∧ (∀ i, w.frozen? ⟨g, i, none⟩ = false) ∧ Own E (w.setCell ⟨g, j * E.k + f, none⟩ v) o c (xs.set j x) ∧ Keeps (inO o) w (w.setCell ⟨g, j * E.k + f, none⟩ v) := by
  rcases h.shape with ⟨_, _, e⟩ | ⟨g, cur, rfl, hg, hc, hm, hs, ht⟩
  · rw [e] at hj; simp at hj
  · refine ⟨g, rfl, fun i => frozen_of_blk hg i, ?_, (Keeps.refl _ _).setCell (.inl ⟨_, rfl, rfl⟩) v⟩
    refine own_of_shape hE (blk_set hg _ _) (by simpa using hc) hm (by simp [hs]) ?_
    have hjk : j * E.k + E.k ≤ xs.length * E.k := by rw [← Nat.succ_mul]; exact Nat.mul_le_mul_right _ hj
    have hck : xs.length * E.k ≤ c * E.k := Nat.mul_le_mul_right _ hc
    apply List.ext_getElem?
    intro i
    rw [cells_setE hE x xs j i hj, List.getElem?_take, List.length_set, Array.getElem?_toList]
    by_cases hi : i < xs.length * E.k
    · rw [if_pos hi]
      by_cases e : i = j * E.k + f
      · subst e
        have hl : f < (E.enc (xs.getD j d)).length := by rw [hE.len]; exact hf
        rw [if_pos (by omega), hx, show j * E.k + f - j * E.k = f by omega, Array.getElem?_setIfInBounds_self_of_lt (by rw [hs]; omega)]
        rw [List.getElem?_set_self hl]
      · rw [Array.getElem?_setIfInBounds_ne (by omega), ← Array.getElem?_toList, take_eq ht i hi]
        split
        · rename_i hcs
          rw [hx, List.getElem?_set_ne (by omega)]
          have := cells_at hE d xs j (i - j * E.k) hj (by omega)
          rw [← this]
          congr 1
          omega
        · rfl
    · rw [if_neg hi, if_neg (by omega)]
      have := cells_length hE xs
      rw [List.getElem?_eq_none (by omega)]
theorem map_none {k : Tx} {i : Nat} : ∀ {ls : List Mk}, fdB k ls = false → ls.map (setQ k i) = ls
  | [], _ => rfl
  | q :: r, h => by
    have ef : fdB k (q :: r) = (decide (q.1 = k) || fdB k r) := by simp [fdB]
    rw [ef] at h
    simp only [Bool.or_eq_false_iff, decide_eq_false_iff_not] at h
    rw [List.map_cons, map_none h.2]
    unfold setQ
    rw [if_neg h.1]
theorem fd_snoc (k : Tx) (ls : List Mk) (u : Nat) (h : u < ls.length) : fdB k (ls.take (u + 1)) = (fdB k (ls.take u) || decide ((ls.getD u (e0, 0)).1 = k)) := by
  unfold fdB
  rw [take_succ_getD ls u (e0, 0) h, List.any_append]
  simp
theorem fold_snoc (i : Nat) (bk : List BK) (ls : List Mk) (t : Nat) (h : t < bk.length) : (bk.take (t + 1)).foldl (stepC i) ls = stepC i ((bk.take t).foldl (stepC i) ls) (bk.getD t bk0) := by
  rw [take_succ_getD bk t bk0 h, List.foldl_append]
  rfl
theorem id_eq (w : World) (k : Int) (i : Nat) (hi : i < 18446744073709551616) (a b : Int) (v : Tx) : Calls Try.prog 13 #[.agg #[.int .i64 k, .int .u64 ((i : Nat) : Int), .int .u8 a, .int .u8 b, .string v]] w fun e w' => e = .returned (.int .u64 ((idn i : Nat) : Int)) ∧ w' = w.alloc (.cells #[.int .i64 k, .int .u64 ((i : Nat) : Int), .int .u8 a, .int .u8 b, .string v] 43) := by
  have h15 : bits .and .u64 ((i : Int) / 4) 15 = ((i / 4 % 16 : Nat) : Int) := by
    have := u64_and_nat (i / 4) 15 (by omega) (by decide)
    rw [show i / 4 &&& 15 = i / 4 % 16 from Nat.and_two_pow_sub_one_eq_mod _ 4] at this
    rw [show ((i : Int) / 4) = ((i / 4 : Nat) : Int) by omega]
    exact this
  have h3 : bits .and .u64 (i : Int) 3 = ((i % 4 : Nat) : Int) := by
    have := u64_and_nat i 3 hi (by decide)
    rw [show i &&& 3 = i % 4 from Nat.and_two_pow_sub_one_eq_mod _ 2] at this
    exact this
  obtain ⟨q, hq⟩ : ∃ q : Int, q = ((i / 4 % 16 : Nat) : Int) := ⟨_, rfl⟩
  obtain ⟨r, hr⟩ : ∃ r : Int, r = ((i % 4 : Nat) : Int) := ⟨_, rfl⟩
  rw [← hq] at h15
  rw [← hr] at h3
  have hq0 : 0 ≤ q := by omega
  have hq1 : q < 16 := by omega
  have hr0 : 0 ≤ r := by omega
  have hr1 : r < 4 := by omega
  have HI : Hid (((idn i : Nat) : Int) = 65536 * (1 + q) + r) := (show _ = _ by unfold idn; omega)
  clear hq hr
  go_enter Try.func13, Try.ntmps13
  go_wp2_with fail
  go_ret
  rw [HI.out]
  exact ⟨rfl, rfl⟩
end Go.Proofs.Ytagekdmkidbhpaa
