import Derived.Test.YtdemoghlibnooaaGreatDoorZP
/- Stores whose stamps are all of the tick 0; small ones. -/
namespace Go.Proofs.YtdemoghlibnooaaGreatDoor
open Go.RowKit Orl Pk Go.Sort
set_option linter.unusedVariables false
set_option linter.unusedSimpArgs false

def Zs (s : St) : Prop := ∀ m v, s.V m = some v → m.2 < s.last m.1 → v.stamp = 0
/-- short keys and values -/
def Tiny (s : St) : Prop := ∀ m v, s.V m = some v → m.1.size ≤ 4 ∧ v.val.size ≤ 300 ∧ v.keys.length ≤ 6 ∧ ∀ k ∈ v.keys, k.size ≤ 4
structure Nice (s : St) : Prop where
  ok : Ok s
  z : Zs s
  tiny : Tiny s
theorem nice_new : Nice St.new := ⟨ok_new, (fun m v h => by cases h), fun m v h => by cases h⟩
theorem putAll_some {i : Nat} {keys : List Tx} {now : Int} : ∀ (ps : List Pr) (s : St) {m : Mk} {v : Vr}, (putAll i keys now s ps).V m = some v → s.V m = some v ∨ ∃ p ∈ ps, m = (p.1, i) ∧ v = ⟨p.2, keys, stampOf s i now p.1⟩
  | [], s, m, v, h => .inl h
  | p :: r, s, m, v, h => by
    have h : (putAll i keys now (put1 i keys now s p) r).V m = some v := h
    rcases putAll_some r _ h with h1 | ⟨q, hq, e1, e2⟩
    · have h1 : (if m = (p.1, i) then some (⟨p.2, keys, stampOf s i now p.1⟩ : Vr) else s.V m) = some v := h1
      by_cases e : m = (p.1, i)
      · rw [if_pos e] at h1
        injection h1 with h1
        exact .inr ⟨p, by simp, e, h1.symm⟩
      · rw [if_neg e] at h1
        exact .inl h1
    · exact .inr ⟨q, by simp [hq], e1, e2⟩
theorem zs_put {i : Nat} {keys : List Tx} {s : St} (h : Zs s) (ps : List Pr) : Zs (putAll i keys 0 s ps) := fun m v hv hl => by
  rw [putAll_last] at hl
  rcases putAll_some ps s hv with h1 | ⟨p, hp, rfl, rfl⟩
  · exact h m v h1 hl
  · show stampOf s i 0 p.1 = 0
    unfold stampOf
    rw [if_pos hl]
theorem zs_commit {s : St} (hok : Ok s) (h : Zs s) (i : Nat) : Zs (commitS s i 0) := fun m v hv hl => by
  obtain ⟨u, hu, _, _, hs⟩ := com_some hv
  rcases hs with hs | ⟨_, hs⟩
  · rw [hs]
    by_cases hm : m.2 < s.last m.1
    · exact h m u hu hm
    · have h1 := (hok.st m u hu).2 hm
      have h2 := ok_commit hok (i := i) (now := 0) (by decide)
      have h3 := (h2.st m v hv).1 hl
      omega
  · exact hs
/-- what a record may say -/
def TinyR (r : Rec) : Prop := (∀ p ∈ r.pairs, p.1.size ≤ 4 ∧ p.2.size ≤ 300) ∧ r.keys.length ≤ 6 ∧ ∀ k ∈ r.keys, k.size ≤ 4
theorem Nice.go {s : St} (h : Nice s) {r : Rec} (hm : may r = true) (hi : r.id < 18446744073709551616) (ht : TinyR r) : Nice (doRec 0 s r) := by
  refine ⟨do_ok h.ok (by decide) hm hi, ?_, ?_⟩
  · unfold doRec
    split
    · exact zs_put h.z _
    · exact zs_commit h.ok h.z _
  · unfold doRec
    split
    · intro m v hv
      rcases putAll_some _ _ hv with h1 | ⟨p, hp, rfl, rfl⟩
      · exact h.tiny m v h1
      · have hp := (List.mem_filter.1 hp).1
        exact ⟨(ht.1 p hp).1, (ht.1 p hp).2, ht.2.1, ht.2.2⟩
    · intro m v hv
      obtain ⟨u, hu, h1, h2, _⟩ := com_some hv
      rw [h1, h2]
      exact h.tiny m u hu
theorem Nice.redo : ∀ (rs : List Rec) {s : St}, Nice s → (∀ r ∈ rs, may r = true ∧ r.id < 18446744073709551616 ∧ TinyR r) → Nice (redoS 0 s rs)
  | [], s, h, _ => h
  | r :: l, s, h, hr => by
    have h1 := hr r (by simp)
    exact Nice.redo l (h.go h1.1 h1.2.1 h1.2.2) (fun x hx => hr x (by simp [hx]))
theorem Nice.rest {s : St} (h : Nice s) : restS 0 s = s := by
  refine st_ext (fun m => ?_) (fun k => rfl)
  show (s.V m).map _ = s.V m
  cases hv : s.V m with
  | none => rfl
  | some v =>
    have hz := h.z m v hv
    have hs := (h.ok.st m v hv).2
    show some (⟨v.val, v.keys, if m.2 < s.last m.1 then 0 else -1⟩ : Vr) = some v
    by_cases hl : m.2 < s.last m.1
    · rw [if_pos hl, ← hz hl]
    · rw [if_neg hl, ← hs hl]
/-- what is read again is the store that was laid -/
theorem Nice.read {s : St} (h : Nice s) {g : Nat} {b : List Nat} (hb : SnOf s g b) (hg : genOk g = true) {N : Nat} (hN : ∀ ls ks, Tld s ls ks → ks.length ≤ N) (hN2 : N < 4294967296) : snOk 0 b = true ∧ rdG b = g ∧ rdS 0 b = s ∧ (rdVs (bodyO b)).1.length ≤ N := by
  obtain ⟨h1, h2, h3, h4, h5, h6⟩ := laid_read h.ok hb hg (now := 0) (by decide) hN hN2
  refine ⟨by unfold snOk; rw [h1, h2]; rfl, h3, ?_, h6⟩
  refine st_ext (fun m => ?_) h5
  rw [h4, h.rest]
/-- commits of what nobody has -/
theorem com_other {s : St} {i : Nat} (h : ∀ k, s.V (k, i) = none) : commitS s i 0 = s := comD_none fun k hk => by
  have := (upB_iff.1 hk).1
  exact absurd (h k) this
/-- no write has a name above these -/
def Low (s : St) : Prop := ∀ m, s.V m ≠ none → m.2 ≤ 1048579
theorem low_new : Low St.new := fun m h => absurd rfl h
theorem Low.go {s : St} (h : Low s) {r : Rec} (hr : r.kind = 1 → r.id ≤ 1048579) : Low (doRec 0 s r) := fun m hm => by
  unfold doRec at hm
  cases hv : (if r.kind = 1 then putAll r.id r.keys 0 s (miss s r.id r.pairs) else commitS s r.id 0).V m with
  | none => exact absurd hv hm
  | some v =>
    split at hv
    · rename_i hk
      rcases putAll_some _ _ hv with h1 | ⟨p, hp, rfl, rfl⟩
      · exact h m (by rw [h1]; simp)
      · exact hr hk
    · obtain ⟨u, hu, _⟩ := com_some hv
      exact h m (by rw [hu]; simp)
theorem Low.com {s : St} (h : Low s) {i : Nat} (hi : 1048579 < i) : commitS s i 0 = s := com_other fun k => by
  cases hv : s.V (k, i) with
  | none => rfl
  | some v => have := h (k, i) (by rw [hv]; simp); simp only at this; omega
/-- how long the snapshot of such a store is -/
theorem layL_tiny (ls : List Mk) (h : ∀ l ∈ ls, l.1.size ≤ 4) : (layL ls).length ≤ 16 * ls.length := by
  induction ls with
  | nil => simp [layL]
  | cons l r ih =>
    have := ih (fun x hx => h x (by simp [hx]))
    have h1 := h l (by simp)
    simp only [layL, List.flatMap_cons, List.length_append, layL1_length, List.length_cons] at this ⊢
    omega
theorem bodyLen_tiny : ∀ l : List Tx, (∀ k ∈ l, k.size ≤ 4) → bodyLen (natss l) ≤ 8 * l.length
  | [], _ => by simp [natss, bodyLen]
  | k :: l, h => by
    have h1 := bodyLen_tiny l (fun x hx => h x (by simp [hx]))
    have h2 := h k (by simp)
    have e : bodyLen (natss (k :: l)) = 4 + (nats k).length + bodyLen (natss l) := rfl
    rw [e, nats_length, List.length_cons]
    omega
theorem layV_tiny (vs : List VT) (h : ∀ v ∈ vs, v.1.1.size ≤ 4 ∧ v.2.1.size ≤ 300 ∧ v.2.2.length ≤ 6 ∧ ∀ k ∈ v.2.2, k.size ≤ 4) : (layV vs).length ≤ 400 * vs.length := by
  induction vs with
  | nil => simp [layV]
  | cons v r ih =>
    have := ih (fun x hx => h x (by simp [hx]))
    have h1 := h v (by simp)
    have h2 := bodyLen_tiny v.2.2 h1.2.2.2
    simp only [layV, List.flatMap_cons, List.length_append, layV1_length, List.length_cons] at this ⊢
    omega
theorem Nice.len {s : St} (h : Nice s) {g : Nat} {b : List Nat} (hb : SnOf s g b) {N : Nat} (hN : ∀ ls ks, Tld s ls ks → ks.length ≤ N) (hN2 : N ≤ 2000000) : b.length ≤ 8000000000 := by
  obtain ⟨ls, ks, hT, rfl⟩ := hb
  have h1 := ls_le h.ok hT
  have h2 := hN ls ks hT
  have h3 := layL_tiny ls (fun l hl => by
    have e1 := (hT.la.2 l.1 l.2).1 hl
    have e2 := h.ok.la l.1 (by rw [e1.1]; exact e1.2)
    cases hv : s.V (l.1, s.last l.1) with
    | none => exact absurd hv e2
    | some v => exact (h.tiny _ v hv).1)
  have h4 := layV_tiny (vts ks) (fun v hv => by
    obtain ⟨x, hx, rfl⟩ := List.mem_map.1 hv
    exact h.tiny _ _ (hT.is x hx))
  have h5 : (vts ks).length = ks.length := by simp [vts]
  rw [snap_length, snBody_length]
  omega
end Go.Proofs.YtdemoghlibnooaaGreatDoor
