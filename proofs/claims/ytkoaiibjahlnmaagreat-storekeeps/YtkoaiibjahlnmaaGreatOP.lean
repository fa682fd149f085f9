import Derived.Test.YtkoaiibjahlnmaaGreatKD
/- StoreOrders, in pure functions. -/
namespace Go.Proofs.YtkoaiibjahlnmaaGreat
open Go.RowKit Go.Maps Go.Sort Orl
set_option linter.unusedVariables false
set_option linter.unusedSimpArgs false

/-- a write of these -/
structure Wr (r : RV) (m : Mk) : Prop where
  id : m.2 = idw r.wr
  key : m.1 ∈ setM r.ma
/-- what is there was written by one of them -/
def Con (rs : List RV) (s : St) : Prop := ∀ m v, s.V m = some v → ∃ r ∈ rs, Wr r m ∧ v.val = shortT r.v ∧ v.keys = setM r.ma
/-- all that these wrote is there -/
def Full (D : List RV) (s : St) : Prop := ∀ r ∈ D, ∀ m, Wr r m → s.V m ≠ none
theorem pk_inc (mask : Int) (v : Tx) : Inc ltp (pk mask v) := (okPairs_iff.1 (okPut_iff.1 (pk_ok 0 mask v (now := 0) (by decide))).2.2.1).2.2
theorem put_casesO {s : St} {i : Nat} {keys : List Tx} {now : Int} {ms : List Pr} (hap : ms.Pairwise (fun p q => p.1 ≠ q.1)) {m : Mk} {v : Vr} (hv : (putAll i keys now s ms).V m = some v) : s.V m = some v ∨ ∃ p ∈ ms, m = (p.1, i) ∧ v = ⟨p.2, keys, stampOf s i now p.1⟩ := by
  by_cases hc : ∃ p ∈ ms, (p.1, i) = m
  · obtain ⟨p, hp, rfl⟩ := hc
    rw [putAll_mem i keys now ms s hap p hp] at hv
    injection hv with hv
    exact .inr ⟨p, hp, rfl, hv.symm⟩
  · rw [putAll_V i keys now ms s m (fun p hp e => hc ⟨p, hp, e⟩)] at hv
    exact .inl hv
/-- a step's Put -/
def putS (s : St) (r : RV) (now : Int) : St := putAll (idw r.wr) (setM r.ma) now s (miss s (idw r.wr) (pk r.ma r.v))
theorem miss_ap (s : St) (r : RV) : (miss s (idw r.wr) (pk r.ma r.v)).Pairwise (fun p q => p.1 ≠ q.1) := List.Pairwise.filter _ (inc_apart (pk_inc r.ma r.v))
theorem Con.put {rs : List RV} {s : St} (h : Con rs s) {r : RV} (hr : r ∈ rs) (now : Int) : Con rs (putS s r now) := by
  intro m v hv
  rcases put_casesO (miss_ap s r) hv with h1 | ⟨p, hp, rfl, rfl⟩
  · exact h m v h1
  · obtain ⟨k, hk, rfl⟩ := List.mem_map.1 (List.mem_filter.1 hp).1
    exact ⟨r, hr, ⟨rfl, hk⟩, rfl, rfl⟩
theorem put_ne {s : St} {r : RV} {now : Int} {m : Mk} (h : s.V m ≠ none ∨ Wr r m) : (putS s r now).V m ≠ none := by
  have hap := miss_ap s r
  by_cases hc : s.V m = none
  · rcases h with h | h
    · exact absurd hc h
    · obtain ⟨k, i⟩ := m
      have hid : i = idw r.wr := h.id
      subst hid
      have hp : (k, shortT r.v) ∈ miss s (idw r.wr) (pk r.ma r.v) := List.mem_filter.2 ⟨List.mem_map.2 ⟨k, h.key, rfl⟩, by simp [hc]⟩
      show (putAll _ _ _ s _).V (k, idw r.wr) ≠ none
      rw [putAll_mem _ _ _ _ s hap _ hp]
      simp
  · show (putAll _ _ _ s _).V m ≠ none
    rw [putAll_V]
    · exact hc
    · intro p hp e
      have := (List.mem_filter.1 hp).2
      rw [e] at this
      simp at this
      exact hc this
theorem Full.put {D : List RV} {s : St} (h : Full D s) (r : RV) (now : Int) : Full (D ++ [r]) (putS s r now) := by
  intro q hq m hm
  rcases List.mem_append.1 hq with hq | hq
  · exact put_ne (.inl (h q hq m hm))
  · simp at hq; subst hq; exact put_ne (.inr hm)
theorem Full.put' {D : List RV} {s : St} (h : Full D s) (r : RV) (now : Int) : Full D (putS s r now) := fun q hq m hm => put_ne (.inl (h q hq m hm))
theorem Full.cons {D : List RV} {s : St} (h : Full D s) (r : RV) (now : Int) : Full (r :: D) (putS s r now) := by
  intro q hq m hm
  rcases List.mem_cons.1 hq with rfl | hq
  · exact put_ne (.inr hm)
  · exact put_ne (.inl (h q hq m hm))
theorem comO_ne (s : St) (i : Nat) (now : Int) (m : Mk) : (commitS s i now).V m ≠ none ↔ s.V m ≠ none := comD_iff m
theorem Con.commit {rs : List RV} {s : St} (h : Con rs s) (i : Nat) (now : Int) : Con rs (commitS s i now) := by
  intro m v hv
  obtain ⟨u, hu, h1, h2, _⟩ := com_some hv
  obtain ⟨r, hr, hw, e1, e2⟩ := h m u hu
  exact ⟨r, hr, hw, by rw [h2, e1], by rw [h1, e2]⟩
theorem Full.commit {D : List RV} {s : St} (h : Full D s) (i : Nat) (now : Int) : Full D (commitS s i now) := fun r hr m hm => (comO_ne s i now m).2 (h r hr m hm)
/-- lasts are the greatest committed -/
def Lst (s : St) (C : List Nat) : Prop := ∀ k, (s.last k ≠ 0 → s.last k ∈ C ∧ s.V (k, s.last k) ≠ none) ∧ ∀ i ∈ C, s.V (k, i) ≠ none → i ≤ s.last k
theorem Lst.commit {s : St} {C : List Nat} (h : Lst s C) (i : Nat) (now : Int) : Lst (commitS s i now) (i :: C) := by
  intro k
  obtain ⟨h1, h2⟩ := h k
  rw [com_last]
  by_cases hu : upB s i k = true
  · rw [if_pos hu]
    obtain ⟨u1, u2⟩ := upB_iff.1 hu
    refine ⟨fun _ => ⟨by simp, (comO_ne s i now _).2 u1⟩, fun j hj hv => ?_⟩
    rcases List.mem_cons.1 hj with rfl | hj
    · exact Nat.le_refl _
    · have := h2 j hj ((comO_ne s i now _).1 hv)
      omega
  · rw [if_neg hu]
    refine ⟨fun hne => ⟨List.mem_cons_of_mem _ (h1 hne).1, (comO_ne s i now _).2 (h1 hne).2⟩, fun j hj hv => ?_⟩
    rcases List.mem_cons.1 hj with rfl | hj
    · by_cases hc : s.last k < j
      · exact absurd (upB_iff.2 ⟨(comO_ne s j now _).1 hv, hc⟩) hu
      · omega
    · exact h2 j hj ((comO_ne s i now _).1 hv)
theorem lst_new {s : St} (h : ∀ k, s.last k = 0) : Lst s [] := fun k => ⟨fun hc => absurd (h k) hc, fun i hi => by cases hi⟩
/-- both hold the same -/
structure Lke (s t : St) : Prop where
  dom : ∀ m, s.V m ≠ none ↔ t.V m ≠ none
  eq : ∀ m u v, s.V m = some u → t.V m = some v → u.val = v.val ∧ u.keys = v.keys
  last : ∀ k, s.last k = t.last k
theorem like_of {rs : List RV} {s t : St} {C D : List Nat} (hd : rs.Pairwise (fun a b => idw a.wr ≠ idw b.wr)) (h1 : Con rs s) (h2 : Con rs t) (f1 : Full rs s) (f2 : Full rs t) (l1 : Lst s C) (l2 : Lst t D) (hC : ∀ i, i ∈ C ↔ i ∈ D) : Lke s t := by
  have dom : ∀ m, s.V m ≠ none ↔ t.V m ≠ none := fun m => by
    constructor
    · intro h
      cases hv : s.V m with
      | none => exact absurd hv h
      | some v => obtain ⟨r, hr, hw, _⟩ := h1 m v hv; exact f2 r hr m hw
    · intro h
      cases hv : t.V m with
      | none => exact absurd hv h
      | some v => obtain ⟨r, hr, hw, _⟩ := h2 m v hv; exact f1 r hr m hw
  have uniq : ∀ r ∈ rs, ∀ q ∈ rs, idw r.wr = idw q.wr → r = q := fun r hr q hq e => by
    obtain ⟨i, hi, rfl⟩ := List.getElem_of_mem hr
    obtain ⟨j, hj, rfl⟩ := List.getElem_of_mem hq
    rw [List.pairwise_iff_getElem] at hd
    rcases Nat.lt_trichotomy i j with hij | hij | hij
    · exact absurd e (hd i j hi hj hij)
    · subst hij; rfl
    · exact absurd e.symm (hd j i hj hi hij)
  refine ⟨dom, fun m u v hu hv => ?_, fun k => ?_⟩
  · obtain ⟨r, hr, hw, e1, e2⟩ := h1 m u hu
    obtain ⟨q, hq, hw', e3, e4⟩ := h2 m v hv
    have := uniq r hr q hq (hw.id.symm.trans hw'.id)
    subst this
    exact ⟨e1.trans e3.symm, e2.trans e4.symm⟩
  · obtain ⟨a1, a2⟩ := l1 k
    obtain ⟨b1, b2⟩ := l2 k
    have x1 : s.last k ≤ t.last k := by
      by_cases hz : s.last k = 0
      · omega
      · exact b2 _ ((hC _).1 (a1 hz).1) ((dom _).1 (a1 hz).2)
    have x2 : t.last k ≤ s.last k := by
      by_cases hz : t.last k = 0
      · omega
      · exact a2 _ ((hC _).2 (b1 hz).1) ((dom _).2 (b1 hz).2)
    omega
/-- the two lists told -/
structure KvLk (x y : KV) : Prop where
  m : x.m = y.m
  val : x.val = y.val
  keys : x.keys = y.keys
  st : x.stamp < 0 ↔ y.stamp < 0
theorem kd_like {s t : St} (h : Lke s t) {a b : List KV} {o o' : Option Addr} {n n' c c' : Nat} {w w' : World} (ha : Kd s a o n c w) (hb : Kd t b o' n' c' w') : a.length = b.length ∧ ∀ j, j < a.length → KvLk (a.getD j kv0) (b.getD j kv0) := by
  have e : a.map (·.m) = b.map (·.m) := inc_ext swoM ha.inc hb.inc (fun m => by
    constructor
    · intro hm
      obtain ⟨x, hx, rfl⟩ := List.mem_map.1 hm
      exact hb.all _ ((h.dom _).1 (by rw [ha.is x hx]; simp))
    · intro hm
      obtain ⟨x, hx, rfl⟩ := List.mem_map.1 hm
      exact ha.all _ ((h.dom _).2 (by rw [hb.is x hx]; simp)))
  have hl : a.length = b.length := by have := congrArg List.length e; simpa using this
  refine ⟨hl, fun j hj => ?_⟩
  have hjb : j < b.length := by omega
  have e1 : (a.getD j kv0).m = (b.getD j kv0).m := by
    have g1 : a.getD j kv0 = a[j] := by simp [List.getD_eq_getElem?_getD, hj]
    have g2 : b.getD j kv0 = b[j] := by simp [List.getD_eq_getElem?_getD, hjb]
    rw [g1, g2]
    have := congrArg (fun l => l[j]?) e
    simp [hj, hjb] at this
    exact this
  have v1 := ha.is _ (getD_mem_lt kv0 hj)
  have v2 := hb.is _ (getD_mem_lt kv0 hjb)
  have o1 := ha.ok.st _ _ v1
  have o2 := hb.ok.st _ _ v2
  rw [e1] at v1
  have q := h.eq _ _ _ v1 v2
  refine ⟨e1, q.1, q.2, ?_⟩
  rw [e1, h.last] at o1
  simp only at o1 o2
  by_cases hc : (b.getD j kv0).m.2 < t.last (b.getD j kv0).m.1
  · have := (o1.1 hc).1; have := (o2.1 hc).1; omega
  · have := o1.2 hc; have := o2.2 hc; omega
end Go.Proofs.YtkoaiibjahlnmaaGreat
