import Derived.Test.YtkoaiibjahlnmaaSp
/- StoreStays, in pure functions. -/
namespace Go.Proofs.Ytkoaiibjahlnmaa
open Go.RowKit Go.Maps Go.Sort Orl
set_option linter.unusedVariables false
set_option linter.unusedSimpArgs false

theorem fold_bef {m : Mk} {t : Int} : ∀ (ks : List KV) (acc : Int), (∀ y ∈ ks, y.m = m → y.stamp = t) → ks.foldl (fun b y => if y.m = m then y.stamp else b) acc = if (∃ y ∈ ks, y.m = m) then t else acc
  | [], acc, _ => by simp
  | y :: r, acc, h => by
    rw [List.foldl_cons, fold_bef r _ (fun z hz => h z (by simp [hz]))]
    by_cases hy : y.m = m
    · have e1 := h y (by simp) hy
      have e2 : ∃ z ∈ y :: r, z.m = m := ⟨y, by simp, hy⟩
      rw [if_pos e2, if_pos hy, e1]
      split <;> rfl
    · rw [if_neg hy]
      by_cases hr : ∃ z ∈ r, z.m = m
      · obtain ⟨z, hz, e⟩ := hr
        rw [if_pos ⟨z, hz, e⟩, if_pos ⟨z, by simp [hz], e⟩]
      · rw [if_neg hr, if_neg]
        rintro ⟨z, hz, e⟩
        rcases List.mem_cons.1 hz with rfl | hz
        · exact hy e
        · exact hr ⟨z, hz, e⟩
/-- all that a store holds, told -/
structure AllK (s : St) (ks : List KV) : Prop where
  is : IsKs s ks
  all : ∀ m, s.V m ≠ none → m ∈ ks.map (·.m)
theorem AllK.bef {s : St} {ks : List KV} (h : AllK s ks) (m : Mk) : befO ks m = match s.V m with | some u => u.stamp | none => -2 := by
  unfold befO
  cases hv : s.V m with
  | none =>
    rw [fold_bef (t := 0) ks _ (fun y hy e => by have := h.is y hy; rw [e, hv] at this; cases this), if_neg]
    rintro ⟨y, hy, e⟩
    have := h.is y hy; rw [e, hv] at this; cases this
  | some u =>
    rw [fold_bef (t := u.stamp) ks _ (fun y hy e => by have := h.is y hy; rw [e, hv] at this; injection this with this; rw [this]), if_pos]
    obtain ⟨y, hy, e⟩ := List.mem_map.1 (h.all m (by rw [hv]; simp))
    exact ⟨y, hy, e⟩
/-- a step of a store, as stamps go -/
structure Stp (s s' : St) (now : Int) : Prop where
  old : ∀ m v', s'.V m = some v' → ∀ u, s.V m = some u → (v'.stamp = u.stamp ∨ (u.stamp = -1 ∧ v'.stamp = now))
  new : ∀ m v', s'.V m = some v' → s.V m = none → v'.stamp = -1 ∨ v'.stamp = now
theorem Stp.sto {s s' : St} {now : Int} (h : Stp s s' now) (hk : Ok s) (hk' : Ok s') (hnow : 0 ≤ now) {ks0 ks1 : List KV} (h0 : AllK s ks0) (h1 : IsKs s' ks1) : ∀ x ∈ ks1, StO s' ks0 now x := by
  intro x hx
  have hv := h1 x hx
  have hst := hk'.st _ _ hv
  have hbef := h0.bef x.m
  have hsz := hk'.v.size hv
  simp only at hst
  refine ⟨⟨fun hl => (hst.1 hl).1, fun hp => ?_⟩, hst.2, fun hp => ?_, fun hn hl => ?_, hsz⟩
  · by_cases hl : x.m.2 < s'.last x.m.1
    · exact hl
    · have := hst.2 hl; omega
  · rw [hbef] at hp ⊢
    cases hu : s.V x.m with
    | none => rw [hu] at hp; simp at hp
    | some u =>
      rw [hu] at hp
      simp only at hp ⊢
      rcases h.old _ _ hv u hu with e | ⟨e, _⟩
      · exact e
      · omega
  · have hp := (hst.1 hl).1
    cases hu : s.V x.m with
    | none =>
      rcases h.new _ _ hv hu with e | e
      · simp only at e; omega
      · exact e
    | some u =>
      rw [hbef, hu] at hn
      simp only at hn
      rcases h.old _ _ hv u hu with e | ⟨_, e⟩
      · simp only at e; omega
      · exact e
theorem stp_commit (s : St) (i : Nat) (now : Int) : Stp s (commitS s i now) now := by
  constructor
  · intro m v' hv u hu
    obtain ⟨u', hu', _, _, h⟩ := com_some hv
    rw [hu] at hu'
    injection hu' with hu'
    subst hu'
    exact h
  · intro m v' hv hn
    obtain ⟨u', hu', _⟩ := com_some hv
    rw [hn] at hu'
    cases hu'
theorem put_cases {s : St} {i : Nat} {keys : List Tx} {now : Int} {ms : List Pr} (hap : ms.Pairwise (fun p q => p.1 ≠ q.1)) {m : Mk} {v : Vr} (hv : (putAll i keys now s ms).V m = some v) : (s.V m = some v ∧ ∀ p ∈ ms, (p.1, i) ≠ m) ∨ ∃ p ∈ ms, m = (p.1, i) ∧ v = ⟨p.2, keys, stampOf s i now p.1⟩ := by
  by_cases hc : ∃ p ∈ ms, (p.1, i) = m
  · obtain ⟨p, hp, rfl⟩ := hc
    rw [putAll_mem i keys now ms s hap p hp] at hv
    injection hv with hv
    exact .inr ⟨p, hp, rfl, hv.symm⟩
  · have hn : ∀ p ∈ ms, (p.1, i) ≠ m := fun p hp e => hc ⟨p, hp, e⟩
    rw [putAll_V i keys now ms s m hn] at hv
    exact .inl ⟨hv, hn⟩
theorem miss_apart {s : St} {i : Nat} {ps : List Pr} (h : Inc ltp ps) : (miss s i ps).Pairwise (fun p q => p.1 ≠ q.1) := List.Pairwise.filter _ (inc_apart h)
theorem miss_none {s : St} {i : Nat} {ps : List Pr} {p : Pr} (h : p ∈ miss s i ps) : s.V (p.1, i) = none := by
  have := (List.mem_filter.1 h).2
  simpa using this
theorem stp_put (s : St) (i : Nat) (keys : List Tx) (now : Int) {ps : List Pr} (hi : Inc ltp ps) : Stp s (putAll i keys now s (miss s i ps)) now := by
  constructor
  · intro m v' hv u hu
    rcases put_cases (miss_apart hi) hv with ⟨h1, _⟩ | ⟨p, hp, rfl, _⟩
    · rw [hu] at h1; injection h1 with h1; subst h1; exact .inl rfl
    · rw [miss_none hp] at hu; cases hu
  · intro m v' hv hn
    rcases put_cases (miss_apart hi) hv with ⟨h1, _⟩ | ⟨p, hp, rfl, e⟩
    · rw [hn] at h1; cases h1
    · rw [e]
      simp only [stampOf]
      split
      · exact .inr rfl
      · exact .inl rfl

/-- a fact in memory -/
structure FV where
  k : Tx
  i : Nat
  v : Tx
  o : Option Addr
  c : Nat
  keys : List Tx
def fv0 : FV := ⟨e0, 0, e0, none, 0, []⟩
def FE : El FV := ⟨52, 48, 4, 64, fun x => [.string x.k, .int .u64 ((x.i : Nat) : Int), .string x.v, .slice x.o x.keys.length x.c]⟩
theorem infoF : (Try.prog.info? 52).map (fun i => (i.zero, i.size, i.bytes)) = some (some (.agg #[.string ⟨#[]⟩, .int .u64 0, .string ⟨#[]⟩, .slice none 0 0]), 4, 64) := by kernel_rfl
theorem okF : FE.Ok := by
  obtain ⟨i0, hi, hz0, hz1, hz2⟩ := info_parts infoF
  exact ⟨fun _ => rfl, fun x u hu => by simp [FE] at hu; rcases hu with rfl | rfl | rfl | rfl <;> rfl, by decide, Try.underlying48, i0, _, hi, hz0, hz1, hz2, rfl⟩
def FV.m (f : FV) : Mk := (f.k, f.i)
/-- facts: each version's -/
structure Fc (s : St) (fs : List FV) : Prop where
  nd : (fs.map FV.m).Nodup
  all : ∀ m, m ∈ fs.map FV.m ↔ s.V m ≠ none
  eq : ∀ f ∈ fs, ∃ v, s.V f.m = some v ∧ v.val = f.v ∧ v.keys = f.keys
theorem com_ne (s : St) (i : Nat) (now : Int) (m : Mk) : (commitS s i now).V m ≠ none ↔ s.V m ≠ none := comD_iff m
theorem com_keep {s : St} {i : Nat} {now : Int} {m : Mk} {u : Vr} (h : s.V m = some u) : ∃ v, (commitS s i now).V m = some v ∧ v.val = u.val ∧ v.keys = u.keys := by
  cases hv : (commitS s i now).V m with
  | none => exact absurd hv ((com_ne s i now m).2 (by rw [h]; simp))
  | some v =>
    obtain ⟨u', hu', h1, h2, _⟩ := com_some hv
    rw [h] at hu'; injection hu' with hu'; subst hu'
    exact ⟨v, rfl, h2, h1⟩
theorem Fc.commit {s : St} {fs : List FV} (h : Fc s fs) (i : Nat) (now : Int) : Fc (commitS s i now) fs := by
  refine ⟨h.nd, fun m => (h.all m).trans (com_ne s i now m).symm, fun f hf => ?_⟩
  obtain ⟨u, hu, h1, h2⟩ := h.eq f hf
  obtain ⟨v, hv, e1, e2⟩ := com_keep (i := i) (now := now) hu
  exact ⟨v, hv, e1.trans h1, e2.trans h2⟩
def mkF (i : Nat) (o : Option Addr) (c : Nat) (keys : List Tx) (p : Pr) : FV := ⟨p.1, i, p.2, o, c, keys⟩
theorem Fc.put {s : St} {fs : List FV} (h : Fc s fs) (i : Nat) (keys : List Tx) (now : Int) {ps : List Pr} (hi : Inc ltp ps) (o : Option Addr) (c : Nat) : Fc (putAll i keys now s (miss s i ps)) (fs ++ (miss s i ps).map (mkF i o c keys)) := by
  have hap := miss_apart (s := s) (i := i) hi
  have hno : ∀ p ∈ miss s i ps, (p.1, i) ∉ fs.map FV.m := fun p hp hc => (h.all _).1 hc (miss_none hp)
  have hold : ∀ m v, s.V m = some v → (putAll i keys now s (miss s i ps)).V m = some v := fun m v hv => by
    rw [putAll_V]
    · exact hv
    · intro p hp e
      rw [← e, miss_none hp] at hv; cases hv
  refine ⟨?_, fun m => ?_, fun f hf => ?_⟩
  · rw [List.map_append, List.nodup_append]
    refine ⟨h.nd, ?_, ?_⟩
    · rw [List.map_map]
      unfold List.Nodup
      rw [List.pairwise_map]
      refine List.Pairwise.imp (fun {a b} hab e => hab ?_) hap
      have e' : ((a.1, i) : Mk) = (b.1, i) := e
      injection e'
    · rintro a ha b hb rfl
      rw [List.map_map] at hb
      obtain ⟨p, hp, rfl⟩ := List.mem_map.1 hb
      exact hno p hp ha
  · rw [List.map_append, List.mem_append, h.all m, List.map_map]
    constructor
    · rintro (hc | hc)
      · cases hv : s.V m with
        | none => exact absurd hv hc
        | some v => rw [hold m v hv]; simp
      · obtain ⟨p, hp, rfl⟩ := List.mem_map.1 hc
        show (putAll i keys now s (miss s i ps)).V (p.1, i) ≠ none
        rw [putAll_mem i keys now _ s hap p hp]; simp
    · intro hc
      cases hv : (putAll i keys now s (miss s i ps)).V m with
      | none => exact absurd hv hc
      | some v =>
        rcases put_cases hap hv with ⟨h1, _⟩ | ⟨p, hp, rfl, _⟩
        · exact .inl (by rw [h1]; simp)
        · exact .inr (List.mem_map.2 ⟨p, hp, rfl⟩)
  · rcases List.mem_append.1 hf with hf | hf
    · obtain ⟨u, hu, e⟩ := h.eq f hf
      exact ⟨u, hold _ _ hu, e⟩
    · obtain ⟨p, hp, rfl⟩ := List.mem_map.1 hf
      exact ⟨_, putAll_mem i keys now _ s hap p hp, rfl, rfl⟩
theorem Fc.len {s : St} {fs : List FV} {ks : List KV} (h : Fc s fs) (hk : AllK s ks) (hi : Inc ltM (ks.map (·.m))) : ks.length = fs.length := by
  have := perm_of (inc_nodup swoM hi) h.nd (fun m => by
    rw [h.all m]
    constructor
    · intro hm
      obtain ⟨x, hx, rfl⟩ := List.mem_map.1 hm
      rw [hk.is x hx]; simp
    · exact hk.all m)
  have h2 := this.length_eq
  simpa using h2
end Go.Proofs.Ytkoaiibjahlnmaa
