import Derived.Test.YtkoaiibjahlnmabGreatLA2
/- Load, in pure functions. -/
namespace Go.Proofs.YtkoaiibjahlnmabGreat
open Go.RowKit Go.Maps Go.Sort Orl
set_option linter.unusedVariables false
set_option linter.unusedSimpArgs false

def KV.vr (x : KV) : Vr := ⟨x.val, x.keys, x.stamp⟩
def loadKs (ks : List KV) : St := ks.foldl (fun s x => s.add x.m x.vr) St.new
def setLast (s : St) (l : Mk) : St := ⟨s.V, fun z => if z = l.1 then l.2 else s.last z⟩
def loadS (ks : List KV) (ls : List Mk) : St := ls.foldl setLast (loadKs ks)
def lastIn (ls : List Mk) (k : Tx) : Nat := (fnd k ls).getD 0
theorem loadKs_snoc (ks : List KV) (x : KV) : loadKs (ks ++ [x]) = (loadKs ks).add x.m x.vr := by simp [loadKs]
theorem loadS_snoc (ks : List KV) (ls : List Mk) (l : Mk) : loadS ks (ls ++ [l]) = setLast (loadS ks ls) l := by simp [loadS]
theorem fold_V (ls : List Mk) : ∀ s : St, (ls.foldl setLast s).V = s.V := by
  induction ls with
  | nil => intro s; rfl
  | cons l r ih => intro s; rw [List.foldl_cons, ih]; rfl
theorem loadS_V (ks : List KV) (ls : List Mk) : (loadS ks ls).V = (loadKs ks).V := fold_V ls _
theorem fold_last : ∀ (ls : List Mk) (s : St) (k : Tx), Nk ls → (ls.foldl setLast s).last k = match fnd k ls with | some i => i | none => s.last k
  | [], s, k, _ => rfl
  | l :: r, s, k, hn => by
    obtain ⟨h1, h2⟩ := List.pairwise_cons.1 hn
    rw [List.foldl_cons, fold_last r _ k h2]
    simp only [fnd]
    by_cases e : l.1 = k
    · rw [if_pos e]
      have hf : fnd k r = none := fnd_none.2 (fun q hq e' => h1 q hq (e.trans e'.symm))
      rw [hf]
      simp [setLast, e]
    · rw [if_neg e]
      cases hf : fnd k r with
      | some i => rfl
      | none => simp [setLast, Ne.symm e]
theorem loadKs_last (ks : List KV) : ∀ k, (loadKs ks).last k = 0 := by
  have : ∀ (ks : List KV) (s : St), (ks.foldl (fun s x => s.add x.m x.vr) s).last = s.last := fun ks => by
    induction ks with
    | nil => intro s; rfl
    | cons x r ih => intro s; rw [List.foldl_cons, ih]; rfl
  intro k
  unfold loadKs
  rw [this]; rfl
theorem loadS_last {ls : List Mk} (hn : Nk ls) (ks : List KV) (k : Tx) : (loadS ks ls).last k = lastIn ls k := by
  unfold loadS
  rw [fold_last ls _ k hn]
  unfold lastIn
  cases fnd k ls with
  | some i => rfl
  | none => exact loadKs_last ks k
theorem foldK_V : ∀ (ks : List KV) (s : St) (m : Mk), (ks.foldl (fun s x => s.add x.m x.vr) s).V m = match (ks.reverse.find? fun x => decide (x.m = m)) with | some x => some x.vr | none => s.V m
  | [], s, m => rfl
  | x :: r, s, m => by
    rw [List.foldl_cons, foldK_V r _ m, List.reverse_cons, List.find?_append]
    cases hf : r.reverse.find? fun x => decide (x.m = m) with
    | some y => simp
    | none =>
      by_cases e : x.m = m
      · simp [St.add, e]
      · simp [St.add, e, Ne.symm e]
theorem loadKs_none {ks : List KV} {m : Mk} (h : ∀ x ∈ ks, x.m ≠ m) : (loadKs ks).V m = none := by
  unfold loadKs
  rw [foldK_V]
  have : (ks.reverse.find? fun x => decide (x.m = m)) = none := by
    rw [List.find?_eq_none]
    intro x hx
    simpa using h x (by simpa using hx)
  rw [this]; rfl
theorem nk_inc {ls : List Mk} (h : Inc ltl ls) : Nk ls := List.Pairwise.imp (fun {a b} hab e => by
  unfold ltl at hab
  rw [e, swoT.irrefl] at hab; cases hab) h
theorem inck_ne {ks : List KV} (h : Inc ltk ks) : ks.Pairwise (fun a b => a.m ≠ b.m) := List.Pairwise.imp (fun {a b} hab e => by
  unfold ltk at hab
  rw [e, swoM.irrefl] at hab; cases hab) h
theorem loadKs_some {ks : List KV} (h : ks.Pairwise (fun a b => a.m ≠ b.m)) {x : KV} (hx : x ∈ ks) : (loadKs ks).V x.m = some x.vr := by
  unfold loadKs
  rw [foldK_V]
  cases hf : ks.reverse.find? fun y => decide (y.m = x.m) with
  | none =>
    rw [List.find?_eq_none] at hf
    exact absurd (decide_eq_true (p := x.m = x.m) rfl) (hf x (by simpa using hx))
  | some y =>
    have h1 := List.find?_some hf
    have h2 := List.mem_of_find?_eq_some hf
    simp at h1 h2
    have e : y = x := by
      by_cases e : y = x
      · exact e
      · exfalso
        obtain ⟨i, hi, rfl⟩ := List.getElem_of_mem h2
        obtain ⟨j, hj, rfl⟩ := List.getElem_of_mem hx
        rw [List.pairwise_iff_getElem] at h
        rcases Nat.lt_trichotomy i j with hij | hij | hij
        · exact h i j hi hj hij h1
        · subst hij; exact e rfl
        · exact h j i hj hi hij h1.symm
    rw [e]
/-- what Load takes -/
def fitsAll (ks : List KV) (ls : List Mk) : Bool := ks.all fun x => fitsB x.stamp (decide (x.m.2 < lastIn ls x.m.1))
def hasAll (ks : List KV) (ls : List Mk) : Bool := ls.all fun l => ((loadKs ks).V l).isSome
def okLoad (ks : List KV) (ls : List Mk) : Bool := (okKept ks && rising ltl ls) && (fitsAll ks ls && hasAll ks ls)
theorem okLoad_ok {ks : List KV} {ls : List Mk} (h : okLoad ks ls = true) (hI : ∀ x ∈ ks, x.m.2 < 18446744073709551616) : Ok (loadS ks ls) := by
  unfold okLoad okKept fitsAll hasAll at h
  simp only [Bool.and_eq_true] at h
  obtain ⟨⟨⟨h1, h2⟩, h3⟩, h4, h5⟩ := h
  have hnk := nk_inc ((rising_iff swoL ls).1 h3)
  have hne := inck_ne ((rising_iff swoK ks).1 h2)
  have hex : ∀ m v, (loadS ks ls).V m = some v → ∃ x ∈ ks, x.m = m ∧ v = x.vr := fun m v hv => by
    rw [loadS_V] at hv
    by_cases hc : ∃ x ∈ ks, x.m = m
    · obtain ⟨x, hx, rfl⟩ := hc
      rw [loadKs_some hne hx] at hv
      injection hv with hv
      exact ⟨x, hx, rfl, hv.symm⟩
    · rw [loadKs_none (fun x hx e => hc ⟨x, hx, e⟩)] at hv
      cases hv
  have hkv : ∀ x ∈ ks, 65536 ≤ x.m.2 ∧ x.val.size ≤ 65535 ∧ okKeys x.keys = true ∧ x.m.1 ∈ x.keys := fun x hx => by
    have := List.all_eq_true.1 h1 x hx
    simp only [okKv, Bool.and_eq_true, decide_eq_true_eq] at this
    exact ⟨this.1, this.2.1, this.2.2.1, (inn_iff _ _).1 this.2.2.2⟩
  refine ⟨⟨fun m v hv => ?_, fun m v hv => ?_⟩, fun m v hv => ?_, fun k hk => ?_⟩
  · obtain ⟨x, hx, rfl, rfl⟩ := hex m v hv
    exact ⟨(hkv x hx).2.2.1, (hkv x hx).2.2.2, (hkv x hx).2.1⟩
  · obtain ⟨x, hx, rfl, rfl⟩ := hex m v hv
    exact ⟨(hkv x hx).1, hI x hx⟩
  · obtain ⟨x, hx, rfl, rfl⟩ := hex m v hv
    rw [loadS_last hnk]
    have hf := List.all_eq_true.1 h4 x hx
    unfold fitsB at hf
    by_cases hl : x.m.2 < lastIn ls x.m.1
    · rw [decide_eq_true hl, if_pos rfl] at hf
      exact ⟨fun _ => tick_iff.1 hf, fun hc => absurd hl hc⟩
    · rw [decide_eq_false hl, if_neg (by simp)] at hf
      exact ⟨fun hc => absurd hc hl, fun _ => (by simpa using hf : x.stamp = -1)⟩
  · rw [loadS_last hnk] at hk ⊢
    rw [loadS_V]
    unfold lastIn at hk ⊢
    cases hf : fnd k ls with
    | none => rw [hf] at hk; exact absurd rfl hk
    | some i =>
      have := List.all_eq_true.1 h5 (k, i) (fnd_mem hf)
      show (loadKs ks).V (k, i) ≠ none
      intro e
      rw [e] at this
      cases this
/-- what a store tells is taken, and makes it anew -/
theorem load_told {s : St} (h : Ok s) {ks : List KV} {ls : List Mk} (hk : IsKs s ks ∧ ∀ m, s.V m ≠ none → m ∈ ks.map (·.m)) (hi : Inc ltM (ks.map (·.m))) (hl : IsLs s ls) : okLoad ks ls = true ∧ (∀ m, (loadS ks ls).V m = s.V m) ∧ ∀ k, (loadS ks ls).last k = s.last k := by
  have hik : Inc ltk ks := by
    have := hi
    unfold Inc at this
    rw [List.pairwise_map] at this
    exact this
  have hil : Inc ltl ls := by
    have := hl.1
    unfold Inc at this
    rw [List.pairwise_map] at this
    exact this
  have hnk := nk_inc hil
  have hne := inck_ne hik
  have hlast : ∀ k, lastIn ls k = s.last k := fun k => by
    unfold lastIn
    cases hf : fnd k ls with
    | some i => exact ((hl.2 k i).1 (fnd_mem hf)).1.symm
    | none =>
      by_cases e : s.last k = 0
      · exact e.symm
      · have := (hl.2 k (s.last k)).2 ⟨rfl, e⟩
        exact absurd rfl (fnd_none.1 hf _ this)
  have hV : ∀ m, (loadS ks ls).V m = s.V m := fun m => by
    rw [loadS_V]
    cases hv : s.V m with
    | none =>
      refine loadKs_none (fun x hx e => ?_)
      have := hk.1 x hx
      rw [e, hv] at this
      cases this
    | some v =>
      obtain ⟨x, hx, rfl⟩ := List.mem_map.1 (hk.2 m (by rw [hv]; simp))
      rw [loadKs_some hne hx, ← hv]
      exact (hk.1 x hx).symm
  refine ⟨?_, hV, fun k => by rw [loadS_last hnk, hlast]⟩
  unfold okLoad okKept fitsAll hasAll
  simp only [Bool.and_eq_true]
  refine ⟨⟨⟨List.all_eq_true.2 fun x hx => ?_, (rising_iff swoK ks).2 hik⟩, (rising_iff swoL ls).2 hil⟩, List.all_eq_true.2 fun x hx => ?_, List.all_eq_true.2 fun l hl' => ?_⟩
  · have hv := hk.1 x hx
    have h1 := h.v.keys _ _ hv
    have h2 := h.v.id _ _ hv
    simp only [okKv, Bool.and_eq_true, decide_eq_true_eq]
    exact ⟨h2.1, h1.2.2, h1.1, (inn_iff _ _).2 h1.2.1⟩
  · have hv := hk.1 x hx
    have h1 := h.st _ _ hv
    rw [hlast]
    unfold fitsB
    by_cases hc : x.m.2 < s.last x.m.1
    · rw [decide_eq_true hc, if_pos rfl]
      exact tick_iff.2 (h1.1 hc)
    · rw [decide_eq_false hc, if_neg (by simp)]
      simpa using h1.2 hc
  · have := (hl.2 l.1 l.2).1 hl'
    have h1 := hV l
    rw [loadS_V] at h1
    rw [h1]
    have h2 := h.la l.1 (by rw [this.1]; exact this.2)
    rw [this.1] at h2
    cases hv : s.V l with
    | none => exact absurd hv h2
    | some v => rfl
end Go.Proofs.YtkoaiibjahlnmabGreat
