import Derived.Test.YtagekdmkidbhpaaGreatB1
import Derived.Test.YtagekdmkidbhpaaGreatKD
/- RetainKeeps in pure functions. -/
namespace Go.Proofs.YtagekdmkidbhpaaGreat
open Go.RowKit Go.Maps Go.Sort Orl
set_option linter.unusedVariables false
set_option linter.unusedSimpArgs false

structure KsP (s : St) (ks : List KV) : Prop where
  is : IsKs s ks
  inc : Inc ltM (ks.map (·.m))
  all : ∀ m, s.V m ≠ none → m ∈ ks.map (·.m)
theorem KsP.same {s : St} {a b : List KV} (ha : KsP s a) (hb : KsP s b) : KsEq a b := by
  have e : a.map (·.m) = b.map (·.m) := inc_ext swoM ha.inc hb.inc (fun m => by
    constructor
    · intro hm
      obtain ⟨x, hx, rfl⟩ := List.mem_map.1 hm
      exact hb.all _ (by rw [ha.is x hx]; simp)
    · intro hm
      obtain ⟨x, hx, rfl⟩ := List.mem_map.1 hm
      exact ha.all _ (by rw [hb.is x hx]; simp))
  have hl : a.length = b.length := by have := congrArg List.length e; simpa using this
  refine ⟨hl, fun j hj => ?_⟩
  have hjb : j < b.length := by omega
  have e1 : (a.getD j kv0).m = (b.getD j kv0).m := by
    rw [getD_at hj, getD_at hjb]
    have := congrArg (fun l => l[j]?) e
    simp [hj, hjb] at this
    exact this
  have v1 := ha.is _ (getD_mem_lt kv0 hj)
  have v2 := hb.is _ (getD_mem_lt kv0 hjb)
  rw [e1, v2] at v1
  injection v1 with v1
  injection v1 with q1 q2 q3
  exact ⟨e1, q1.symm, q2.symm, q3.symm⟩
theorem KsP.inj {s : St} {ks : List KV} (h : KsP s ks) {x y : KV} (hx : x ∈ ks) (hy : y ∈ ks) (e : x.m = y.m) : x.val = y.val ∧ x.keys = y.keys ∧ x.stamp = y.stamp := by
  have h1 := h.is x hx
  have h2 := h.is y hy
  rw [e, h2] at h1
  injection h1 with h1
  injection h1 with a b c
  exact ⟨a.symm, b.symm, c.symm⟩
def duK (t : Int) (x : KV) : Bool := decide (x.stamp ≠ -1 ∧ x.stamp ≤ t)
def dsOf (t : Int) (ks : List KV) : List Mk := (ks.filter (duK t)).map (·.m)
def rsOf (t : Int) (ks : List KV) : List KV := ks.filter fun x => !duK t x
theorem duK_due {s : St} {ks : List KV} (h : KsP s ks) {t : Int} {x : KV} (hx : x ∈ ks) : dueB s t x.m = duK t x := by
  unfold dueB duK
  rw [h.is x hx]
theorem dsOf_is {s : St} {ks : List KV} (h : KsP s ks) (t : Int) : IsDue s t (dsOf t ks) := by
  refine ⟨List.Pairwise.sublist (List.Sublist.map _ List.filter_sublist) h.inc, fun m => ?_⟩
  unfold dsOf
  rw [List.mem_map]
  constructor
  · rintro ⟨x, hx, rfl⟩
    obtain ⟨h1, h2⟩ := List.mem_filter.1 hx
    rw [duK_due h h1]
    exact h2
  · intro hm
    obtain ⟨v, hv, _⟩ := dueB_iff.1 hm
    obtain ⟨x, hx, rfl⟩ := List.mem_map.1 (h.all m (by rw [hv]; simp))
    exact ⟨x, List.mem_filter.2 ⟨hx, by rw [← duK_due h hx]; exact hm⟩, rfl⟩
theorem rsOf_is {s : St} {ks : List KV} (h : KsP s ks) (t : Int) : KsP (collS s t) (rsOf t ks) := by
  refine ⟨fun x hx => ?_, List.Pairwise.sublist (List.Sublist.map _ List.filter_sublist) h.inc, fun m hm => ?_⟩
  · obtain ⟨h1, h2⟩ := List.mem_filter.1 hx
    show (if dueB s t x.m then none else s.V x.m) = _
    rw [duK_due h h1]
    cases e : duK t x with
    | true => rw [e] at h2; cases h2
    | false => exact h.is x h1
  · have hm' : (if dueB s t m then none else s.V m) ≠ none := hm
    cases e : dueB s t m with
    | true => rw [e] at hm'; exact absurd rfl hm'
    | false =>
      rw [e] at hm'
      obtain ⟨x, hx, rfl⟩ := List.mem_map.1 (h.all m hm')
      refine List.mem_map.2 ⟨x, List.mem_filter.2 ⟨hx, ?_⟩, rfl⟩
      rw [← duK_due h hx, e]
      rfl
theorem ds_rs (t : Int) : ∀ ks : List KV, (dsOf t ks).length + (rsOf t ks).length = ks.length
  | [] => rfl
  | x :: r => by
    have := ds_rs t r
    unfold dsOf rsOf at this ⊢
    simp only [List.length_map] at this ⊢
    cases e : duK t x <;> simp [List.filter, e] <;> omega
theorem dsOf_app (t : Int) (a b : List KV) : dsOf t (a ++ b) = dsOf t a ++ dsOf t b := by simp [dsOf]
theorem rsOf_app (t : Int) (a b : List KV) : rsOf t (a ++ b) = rsOf t a ++ rsOf t b := by simp [rsOf]
theorem drop_cons {α : Type} (l : List α) (i : Nat) (d : α) (h : i < l.length) : l = l.take i ++ (l.getD i d :: l.drop (i + 1)) := by
  have e : l.drop i = l.getD i d :: l.drop (i + 1) := by rw [getD_at h]; exact List.drop_eq_getElem_cons h
  rw [← e, List.take_append_drop]
/-- one that is due: it is the next of the list -/
theorem ds_at {t : Int} {ks : List KV} {i : Nat} (h : i < ks.length) (hd : duK t (ks.getD i kv0) = true) : (dsOf t (ks.take i)).length < (dsOf t ks).length ∧ (dsOf t ks).getD (dsOf t (ks.take i)).length (e0, 0) = (ks.getD i kv0).m ∧ dsOf t (ks.take (i + 1)) = dsOf t (ks.take i) ++ [(ks.getD i kv0).m] ∧ rsOf t (ks.take (i + 1)) = rsOf t (ks.take i) := by
  have e1 : dsOf t ks = dsOf t (ks.take i) ++ ((ks.getD i kv0).m :: dsOf t (ks.drop (i + 1))) := by
    conv => lhs; rw [drop_cons ks i kv0 h]
    rw [dsOf_app]
    congr 1
    unfold dsOf
    simp only [List.filter, hd, List.map]
  refine ⟨?_, ?_, ?_, ?_⟩
  · rw [e1, List.length_append, List.length_cons]; omega
  · rw [e1]
    simp [List.getD]
  · rw [take_succ_getD ks i kv0 h, dsOf_app]
    congr 1
    unfold dsOf
    simp only [List.filter, hd, List.map]
  · rw [take_succ_getD ks i kv0 h, rsOf_app]
    have : rsOf t [ks.getD i kv0] = [] := by unfold rsOf; simp only [List.filter, hd, Bool.not_true]
    rw [this, List.append_nil]
theorem rs_at {t : Int} {ks : List KV} {i : Nat} (h : i < ks.length) (hd : duK t (ks.getD i kv0) = false) : (rsOf t (ks.take i)).length < (rsOf t ks).length ∧ (rsOf t ks).getD (rsOf t (ks.take i)).length kv0 = ks.getD i kv0 ∧ rsOf t (ks.take (i + 1)) = rsOf t (ks.take i) ++ [ks.getD i kv0] ∧ dsOf t (ks.take (i + 1)) = dsOf t (ks.take i) := by
  have e1 : rsOf t ks = rsOf t (ks.take i) ++ (ks.getD i kv0 :: rsOf t (ks.drop (i + 1))) := by
    conv => lhs; rw [drop_cons ks i kv0 h]
    rw [rsOf_app]
    congr 1
    unfold rsOf
    simp only [List.filter, hd, Bool.not_false]
  refine ⟨?_, ?_, ?_, ?_⟩
  · rw [e1, List.length_append, List.length_cons]; omega
  · rw [e1]
    simp [List.getD]
  · rw [take_succ_getD ks i kv0 h, rsOf_app]
    congr 1
    unfold rsOf
    simp only [List.filter, hd, Bool.not_false]
  · rw [take_succ_getD ks i kv0 h, dsOf_app]
    have : dsOf t [ks.getD i kv0] = [] := by unfold dsOf; simp only [List.filter, hd, List.map]
    rw [this, List.append_nil]
theorem not_ds {s : St} {ks : List KV} (h : KsP s ks) {t : Int} {x : KV} (hx : x ∈ ks) (hd : duK t x = false) : x.m ∉ dsOf t ks := fun hm => by
  have := ((dsOf_is h t).is x.m).1 hm
  rw [duK_due h hx, hd] at this
  cases this
theorem next_due {s : St} {L hold now z : Int} {is : Bool} {ds : List Mk} (h : IsNext s L is) (hd : IsDue s (now - hold) ds) (hz : z = nextZ L hold is) : decide (0 < ds.length) = (is && decide (z ≤ now)) := by
  cases is with
  | false =>
    have : ds = [] := List.eq_nil_iff_forall_not_mem.2 fun m hm => by
      obtain ⟨v, hv, hs, _⟩ := dueB_iff.1 ((hd.is m).1 hm)
      exact hs (h.none rfl m v hv)
    rw [this]
    rfl
  | true =>
    have hz' : z = L + hold := hz
    obtain ⟨⟨m, v, hv, hs, hl⟩, hm⟩ := h.yes rfl
    by_cases hc : z ≤ now
    · have h1 : m ∈ ds := (hd.is m).2 (dueB_iff.2 ⟨v, hv, hs, by omega⟩)
      have h2 := List.length_pos_of_mem h1
      simp [hc, h2]
    · have : ds = [] := List.eq_nil_iff_forall_not_mem.2 fun m' hm' => by
        obtain ⟨v', hv', hs', hl'⟩ := dueB_iff.1 ((hd.is m').1 hm')
        have := hm m' v' hv' hs'
        omega
      rw [this]
      simp [hc]
theorem due_none {s : St} {t : Int} : IsDue (collS s t) t [] := by
  refine ⟨List.Pairwise.nil, fun m => ?_⟩
  constructor
  · intro h; cases h
  · intro h
    obtain ⟨v, hv, h1, h2⟩ := dueB_iff.1 h
    have hv' : (if dueB s t m then none else s.V m) = some v := hv
    split at hv'
    · cases hv'
    · rename_i hn
      exact absurd (dueB_iff.2 ⟨v, hv', h1, h2⟩) hn
theorem Kd.ksP {s : St} {ks : List KV} {o : Option Addr} {n c : Nat} {w : World} (h : Kd s ks o n c w) : KsP s ks := ⟨h.is, h.inc, h.all⟩
end Go.Proofs.YtagekdmkidbhpaaGreat
