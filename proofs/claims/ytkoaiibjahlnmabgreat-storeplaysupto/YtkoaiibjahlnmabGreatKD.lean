import Derived.Test.YtkoaiibjahlnmabGreatLB2
import Derived.Test.YtkoaiibjahlnmabGreatKn
/- What is told, as one. -/
namespace Go.Proofs.YtkoaiibjahlnmabGreat
open Go.RowKit Go.Maps Go.Sort Orl
set_option linter.unusedVariables false
set_option linter.unusedSimpArgs false

/-- a store's versions, told -/
structure Kd (s : St) (ks : List KV) (o : Option Addr) (n c : Nat) (w : World) : Prop where
  n : n = ks.length
  own : Own KE w o c ks
  key : ∀ x ∈ ks, Own TE w x.o x.c x.keys
  is : IsKs s ks
  all : ∀ m, s.V m ≠ none → m ∈ ks.map (·.m)
  inc : Inc ltM (ks.map (·.m))
  ok : Ok s
  le : ks.length ≤ 1954687338211
theorem Kd.keepsN {s : St} {ks : List KV} {o : Option Addr} {n c : Nat} {w w' : World} (h : Kd s ks o n c w) (hk : Keeps no w w') : Kd s ks o n c w' :=
  ⟨h.n, h.own.keepsN hk, fun x hx => (h.key x hx).keepsN hk, h.is, h.all, h.inc, h.ok, h.le⟩
structure Ld (s : St) (ls : List Mk) (o : Option Addr) (n c : Nat) (w : World) : Prop where
  n : n = ls.length
  own : Own LE w o c ls
  is : IsLs s ls
  ok : Ok s
  le : ls.length ≤ 5864062014634
theorem Ld.keepsN {s : St} {ls : List Mk} {o : Option Addr} {n c : Nat} {w w' : World} (h : Ld s ls o n c w) (hk : Keeps no w w') : Ld s ls o n c w' := ⟨h.n, h.own.keepsN hk, h.is, h.ok, h.le⟩
theorem Ow.keptK {w0 w : World} {p : Nat} {s : St} {N : Nat} {P : Nat → Prop} (h : Ow w0 w p s N P) (hN : N ≤ 1954687338211) :
    Calls Tryz.prog 13 #[.pointer (some ⟨p, 0, none⟩)] w fun e w' => ∃ o n c ks, e = .returned (.slice o n c) ∧ Hid (Kd s ks o n c w' ∧ Kl w ks o c w' ∧ Keeps no w w' ∧ ks.length ≤ N) := by
  refine (h.kept hN).mono ?_
  rintro e w' ⟨v, rfl, o, n, c, ks, rfl, hn, hK, hl⟩
  exact ⟨o, n, c, ks, rfl, ⟨hn.out, hK.out.1.own, fun x hx => (hK.out.1.key x hx).1, hK.out.2.1, hK.out.2.2.2, hK.out.2.2.1, h.ok, by have := hl.out; omega⟩, hK.out.1, hK.out.1.keep, hl.out⟩
theorem Ow.lastsK {w0 w : World} {p : Nat} {s : St} {N : Nat} {P : Nat → Prop} (h : Ow w0 w p s N P) (hN : N ≤ 1954687338211) :
    Calls Tryz.prog 29 #[.pointer (some ⟨p, 0, none⟩)] w fun e w' => ∃ o n c ls, e = .returned (.slice o n c) ∧ Hid (Ld s ls o n c w' ∧ New w o ∧ Keeps no w w' ∧ ls.length ≤ N) := by
  refine (h.lasts hN).mono ?_
  rintro e w' ⟨v, rfl, ls, ⟨o, n, c, rfl, hn, ho, hnw, hk⟩, hi, hl⟩
  exact ⟨o, n, c, ls, rfl, ⟨hn.out, ho, hi.out, h.ok, by have := hl.out; omega⟩, hnw, hk, hl.out⟩
theorem Kd.okKs {s : St} {ks : List KV} {o : Option Addr} {n c : Nat} {w : World} (h : Kd s ks o n c w) : OkKs w ks := fun x hx => ⟨(h.key x hx).sl, by have := h.ok.v.len (h.is x hx); simp only at this; omega⟩
theorem Kd.inK {s : St} {ks : List KV} {o : Option Addr} {n c : Nat} {w : World} (h : Kd s ks o n c w) : InK w ks := ⟨fun x hx => by
  have h1 := h.is x hx
  have h2 := h.ok.v.len h1
  have h3 := h.ok.v.id _ _ h1
  have h4 := h.ok.v.size h1
  have h5 := (h.ok.v.keys _ _ h1).2.2
  simp only at h2 h5
  exact ⟨(h.key x hx).sl, by omega, h3.2, by omega, by omega⟩⟩
/-- of like states like lists -/
structure Lk (s t : St) : Prop where
  v : ∀ m, (s.V m = none ↔ t.V m = none) ∧ ∀ u v, s.V m = some u → t.V m = some v → u.val = v.val ∧ u.keys = v.keys
theorem kd_same {s t : St} (h : ∀ m, s.V m = t.V m) {a b : List KV} {o o' : Option Addr} {n n' c c' : Nat} {w w' : World} (ha : Kd s a o n c w) (hb : Kd t b o' n' c' w') : KsEq a b := by
  have e : a.map (·.m) = b.map (·.m) := inc_ext swoM ha.inc hb.inc (fun m => by
    constructor
    · intro hm
      obtain ⟨x, hx, rfl⟩ := List.mem_map.1 hm
      exact hb.all _ (by rw [← h, ha.is x hx]; simp)
    · intro hm
      obtain ⟨x, hx, rfl⟩ := List.mem_map.1 hm
      exact ha.all _ (by rw [h, hb.is x hx]; simp))
  have hl : a.length = b.length := by have := congrArg List.length e; simpa using this
  refine ⟨hl, fun j hj => ?_⟩
  have hjb : j < b.length := by omega
  have e1 : (a.getD j kv0).m = (b.getD j kv0).m := by
    have g1 : a.getD j kv0 = a[j] := by simp [List.getD_eq_getElem?_getD, hj]
    have g2 : b.getD j kv0 = b[j] := by simp [List.getD_eq_getElem?_getD, hjb]
    rw [g1, g2]
    have := congrArg (fun l => l[j]?) e
    simp [hj, hjb] at this
    exact this
  have v1 := ha.is _ (getD_mem_lt kv0 hj)
  have v2 := hb.is _ (getD_mem_lt kv0 hjb)
  rw [h, e1, v2] at v1
  injection v1 with v1
  injection v1 with q1 q2 q3
  exact ⟨e1, q1.symm, q2.symm, q3.symm⟩
theorem ld_same {s t : St} (h : ∀ k, s.last k = t.last k) {a b : List Mk} {o o' : Option Addr} {n n' c c' : Nat} {w w' : World} (ha : Ld s a o n c w) (hb : Ld t b o' n' c' w') : a = b := by
  have hi : ∀ {l : List Mk}, Inc lts (l.map (·.1)) → Inc ltl l := fun {l} hl => by
    unfold Inc at hl ⊢
    rw [List.pairwise_map] at hl
    exact hl
  refine inc_ext swoL (hi ha.is.1) (hi hb.is.1) (fun m => ?_)
  obtain ⟨k, i⟩ := m
  rw [ha.is.2, hb.is.2, h]
theorem sameKd {s t : St} (h : ∀ m, s.V m = t.V m) {a b : List KV} {o o' : Option Addr} {n n' c c' : Nat} {w : World} (ha : Kd s a o n c w) (hb : Kd t b o' n' c' w) :
    Calls Tryz.prog 30 #[.slice o n c, .slice o' n' c'] w fun e w' => e = .returned (.bool true) ∧ Keeps no w w' :=
  sameKept_any w o n c o' n' c' a b ha.n hb.n ha.le ha.own.sl hb.own.sl ha.okKs hb.okKs (kd_same h ha hb)
theorem sameLd {s t : St} (h : ∀ k, s.last k = t.last k) {a b : List Mk} {o o' : Option Addr} {n n' c c' : Nat} {w : World} (ha : Ld s a o n c w) (hb : Ld t b o' n' c' w) :
    Calls Tryz.prog 32 #[.slice o n c, .slice o' n' c'] w fun e w' => e = .returned (.bool true) ∧ Keeps no w w' := by
  have e := ld_same h ha hb
  subst e
  exact sameLasts_any w o n c o' n' c' a ha.n hb.n ha.le ha.own.sl hb.own.sl
/-- Load of what a store tells: the same store anew -/
theorem load_same {s : St} {a : List KV} {b : List Mk} {o o' : Option Addr} {n n' c c' : Nat} {w : World} (ha : Kd s a o n c w) (hb : Ld s b o' n' c' w) :
    Calls Tryz.prog 28 #[.slice o n c, .slice o' n' c'] w fun e w' => ∃ p, e = .returned (.tuple #[.pointer (some ⟨p, 0, none⟩), .int .i64 0]) ∧ Hid (Ow w w' p s a.length no) := by
  obtain ⟨h1, h2, h3⟩ := load_told ha.ok ⟨ha.is, ha.all⟩ ha.inc hb.is
  have e : loadS a b = s := st_ext h2 h3
  refine (load_any w o n c a o' n' c' b ha.n hb.n ha.le hb.le ha.own.sl hb.own.sl ha.inK (fun l hl => ?_)).mono ?_
  · obtain ⟨k, i⟩ := l
    have h4 := (hb.is.2 k i).1 hl
    have h5 := ha.ok.la k (by rw [h4.1]; exact h4.2)
    rw [h4.1] at h5
    cases hv : s.V (k, i) with
    | none => exact absurd hv h5
    | some v => exact ⟨by have := ha.ok.v.size hv; show k.size ≤ maxLen; unfold maxLen; simp only at this; omega, (ha.ok.v.id _ _ hv).2⟩
  · rintro e' w' ⟨hg, _⟩
    obtain ⟨p, he, ho⟩ := hg h1
    rw [e] at ho
    exact ⟨p, he, ho⟩
end Go.Proofs.YtkoaiibjahlnmabGreat
