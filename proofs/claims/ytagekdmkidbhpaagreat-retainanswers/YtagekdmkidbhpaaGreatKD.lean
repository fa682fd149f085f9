import Derived.Test.YtagekdmkidbhpaaGreatSK
import Derived.Test.YtagekdmkidbhpaaGreatOf
/- What is told, as one. -/
namespace Go.Proofs.YtagekdmkidbhpaaGreat
open Go.RowKit Go.Maps Go.Sort Orl
set_option linter.unusedVariables false
set_option linter.unusedSimpArgs false

def ltl (p q : Mk) : Bool := lts p.1 q.1
theorem swoL : SWO ltl where
  irrefl x := swoT.irrefl _
  trans x y z h1 h2 := swoT.trans _ _ _ h1 h2
  ntrans x y z h1 h2 := swoT.ntrans _ _ _ h1 h2
theorem Ow.lasts {w0 w : World} {p : Nat} {s : St} {N : Nat} {P : Nat → Prop} (h : Ow w0 w p s N P) (hN : N ≤ 1954687338211) :
    Calls Tryz.prog 12 #[.pointer (some ⟨p, 0, none⟩)] w fun e w' => ∃ v, e = .returned v ∧ ∃ ls, Gives LE w ls v w' ∧ Hid (IsLs s ls) ∧ Hid (ls.length ≤ N) := by
  obtain ⟨T, h, _⟩ := h
  exact lasts_any w p T s N h.is hN
/-- a store's versions, told -/
structure Kd (s : St) (ks : List KV) (o : Option Addr) (n c : Nat) (w : World) : Prop where
  n : n = ks.length
  own : Own KE w o c ks
  key : ∀ x ∈ ks, Own TE w x.o x.c x.keys
  is : IsKs s ks
  all : ∀ m, s.V m ≠ none → m ∈ ks.map (·.m)
  inc : Inc ltM (ks.map (·.m))
  ok : Ok s
  le : ks.length ≤ 1954687338211
theorem Kd.keepsN {s : St} {ks : List KV} {o : Option Addr} {n c : Nat} {w w' : World} (h : Kd s ks o n c w) (hk : Keeps no w w') : Kd s ks o n c w' :=
  ⟨h.n, h.own.keepsN hk, fun x hx => (h.key x hx).keepsN hk, h.is, h.all, h.inc, h.ok, h.le⟩
structure Ld (s : St) (ls : List Mk) (o : Option Addr) (n c : Nat) (w : World) : Prop where
  n : n = ls.length
  own : Own LE w o c ls
  is : IsLs s ls
  ok : Ok s
  le : ls.length ≤ 5864062014634
theorem Ld.keepsN {s : St} {ls : List Mk} {o : Option Addr} {n c : Nat} {w w' : World} (h : Ld s ls o n c w) (hk : Keeps no w w') : Ld s ls o n c w' := ⟨h.n, h.own.keepsN hk, h.is, h.ok, h.le⟩
theorem Ow.keptK {w0 w : World} {p : Nat} {s : St} {N : Nat} {P : Nat → Prop} (h : Ow w0 w p s N P) (hN : N ≤ 1954687338211) :
    Calls Tryz.prog 10 #[.pointer (some ⟨p, 0, none⟩)] w fun e w' => ∃ o n c ks, e = .returned (.slice o n c) ∧ Hid (Kd s ks o n c w' ∧ Kl w ks o c w' ∧ Keeps no w w' ∧ ks.length ≤ N) := by
  refine (h.kept hN).mono ?_
  rintro e w' ⟨v, rfl, o, n, c, ks, rfl, hn, hK, hl⟩
  exact ⟨o, n, c, ks, rfl, ⟨hn.out, hK.out.1.own, fun x hx => (hK.out.1.key x hx).1, hK.out.2.1, hK.out.2.2.2, hK.out.2.2.1, h.ok, by have := hl.out; omega⟩, hK.out.1, hK.out.1.keep, hl.out⟩
theorem Ow.lastsK {w0 w : World} {p : Nat} {s : St} {N : Nat} {P : Nat → Prop} (h : Ow w0 w p s N P) (hN : N ≤ 1954687338211) :
    Calls Tryz.prog 12 #[.pointer (some ⟨p, 0, none⟩)] w fun e w' => ∃ o n c ls, e = .returned (.slice o n c) ∧ Hid (Ld s ls o n c w' ∧ New w o ∧ Keeps no w w' ∧ ls.length ≤ N) := by
  refine (h.lasts hN).mono ?_
  rintro e w' ⟨v, rfl, ls, ⟨o, n, c, rfl, hn, ho, hnw, hk⟩, hi, hl⟩
  exact ⟨o, n, c, ls, rfl, ⟨hn.out, ho, hi.out, h.ok, by have := hl.out; omega⟩, hnw, hk, hl.out⟩
theorem Kd.okKs {s : St} {ks : List KV} {o : Option Addr} {n c : Nat} {w : World} (h : Kd s ks o n c w) : OkKs w ks := fun x hx => ⟨(h.key x hx).sl, by have := h.ok.v.len (h.is x hx); simp only at this; omega⟩
/-- of like states like lists -/
structure Lk (s t : St) : Prop where
  v : ∀ m, (s.V m = none ↔ t.V m = none) ∧ ∀ u v, s.V m = some u → t.V m = some v → u.val = v.val ∧ u.keys = v.keys
theorem kd_same {s t : St} (h : ∀ m, s.V m = t.V m) {a b : List KV} {o o' : Option Addr} {n n' c c' : Nat} {w w' : World} (ha : Kd s a o n c w) (hb : Kd t b o' n' c' w') : KsEq a b := by
  have e : a.map (·.m) = b.map (·.m) := inc_ext swoM ha.inc hb.inc (fun m => by
    constructor
    · intro hm
      obtain ⟨x, hx, rfl⟩ := List.mem_map.1 hm
      exact hb.all _ (by rw [← h, ha.is x hx]; simp)
    · intro hm
      obtain ⟨x, hx, rfl⟩ := List.mem_map.1 hm
      exact ha.all _ (by rw [h, hb.is x hx]; simp))
  have hl : a.length = b.length := by have := congrArg List.length e; simpa using this
  refine ⟨hl, fun j hj => ?_⟩
  have hjb : j < b.length := by omega
  have e1 : (a.getD j kv0).m = (b.getD j kv0).m := by
    have g1 : a.getD j kv0 = a[j] := by simp [List.getD_eq_getElem?_getD, hj]
    have g2 : b.getD j kv0 = b[j] := by simp [List.getD_eq_getElem?_getD, hjb]
    rw [g1, g2]
    have := congrArg (fun l => l[j]?) e
    simp [hj, hjb] at this
    exact this
  have v1 := ha.is _ (getD_mem_lt kv0 hj)
  have v2 := hb.is _ (getD_mem_lt kv0 hjb)
  rw [h, e1, v2] at v1
  injection v1 with v1
  injection v1 with q1 q2 q3
  exact ⟨e1, q1.symm, q2.symm, q3.symm⟩
theorem ld_same {s t : St} (h : ∀ k, s.last k = t.last k) {a b : List Mk} {o o' : Option Addr} {n n' c c' : Nat} {w w' : World} (ha : Ld s a o n c w) (hb : Ld t b o' n' c' w') : a = b := by
  have hi : ∀ {l : List Mk}, Inc lts (l.map (·.1)) → Inc ltl l := fun {l} hl => by
    unfold Inc at hl ⊢
    rw [List.pairwise_map] at hl
    exact hl
  refine inc_ext swoL (hi ha.is.1) (hi hb.is.1) (fun m => ?_)
  obtain ⟨k, i⟩ := m
  rw [ha.is.2, hb.is.2, h]
theorem sameKd {s t : St} (h : ∀ m, s.V m = t.V m) {a b : List KV} {o o' : Option Addr} {n n' c c' : Nat} {w : World} (ha : Kd s a o n c w) (hb : Kd t b o' n' c' w) :
    Calls Tryz.prog 9 #[.slice o n c, .slice o' n' c'] w fun e w' => e = .returned (.bool true) ∧ Keeps no w w' :=
  sameKept_any w o n c o' n' c' a b ha.n hb.n ha.le ha.own.sl hb.own.sl ha.okKs hb.okKs (kd_same h ha hb)
theorem sameLd {s t : St} (h : ∀ k, s.last k = t.last k) {a b : List Mk} {o o' : Option Addr} {n n' c c' : Nat} {w : World} (ha : Ld s a o n c w) (hb : Ld t b o' n' c' w) :
    Calls Tryz.prog 11 #[.slice o n c, .slice o' n' c'] w fun e w' => e = .returned (.bool true) ∧ Keeps no w w' := by
  have e := ld_same h ha hb
  subst e
  exact sameLasts_any w o n c o' n' c' a ha.n hb.n ha.le ha.own.sl hb.own.sl
end Go.Proofs.YtagekdmkidbhpaaGreat
