/- What is read, as events in memory. -/
import Derived.Test.YtjkljljmjjnneaaGreatDoorS0
import Derived.Test.YtjkljljmjjnneaaGreatDoorP8
namespace Go.Proofs.YtjkljljmjjnneaaGreatDoor
open Go.RowKit Go.Sort Orl
set_option linter.unusedVariables false
set_option linter.unusedSimpArgs false

/-- an event is what was read -/
structure EvB (e : Ev) (x : Eb) : Prop where
  kind : e.kind = (x.kind : Nat)
  client : e.client = (x.client : Nat)
  txn : e.txn = (x.txn : Nat)
  id : e.id = x.id
  pairs : e.pairs.map prB = x.pairs
  keys : bts e.keys = x.keys
  atxn : e.atxn = if x.kind = 3 then ((x.txn : Nat) : Int) else 0
  ares : e.ares = (x.ares : Nat)
  aid : e.aid = x.aid
  vers : e.vers.map vrB = x.vers
theorem EbOf.ev {N : Nat} {w : World} {r : RE} {x : Eb} (h : EbOf N w r x) : ∃ e : Ev, EvOf w r e ∧ EvB e x := by
  obtain ⟨h1, h2, h3, h4, ⟨ps, a1, a2, a3⟩, hp, ⟨ks, b1, b2, b3⟩, hk, h5, h6, h7, ⟨rv, vs, c1, c2, c3, c4, c5⟩⟩ := h
  exact ⟨⟨r.kind, r.client, r.txn, r.id, ps, ks, r.atxn, r.ares, r.aid, vs⟩, ⟨rfl, rfl, rfl, rfl, a1, a2.sl, b1, b2.sl, rfl, rfl, rfl, c1, rv, c3.vers c2.sl⟩, ⟨h1, h2, h3, h4, a3, b3, h5, h6, h7, c4⟩⟩
theorem Ebs.evs {N : Nat} {w : World} {o : Option Addr} {c : Nat} {rs : List RE} {xs : List Eb} (h : Ebs N w rs xs) (hs : Sl EE w o c rs) : ∃ es : List Ev, Evs w o c rs es ∧ es.length = xs.length ∧ ∀ j, j < xs.length → EvB (es.getD j ev0) (xs.getD j eb0) := by
  have key : ∀ j, ∃ e : Ev, j < xs.length → EvOf w (rs.getD j re0) e ∧ EvB e (xs.getD j eb0) := fun j => by
    by_cases hj : j < xs.length
    · obtain ⟨e, h1, h2⟩ := (h.each j hj).ev
      exact ⟨e, fun _ => ⟨h1, h2⟩⟩
    · exact ⟨ev0, fun h => absurd h hj⟩
  have hf := fun j => Classical.choose_spec (key j)
  have hg : ∀ j, j < xs.length → ((List.range xs.length).map fun j => Classical.choose (key j)).getD j ev0 = Classical.choose (key j) := fun j hj => by
    simp [List.getD_eq_getElem?_getD, List.getElem?_map, List.getElem?_range hj]
  refine ⟨(List.range xs.length).map fun j => Classical.choose (key j), ⟨hs, by rw [List.length_map, List.length_range, h.len], fun j hj => ?_⟩, by rw [List.length_map, List.length_range], fun j hj => ?_⟩
  · rw [List.length_map, List.length_range] at hj
    rw [hg j hj]
    exact (hf j hj).1
  · rw [hg j hj]
    exact (hf j hj).2
end Go.Proofs.YtjkljljmjjnneaaGreatDoor
