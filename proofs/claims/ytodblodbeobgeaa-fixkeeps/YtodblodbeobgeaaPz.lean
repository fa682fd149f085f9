/- What the program's Mend tells: new memory, each list by itself. -/
import Derived.Test.YtodblodbeobgeaaK0
namespace Go.Proofs.Ytodblodbeobgeaa
open Go.RowKit Go.Sort Orl
set_option linter.unusedVariables false
set_option linter.unusedSimpArgs false

/-- a slice of the call's own, or none at all (no room either) -/
def OwnZ {α : Type} (E : El α) (w : World) (o : Option Addr) (c : Nat) (xs : List α) : Prop := Own E w o c xs ∨ (xs = [] ∧ c = 0)
variable {α : Type} {E : El α}
theorem OwnZ.sl {w : World} {o : Option Addr} {c : Nat} {xs : List α} (h : OwnZ E w o c xs) : Sl E w o c xs := by
  rcases h with h | ⟨rfl, rfl⟩
  · exact h.sl
  · exact ⟨.inl rfl, by simp, fun _ => rfl⟩
theorem OwnZ.keepsN {w w' : World} {o : Option Addr} {c : Nat} {xs : List α} (h : OwnZ E w o c xs) (k : Keeps no w w') : OwnZ E w' o c xs := by
  rcases h with h | h
  · exact .inl (h.keepsN k)
  · exact .inr h
theorem OwnZ.keeps {S : Nat → Prop} {w w' : World} {o : Option Addr} {c : Nat} {xs : List α} (h : OwnZ E w o c xs) (k : Keeps S w w') (hs : xs ≠ [] → ∀ i, inO o i → ¬ S i) (hc : xs = [] → c ≠ 0 → ∀ i, inO o i → ¬ S i) : OwnZ E w' o c xs := by
  by_cases e : xs = []
  · by_cases e2 : c = 0
    · exact .inr ⟨e, e2⟩
    · rcases h with h | h
      · exact .inl (h.keeps k (hc e e2))
      · exact absurd h.2 e2
  · rcases h with h | h
    · exact .inl (h.keeps k (hs e))
    · exact absurd h.1 e
/-- a version whose keys are the call's own -/
structure VerZ (w : World) (r : RV) (v : Ver) : Prop where
  key : r.key = v.key
  id : r.id = v.id
  val : r.val = v.val
  n : r.n = v.keys.length
  own : OwnZ TE w r.o r.c v.keys
theorem VerZ.of {w : World} {r : RV} {v : Ver} (h : VerZ w r v) : VerOf w r v := ⟨h.key, h.id, h.val, h.n, h.own.sl⟩
theorem VerZ.keepsN {w w' : World} {r : RV} {v : Ver} (h : VerZ w r v) (k : Keeps no w w') : VerZ w' r v := ⟨h.key, h.id, h.val, h.n, h.own.keepsN k⟩
/-- has it room? -/
def Roomy (r : RV) (k : Nat) : Prop := r.c ≠ 0 ∧ inO r.o k
/-- a list of versions that was made since w; each list of keys by itself -/
structure NewVz (w : World) (o : Option Addr) (c : Nat) (rs : List RV) (vs : List Ver) (w' : World) : Prop where
  own : Own VE w' o c rs
  len : rs.length = vs.length
  each : ∀ j, j < vs.length → VerZ w' (rs.getD j r0) (vs.getD j v0)
  newO : New w o
  newK : ∀ j, j < vs.length → ∀ k, Roomy (rs.getD j r0) k → w.heap.size ≤ k
  sep : ∀ i j, i < j → j < vs.length → ∀ k, Roomy (rs.getD i r0) k → ¬ Roomy (rs.getD j r0) k
  kp : Keeps no w w'
theorem NewVz.vers {w w' : World} {o : Option Addr} {c : Nat} {rs : List RV} {vs : List Ver} (h : NewVz w o c rs vs w') : Vers w' o c rs vs := ⟨h.own.sl, h.len, fun j hj => (h.each j hj).of⟩
theorem NewVz.nil (w : World) : NewVz w none 0 [] [] w := ⟨own_nil w, rfl, fun j hj => by simp at hj, new_none w, fun j hj => by simp at hj, fun i j _ hj => by simp at hj, Keeps.refl _ _⟩
theorem NewVz.keepsN {w w' w2 : World} {o : Option Addr} {c : Nat} {rs : List RV} {vs : List Ver} (h : NewVz w o c rs vs w') (k : Keeps no w' w2) : NewVz w o c rs vs w2 :=
  ⟨h.own.keepsN k, h.len, fun j hj => (h.each j hj).keepsN k, h.newO, h.newK, h.sep, h.kp.trans k⟩
theorem NewVz.older {w u w' : World} {o : Option Addr} {c : Nat} {rs : List RV} {vs : List Ver} (h : NewVz u o c rs vs w') (k : Keeps no w u) : NewVz w o c rs vs w' :=
  ⟨h.own, h.len, h.each, h.newO.of_le k.size, fun j hj q hq => Nat.le_trans k.size (h.newK j hj q hq), h.sep, k.trans h.kp⟩
theorem ownZ_apart {w : World} {r : RV} {v : Ver} (h : VerZ w r v) {β : Type} {F : El β} (hne : TE.e ≠ F.e) {o' : Option Addr} {c' : Nat} {ys : List β} (h' : Own F w o' c' ys) : ∀ k, Roomy r k → ¬ inO o' k := by
  intro k hk
  rcases h.own with ho | ho
  · exact own_apart hne ho h' k hk.2
  · exact absurd ho.2 hk.1
theorem VerZ.keeps {S : Nat → Prop} {w w' : World} {r : RV} {v : Ver} (h : VerZ w r v) (k : Keeps S w w') (hs : ∀ i, Roomy r i → ¬ S i) : VerZ w' r v := by
  refine ⟨h.key, h.id, h.val, h.n, ?_⟩
  by_cases e : r.c = 0
  · rcases h.own with ho | ho
    · have hl := ho.cap.1
      have : v.keys = [] := List.length_eq_zero_iff.1 (by omega)
      exact .inr ⟨this, e⟩
    · exact .inr ho
  · rcases h.own with ho | ho
    · exact .inl (ho.keeps k (fun i hi => hs i ⟨e, hi⟩))
    · exact absurd ho.2 e
/-- one more -/
theorem NewVz.push {w wr w' : World} {o o' : Option Addr} {c c' : Nat} {rs : List RV} {vs : List Ver} {r : RV} {v : Ver} (h : NewVz w o c rs vs wr) (hr : VerZ wr r v) (hn : ∀ k, Roomy r k → w.heap.size ≤ k) (hsep : ∀ j, j < vs.length → ∀ k, Roomy (rs.getD j r0) k → ¬ Roomy r k) (ho : Own VE w' o' c' (rs ++ [r])) (ha : Ap wr o o' w') : NewVz w o' c' (rs ++ [r]) (vs ++ [v]) w' := by
  have hne : TE.e ≠ VE.e := by decide
  have hk : Keeps (inO o) wr w' := by rcases ha with ⟨_, k⟩ | ⟨_, k⟩; exact k; exact k.of_no
  have hnn := ha.new h.newO h.kp
  have hl := h.len
  have key : ∀ j, j < (vs ++ [v]).length → VerZ w' ((rs ++ [r]).getD j r0) ((vs ++ [v]).getD j v0) ∧ ∀ k, Roomy ((rs ++ [r]).getD j r0) k → w.heap.size ≤ k := by
    intro j hj
    rw [List.length_append, List.length_singleton] at hj
    rw [getD_snoc, getD_snoc, hl]
    by_cases hlt : j < vs.length
    · rw [if_pos hlt, if_pos hlt]
      exact ⟨(h.each j hlt).keeps hk (ownZ_apart (h.each j hlt) hne h.own), h.newK j hlt⟩
    · have e : j = vs.length := by omega
      rw [if_neg hlt, if_neg hlt, if_pos e, if_pos e]
      exact ⟨hr.keeps hk (ownZ_apart hr hne h.own), hn⟩
  refine ⟨ho, by simp [hl], fun j hj => (key j hj).1, hnn.1, fun j hj => (key j hj).2, ?_, hnn.2⟩
  intro i j hij hj
  rw [List.length_append, List.length_singleton] at hj
  rw [getD_snoc, getD_snoc, hl]
  by_cases hlt : j < vs.length
  · rw [if_pos hlt, if_pos (show i < vs.length by omega)]
    exact h.sep i j hij hlt
  · have e : j = vs.length := by omega
    rw [if_pos (show i < vs.length by omega), if_neg hlt, if_pos e]
    exact hsep i (by omega)
/-- what the program's Mend tells -/
def MendP (w : World) (l got : List Ver) (u : Value) (w' : World) : Prop :=
  (formedB l = false ∧ u = .tuple #[.slice none 0 0, .int .i64 1] ∧ Keeps no w w') ∨ (formedB l = true ∧ mendV l got = none ∧ u = .tuple #[.slice none 0 0, .int .i64 110] ∧ Keeps no w w') ∨
  (formedB l = true ∧ ∃ m o n c rs, mendV l got = some m ∧ u = .tuple #[.slice o n c, .int .i64 0] ∧ n = m.length ∧ NewVz w o c rs m w')
end Go.Proofs.Ytodblodbeobgeaa
