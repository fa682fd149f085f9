import Derived.Test.YtlpfoieoopjmgaaK1
namespace Go.Proofs.Ytlpfoieoopjmgaa
open Go.RowKit
set_option linter.unusedVariables false
set_option linter.unusedSimpArgs false

variable {α : Type} {E : El α} {G : El (GS α)} {key : α → Tx}
theorem prt_mem (P : Nat) (l : List α) (p : Nat) (h : ownOf P key l p ≠ []) : ∀ k, p < k → (p, ownOf P key l p) ∈ prt P key l k
  | 0, hk => by omega
  | k + 1, hk => by
    rw [prt, List.mem_append]
    by_cases e : p = k
    · subst e; right; rw [if_neg h]; simp
    · left; exact prt_mem P l p h k (by omega)
/-- who has some is told -/
theorem Told.has {w : World} {P : Nat} {l : List α} {o : Option Addr} {c : Nat} {gs : List (GS α)} {w' : World} (h : Told E G key w P l o c gs w') (p : Nat) (hp : p < P) (hne : ownOf P key l p ≠ []) : ∃ j, j < gs.length ∧ (gs.getD j gs0).n = p := by
  have := prt_mem P l p hne P hp
  rw [← h.val, List.mem_map] at this
  obtain ⟨g, hg, e⟩ := this
  injection e with e1 e2
  obtain ⟨j, hj, ej⟩ := List.getElem_of_mem hg
  exact ⟨j, hj, by rw [List.getD_eq_getElem?_getD, List.getElem?_eq_getElem hj]; simp [ej, e1]⟩
theorem ownOf_at (P : Nat) (l : List α) (i : Nat) (d : α) (hi : i < l.length) : ownOf P key l (pl P (key (l.getD i d))) = ownOf P key (l.take i) (pl P (key (l.getD i d))) ++ l.getD i d :: ownOf P key (l.drop (i + 1)) (pl P (key (l.getD i d))) := by
  have e : l = l.take i ++ l.getD i d :: l.drop (i + 1) := by
    have h1 := List.take_append_drop i l
    rw [List.drop_eq_getElem_cons hi] at h1
    rw [List.getD_eq_getElem?_getD, List.getElem?_eq_getElem hi]
    exact h1.symm
  obtain ⟨x, hx⟩ : ∃ x, x = l.getD i d := ⟨_, rfl⟩
  rw [← hx] at e ⊢
  conv => lhs; rw [e]
  unfold ownOf
  rw [List.filter_append, List.filter_cons_of_pos (by simp)]
theorem ownOf_one (l : List α) : ownOf 1 key l 0 = l := by
  unfold ownOf
  rw [List.filter_eq_self]
  intro x _
  simp [pl, Nat.mod_one]

/-- what ShardDeals holds: the lists that are told, two rows of numbers -/
structure DS (w : World) (P : Nat) (xs : List Tx) (o : Option Addr) (c : Nat) (gs : List (GS Tx)) (ba bw : Nat) (A W : List Nat) (wr : World) : Prop where
  told : Told TE GE idT w P xs o c gs wr
  at_ : Own IE wr (some ⟨ba, 0, none⟩) P A
  whr : Own IE wr (some ⟨bw, 0, none⟩) P W
  ne : ba ≠ bw
  nA : w.heap.size ≤ ba
  nW : w.heap.size ≤ bw
  lA : A.length = P
  lW : W.length = P
theorem DS.keepsN {w : World} {P : Nat} {xs : List Tx} {o : Option Addr} {c : Nat} {gs : List (GS Tx)} {ba bw : Nat} {A W : List Nat} {wr w' : World} (h : DS w P xs o c gs ba bw A W wr) (k : Keeps no wr w') : DS w P xs o c gs ba bw A W w' :=
  ⟨h.told.keepsN k, h.at_.keepsN k, h.whr.keepsN k, h.ne, h.nA, h.nW, h.lA, h.lW⟩
theorem inO_some {b k : Nat} (h : inO (some ⟨b, 0, none⟩) k) : k = b := by
  obtain ⟨x, e, rfl⟩ := h; cases e; rfl
theorem Told.int {w : World} {P : Nat} {l : List α} {o : Option Addr} {c : Nat} {gs : List (GS α)} {wr w' : World} (h : Told E G key w P l o c gs wr) (hG : G.e ≠ IE.e) (hE : E.e ≠ IE.e) {b cI : Nat} {A : List Nat} (hI : Own IE wr (some ⟨b, 0, none⟩) cI A) (hb : w.heap.size ≤ b) (hk : Keeps (inO (some ⟨b, 0, none⟩)) wr w') : Told E G key w P l o c gs w' :=
  h.keeps hk (fun k h1 h2 => tags_ne hG h.own hI k h1 h2) (fun j hj k h1 h2 => tags_ne hE (h.each j hj) hI k h1 h2) (h.kp.then hk (fun i hi => .inr (by rw [inO_some hi]; exact hb)))
theorem DS.setA {w : World} {P : Nat} {xs : List Tx} {o : Option Addr} {c : Nat} {gs : List (GS Tx)} {ba bw : Nat} {A W : List Nat} {wr : World} (h : DS w P xs o c gs ba bw A W wr) (p v : Nat) (hp : p < P) :
    wr.cell? ⟨ba, p, none⟩ = some (.int .i64 (A.getD p 0 : Nat)) ∧ wr.frozen? ⟨ba, p, none⟩ = false ∧ DS w P xs o c gs ba bw (A.set p v) W (wr.setCell ⟨ba, p, none⟩ (.int .i64 (v : Nat))) := by
  obtain ⟨g, e, h1, h2, h3, h4⟩ := h.at_.store okI rfl (fun n => .int .i64 (n : Nat)) (fun _ => rfl) 0 p (by rw [h.lA]; exact hp) v
  cases e
  exact ⟨h1, h2, h.told.int (by decide) (by decide) h.at_ h.nA h4, h3, h.whr.keeps h4 (fun k h1 h2 => h.ne (by rw [← inO_some h2, inO_some h1])), h.ne, h.nA, h.nW, by simp [h.lA], h.lW⟩
theorem DS.setW {w : World} {P : Nat} {xs : List Tx} {o : Option Addr} {c : Nat} {gs : List (GS Tx)} {ba bw : Nat} {A W : List Nat} {wr : World} (h : DS w P xs o c gs ba bw A W wr) (p v : Nat) (hp : p < P) :
    wr.cell? ⟨bw, p, none⟩ = some (.int .i64 (W.getD p 0 : Nat)) ∧ wr.frozen? ⟨bw, p, none⟩ = false ∧ DS w P xs o c gs ba bw A (W.set p v) (wr.setCell ⟨bw, p, none⟩ (.int .i64 (v : Nat))) := by
  obtain ⟨g, e, h1, h2, h3, h4⟩ := h.whr.store okI rfl (fun n => .int .i64 (n : Nat)) (fun _ => rfl) 0 p (by rw [h.lW]; exact hp) v
  cases e
  exact ⟨h1, h2, h.told.int (by decide) (by decide) h.whr h.nW h4, h.at_.keeps h4 (fun k h1 h2 => h.ne (by rw [← inO_some h1, inO_some h2])), h3, h.ne, h.nA, h.nW, h.lA, by simp [h.lW]⟩
/-- the i-th part, as it lies -/
theorem Told.part {w : World} {P : Nat} {l : List α} {o : Option Addr} {c : Nat} {gs : List (GS α)} {wr : World} (h : Told E G key w P l o c gs wr) (hG : G.Ok) (hk : G.k = 2) (he : G.enc = GS.enc) (i : Nat) (hi : i < gs.length) :
    ∃ b N M oi ci, o = some ⟨b, 0, none⟩ ∧ wr.cell? ⟨b, i * 2, none⟩ = some (.int .i64 (N : Nat)) ∧ wr.cell? ⟨b, i * 2 + 1, none⟩ = some (.slice oi M ci) ∧ N < P ∧
      Hid (N = (gs.getD i gs0).n ∧ oi = (gs.getD i gs0).o ∧ ci = (gs.getD i gs0).c ∧ M = (ownOf P key l N).length ∧ ownOf P key l N ≠ [] ∧ (gs.getD i gs0).xs = ownOf P key l N ∧ Own E wr oi ci (ownOf P key l N)) := by
  obtain ⟨b, off, eo, d1, d2⟩ := h.own.sl.two hG hk gs0 hi _ _ (by rw [he]; rfl)
  have ho : off = 0 := by
    rcases h.own.shape with ⟨e, _⟩ | ⟨g, cur, e, _⟩
    · rw [e] at eo; cases eo
    · rw [e] at eo; cases eo; rfl
  subst ho
  rw [Nat.zero_add] at d1 d2
  obtain ⟨t1, t2, t3⟩ := h.top i hi
  refine ⟨b, _, _, _, _, eo, d1, d2, t1, rfl, rfl, rfl, by rw [t2], by rw [← t2]; exact t3, t2, by rw [← t2]; exact h.each i hi⟩
end Go.Proofs.Ytlpfoieoopjmgaa
