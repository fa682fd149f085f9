import Derived.Test.YtpfbbfbghldmjaaN1
namespace Go.Proofs.Ytpfbbfbghldmjaa
open Go.RowKit Go.Sort Orl
set_option linter.unusedVariables false
set_option linter.unusedSimpArgs false

theorem drop_getD {α : Type} (l : List α) (i : Nat) (d : α) (h : i < l.length) : l.drop i = l.getD i d :: l.drop (i + 1) := by
  rw [List.drop_eq_getElem_cons h]
  simp [List.getD_eq_getElem?_getD, h]
theorem set_mid {α : Type} : ∀ (l r : List α) (x y : α), (l ++ x :: r).set l.length y = l ++ y :: r
  | [], r, x, y => rfl
  | a :: l, r, x, y => by
    have := set_mid l r x y
    simp only [List.cons_append, List.length_cons, List.set_cons_succ, this]
theorem get_mid {α : Type} (l r : List α) (x d : α) : (l ++ x :: r).getD l.length d = x := by
  simp [List.getD_eq_getElem?_getD]

/-- the texts handed in, i of them written over -/
def fulL (A : List Tx) (i : Nat) : List Tx := (A.take i).map wLet ++ (A.drop i ++ [m1, m2])
theorem fulL_length (A : List Tx) (i : Nat) : (fulL A i).length = A.length + 2 := by
  simp [fulL]; omega
theorem fulL_zero (A : List Tx) : fulL A 0 = A ++ [m1, m2] := by simp [fulL]
theorem fulL_all (A : List Tx) : fulL A A.length = A.map wLet ++ [m1, m2] := by simp [fulL]
theorem fulL_set (A : List Tx) (i : Nat) (h : i < A.length) : (fulL A i).set i (wLet (A.getD i e0)) = fulL A (i + 1) := by
  have hl : ((A.take i).map wLet).length = i := by simp; omega
  have := set_mid ((A.take i).map wLet) (A.drop (i + 1) ++ [m1, m2]) (A.getD i e0) (wLet (A.getD i e0))
  rw [hl] at this
  unfold fulL
  rw [drop_getD A i e0 h, take_succ_getD A i e0 h, List.cons_append, this]
  simp
/-- the pairs handed in, i of them written over -/
def prX (A : List Tx) (i : Nat) : List Pr := (prs A tX).take i ++ ((prs A tV).drop i ++ [(m3, tE)])
theorem prX_length (A : List Tx) (i : Nat) (h : i ≤ A.length) : (prX A i).length = A.length + 1 := by
  simp [prX, prs_length]; omega
theorem prX_zero (A : List Tx) : prX A 0 = prs A tV ++ [(m3, tE)] := by simp [prX]
theorem prX_all (A : List Tx) : prX A A.length = prs A tX ++ [(m3, tE)] := by
  unfold prX
  rw [List.take_of_length_le (by rw [prs_length]; exact Nat.le_refl _), List.drop_of_length_le (by rw [prs_length]; exact Nat.le_refl _)]
  rfl
theorem prs_get (A : List Tx) (v : Tx) (k : Nat) (h : k < A.length) : (prs A v).getD k p0 = (A.getD (A.length - 1 - k) e0, v) := by
  simp only [prs, List.getD_eq_getElem?_getD, List.getElem?_map, List.getElem?_reverse h]
  rw [List.getElem?_eq_getElem (show A.length - 1 - k < A.length by omega)]
  rfl
theorem prX_get (A : List Tx) (i : Nat) (h : i < A.length) : (prX A i).getD i p0 = (A.getD (A.length - 1 - i) e0, tV) := by
  have hl : ((prs A tX).take i).length = i := by rw [List.length_take, prs_length]; omega
  have := get_mid ((prs A tX).take i) ((prs A tV).drop (i + 1) ++ [(m3, tE)]) ((prs A tV).getD i p0) p0
  rw [hl] at this
  unfold prX
  rw [drop_getD (prs A tV) i p0 (by rw [prs_length]; exact h), List.cons_append, this, prs_get A tV i h]
theorem prX_set (A : List Tx) (i : Nat) (h : i < A.length) : (prX A i).set i (((prX A i).getD i p0).1, tX) = prX A (i + 1) := by
  have hl : ((prs A tX).take i).length = i := by rw [List.length_take, prs_length]; omega
  rw [prX_get A i h]
  have := set_mid ((prs A tX).take i) ((prs A tV).drop (i + 1) ++ [(m3, tE)]) ((prs A tV).getD i p0) (A.getD (A.length - 1 - i) e0, tX)
  rw [hl] at this
  unfold prX
  rw [drop_getD (prs A tV) i p0 (by rw [prs_length]; exact h), List.cons_append]
  show List.set _ i (A.getD (A.length - 1 - i) e0, tX) = _
  rw [this, prs_take A tX i h]
  simp

theorem cells_P_set : ∀ (xs : List Pr) (j : Nat) (s : Tx), j < xs.length → PE.cells (xs.set j ((xs.getD j p0).1, s)) = (PE.cells xs).set (j * 2 + 1) (.string s)
  | [], j, s, h => by simp at h
  | x :: r, 0, s, _ => by simp [El.cells, PE]
  | x :: r, j + 1, s, h => by
    have ih := cells_P_set r j s (by simpa using h)
    have e : (j + 1) * 2 + 1 = (j * 2 + 1) + 1 + 1 := by omega
    rw [e]
    simp only [El.cells, PE, List.getD_cons_succ, List.set_cons_succ, List.flatMap_cons, List.cons_append, List.nil_append] at ih ⊢
    rw [ih]
theorem Own.storeT2 {w : World} {b off c : Nat} {xs : List Tx} (h : Own TE w (some ⟨b, off, none⟩) c xs) (j : Nat) (hj : j < xs.length) (s : Tx) :
    w.cell? ⟨b, off + j, none⟩ = some (.string (xs.getD j e0)) ∧ w.frozen? ⟨b, off + j, none⟩ = false ∧ Own TE (w.setCell ⟨b, off + j, none⟩ (.string s)) (some ⟨b, off, none⟩) c (xs.set j s) ∧ Keeps (inO (some ⟨b, off, none⟩)) w (w.setCell ⟨b, off + j, none⟩ (.string s)) := by
  obtain ⟨g, e, h1, h2, h3, h4⟩ := h.storeT j hj s
  cases e
  rw [Nat.zero_add]
  exact ⟨h1, h2, h3, h4⟩
theorem Own.storeP {w : World} {b off c : Nat} {xs : List Pr} (h : Own PE w (some ⟨b, off, none⟩) c xs) (j : Nat) (hj : j < xs.length) (s : Tx) :
    w.cell? ⟨b, off + j * 2 + 1, none⟩ = some (.string (xs.getD j p0).2) ∧ w.frozen? ⟨b, off + j * 2 + 1, none⟩ = false ∧ Own PE (w.setCell ⟨b, off + j * 2 + 1, none⟩ (.string s)) (some ⟨b, off, none⟩) c (xs.set j ((xs.getD j p0).1, s)) ∧ Keeps (inO (some ⟨b, off, none⟩)) w (w.setCell ⟨b, off + j * 2 + 1, none⟩ (.string s)) := by
  rcases h.shape with ⟨e, _⟩ | ⟨g, cur, e, hg, hc, hm, hs, ht⟩
  · cases e
  · cases e
    rw [Nat.zero_add]
    refine ⟨?_, frozen_of_blk hg _, ?_, (Keeps.refl _ _).setCell (.inl ⟨_, rfl, rfl⟩) _⟩
    · obtain ⟨b, off, e, _, h1⟩ := h.sl.atP hj
      cases e
      rw [Nat.zero_add] at h1
      exact h1
    · refine own_of_shape okP (blk_set hg _ _) (by simpa using hc) hm (by simp [hs]) ?_
      rw [cells_P_set xs j s hj, ← ht]
      simp only [Array.toList_setIfInBounds, List.length_set]
      rw [List.take_set]

/-- all that is held behind the great loop; i texts are written over -/
structure Fin (w : World) (A : List Tx) (NN : List Pr) (oA : Option Addr) (cA : Nat) (o6 : Option Addr) (c6 : Nat) (o8 : Option Addr) (c8 : Nat) (oL : Option Addr) (cL : Nat) (LL : List SlT) (oN : Option Addr) (cN : Nat) (NL : List SlP) (oW : Option Addr) (cW : Nat) (WL : List SlT) (i : Nat) (wr : World) : Prop where
  a : Own TE wr oA cA A
  full : Own TE wr o6 c6 (fulL A i)
  pairs : Own PE wr o8 c8 (prX A i)
  lots : Lots wr oL cL LL
  norms : Own YE wr oN cN NL
  eachN : ∀ j, j < NL.length → Own PE wr (NL.getD j sp0).o (NL.getD j sp0).c NN ∧ (NL.getD j sp0).xs = NN
  was : Own XE wr oW cW WL
  eachW : ∀ j, j < WL.length → Own TE wr (WL.getD j s0).o (WL.getD j s0).c (WL.getD j s0).xs ∧ (WL.getD j s0).xs = (LL.getD j s0).xs
  lenL : LL.length = 12
  lenW : WL.length = 12
  lenN : NL.length = 2
  sz : ∀ j, j < LL.length → (LL.getD j s0).xs.length ≤ 1000
  nA6 : ∀ k, inO oA k → ¬ inO o6 k
  nL6 : ∀ j, j < LL.length → ∀ k, inO (LL.getD j s0).o k → ¬ inO o6 k
  nW6 : ∀ j, j < WL.length → ∀ k, inO (WL.getD j s0).o k → ¬ inO o6 k
  nN8 : ∀ j, j < NL.length → ∀ k, inO (NL.getD j sp0).o k → ¬ inO o8 k
  n6 : New w o6
  n8 : New w o8
  nL : New w oL
  bL : ∀ j, j < LL.length → New w (LL.getD j s0).o
  kp : Keeps no w wr

section
variable {w : World} {A : List Tx} {NN : List Pr} {oA : Option Addr} {cA : Nat} {o6 : Option Addr} {c6 : Nat} {o8 : Option Addr} {c8 : Nat} {oL : Option Addr} {cL : Nat} {LL : List SlT} {oN : Option Addr} {cN : Nat} {NL : List SlP} {oW : Option Addr} {cW : Nat} {WL : List SlT} {i : Nat} {wr : World}
theorem Fin.keepsN {wd : World} (h : Fin w A NN oA cA o6 c6 o8 c8 oL cL LL oN cN NL oW cW WL i wr) (k : Keeps no wr wd) : Fin w A NN oA cA o6 c6 o8 c8 oL cL LL oN cN NL oW cW WL i wd :=
  ⟨h.a.keepsN k, h.full.keepsN k, h.pairs.keepsN k, h.lots.keepsN k, h.norms.keepsN k, fun j hj => ⟨(h.eachN j hj).1.keepsN k, (h.eachN j hj).2⟩, h.was.keepsN k, fun j hj => ⟨(h.eachW j hj).1.keepsN k, (h.eachW j hj).2⟩, h.lenL, h.lenW, h.lenN, h.sz, h.nA6, h.nL6, h.nW6, h.nN8, h.n6, h.n8, h.nL, h.bL, h.kp.trans k⟩
end
/-- one round: a text and a pair's value written over -/
theorem Fin.over {w : World} {A : List Tx} {NN : List Pr} {oA : Option Addr} {cA : Nat} {b6 off6 c6 : Nat} {b8 off8 c8 : Nat} {oL : Option Addr} {cL : Nat} {LL : List SlT} {oN : Option Addr} {cN : Nat} {NL : List SlP} {oW : Option Addr} {cW : Nat} {WL : List SlT} {i : Nat} {wr : World}
    (h : Fin w A NN oA cA (some ⟨b6, off6, none⟩) c6 (some ⟨b8, off8, none⟩) c8 oL cL LL oN cN NL oW cW WL i wr) (hi : i < A.length) (s : Tx) (hs : s = wLet (A.getD i e0)) :
    (wr.cell? ⟨b6, off6 + i, none⟩ = some (.string ((fulL A i).getD i e0)) ∧ wr.frozen? ⟨b6, off6 + i, none⟩ = false) ∧
    ((wr.setCell ⟨b6, off6 + i, none⟩ (.string s)).cell? ⟨b8, off8 + i * 2 + 1, none⟩ = some (.string tV) ∧ (wr.setCell ⟨b6, off6 + i, none⟩ (.string s)).frozen? ⟨b8, off8 + i * 2 + 1, none⟩ = false) ∧
    Fin w A NN oA cA (some ⟨b6, off6, none⟩) c6 (some ⟨b8, off8, none⟩) c8 oL cL LL oN cN NL oW cW WL (i + 1) ((wr.setCell ⟨b6, off6 + i, none⟩ (.string s)).setCell ⟨b8, off8 + i * 2 + 1, none⟩ (.string tX)) := by
  subst hs
  obtain ⟨c1, f1, o1, k1⟩ := h.full.storeT2 i (by rw [fulL_length]; omega) (wLet (A.getD i e0))
  rw [fulL_set A i hi] at o1
  have kP : Own PE (wr.setCell ⟨b6, off6 + i, none⟩ (.string (wLet (A.getD i e0)))) (some ⟨b8, off8, none⟩) c8 (prX A i) := h.pairs.keeps k1 (tags_ne (by decide) h.pairs h.full)
  obtain ⟨c2, f2, o2, k2⟩ := kP.storeP i (by rw [prX_length A i (by omega)]; omega) tX
  rw [prX_set A i hi] at o2
  rw [prX_get A i hi] at c2
  have La := h.lots.keeps k1 (tags_ne (by decide) h.lots.own h.full) h.nL6
  have Na : ∀ j, j < NL.length → Own PE (wr.setCell ⟨b6, off6 + i, none⟩ (.string (wLet (A.getD i e0)))) (NL.getD j sp0).o (NL.getD j sp0).c NN := fun j hj => (h.eachN j hj).1.keeps k1 (tags_ne (by decide) (h.eachN j hj).1 h.full)
  have Wa : ∀ j, j < WL.length → Own TE (wr.setCell ⟨b6, off6 + i, none⟩ (.string (wLet (A.getD i e0)))) (WL.getD j s0).o (WL.getD j s0).c (WL.getD j s0).xs := fun j hj => (h.eachW j hj).1.keeps k1 (h.nW6 j hj)
  have Aa := h.a.keeps k1 h.nA6
  have Ya := h.norms.keeps k1 (tags_ne (by decide) h.norms h.full)
  have Xa := h.was.keeps k1 (tags_ne (by decide) h.was h.full)
  refine ⟨⟨c1, f1⟩, ⟨c2, f2⟩, ⟨Aa.keeps k2 (tags_ne (by decide) Aa kP), o1.keeps k2 (tags_ne (by decide) o1 kP), o2, La.keeps k2 (tags_ne (by decide) La.own kP) (fun j hj => tags_ne (by decide) (La.each j hj) kP), Ya.keeps k2 (tags_ne (by decide) Ya kP), fun j hj => ⟨(Na j hj).keeps k2 (h.nN8 j hj), (h.eachN j hj).2⟩, Xa.keeps k2 (tags_ne (by decide) Xa kP), fun j hj => ⟨(Wa j hj).keeps k2 (tags_ne (by decide) (Wa j hj) kP), (h.eachW j hj).2⟩, h.lenL, h.lenW, h.lenN, h.sz, h.nA6, h.nL6, h.nW6, h.nN8, h.n6, h.n8, h.nL, h.bL, ?_⟩⟩
  exact (h.kp.then k1 (fun k hk => .inr (h.n6 k hk))).then k2 (fun k hk => .inr (h.n8 k hk))

/-- what the loop of 'was' holds -/
structure WasSt (wz : World) (LL : List SlT) (i : Nat) (oW : Option Addr) (mW cW : Nat) (WL : List SlT) (wr : World) : Prop where
  own : Own XE wr oW cW WL
  hm : mW = WL.length
  len : WL.length = i
  each : ∀ j, j < WL.length → Own TE wr (WL.getD j s0).o (WL.getD j s0).c (WL.getD j s0).xs ∧ (WL.getD j s0).xs = (LL.getD j s0).xs ∧ New wz (WL.getD j s0).o
  newW : New wz oW
  kp : Keeps no wz wr
theorem was_nil (wz : World) (LL : List SlT) : WasSt wz LL 0 none 0 0 [] wz :=
  ⟨own_nil _, rfl, rfl, fun j hj => absurd hj (Nat.not_lt_zero _), new_none _, Keeps.refl _ _⟩
theorem WasSt.push {wz : World} {LL : List SlT} {i : Nat} {oW : Option Addr} {mW cW : Nat} {WL : List SlT} {wr v1 x1 : World} (h : WasSt wz LL i oW mW cW WL wr) {p : Option Addr} {d : Nat} {xs : List Tx} (hp : Own TE v1 p d xs) (hn : New wr p) (hk : Keeps no wr v1) (hx : xs = (LL.getD i s0).xs) {ob : Obj} {oW' : Option Addr} {cW' : Nat} (ho : Own XE x1 oW' cW' (WL ++ [⟨p, d, xs⟩])) (hap : Ap (v1.alloc ob) oW oW' x1) :
    WasSt wz LL (i + 1) oW' (mW + 1) cW' (WL ++ [⟨p, d, xs⟩]) x1 := by
  have ka : Keeps no wr (v1.alloc ob) := hk.alloc _
  have hX : Own XE (v1.alloc ob) oW cW WL := h.own.keepsN ka
  have n1 := hap.new (w0 := wz) h.newW (h.kp.trans ka)
  refine ⟨ho, by rw [List.length_append, h.hm]; rfl, by rw [List.length_append, h.len]; rfl, ?_, n1.1, n1.2⟩
  intro j hj
  rw [List.length_append] at hj
  rw [getD_append]
  by_cases e : j < WL.length
  · rw [if_pos e]
    have h1 := h.each j e
    have h2 := h1.1.keepsN ka
    exact ⟨h2.keeps hap.kp (tags_ne (by decide) h2 hX), h1.2⟩
  · rw [if_neg e]
    have e2 : j = i := by have := h.len; simp at hj; omega
    have : j - WL.length = 0 := by have := h.len; omega
    rw [this, e2]
    have h2 : Own TE (v1.alloc ob) p d xs := hp.keepsN ((Keeps.refl _ _).alloc _)
    exact ⟨h2.keeps hap.kp (tags_ne (by decide) h2 hX), hx, hn.of_le h.kp.size⟩

theorem tl_le {A Bq : List Tx} {L1 : List Tx} (hA : A.length ≤ 300) (hB : Bq.length ≤ 300) (h1 : (if valK A then isT A else []) = L1) (j : Nat) :
    ([L1, mg lts true true true A Bq, mg lts false true false A Bq, mg lts true false false A Bq, mg lts true true true Bq [tZ], A.reverse].getD j []).length ≤ 1000 := by
  have l1 : L1.length ≤ 300 := by
    rw [← h1]
    split
    · rw [isT_length]; exact hA
    · simp
  have l2 := mg_length_le (lt := lts) true true true A Bq
  have l3 := mg_length_le (lt := lts) false true false A Bq
  have l4 := mg_length_le (lt := lts) true false false A Bq
  have l5 := mg_length_le (lt := lts) true true true Bq [tZ]
  have l6 : [tZ].length = 1 := rfl
  rcases j with _ | _ | _ | _ | _ | _ | j
  · show L1.length ≤ _; omega
  · show (mg lts true true true A Bq).length ≤ _; omega
  · show (mg lts false true false A Bq).length ≤ _; omega
  · show (mg lts true false false A Bq).length ≤ _; omega
  · show (mg lts true true true Bq [tZ]).length ≤ _; omega
  · show A.reverse.length ≤ _; rw [List.length_reverse]; omega
  · show ([] : List Tx).length ≤ _; simp

theorem fin_of {w w8 wz wr : World} {A Bq : List Tx} {NN : List Pr} {oA : Option Addr} {nA cA : Nat} {oB : Option Addr} {nB cB : Nat} {o6 : Option Addr} {c6 : Nat} {o8 : Option Addr} {c8 : Nat} {oL : Option Addr} {mL cL : Nat} {LL : List SlT} {oN : Option Addr} {mN cN : Nat} {NL : List SlP} {oW : Option Addr} {mW cW : Nat} {WL : List SlT} {TL : List (List Tx)}
    (h0 : Set0 w w8 A Bq oA nA cA oB nB cB) (h6 : Own TE w8 o6 c6 (A ++ [m1, m2])) (n6 : New w o6) (h8 : Own PE w8 o8 c8 (prs A tV ++ [(m3, tE)])) (n8 : New w o8) (hA6 : ∀ k, inO oA k → ¬ inO o6 k)
    (hm : MemSt w8 TL NN 2 oL mL cL LL oN mN cN NL wz) (hTL : ∀ j, (TL.getD j []).length ≤ 1000) (hw : WasSt wz LL 12 oW mW cW WL wr) :
    Fin w A NN oA cA o6 c6 o8 c8 oL cL LL oN cN NL oW cW WL 0 wr := by
  have k8 : Keeps no w8 wr := hm.kp.trans hw.kp
  have l6 := h6.lt
  have l8 := h8.lt
  have z1 := h0.kp.size
  have z2 := hm.kp.size
  refine ⟨h0.ownA.keepsN k8, ?_, ?_, hm.lots.keepsN hw.kp, hm.ownN.keepsN hw.kp, fun j hj => ⟨(hm.eachN j hj).1.keepsN hw.kp, (hm.eachN j hj).2.1⟩, hw.own, fun j hj => ⟨(hw.each j hj).1, (hw.each j hj).2.1⟩, hm.len, hw.len, hm.lenN, ?_, hA6, ?_, ?_, ?_, n6, n8, hm.newL.of_le z1, ?_, h0.kp.trans k8⟩
  · rw [fulL_zero]; exact h6.keepsN k8
  · rw [prX_zero]; exact h8.keepsN k8
  · intro j hj; rw [hm.cont j hj]; exact hTL _
  · intro j hj k h1 h2
    have := hm.born j hj k h1
    have := l6 k h2
    omega
  · intro j hj k h1 h2
    have := (hw.each j hj).2.2 k h1
    have := l6 k h2
    omega
  · intro j hj k h1 h2
    have := (hm.eachN j hj).2.2 k h1
    have := l8 k h2
    omega
  · intro j hj k h1
    have := hm.born j hj k h1
    omega

/-- behind the last append: thirteen lists, each by itself, all new -/
theorem Fin.last {w wf wq x1 : World} {A : List Tx} {NN : List Pr} {oA : Option Addr} {cA : Nat} {o6 : Option Addr} {c6 : Nat} {o8 : Option Addr} {c8 : Nat} {oL : Option Addr} {cL : Nat} {LL : List SlT} {oN : Option Addr} {cN : Nat} {NL : List SlP} {oW : Option Addr} {cW : Nat} {WL : List SlT} {i : Nat}
    (h : Fin w A NN oA cA o6 c6 o8 c8 oL cL LL oN cN NL oW cW WL i wf) (hk : Keeps no wf wq) {p : Option Addr} {d : Nat} {xs : List Tx} (hp : Own TE wq p d xs) (hn : New wf p) (hl : xs.length ≤ 1000) {ob : Obj} {oL' : Option Addr} {cL' : Nat} (ho : Own XE x1 oL' cL' (LL ++ [⟨p, d, xs⟩])) (hap : Ap (wq.alloc ob) oL oL' x1) :
    Lots x1 oL' cL' (LL ++ [⟨p, d, xs⟩]) ∧ (∀ j, j < 13 → ((LL ++ [(⟨p, d, xs⟩ : SlT)]).getD j s0).xs.length ≤ 2000) ∧ New w oL' ∧ (∀ j, j < 13 → New w ((LL ++ [(⟨p, d, xs⟩ : SlT)]).getD j s0).o) ∧ Keeps no w x1 := by
  have ka : Keeps no wf (wq.alloc ob) := hk.alloc _
  have hL := h.lots.keepsN ka
  have n1 := hap.new (w0 := w) h.nL (h.kp.trans ka)
  refine ⟨?_, ?_, n1.1, ?_, n1.2⟩
  · refine hL.push [⟨p, d, xs⟩] ?_ ?_ ?_ ho hap
    · intro j hj
      have : j = 0 := by simp at hj; omega
      subst this
      exact hp.keepsN ((Keeps.refl _ _).alloc _)
    · intro i j hij hj
      simp at hj; omega
    · intro i j hi hj k h1 h2
      have : j = 0 := by simp at hj; omega
      subst this
      have a1 := (h.lots.each i hi).lt k h1
      have a2 := hn k h2
      omega
  · intro j hj
    rw [getD_append]
    split
    · rename_i e
      have := h.sz j e; omega
    · have e : j - LL.length = 0 := by have := h.lenL; omega
      rw [e]
      show xs.length ≤ _
      omega
  · intro j hj
    rw [getD_append]
    split
    · rename_i e
      exact h.bL j e
    · have e : j - LL.length = 0 := by have := h.lenL; omega
      rw [e]
      exact hn.of_le h.kp.size

theorem valP_x (A : List Tx) : valP (prs A tX) = valP (prs A tV) := by
  have e : ∀ v : Tx, v.size ≤ 65535 → valP (prs A v) = valK A.reverse := by
    intro v hv
    rw [valP_of]
    · congr 1
      simp [kys, prs, List.map_map, Function.comp_def]
    · intro j hj
      rw [prs_length] at hj
      rw [prs_get A v j hj]
      exact hv
  rw [e tX (by decide), e tV (by decide)]
theorem nrm_val (A : List Tx) (v : Tx) (h : 0 < A.length) : ((nrm (prs A v)).getD 0 p0).2 = v := by
  have hm : (nrm (prs A v)).getD 0 p0 ∈ nrm (prs A v) := getD_mem_lt p0 (by rw [nrm_length, prs_length]; exact h)
  have := (nrm_perm (prs A v)).mem_iff.1 hm
  simp only [prs, List.mem_map] at this
  obtain ⟨x, _, e⟩ := this
  exact (congrArg Prod.snd e).symm
theorem nrm_prs_length (A : List Tx) (v : Tx) : (nrm (prs A v)).length = A.length := by rw [nrm_length, prs_length]
theorem fitsP_prs {A : List Tx} (h : ∀ x ∈ A, x.size ≤ maxLen) (v : Tx) (hv : v.size ≤ 100) : FitsP (prs A v) := by
  intro p hp
  simp only [prs, List.mem_map, List.mem_reverse] at hp
  obtain ⟨x, hx, rfl⟩ := hp
  exact ⟨h x hx, by show v.size ≤ maxLen; unfold maxLen; omega⟩
theorem mg_nilr (l : List Tx) : mg lts true true true l [] = l := by rw [mg_nil2]; rfl
theorem full_marks (A : List Tx) : (fulL A 0).getD A.length e0 = m1 ∧ (fulL A 0).getD (A.length + 1) e0 = m2 := by
  rw [fulL_zero]
  constructor
  · exact get_mid A [m2] m1 e0
  · have := get_mid (A ++ [m1]) [] m2 e0
    rw [List.length_append, List.append_assoc] at this
    exact this
theorem prX_marks (A : List Tx) (h : 0 < A.length) : ((prX A 0).getD A.length p0).1 = m3 ∧ ((prX A 0).getD 0 p0).1 = A.getD (A.length - 1) e0 := by
  constructor
  · rw [prX_zero]
    have := get_mid (prs A tV) [] (m3, tE) p0
    rw [prs_length] at this
    rw [this]
  · rw [prX_get A 0 h]; rfl
section
variable {w : World} {b off c : Nat}
theorem Sl.atS {xs : List Tx} (h : Sl TE w (some ⟨b, off, none⟩) c xs) {j : Nat} (hj : j < xs.length) : w.cell? ⟨b, off + j, none⟩ = some (.string (xs.getD j e0)) := by
  obtain ⟨_, _, e, h1⟩ := h.at hj
  cases e
  exact h1
theorem Sl.atPS {xs : List Pr} (h : Sl PE w (some ⟨b, off, none⟩) c xs) {j : Nat} (hj : j < xs.length) : w.cell? ⟨b, off + j * 2, none⟩ = some (.string (xs.getD j p0).1) ∧ w.cell? ⟨b, off + j * 2 + 1, none⟩ = some (.string (xs.getD j p0).2) := by
  obtain ⟨_, _, e, h1, h2⟩ := h.atP hj
  cases e
  exact ⟨h1, h2⟩
theorem Sl.atXS {xs : List SlT} (h : Sl XE w (some ⟨b, off, none⟩) c xs) {j : Nat} (hj : j < xs.length) : w.cell? ⟨b, off + j, none⟩ = some (.slice (xs.getD j s0).o (xs.getD j s0).xs.length (xs.getD j s0).c) := by
  obtain ⟨_, _, e, h1⟩ := h.atX hj
  cases e
  exact h1
theorem Sl.atYS {xs : List SlP} (h : Sl YE w (some ⟨b, off, none⟩) c xs) {j : Nat} (hj : j < xs.length) : w.cell? ⟨b, off + j, none⟩ = some (.slice (xs.getD j sp0).o (xs.getD j sp0).xs.length (xs.getD j sp0).c) := by
  obtain ⟨_, _, e, h1⟩ := h.atY hj
  cases e
  exact h1
end
theorem Own.adr {α : Type} {E : El α} {w : World} {o : Option Addr} {c : Nat} {xs : List α} (h : Own E w o c xs) (hp : 0 < xs.length) : ∃ b off, o = some ⟨b, off, none⟩ := by
  rcases h.shape with ⟨_, _, e⟩ | ⟨g, cur, e, _⟩
  · rw [e] at hp; simp at hp
  · exact ⟨g, 0, e⟩
theorem Sl.pre {α : Type} {E : El α} (hE : E.Ok) {w : World} {o : Option Addr} {c : Nat} {xs ys : List α} (h : Sl E w o c (xs ++ ys)) : Sl E w o c xs := by
  refine ⟨?_, ?_, h.nil⟩
  · have := h.row.take hE xs.length
    rwa [List.take_append_of_le_length (Nat.le_refl _), List.take_of_length_le (Nat.le_refl _)] at this
  · have := h.cap
    rw [List.length_append] at this
    omega
end Go.Proofs.Ytpfbbfbghldmjaa
