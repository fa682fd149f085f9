import Derived.Test.YtgamhblkgojapaaDoorGV
import Derived.Test.YtgamhblkgojapaaDoorGT1
/- WalMemory: two lists of records told, their first records' lists written over and lengthened. -/
namespace Go.Proofs.YtgamhblkgojapaaDoor
open Go.RowKit Pk Dk
set_option linter.unusedVariables false
set_option linter.unusedSimpArgs false

theorem Own.setE {α : Type} {E : El α} {w : World} {g c : Nat} {xs xs' : List α} (h : Own E w (some ⟨g, 0, none⟩) c xs) (j : Nat) (u : Value) (hl : xs'.length = xs.length) (he : E.cells xs' = (E.cells xs).set j u) : Own E (w.setCell ⟨g, j, none⟩ u) (some ⟨g, 0, none⟩) c xs' := by
  have := (World.ownsRow.stored h j u).1
  unfold Own
  rw [hl, he]
  exact this
theorem cells_TEset : ∀ (xs : List Tx) (j : Nat) (s : Tx), TE.cells (xs.set j s) = (TE.cells xs).set j (.string s)
  | [], j, s => rfl
  | x :: r, 0, s => rfl
  | x :: r, j + 1, s => by
    rw [List.set_cons_succ]
    show Value.string x :: TE.cells (r.set j s) = _
    rw [cells_TEset r j s]
    rfl
theorem cells_PEset2 : ∀ (xs : List Pr) (j : Nat) (t : Tx), j < xs.length → PE.cells (xs.set j ((xs.getD j p0).1, t)) = (PE.cells xs).set (j * 2 + 1) (.string t)
  | [], j, t, h => by simp at h
  | x :: r, 0, t, h => rfl
  | x :: r, j + 1, t, h => by
    rw [List.set_cons_succ, List.getD_cons_succ]
    show Value.string x.1 :: Value.string x.2 :: PE.cells (r.set j _) = _
    rw [cells_PEset2 r j t (by simpa using h), show (j + 1) * 2 + 1 = (j * 2 + 1) + 1 + 1 by omega]
    rfl
theorem Got.keepsS {S : Nat → Prop} {w w' w'' : World} {v : CV} {r : Rec} (h : Got w w' v r) (hk : Keeps S w' w'') (hS : ∀ k, w.heap.size ≤ k → ¬ S k) : Got w w'' v r :=
  ⟨h.k, h.i, h.np, h.nk, h.ps.keeps hk (fun j hj => hS j (h.pn j hj)), h.ks.keeps hk (fun j hj => hS j (h.kn j hj)), h.pn, h.kn, h.fit⟩
theorem Got.keepsT {S : Nat → Prop} {w w' w'' : World} {v : CV} {r : Rec} (h : Got w w' v r) (hk : Keeps S w' w'') (hS : ∀ k, w.heap.size ≤ k → v.blk k → ¬ S k) : Got w w'' v r :=
  ⟨h.k, h.i, h.np, h.nk, h.ps.keeps hk (fun j hj => hS j (h.pn j hj) (.inl hj)), h.ks.keeps hk (fun j hj => hS j (h.kn j hj) (.inr hj)), h.pn, h.kn, h.fit⟩
structure BagS where
  o : Option Addr
  c : Nat
  v : CV
  v1 : CV
  tl : List CV
  ks : List Tx
  ps : List Pr
structure Bag (S : Nat → Prop) (W : World) (x : BagS) : Prop where
  own : Own CE W x.o x.c (x.v :: x.v1 :: x.tl)
  k : Own TE W x.v.ok x.v.ck x.ks
  p : Own PE W x.v.op x.v.cp x.ps
  nk : x.v.nk = x.ks.length
  np : x.v.np = x.ps.length
  so : ∀ k, inO x.o k → S k
  sk : ∀ k, inO x.v.ok k → S k
  sp : ∀ k, inO x.v.op k → S k
  lt : ∀ k, S k → k < W.heap.size
theorem Bag.keeps {S T : Nat → Prop} {W W' : World} {x : BagS} (h : Bag S W x) (hk : Keeps T W W') (hT : ∀ k, S k → ¬ T k) : Bag S W' x :=
  ⟨h.own.keeps hk (fun k hk1 => hT k (h.so k hk1)), h.k.keeps hk (fun k hk1 => hT k (h.sk k hk1)), h.p.keeps hk (fun k hk1 => hT k (h.sp k hk1)), h.nk, h.np, h.so, h.sk, h.sp, fun k hk1 => Nat.lt_of_lt_of_le (h.lt k hk1) hk.size⟩
/-- blocks of unlike kinds -/
theorem own_apart {α β : Type} {E : El α} {E' : El β} {w : World} {o o' : Option Addr} {c c' : Nat} {xs : List α} {ys : List β} (h : Own E w o c xs) (h' : Own E' w o' c' ys) (hne : E.e ≠ E'.e) : ∀ k, inO o k → ¬ inO o' k := by
  rintro k ⟨x, rfl, hx⟩ ⟨y, rfl, hy⟩
  rcases h.shape with ⟨e, _⟩ | ⟨g, cur, e, hb, _⟩
  · cases e
  · rcases h'.shape with ⟨e', _⟩ | ⟨g', cur', e', hb', _⟩
    · cases e'
    · cases e; cases e'
      simp only at hx hy
      subst hx; subst hy
      rw [hb] at hb'
      injection hb' with hb'
      injection hb' with _ hb' _
      exact hne hb'
theorem Own.at1 {α : Type} {E : El α} {w : World} {o : Option Addr} {c : Nat} {xs : List α} (h : Own E w o c xs) (hn : xs ≠ []) : ∃ g cur, o = some ⟨g, 0, none⟩ ∧ w.heap[g]? = some (.cells cur E.e (0, 0)) ∧ cur.size = c * E.k ∧ xs.length ≤ c := by
  rcases h.shape with ⟨_, _, e⟩ | ⟨g, cur, e, hb, h1, h2, h3, h4⟩
  · exact absurd e hn
  · exact ⟨g, cur, e, hb, h3, h1⟩
theorem Bag.ck {S : Nat → Prop} {W : World} {x : BagS} (h : Bag S W x) : ∀ k, inO x.o k → ¬ inO x.v.ok k := own_apart h.own h.k (by decide)
theorem Bag.cp {S : Nat → Prop} {W : World} {x : BagS} (h : Bag S W x) : ∀ k, inO x.o k → ¬ inO x.v.op k := own_apart h.own h.p (by decide)
theorem Bag.kp {S : Nat → Prop} {W : World} {x : BagS} (h : Bag S W x) : ∀ k, inO x.v.ok k → ¬ inO x.v.op k := own_apart h.k h.p (by decide)
/-- a key written over -/
theorem Bag.setK {S : Nat → Prop} {W : World} {x : BagS} (h : Bag S W x) {q : Nat} (hq : q < x.ks.length) :
    ∃ g, x.v.ok = some ⟨g, 0, none⟩ ∧ (∃ u, W.cell? ⟨g, q, none⟩ = some u) ∧ W.frozen? ⟨g, q, none⟩ = false ∧ S g ∧ ∀ s, Bag S (W.setCell ⟨g, q, none⟩ (.string s)) { x with ks := x.ks.set q s } ∧ Keeps S W (W.setCell ⟨g, q, none⟩ (.string s)) := by
  obtain ⟨g, cur, e, hb, hs, hl⟩ := h.k.at1 (by intro e; rw [e] at hq; simp at hq)
  have hg : inO x.v.ok g := ⟨_, e, rfl⟩
  refine ⟨g, e, ⟨_, by rw [cell_of_blk hb]; exact Array.getElem?_eq_getElem (by rw [hs]; simp [TE]; omega)⟩, frozen_of_blk hb q, h.sk g hg, fun s => ?_⟩
  have hk := keeps_setG W g q (.string s)
  refine ⟨⟨h.own.keeps hk (fun k h1 e1 => by subst e1; exact h.ck k h1 hg), ?_, h.p.keeps hk (fun k h1 e1 => by subst e1; exact h.kp k hg h1), by rw [List.length_set]; exact h.nk, h.np, h.so, h.sk, h.sp, fun k h1 => Nat.lt_of_lt_of_le (h.lt k h1) hk.size⟩, hk.mono (fun k e1 => by subst e1; exact h.sk k hg)⟩
  have h1 := h.k
  rw [e] at h1
  show Own TE _ x.v.ok _ _
  rw [e]
  exact h1.setE q (.string s) (List.length_set) (cells_TEset ..)
/-- a value written over -/
theorem Bag.setP {S : Nat → Prop} {W : World} {x : BagS} (h : Bag S W x) {q : Nat} (hq : q < x.ps.length) :
    ∃ g, x.v.op = some ⟨g, 0, none⟩ ∧ (∃ u, W.cell? ⟨g, q * 2 + 1, none⟩ = some u) ∧ W.frozen? ⟨g, q * 2 + 1, none⟩ = false ∧ S g ∧ ∀ s, Bag S (W.setCell ⟨g, q * 2 + 1, none⟩ (.string s)) { x with ps := x.ps.set q ((x.ps.getD q p0).1, s) } ∧ Keeps S W (W.setCell ⟨g, q * 2 + 1, none⟩ (.string s)) := by
  obtain ⟨g, cur, e, hb, hs, hl⟩ := h.p.at1 (by intro e; rw [e] at hq; simp at hq)
  have hg : inO x.v.op g := ⟨_, e, rfl⟩
  refine ⟨g, e, ⟨_, by rw [cell_of_blk hb]; exact Array.getElem?_eq_getElem (by rw [hs]; simp [PE]; omega)⟩, frozen_of_blk hb _, h.sp g hg, fun s => ?_⟩
  have hk := keeps_setG W g (q * 2 + 1) (.string s)
  refine ⟨⟨h.own.keeps hk (fun k h1 e1 => by subst e1; exact h.cp k h1 hg), h.k.keeps hk (fun k h1 e1 => by subst e1; exact h.kp k h1 hg), ?_, h.nk, by rw [List.length_set]; exact h.np, h.so, h.sk, h.sp, fun k h1 => Nat.lt_of_lt_of_le (h.lt k h1) hk.size⟩, hk.mono (fun k e1 => by subst e1; exact h.sp k hg)⟩
  have h1 := h.p
  rw [e] at h1
  show Own PE _ x.v.op _ _
  rw [e]
  exact h1.setE (q * 2 + 1) (.string s) (List.length_set) (cells_PEset2 _ _ _ hq)
theorem ap_keeps {w w' : World} {o o' : Option Addr} (h : Ap w o o' w') : Keeps (inO o) w w' := by
  rcases h with ⟨_, h⟩ | ⟨_, h⟩
  · exact h
  · exact h.of_no
theorem ap_in {w w' : World} {o o' : Option Addr} (h : Ap w o o' w') {k : Nat} (hk : inO o' k) : inO o k ∨ w.heap.size ≤ k := by
  rcases h with ⟨e, _⟩ | ⟨⟨g, e, hg⟩, _⟩
  · rw [e] at hk; exact .inl hk
  · rw [e] at hk; obtain ⟨y, ey, rfl⟩ := hk; cases ey; exact .inr hg
/-- a key more -/
theorem Bag.appK {S : Nat → Prop} {W W' : World} {x : BagS} (h : Bag S W x) {o' : Option Addr} {c' : Nat} {s : Tx} (ho : Own TE W' o' c' (x.ks ++ [s])) (hap : Ap W x.v.ok o' W') :
    ∃ g, x.o = some ⟨g, 0, none⟩ ∧ (∃ u, W'.cell? ⟨g, 3, none⟩ = some u) ∧ W'.frozen? ⟨g, 3, none⟩ = false ∧ S g ∧ Bag (grow S W W') (W'.setCell ⟨g, 3, none⟩ (.slice o' (x.v.nk + 1) c')) { x with v := { x.v with ok := o', nk := x.v.nk + 1, ck := c' }, ks := x.ks ++ [s] } ∧ Keeps S W (W'.setCell ⟨g, 3, none⟩ (.slice o' (x.v.nk + 1) c')) := by
  have hK := ap_keeps hap
  have hown' : Own CE W' x.o x.c (x.v :: x.v1 :: x.tl) := h.own.keeps hK (fun k h1 h2 => h.ck k h1 h2)
  have hp' : Own PE W' x.v.op x.v.cp x.ps := h.p.keeps hK (fun k h1 h2 => h.kp k h2 h1)
  obtain ⟨g, cur, e, hb, hs, hl⟩ := hown'.at1 (by simp)
  have hg : inO x.o g := ⟨_, e, rfl⟩
  have hk := keeps_setG W' g 3 (.slice o' (x.v.nk + 1) c')
  refine ⟨g, e, ⟨_, by rw [cell_of_blk hb]; exact Array.getElem?_eq_getElem (by rw [hs]; simp [CE] at hl ⊢; omega)⟩, frozen_of_blk hb _, h.so g hg, ⟨?_, ?_, ?_, by simp [h.nk], h.np, fun k h1 => .inl (h.so k h1), ?_, fun k h1 => .inl (h.sp k h1), ?_⟩, ?_⟩
  · rw [e] at hown'
    show Own CE _ x.o _ _
    rw [e]
    exact hown'.setE 3 _ rfl rfl
  · exact ho.keeps hk (fun k h1 e1 => own_apart hown' ho (by decide) k (by subst e1; exact hg) h1)
  · exact hp'.keeps hk (fun k h1 e1 => own_apart hown' hp' (by decide) k (by subst e1; exact hg) h1)
  · intro k h1
    rcases ap_in hap h1 with h2 | h2
    · exact .inl (h.sk k h2)
    · exact .inr ⟨h2, ho.lt k h1⟩
  · intro k h1
    refine Nat.lt_of_lt_of_le ?_ hk.size
    rcases h1 with h1 | h1
    · exact Nat.lt_of_lt_of_le (h.lt k h1) hK.size
    · exact h1.2
  · exact (hK.mono (fun k h1 => h.sk k h1)).then hk (fun k e1 => .inl (by subst e1; exact h.so k hg))
/-- a pair more -/
theorem Bag.appP {S : Nat → Prop} {W W' : World} {x : BagS} (h : Bag S W x) {o' : Option Addr} {c' : Nat} {s : Pr} (ho : Own PE W' o' c' (x.ps ++ [s])) (hap : Ap W x.v.op o' W') :
    ∃ g, x.o = some ⟨g, 0, none⟩ ∧ (∃ u, W'.cell? ⟨g, 2, none⟩ = some u) ∧ W'.frozen? ⟨g, 2, none⟩ = false ∧ S g ∧ Bag (grow S W W') (W'.setCell ⟨g, 2, none⟩ (.slice o' (x.v.np + 1) c')) { x with v := { x.v with op := o', np := x.v.np + 1, cp := c' }, ps := x.ps ++ [s] } ∧ Keeps S W (W'.setCell ⟨g, 2, none⟩ (.slice o' (x.v.np + 1) c')) := by
  have hK := ap_keeps hap
  have hown' : Own CE W' x.o x.c (x.v :: x.v1 :: x.tl) := h.own.keeps hK (fun k h1 h2 => h.cp k h1 h2)
  have hk' : Own TE W' x.v.ok x.v.ck x.ks := h.k.keeps hK (fun k h1 h2 => h.kp k h1 h2)
  obtain ⟨g, cur, e, hb, hs, hl⟩ := hown'.at1 (by simp)
  have hg : inO x.o g := ⟨_, e, rfl⟩
  have hk := keeps_setG W' g 2 (.slice o' (x.v.np + 1) c')
  refine ⟨g, e, ⟨_, by rw [cell_of_blk hb]; exact Array.getElem?_eq_getElem (by rw [hs]; simp [CE] at hl ⊢; omega)⟩, frozen_of_blk hb _, h.so g hg, ⟨?_, ?_, ?_, h.nk, by simp [h.np], fun k h1 => .inl (h.so k h1), fun k h1 => .inl (h.sk k h1), ?_, ?_⟩, ?_⟩
  · rw [e] at hown'
    show Own CE _ x.o _ _
    rw [e]
    exact hown'.setE 2 _ rfl rfl
  · exact hk'.keeps hk (fun k h1 e1 => own_apart hown' hk' (by decide) k (by subst e1; exact hg) h1)
  · exact ho.keeps hk (fun k h1 e1 => own_apart hown' ho (by decide) k (by subst e1; exact hg) h1)
  · intro k h1
    rcases ap_in hap h1 with h2 | h2
    · exact .inl (h.sp k h2)
    · exact .inr ⟨h2, ho.lt k h1⟩
  · intro k h1
    refine Nat.lt_of_lt_of_le ?_ hk.size
    rcases h1 with h1 | h1
    · exact Nat.lt_of_lt_of_le (h.lt k h1) hK.size
    · exact h1.2
  · exact (hK.mono (fun k h1 => h.sp k h1)).then hk (fun k e1 => .inl (by subst e1; exact h.so k hg))
/-- records more -/
theorem Bag.appL {S : Nat → Prop} {W W' : World} {x : BagS} (h : Bag S W x) {o' : Option Addr} {c' : Nat} {l : List CV} (ho : Own CE W' o' c' (x.v :: x.v1 :: x.tl ++ l)) (hap : Ap W x.o o' W') :
    Bag (grow S W W') W' { x with o := o', c := c', tl := x.tl ++ l } ∧ Keeps S W W' := by
  have hK := ap_keeps hap
  refine ⟨⟨ho, h.k.keeps hK (fun k h1 h2 => h.ck k h2 h1), h.p.keeps hK (fun k h1 h2 => h.cp k h2 h1), h.nk, h.np, ?_, fun k h1 => .inl (h.sk k h1), fun k h1 => .inl (h.sp k h1), ?_⟩, hK.mono (fun k h1 => h.so k h1)⟩
  · intro k h1
    rcases ap_in hap h1 with h2 | h2
    · exact .inl (h.so k h2)
    · exact .inr ⟨h2, ho.lt k h1⟩
  · intro k h1
    rcases h1 with h1 | h1
    · exact Nat.lt_of_lt_of_le (h.lt k h1) hK.size
    · exact h1.2
def BagS.hd (x : BagS) : Value := .slice x.o (x.tl.length + 2) x.c
/-- both; what else there was is as it was -/
structure Duo (W0 : World) (T : Nat → Prop) (gA : Nat) (S : Nat → Nat → Prop) (x : Nat → BagS) (W : World) : Prop where
  kp : Keeps T W0 W
  b : ∀ j, j < 2 → Bag (S j) W (x j)
  ap : ∀ k, S 0 k → ¬ S 1 k
  blk : W.heap[gA]? = some (.cells #[(x 0).hd, (x 1).hd] 22 (0, 0))
  ng : ∀ j, j < 2 → ¬ S j gA
  tg : T gA
  sub : ∀ j, j < 2 → ∀ k, S j k → T k ∨ W0.heap.size ≤ k
theorem Duo.keepsN {W0 W W' : World} {T : Nat → Prop} {gA : Nat} {S : Nat → Nat → Prop} {x : Nat → BagS} (h : Duo W0 T gA S x W) (hk : Keeps no W W') : Duo W0 T gA S x W' :=
  ⟨h.kp.then hk (fun _ h => h.elim), fun j hj => (h.b j hj).keeps hk (fun _ _ h => h), h.ap, hk.at h.blk (fun h => h), h.ng, h.tg, h.sub⟩
theorem two_cases {j : Nat} (h : j < 2) : j = 0 ∨ j = 1 := by omega
/-- one of them turns; the other is as it was -/
theorem Duo.step {W0 W W' : World} {T : Nat → Prop} {gA : Nat} {S : Nat → Nat → Prop} {x : Nat → BagS} (h : Duo W0 T gA S x W) {i : Nat} (hi : i < 2) {S' : Nat → Prop} {x' : BagS} (hb : Bag S' W' x') (hk : Keeps (S i) W W') (hS : ∀ k, S' k → S i k ∨ W.heap.size ≤ k) (hh : x'.hd = (x i).hd) :
    Duo W0 T gA (fun j => if j = i then S' else S j) (fun j => if j = i then x' else x j) W' := by
  have hlt := lt_of_block h.blk
  refine ⟨h.kp.then hk (fun k h1 => h.sub i hi k h1), ?_, ?_, ?_, ?_, h.tg, ?_⟩
  · intro j hj
    by_cases e : j = i
    · simp only [e, if_true]; exact hb
    · simp only [e, if_false]
      refine (h.b j hj).keeps hk (fun k h1 h2 => ?_)
      rcases two_cases hj with rfl | rfl
      · obtain rfl : i = 1 := by omega
        exact h.ap k h1 h2
      · obtain rfl : i = 0 := by omega
        exact h.ap k h2 h1
  · intro k
    rcases two_cases hi with rfl | rfl
    · simp only [if_true]
      intro h1 h2
      simp at h2
      rcases hS k h1 with h3 | h3
      · exact h.ap k h3 h2
      · have := (h.b 1 (by omega)).lt k h2; omega
    · simp only [if_true]
      intro h1 h2
      simp at h1
      rcases hS k h2 with h3 | h3
      · exact h.ap k h1 h3
      · have := (h.b 0 (by omega)).lt k h1; omega
  · have hb2 := hk.at h.blk (h.ng i hi)
    rw [hb2]
    rcases two_cases hi with rfl | rfl
    · simp [hh]
    · simp [hh]
  · intro j hj
    by_cases e : j = i
    · simp only [e, if_true]
      intro h1
      rcases hS gA h1 with h3 | h3
      · exact h.ng i hi h3
      · omega
    · simp only [e, if_false]; exact h.ng j hj
  · intro j hj k
    by_cases e : j = i
    · simp only [e, if_true]
      intro h1
      rcases hS k h1 with h3 | h3
      · exact h.sub i hi k h3
      · exact .inr (Nat.le_trans h.kp.size h3)
    · simp only [e, if_false]; exact h.sub j hj k
/-- the list of one, longer -/
theorem Duo.stepL {W0 W W' : World} {T : Nat → Prop} {gA : Nat} {S : Nat → Nat → Prop} {x : Nat → BagS} (h : Duo W0 T gA S x W) {i : Nat} (hi : i < 2) {S' : Nat → Prop} {x' : BagS} (hb : Bag S' W' x') (hk : Keeps (S i) W W') (hS : ∀ k, S' k → S i k ∨ W.heap.size ≤ k) :
    Duo W0 T gA (fun j => if j = i then S' else S j) (fun j => if j = i then x' else x j) (W'.setCell ⟨gA, i, none⟩ x'.hd) := by
  have hlt := lt_of_block h.blk
  have hb2 := hk.at h.blk (h.ng i hi)
  have hk2 := keeps_setG W' gA i x'.hd
  have hngS : ¬ S' gA := fun h1 => by
    rcases hS gA h1 with h3 | h3
    · exact h.ng i hi h3
    · omega
  refine ⟨(h.kp.then hk (fun k h1 => h.sub i hi k h1)).then hk2 (fun k h1 => .inl (by rw [h1]; exact h.tg)), ?_, ?_, ?_, ?_, h.tg, ?_⟩
  · intro j hj
    by_cases e : j = i
    · simp only [e, if_true]; exact hb.keeps hk2 (fun k h1 h2 => by rw [h2] at h1; exact hngS h1)
    · simp only [e, if_false]
      refine ((h.b j hj).keeps hk (fun k h1 h2 => ?_)).keeps hk2 (fun k h1 h2 => by rw [h2] at h1; exact h.ng j hj h1)
      rcases two_cases hj with rfl | rfl
      · obtain rfl : i = 1 := by omega
        exact h.ap k h1 h2
      · obtain rfl : i = 0 := by omega
        exact h.ap k h2 h1
  · intro k
    rcases two_cases hi with rfl | rfl
    · simp only [if_true]
      intro h1 h2
      simp at h2
      rcases hS k h1 with h3 | h3
      · exact h.ap k h3 h2
      · have := (h.b 1 (by omega)).lt k h2; omega
    · simp only [if_true]
      intro h1 h2
      simp at h1
      rcases hS k h2 with h3 | h3
      · exact h.ap k h1 h3
      · have := (h.b 0 (by omega)).lt k h1; omega
  · rw [blk_set hb2]
    rcases two_cases hi with rfl | rfl
    · simp
    · simp
  · intro j hj
    by_cases e : j = i
    · simp only [e, if_true]; exact hngS
    · simp only [e, if_false]; exact h.ng j hj
  · intro j hj k
    by_cases e : j = i
    · simp only [e, if_true]
      intro h1
      rcases hS k h1 with h3 | h3
      · exact h.sub i hi k h3
      · exact .inr (Nat.le_trans h.kp.size h3)
    · simp only [e, if_false]; exact h.sub j hj k
/-- what is told, as a bag -/
theorem Scn.bag {w w' : World} {o : Option Addr} {c : Nat} {vs : List CV} {r r1 : Rec} (h : Scn w w' o c vs [r, r1]) : ∃ v v1, vs = [v, v1] ∧ IsC w' v1 r1 ∧ Got w w' v r ∧ Bag (fun k => inO o k ∨ v.blk k) w' ⟨o, c, v, v1, [], r.keys, r.pairs⟩ ∧ ∀ k, (inO o k ∨ v.blk k) → w.heap.size ≤ k := by
  have hl := h.len
  obtain ⟨v, v1, rfl⟩ : ∃ v v1, vs = [v, v1] := by
    match vs, hl with
    | [a, b], _ => exact ⟨a, b, rfl⟩
  have g0 := h.each 0 (by simp)
  have g1 := h.each 1 (by simp)
  simp only [List.getD_cons_zero, List.getD_cons_succ] at g0 g1
  refine ⟨v, v1, rfl, g1.isC, g0, ⟨h.own, g0.ks, g0.ps, g0.nk, g0.np, fun k hk => .inl hk, fun k hk => .inr (.inr hk), fun k hk => .inr (.inl hk), ?_⟩, ?_⟩
  · rintro k (hk | hk)
    · exact h.own.lt k hk
    · exact g0.lt k hk
  · rintro k (hk | hk)
    · exact h.new k hk
    · exact g0.ge k hk
end Go.Proofs.YtgamhblkgojapaaDoor
/- WalMemory: its records and states. -/
namespace Go.Proofs.YtgamhblkgojapaaDoor
open Go.RowKit Pk Dk
set_option linter.unusedVariables false
set_option linter.unusedSimpArgs false

def mtA : Tx := ⟨#[97]⟩
def mtB : Tx := ⟨#[98]⟩
def mt1 : Tx := ⟨#[49]⟩
def mt2 : Tx := ⟨#[50]⟩
/-- the record that is handed in -/
def inR (J : Nat) : Rec := ⟨1, J * 65536, [(mtA, mt1), (mtB, mt2)], [mtA, mtB]⟩
theorem inR_may {J : Nat} (h : 1 ≤ J) : may (inR J) = true := by
  unfold may inR
  rw [if_pos rfl, decide_eq_true (by show 65536 ≤ J * 65536; omega)]
  show (true && (mayK [mtA, mtB] && mayP [(mtA, mt1), (mtB, mt2)] [mtA, mtB])) = true
  decide +kernel
theorem inR_body (J : Nat) : (body (inR J)).length ≤ 1000 := by
  unfold body layF inR
  rw [if_pos rfl]
  simp only [List.length_append, num_length]
  have h : (layP [(mtA, mt1), (mtB, mt2)] ++ txts (natss [mtA, mtB])).length ≤ 900 := by decide +kernel
  simp only [List.length_append] at h
  omega
theorem inR_gd {J : Nat} (h : 1 ≤ J) (h2 : J ≤ 65536) : Gd (inR J) := ⟨inR_may h, by simp only [inR]; omega, by have := inR_body J; omega⟩
theorem inR_fit {J : Nat} (h2 : J ≤ 65536) : FitR (inR J) := by
  refine ⟨by simp [inR], ?_, by simp [inR], ?_, by simp [inR], by simp [inR], by simp only [inR]; omega⟩
  · intro s hs
    simp only [inR, List.mem_cons, List.mem_nil_iff, or_false] at hs
    rcases hs with rfl | rfl <;> decide
  · intro s hs
    simp only [inR, List.mem_cons, List.mem_nil_iff, or_false] at hs
    rcases hs with rfl | rfl <;> decide
theorem ms_apd {n : Nm} (hn : good n = true) (x : Option Fl) (l : List Rec) (hx : bsX x = rb l) {r : Rec} (hr : Gd r) : apd n r (ts n x) = (ts n (some (fl (rb (l ++ [r])))), 0) := by
  have h := apd_on (s := ts n x) (r := r) (inc_fx n x) (sg_on ..) rfl hn (sg_room n _ _ _ _ _) hr.encE
  rw [h]
  unfold ts
  rw [sg_bs, sg_lay, rb_snoc, hx]
theorem i64_and16 (n : Int) : bits .and .i64 n 65535 = n % 65536 := by
  have h1 : (BitVec.ofInt 64 65535).toNat = 2 ^ 16 - 1 := by decide
  have key : (BitVec.ofInt 64 n &&& BitVec.ofInt 64 65535).toNat = (n % ((2 ^ 64 : Nat) : Int)).toNat % 2 ^ 16 := by
    rw [BitVec.toNat_and, BitVec.toNat_ofInt, h1, Nat.and_two_pow_sub_one_eq_mod]
  show IntKind.i64.wrap ((BitVec.ofInt 64 n &&& BitVec.ofInt 64 65535).toNat : Nat) = n % 65536
  rw [key, IntKind.wrap_i64]
  omega
theorem sames_grown {W : World} {oa ob : Option Addr} {ca cb n : Nat} {vs vs' : List CV} {rs : List Rec} (hn : n = rs.length) (hl : (n : Int) ≤ 137438953472) (h : ∀ X, Keeps no W X → RsIn X oa ca vs rs ∧ RsIn X ob cb vs' rs) (d : Nat) (os : Array Obj) :
    Calls Tryd.prog 15 #[.slice oa n ca, .slice ob n cb] (Sort.grow (redrawn W d) os) fun e w'' => e = .returned (.bool true) ∧ ∃ p : Regrown, w'' = Sort.grow (redrawn W p.d) p.os :=
  call_grown (fun X hX => (sameRecords_any X oa n ca vs rs ob n cb vs' rs hn hn hl hl (h X hX).1 (h X hX).2).mono fun e w' ⟨⟨B, he, hB⟩, hk⟩ => ⟨by rw [he, hB.out.2 rfl], hk⟩) d os
/-- the record that is handed in, and its longer one, in memory -/
structure MadeM (b : Nat) (ID gK gP gF gI : Nat) (W : World) : Prop where
  k : W.heap[gK]? = some (.cells #[.string ⟨#[97]⟩, .string ⟨#[98]⟩, .string ⟨#[126, 49]⟩] 9 (0, 0))
  p : W.heap[gP]? = some (.cells #[.string ⟨#[97]⟩, .string ⟨#[49]⟩, .string ⟨#[98]⟩, .string ⟨#[50]⟩, .string ⟨#[126, 50]⟩, .string ⟨#[]⟩] 50 (0, 0))
  f : W.heap[gF]? = some (.cells #[.int .i64 1, .int .u64 (ID : Nat), .slice (some ⟨gP, 0, none⟩) 3 3, .slice (some ⟨gK, 0, none⟩) 3 3] 28 (0, 0))
  i : W.heap[gI]? = some (.cells #[.int .i64 1, .int .u64 (ID : Nat), .slice (some ⟨gP, 0, none⟩) 2 3, .slice (some ⟨gK, 0, none⟩) 2 3] 28 (0, 0))
  d : b ≤ gK ∧ gK < gP ∧ gP < gF ∧ gF < gI
theorem mem_made (w3 : World) (ID : Nat) {V : World} (hV : V = (((w3.alloc (.cells #[.string ⟨#[97]⟩, .string ⟨#[98]⟩, .string ⟨#[126, 49]⟩] 9)).alloc (.cells #[.string ⟨#[97]⟩, .string ⟨#[49]⟩, .string ⟨#[98]⟩, .string ⟨#[50]⟩, .string ⟨#[126, 50]⟩, .string ⟨#[]⟩] 50)).alloc (.cells #[.int .i64 1, .int .u64 (ID : Nat), .slice (some ⟨w3.heap.size + 1, 0, none⟩) 3 3, .slice (some ⟨w3.heap.size, 0, none⟩) 3 3] 28)).alloc (.cells #[.int .i64 1, .int .u64 (ID : Nat), .slice (some ⟨w3.heap.size + 1, 0, none⟩) 2 3, .slice (some ⟨w3.heap.size, 0, none⟩) 2 3] 28)) :
    MadeM w3.heap.size ID w3.heap.size (w3.heap.size + 1) (w3.heap.size + 1 + 1) (w3.heap.size + 1 + 1 + 1) V ∧ Keeps no w3 V := by
  subst hV
  have z : ∀ (w : World) (o : Obj), (w.alloc o).heap.size = w.heap.size + 1 := fun w o => Array.size_push _
  refine ⟨⟨blk_alloc (blk_alloc (blk_alloc (blk_new ..) _) _) _, blk_alloc (blk_alloc ?_ _) _, blk_alloc ?_ _, ?_, by omega, by omega, by omega, by omega⟩, ((((Keeps.refl _ _).alloc _).alloc _).alloc _).alloc _⟩
  · have h := blk_new (w3.alloc (.cells #[.string ⟨#[97]⟩, .string ⟨#[98]⟩, .string ⟨#[126, 49]⟩] 9)) (.cells #[.string ⟨#[97]⟩, .string ⟨#[49]⟩, .string ⟨#[98]⟩, .string ⟨#[50]⟩, .string ⟨#[126, 50]⟩, .string ⟨#[]⟩] 50)
    rw [z] at h
    exact h
  · have h := blk_new ((w3.alloc (.cells #[.string ⟨#[97]⟩, .string ⟨#[98]⟩, .string ⟨#[126, 49]⟩] 9)).alloc (.cells #[.string ⟨#[97]⟩, .string ⟨#[49]⟩, .string ⟨#[98]⟩, .string ⟨#[50]⟩, .string ⟨#[126, 50]⟩, .string ⟨#[]⟩] 50)) (.cells #[.int .i64 1, .int .u64 (ID : Nat), .slice (some ⟨w3.heap.size + 1, 0, none⟩) 3 3, .slice (some ⟨w3.heap.size, 0, none⟩) 3 3] 28)
    rw [z, z] at h
    exact h
  · have h := blk_new (((w3.alloc (.cells #[.string ⟨#[97]⟩, .string ⟨#[98]⟩, .string ⟨#[126, 49]⟩] 9)).alloc (.cells #[.string ⟨#[97]⟩, .string ⟨#[49]⟩, .string ⟨#[98]⟩, .string ⟨#[50]⟩, .string ⟨#[126, 50]⟩, .string ⟨#[]⟩] 50)).alloc (.cells #[.int .i64 1, .int .u64 (ID : Nat), .slice (some ⟨w3.heap.size + 1, 0, none⟩) 3 3, .slice (some ⟨w3.heap.size, 0, none⟩) 3 3] 28)) (.cells #[.int .i64 1, .int .u64 (ID : Nat), .slice (some ⟨w3.heap.size + 1, 0, none⟩) 2 3, .slice (some ⟨w3.heap.size, 0, none⟩) 2 3] 28)
    rw [z, z, z] at h
    exact h
theorem MadeM.keeps {S : Nat → Prop} {W W' : World} {b ID gK gP gF gI : Nat} (h : MadeM b ID gK gP gF gI W) (hk : Keeps S W W') (hS : ∀ k, b ≤ k → ¬ S k) : MadeM b ID gK gP gF gI W' := by
  have d := h.d
  exact ⟨hk.at h.k (hS _ (by omega)), hk.at h.p (hS _ (by omega)), hk.at h.f (hS _ (by omega)), hk.at h.i (hS _ (by omega)), d⟩
theorem MadeM.keepsB {S : Nat → Prop} {W W' : World} {b ID gK gP gF gI : Nat} (h : MadeM b ID gK gP gF gI W) (hk : Keeps S W W') (hS : ∀ k, b ≤ k → k ≤ gI → ¬ S k) : MadeM b ID gK gP gF gI W' := by
  have d := h.d
  exact ⟨hk.at h.k (hS _ (by omega) (by omega)), hk.at h.p (hS _ (by omega) (by omega)), hk.at h.f (hS _ (by omega) (by omega)), hk.at h.i (hS _ (by omega) (by omega)), d⟩
theorem MadeM.keepsN {W W' : World} {b ID gK gP gF gI : Nat} (h : MadeM b ID gK gP gF gI W) (hk : Keeps no W W') : MadeM b ID gK gP gF gI W' := h.keeps hk (fun _ _ h => h)
def inV (ID gK gP : Nat) : CV := ⟨1, ID, some ⟨gP, 0, none⟩, 2, 3, some ⟨gK, 0, none⟩, 2, 3⟩
theorem MadeM.isC {W : World} {b J ID gK gP gF gI : Nat} (h : MadeM b ID gK gP gF gI W) (hI : ID = J * 65536) (hJ : J ≤ 65536) : IsC W (inV ID gK gP) (inR J) := by
  refine ⟨rfl, hI, rfl, rfl, ⟨.inr ⟨gP, 0, rfl, fun j u hj => ?_⟩, (show 2 ≤ 3 by decide), fun e => by cases e⟩, ⟨.inr ⟨gK, 0, rfl, fun j u hj => ?_⟩, (show 2 ≤ 3 by decide), fun e => by cases e⟩, inR_fit hJ⟩
  · rw [cell_of_blk h.p, Nat.zero_add]
    have hj' : [Value.string mtA, Value.string mt1, Value.string mtB, Value.string mt2][j]? = some u := hj
    match j, hj' with
    | 0, hj' => exact hj'
    | 1, hj' => exact hj'
    | 2, hj' => exact hj'
    | 3, hj' => exact hj'
  · rw [cell_of_blk h.k, Nat.zero_add]
    have hj' : [Value.string mtA, Value.string mtB][j]? = some u := hj
    match j, hj' with
    | 0, hj' => exact hj'
    | 1, hj' => exact hj'
end Go.Proofs.YtgamhblkgojapaaDoor
/- WalMemory: what its loops hold. -/
namespace Go.Proofs.YtgamhblkgojapaaDoor
open Go.RowKit Pk Dk
set_option linter.unusedVariables false
set_option linter.unusedSimpArgs false

/-- a text of one byte -/
def t1 (c : Nat) : Tx := ⟨#[UInt8.ofNat c]⟩
theorem IsC.any {w : World} {v : CV} {r : Rec} (h : IsC w v r) (hp : r.pairs = []) (hk : r.keys = []) (X : World) : IsC X v r := by
  refine ⟨h.k, h.i, h.np, h.nk, ?_, ?_, h.fit⟩
  · have := h.prs; rw [hp] at this ⊢; exact ⟨row_nil .., this.cap, this.nil⟩
  · have := h.kys; rw [hk] at this ⊢; exact ⟨row_nil .., this.cap, this.nil⟩
/-- the lists of both: n long, the first m written over, t behind the two records -/
structure Fz (x : Nat → BagS) (n m : Nat → Nat) (t : Nat → List CV) : Prop where
  len : ∀ j, j < 2 → (x j).ks.length = n j ∧ (x j).ps.length = n j
  lo : ∀ j, j < 2 → ∀ q, q < m j → (x j).ks.getD q e0 = t1 (33 + j) ∧ ((x j).ps.getD q p0).2 = t1 (33 + j)
  hi : ∀ j, j < 2 → ∀ q, 2 ≤ q → q < n j → (x j).ks.getD q e0 = t1 (97 + j) ∧ ((x j).ps.getD q p0).1 = t1 (97 + j)
  v1 : ∀ j, j < 2 → ∀ X, IsC X (x j).v1 (cmR 9)
  tl : ∀ j, j < 2 → (x j).tl = t j
theorem Fz.congr {x : Nat → BagS} {n m n' m' : Nat → Nat} {t t' : Nat → List CV} (h : Fz x n m t) (hn : ∀ j, j < 2 → n j = n' j) (hm : ∀ j, j < 2 → m j = m' j) (ht : ∀ j, j < 2 → t j = t' j) : Fz x n' m' t' :=
  ⟨fun j hj => by rw [← hn j hj]; exact h.len j hj, fun j hj => by rw [← hm j hj]; exact h.lo j hj, fun j hj => by rw [← hn j hj]; exact h.hi j hj, h.v1, fun j hj => by rw [← ht j hj]; exact h.tl j hj⟩
theorem getD_set {α : Type} (l : List α) (i j : Nat) (x d : α) (hi : i < l.length) : (l.set i x).getD j d = if j = i then x else l.getD j d := by
  simp only [List.getD_eq_getElem?_getD]
  by_cases h : j = i
  · subst h; rw [if_pos rfl, List.getElem?_set_self hi]; rfl
  · rw [if_neg h, List.getElem?_set_ne (fun e => h e.symm)]
/-- a round of the first loop -/
theorem Fz.over {x : Nat → BagS} {n m : Nat → Nat} {t : Nat → List CV} (h : Fz x n m t) {i q : Nat} (hi : i < 2) (hq : q = m i) (h2 : n i = 2) (hq2 : q < 2) {x' : BagS} (e1 : x'.ks = (x i).ks.set q (t1 (33 + i))) (e2 : x'.ps = (x i).ps.set q (((x i).ps.getD q p0).1, t1 (33 + i))) (e3 : x'.v1 = (x i).v1) (e4 : x'.tl = (x i).tl) :
    Fz (fun j => if j = i then x' else x j) n (fun j => if j = i then q + 1 else m j) t := by
  have hl := h.len i hi
  refine ⟨fun j hj => ?_, fun j hj => ?_, fun j hj => ?_, fun j hj => ?_, fun j hj => ?_⟩
  · by_cases e : j = i
    · subst e; simp only [if_true, e1, e2, List.length_set]; exact hl
    · simp only [e, if_false]; exact h.len j hj
  · by_cases e : j = i
    · subst e
      simp only [if_true, e1, e2]
      intro k hk
      rw [getD_set _ _ _ _ _ (by omega), getD_set _ _ _ _ _ (by omega)]
      by_cases ek : k = q
      · rw [if_pos ek, if_pos ek]; exact ⟨rfl, rfl⟩
      · rw [if_neg ek, if_neg ek]; exact h.lo j hj k (by omega)
    · simp only [e, if_false]; exact h.lo j hj
  · by_cases e : j = i
    · subst e
      simp only [if_true]
      intro k hk1 hk2
      omega
    · simp only [e, if_false]; exact h.hi j hj
  · by_cases e : j = i
    · subst e; simp only [if_true, e3]; exact h.v1 j hj
    · simp only [e, if_false]; exact h.v1 j hj
  · by_cases e : j = i
    · subst e; simp only [if_true, e4]; exact h.tl j hj
    · simp only [e, if_false]; exact h.tl j hj
/-- a round of the second -/
theorem Fz.more {x : Nat → BagS} {n m : Nat → Nat} {t : Nat → List CV} (h : Fz x n m t) {i : Nat} (hi : i < 2) (h2 : 2 ≤ n i) (hm : m i ≤ 2) {x' : BagS} {s2 : Tx} (e1 : x'.ks = (x i).ks ++ [t1 (97 + i)]) (e2 : x'.ps = (x i).ps ++ [(t1 (97 + i), s2)]) (e3 : x'.v1 = (x i).v1) (e4 : x'.tl = (x i).tl) :
    Fz (fun j => if j = i then x' else x j) (fun j => if j = i then n i + 1 else n j) m t := by
  have hl := h.len i hi
  refine ⟨fun j hj => ?_, fun j hj => ?_, fun j hj => ?_, fun j hj => ?_, fun j hj => ?_⟩
  · by_cases e : j = i
    · subst e; simp only [if_true, e1, e2, List.length_append, List.length_singleton]; omega
    · simp only [e, if_false]; exact h.len j hj
  · by_cases e : j = i
    · subst e
      simp only [if_true, e1, e2]
      intro k hk
      rw [getD_snoc, getD_snoc, if_pos (by omega), if_pos (by omega)]
      exact h.lo j hj k hk
    · simp only [e, if_false]; exact h.lo j hj
  · by_cases e : j = i
    · subst e
      simp only [if_true, e1, e2]
      intro k hk1 hk2
      rw [getD_snoc, getD_snoc]
      by_cases ek : k < n j
      · rw [if_pos (by omega), if_pos (by omega)]; exact h.hi j hj k hk1 ek
      · rw [if_neg (show ¬ k < (x j).ks.length by omega), if_pos (show k = (x j).ks.length by omega), if_neg (show ¬ k < (x j).ps.length by omega), if_pos (show k = (x j).ps.length by omega)]; exact ⟨rfl, rfl⟩
    · simp only [e, if_false]; exact h.hi j hj
  · by_cases e : j = i
    · subst e; simp only [if_true, e3]; exact h.v1 j hj
    · simp only [e, if_false]; exact h.v1 j hj
  · by_cases e : j = i
    · subst e; simp only [if_true, e4]; exact h.tl j hj
    · simp only [e, if_false]; exact h.tl j hj
/-- a round of the third -/
theorem Fz.longer {x : Nat → BagS} {n m : Nat → Nat} {t : Nat → List CV} (h : Fz x n m t) {i : Nat} (hi : i < 2) {x' : BagS} {l : List CV} (e1 : x'.ks = (x i).ks) (e2 : x'.ps = (x i).ps) (e3 : x'.v1 = (x i).v1) (e4 : x'.tl = l) :
    Fz (fun j => if j = i then x' else x j) n m (fun j => if j = i then l else t j) := by
  refine ⟨fun j hj => ?_, fun j hj => ?_, fun j hj => ?_, fun j hj => ?_, fun j hj => ?_⟩
  · by_cases e : j = i
    · subst e; simp only [if_true, e1, e2]; exact h.len j hj
    · simp only [e, if_false]; exact h.len j hj
  · by_cases e : j = i
    · subst e; simp only [if_true, e1, e2]; exact h.lo j hj
    · simp only [e, if_false]; exact h.lo j hj
  · by_cases e : j = i
    · subst e; simp only [if_true, e1, e2]; exact h.hi j hj
    · simp only [e, if_false]; exact h.hi j hj
  · by_cases e : j = i
    · subst e; simp only [if_true, e3]; exact h.v1 j hj
    · simp only [e, if_false]; exact h.v1 j hj
  · by_cases e : j = i
    · subst e; simp only [if_true, e4]
    · simp only [e, if_false]; exact h.tl j hj
theorem duo_start {wA wB u1 wF : World} {oA oE : Option Addr} {cA cE : Nat} {vA vE : List CV} {r : Rec} (hA : Scn wA wF oA cA vA [r, cmR 9]) (hE : Scn u1 wF oE cE vE [r, cmR 9]) (h2k : r.keys.length = 2) (h2p : r.pairs.length = 2)
    (hL : ∀ k, (inO oA k ∨ (vA.getD 0 cv0).blk k) → wA.heap.size ≤ k ∧ k < wB.heap.size) (h1 : wB.heap.size ≤ u1.heap.size) (h2 : u1.heap.size ≤ wF.heap.size) :
    ∃ S x, Duo (wF.alloc (.cells #[.slice oA 2 cA, .slice oE 2 cE] 22)) (fun k => (wA.heap.size ≤ k ∧ k < wB.heap.size) ∨ u1.heap.size ≤ k) wF.heap.size S x (wF.alloc (.cells #[.slice oA 2 cA, .slice oE 2 cE] 22)) ∧ Fz x (fun _ => 2) (fun _ => 0) (fun _ => []) := by
  obtain ⟨va, va1, rfl, hca, hga, hba, hla⟩ := hA.bag
  obtain ⟨ve, ve1, rfl, hce, hge, hbe, hle⟩ := hE.bag
  simp only [List.getD_cons_zero] at hL
  have hk := (Keeps.refl no wF).alloc (.cells #[.slice oA 2 cA, .slice oE 2 cE] 22)
  refine ⟨fun j => if j = 0 then (fun k => inO oA k ∨ va.blk k) else (fun k => inO oE k ∨ ve.blk k), fun j => if j = 0 then ⟨oA, cA, va, va1, [], r.keys, r.pairs⟩ else ⟨oE, cE, ve, ve1, [], r.keys, r.pairs⟩, ⟨Keeps.refl _ _, ?_, ?_, ?_, ?_, ?_, ?_⟩, ⟨?_, ?_, ?_, ?_, ?_⟩⟩
  · intro j hj
    rcases two_cases hj with rfl | rfl
    · exact hba.keeps hk (fun _ _ h => h)
    · exact hbe.keeps hk (fun _ _ h => h)
  · intro k h3 h4
    simp only [if_true] at h3
    simp at h4
    have := hL k h3
    have := hle k h4
    omega
  · exact blk_new wF _
  · intro j hj
    rcases two_cases hj with rfl | rfl
    · intro h; have := hba.lt _ h; omega
    · intro h; have := hbe.lt _ h; omega
  · exact .inr h2
  · intro j hj k h3
    rcases two_cases hj with rfl | rfl
    · exact .inl (.inl (hL k h3))
    · exact .inl (.inr (hle k h3))
  · intro j hj
    rcases two_cases hj with rfl | rfl
    · exact ⟨h2k, h2p⟩
    · exact ⟨h2k, h2p⟩
  · intro j hj q hq; omega
  · intro j hj q hq1 hq2; omega
  · intro j hj X
    rcases two_cases hj with rfl | rfl
    · exact hca.any rfl rfl X
    · exact hce.any rfl rfl X
  · intro j hj
    rcases two_cases hj with rfl | rfl
    · rfl
    · rfl
theorem run_t1 (w : World) (g c : Nat) (hc : c < 256) (h : w.heap[g]? = some (.cells #[.int .u8 (c : Nat)] 5 (0, 0))) :
    (convert 32 9 (.slice (some ⟨g, 0, none⟩) 1 1)).run Tryd.prog w = .ok (.string (t1 c)) w := by
  have hr : Row BU w (some ⟨g, 0, none⟩) [UInt8.ofNat c] := .inr ⟨g, 0, rfl, fun j u hj => by
    rw [cell_of_blk h, Nat.zero_add]
    have hu : [Value.int .u8 ((UInt8.ofNat c).toNat : Nat)][j]? = some u := hj
    rw [UInt8.toNat_ofNat_of_lt' (by simpa using hc)] at hu
    match j, hu with
    | 0, hu => exact hu⟩
  exact run_textG w _ [UInt8.ofNat c] 1 1 rfl hr
end Go.Proofs.YtgamhblkgojapaaDoor
/- WalMemory: the steps of its loops. -/
namespace Go.Proofs.YtgamhblkgojapaaDoor
open Go.RowKit Pk Dk
set_option linter.unusedVariables false
set_option linter.unusedSimpArgs false

/-- how many are written over, how long they are -/
def mI (I K j : Nat) : Nat := if j < I then 2 else if j = I then K else 0
def nI (I K j : Nat) : Nat := if j < I then 42 else if j = I then 2 + K else 2
def tI (I : Nat) (j : Nat) : List CV := if j < I then [⟨2, (11 + j) * 65536, none, 0, 0, none, 0, 0⟩, ⟨2, (11 + j) * 65536, none, 0, 0, none, 0, 0⟩] else []
variable {W0 W : World} {T : Nat → Prop} {gL : Nat} {S : Nat → Nat → Prop} {x : Nat → BagS} {i q : Nat}
/-- where one lies -/
theorem Duo.at (h : Duo W0 T gL S x W) (hi : i < 2) : ∃ g, (x i).o = some ⟨g, 0, none⟩ ∧ S i g ∧ W.cell? ⟨gL, i, none⟩ = some (.slice (some ⟨g, 0, none⟩) ((x i).tl.length + 2) (x i).c) ∧
    W.cell? ⟨g, 0, none⟩ = some (.int .i64 (x i).v.k) ∧ W.cell? ⟨g, 1, none⟩ = some (.int .u64 ((x i).v.i : Nat)) ∧ W.cell? ⟨g, 2, none⟩ = some (.slice (x i).v.op (x i).v.np (x i).v.cp) ∧ W.cell? ⟨g, 3, none⟩ = some (.slice (x i).v.ok (x i).v.nk (x i).v.ck) ∧
    W.cell? ⟨g, 4, none⟩ = some (.int .i64 (x i).v1.k) ∧ W.cell? ⟨g, 5, none⟩ = some (.int .u64 ((x i).v1.i : Nat)) ∧ W.cell? ⟨g, 6, none⟩ = some (.slice (x i).v1.op (x i).v1.np (x i).v1.cp) ∧ W.cell? ⟨g, 7, none⟩ = some (.slice (x i).v1.ok (x i).v1.nk (x i).v1.ck) := by
  have hb := h.b i hi
  obtain ⟨g, e, hc⟩ := hb.own.atC0 (by simp)
  have c0 := hc 0 (by simp)
  have c1 := hc 1 (by simp)
  simp only [Nat.zero_mul, Nat.zero_add, List.getD_cons_zero, List.getD_cons_succ, Nat.one_mul] at c0 c1
  refine ⟨g, e, hb.so g ⟨_, e, rfl⟩, ?_, c0.1, c0.2.1, c0.2.2.1, c0.2.2.2, c1.1, c1.2.1, c1.2.2.1, c1.2.2.2⟩
  rw [cell_of_blk h.blk i]
  rcases two_cases hi with rfl | rfl
  · show some (x 0).hd = _
    unfold BagS.hd
    rw [e]
  · show some (x 1).hd = _
    unfold BagS.hd
    rw [e]
/-- a key written over -/
theorem Duo.overK (h : Duo W0 T gL S x W) (hi : i < 2) (hq : q < (x i).ks.length) : ∃ gk, (x i).v.ok = some ⟨gk, 0, none⟩ ∧ ¬ gk = gL ∧ (∀ g, inO (x i).o g → ¬ gk = g) ∧ ∀ X, Keeps no W X → (∃ u, X.cell? ⟨gk, q, none⟩ = some u) ∧ X.frozen? ⟨gk, q, none⟩ = false ∧
    ∀ s, Duo W0 T gL (fun j => if j = i then S i else S j) (fun j => if j = i then { x i with ks := (x i).ks.set q s } else x j) (X.setCell ⟨gk, q, none⟩ (.string s)) := by
  obtain ⟨gk, e, hu, hz, hs, hst⟩ := (h.b i hi).setK hq
  refine ⟨gk, e, fun e1 => h.ng i hi (by rw [← e1]; exact hs), fun g hg e1 => (h.b i hi).ck g hg ⟨_, e, e1⟩, fun X hX => ?_⟩
  have hX' := h.keepsN hX
  obtain ⟨gk', e', hu', hz', hs', hst'⟩ := (hX'.b i hi).setK hq
  rw [e] at e'
  cases e'
  exact ⟨hu', hz', fun s => hX'.step hi (hst' s).1 (hst' s).2 (fun k hk => .inl hk) rfl⟩
/-- a value written over -/
theorem Duo.overP (h : Duo W0 T gL S x W) (hi : i < 2) (hq : q < (x i).ps.length) : ∃ gp, (x i).v.op = some ⟨gp, 0, none⟩ ∧ ¬ gp = gL ∧ (∀ g, inO (x i).o g → ¬ gp = g) ∧ ∀ X, Keeps no W X → (∃ u, X.cell? ⟨gp, q * 2 + 1, none⟩ = some u) ∧ X.frozen? ⟨gp, q * 2 + 1, none⟩ = false ∧
    ∀ s, Duo W0 T gL (fun j => if j = i then S i else S j) (fun j => if j = i then { x i with ps := (x i).ps.set q (((x i).ps.getD q p0).1, s) } else x j) (X.setCell ⟨gp, q * 2 + 1, none⟩ (.string s)) := by
  obtain ⟨gp, e, hu, hz, hs, hst⟩ := (h.b i hi).setP hq
  refine ⟨gp, e, fun e1 => h.ng i hi (by rw [← e1]; exact hs), fun g hg e1 => (h.b i hi).cp g hg ⟨_, e, e1⟩, fun X hX => ?_⟩
  have hX' := h.keepsN hX
  obtain ⟨gp', e', hu', hz', hs', hst'⟩ := (hX'.b i hi).setP hq
  rw [e] at e'
  cases e'
  exact ⟨hu', hz', fun s => hX'.step hi (hst' s).1 (hst' s).2 (fun k hk => .inl hk) rfl⟩
theorem Fz.congrX {x x' : Nat → BagS} {n m : Nat → Nat} {t : Nat → List CV} (h : Fz x n m t) (hx : ∀ j, j < 2 → x' j = x j) : Fz x' n m t :=
  ⟨fun j hj => by rw [hx j hj]; exact h.len j hj, fun j hj => by rw [hx j hj]; exact h.lo j hj, fun j hj => by rw [hx j hj]; exact h.hi j hj, fun j hj => by rw [hx j hj]; exact h.v1 j hj, fun j hj => by rw [hx j hj]; exact h.tl j hj⟩
/-- a key more -/
theorem Duo.moreK {W' : World} {o' : Option Addr} {c' g N : Nat} {s : Tx} (h : Duo W0 T gL S x W) (hi : i < 2) (hg : (x i).o = some ⟨g, 0, none⟩) (hN : (x i).v.nk = N) (ho : Own TE W' o' c' ((x i).ks ++ [s])) (hap : Ap W (x i).v.ok o' W') :
    W'.cell? ⟨gL, i, none⟩ = some (.slice (some ⟨g, 0, none⟩) ((x i).tl.length + 2) (x i).c) ∧ (∃ u, W'.cell? ⟨g, 3, none⟩ = some u) ∧ W'.frozen? ⟨g, 3, none⟩ = false ∧ ¬ g = gL ∧
    ∃ S', Duo W0 T gL S' (fun j => if j = i then { x i with v := { (x i).v with ok := o', nk := N + 1, ck := c' }, ks := (x i).ks ++ [s] } else x j) (W'.setCell ⟨g, 3, none⟩ (.slice o' (N + 1) c')) := by
  subst hN
  obtain ⟨g', e, hu, hz, hs, hb, hk⟩ := (h.b i hi).appK ho hap
  rw [hg] at e
  cases e
  obtain ⟨g2, e2, _, hc, _⟩ := h.at hi
  rw [hg] at e2
  cases e2
  have hK := ap_keeps hap
  have hng : ¬ inO (x i).v.ok gL := fun hx => h.ng i hi ((h.b i hi).sk gL hx)
  refine ⟨hK.cell hc hng, hu, hz, fun e1 => h.ng i hi (by rw [← e1]; exact hs), _, h.step hi hb hk (fun k hk1 => ?_) rfl⟩
  rcases hk1 with h1 | h1
  · exact .inl h1
  · exact .inr h1.1
/-- a pair more -/
theorem Duo.moreP {W' : World} {o' : Option Addr} {c' g N : Nat} {s : Pr} (h : Duo W0 T gL S x W) (hi : i < 2) (hg : (x i).o = some ⟨g, 0, none⟩) (hN : (x i).v.np = N) (ho : Own PE W' o' c' ((x i).ps ++ [s])) (hap : Ap W (x i).v.op o' W') :
    W'.cell? ⟨gL, i, none⟩ = some (.slice (some ⟨g, 0, none⟩) ((x i).tl.length + 2) (x i).c) ∧ (∃ u, W'.cell? ⟨g, 2, none⟩ = some u) ∧ W'.frozen? ⟨g, 2, none⟩ = false ∧ ¬ g = gL ∧
    ∃ S', Duo W0 T gL S' (fun j => if j = i then { x i with v := { (x i).v with op := o', np := N + 1, cp := c' }, ps := (x i).ps ++ [s] } else x j) (W'.setCell ⟨g, 2, none⟩ (.slice o' (N + 1) c')) := by
  subst hN
  obtain ⟨g', e, hu, hz, hs, hb, hk⟩ := (h.b i hi).appP ho hap
  rw [hg] at e
  cases e
  obtain ⟨g2, e2, _, hc, _⟩ := h.at hi
  rw [hg] at e2
  cases e2
  have hK := ap_keeps hap
  have hng : ¬ inO (x i).v.op gL := fun hx => h.ng i hi ((h.b i hi).sp gL hx)
  refine ⟨hK.cell hc hng, hu, hz, fun e1 => h.ng i hi (by rw [← e1]; exact hs), _, h.step hi hb hk (fun k hk1 => ?_) rfl⟩
  rcases hk1 with h1 | h1
  · exact .inl h1
  · exact .inr h1.1
/-- records more -/
theorem Duo.moreL {W' : World} {o' : Option Addr} {c' : Nat} {l : List CV} (h : Duo W0 T gL S x W) (hi : i < 2) (ht : (x i).tl = []) (ho : Own CE W' o' c' ([(x i).v, (x i).v1] ++ l)) (hap : Ap W (x i).o o' W') :
    (∃ u, W'.cell? ⟨gL, i, none⟩ = some u) ∧ W'.frozen? ⟨gL, i, none⟩ = false ∧
    ∃ S', Duo W0 T gL S' (fun j => if j = i then { x i with o := o', c := c', tl := l } else x j) (W'.setCell ⟨gL, i, none⟩ (.slice o' (l.length + 2) c')) := by
  have ho' : Own CE W' o' c' ((x i).v :: (x i).v1 :: (x i).tl ++ l) := by rw [ht]; exact ho
  obtain ⟨hb, hk⟩ := (h.b i hi).appL ho' hap
  have hb2 := hk.at h.blk (h.ng i hi)
  have ee : ({ x i with o := o', c := c', tl := (x i).tl ++ l } : BagS) = { x i with o := o', c := c', tl := l } := by rw [ht]; rfl
  rw [ee] at hb
  have hc : ∃ u, W'.cell? ⟨gL, i, none⟩ = some u := by
    rw [cell_of_blk hb2 i]
    rcases two_cases hi with e | e
    · exact ⟨(x 0).hd, by rw [e]; rfl⟩
    · exact ⟨(x 1).hd, by rw [e]; rfl⟩
  refine ⟨hc, frozen_of_blk hb2 i, _, h.stepL hi hb hk (fun k hk1 => ?_)⟩
  rcases hk1 with h1 | h1
  · exact .inl h1
  · exact .inr h1.1
theorem own_oneT (w : World) (s : Tx) : Row TE (w.alloc (.cells #[.string s] 9)) (some ⟨w.heap.size, 0, none⟩) [s] := by
  refine .inr ⟨_, _, rfl, fun j u hj => ?_⟩
  rw [cell_of_blk (blk_new w _), Nat.zero_add]
  simpa [El.cells, TE] using hj
theorem own_oneQ (w : World) (s t : Tx) : Row PE (w.alloc (.cells #[.string s, .string t] 50)) (some ⟨w.heap.size, 0, none⟩) [(s, t)] := by
  refine .inr ⟨_, _, rfl, fun j u hj => ?_⟩
  rw [cell_of_blk (blk_new w _), Nat.zero_add]
  simpa [El.cells, PE] using hj
theorem size_alloc (w : World) (o : Obj) : (w.alloc o).heap.size = w.heap.size + 1 := Array.size_push _
theorem own_oneT2 (w : World) (o : Obj) (s : Tx) : Row TE ((w.alloc o).alloc (.cells #[.string s] 9)).drew (some ⟨w.heap.size + 1, 0, none⟩) [s] := by
  have h := own_oneT (w.alloc o) s
  rw [size_alloc] at h
  exact h
theorem own_oneQ2 (w : World) (o : Obj) (s t : Tx) : Row PE ((w.alloc o).alloc (.cells #[.string s, .string t] 50)).drew (some ⟨w.heap.size + 1, 0, none⟩) [(s, t)] := by
  have h := own_oneQ (w.alloc o) s t
  rw [size_alloc] at h
  exact h
theorem more_round {x x1 : Nat → BagS} {I K N B : Nat} {t : Nat → List CV} {o1 : Option Addr} {c1 : Nat} (h : Fz x (nI I K) (fun _ => 2) t) (hi : I < 2) (hN : nI I K I = N) (hB : B = 97 + I)
    (hx1 : x1 I = { x I with v := { (x I).v with ok := o1, nk := N + 1, ck := c1 }, ks := (x I).ks ++ [t1 B] }) (hx2 : ∀ j, j ≠ I → x1 j = x j) (o2 : Option Addr) (c2 : Nat) :
    Fz (fun j => if j = I then { x1 I with v := { (x1 I).v with op := o2, np := N + 1, cp := c2 }, ps := (x1 I).ps ++ [(t1 B, ⟨#[]⟩)] } else x1 j) (nI I (K + 1)) (fun _ => 2) t := by
  have hn : nI I K I = 2 + K := by unfold nI; rw [if_neg (by omega), if_pos rfl]
  have h1 := h.more (i := I) (s2 := ⟨#[]⟩) (x' := { x1 I with v := { (x1 I).v with op := o2, np := N + 1, cp := c2 }, ps := (x1 I).ps ++ [(t1 B, ⟨#[]⟩)] }) hi (by omega) (Nat.le_refl _) (by rw [hx1, hB]) (by rw [hx1, hB]) (by rw [hx1]) (by rw [hx1])
  refine (h1.congr (fun j hj => ?_) (fun _ _ => rfl) (fun _ _ => rfl)).congrX (fun j hj => ?_)
  · unfold nI
    by_cases e : j = I
    · simp [e]; omega
    · simp [e]
  · by_cases e : j = I
    · simp only [e, if_true]
    · simp only [e, if_false]; exact hx2 j e
def cmV (q : Nat) : CV := ⟨2, q * 65536, none, 0, 0, none, 0, 0⟩
theorem own_twoC (w : World) (v v' : CV) : Row CE (w.alloc (.cells #[.int .i64 v.k, .int .u64 (v.i : Nat), .slice v.op v.np v.cp, .slice v.ok v.nk v.ck, .int .i64 v'.k, .int .u64 (v'.i : Nat), .slice v'.op v'.np v'.cp, .slice v'.ok v'.nk v'.ck] 28)) (some ⟨w.heap.size, 0, none⟩) [v, v'] := by
  refine .inr ⟨_, _, rfl, fun j u hj => ?_⟩
  rw [cell_of_blk (blk_new w _), Nat.zero_add]
  simpa [El.cells, CE] using hj
theorem commit_q (w : World) (M Q : Nat) (hQ : Q = M * 65536) (hM : (M : Int) ≤ 1000000) : Calls Tryd.prog 12 #[.int .i64 (M : Nat)] w fun e w' => e = .returned (.agg #[.int .i64 2, .int .u64 (Q : Nat), .slice none 0 0, .slice none 0 0]) ∧ Keeps no w w' := by
  subst hQ
  exact commit_any w M hM
theorem commit_grown_q {W : World} (M Q : Nat) (hQ : Q = M * 65536) (hM : (M : Int) ≤ 1000000) (d : Nat) (os : Array Obj) :
    Calls Tryd.prog 12 #[.int .i64 (M : Nat)] (Sort.grow (redrawn W d) os) fun e w'' => e = .returned (.agg #[.int .i64 2, .int .u64 (Q : Nat), .slice none 0 0, .slice none 0 0]) ∧ ∃ p : Regrown, w'' = Sort.grow (redrawn W p.d) p.os :=
  call_grown (fun X hX => commit_q X M Q hQ hM) d os
def cqV (Q : Nat) : CV := ⟨2, Q, none, 0, 0, none, 0, 0⟩
theorem cqV_isC (w : World) {M Q : Nat} (hQ : Q = M * 65536) (hM : M ≤ 1000000) : IsC w (cqV Q) (cmR M) := by
  subst hQ
  exact cmR_isC w hM
/-- a round of the third loop -/
theorem longer_round {x : Nat → BagS} {I Q : Nat} {n m : Nat → Nat} {o' : Option Addr} {c' : Nat} (h : Fz x n m (tI I)) (hi : I < 2) (hQ : Q = (11 + I) * 65536) :
    Fz (fun j => if j = I then { x I with o := o', c := c', tl := [cqV Q, cqV Q] } else x j) n m (tI (I + 1)) := by
  have h1 := h.longer (i := I) (l := [cqV Q, cqV Q]) (x' := { x I with o := o', c := c', tl := [cqV Q, cqV Q] }) hi rfl rfl rfl rfl
  refine h1.congr (fun _ _ => rfl) (fun _ _ => rfl) (fun j hj => ?_)
  unfold tI
  by_cases e : j = I
  · subst e; subst hQ; rw [if_pos rfl, if_pos (by omega)]; rfl
  · by_cases e2 : j < I
    · rw [if_neg e, if_pos e2, if_pos (by omega)]
    · rw [if_neg e, if_neg e2, if_neg (by omega)]
/-- where the third record of one lies -/
theorem Duo.at2 (h : Duo W0 T gL S x W) (hi : i < 2) {g : Nat} (hg : (x i).o = some ⟨g, 0, none⟩) {a b : CV} (ht : (x i).tl = [a, b]) :
    W.cell? ⟨g, 8, none⟩ = some (.int .i64 a.k) ∧ W.cell? ⟨g, 9, none⟩ = some (.int .u64 (a.i : Nat)) ∧ W.cell? ⟨g, 10, none⟩ = some (.slice a.op a.np a.cp) ∧ W.cell? ⟨g, 11, none⟩ = some (.slice a.ok a.nk a.ck) := by
  have hb := (h.b i hi).own
  rw [ht] at hb
  obtain ⟨g', e, hc⟩ := hb.atC0 (by simp)
  rw [hg] at e
  cases e
  have c2 := hc 2 (by simp)
  exact c2
/-- a key, a value of one -/
theorem Duo.key (h : Duo W0 T gL S x W) (hi : i < 2) (hq : q < (x i).ks.length) : ∃ b off, (x i).v.ok = some ⟨b, off, none⟩ ∧ W.cell? ⟨b, off + q, none⟩ = some (.string ((x i).ks.getD q e0)) := (h.b i hi).k.sl.at hq
theorem Duo.pair (h : Duo W0 T gL S x W) (hi : i < 2) (hq : q < (x i).ps.length) : ∃ b off, (x i).v.op = some ⟨b, off, none⟩ ∧ W.cell? ⟨b, off + q * 2, none⟩ = some (.string ((x i).ps.getD q p0).1) ∧ W.cell? ⟨b, off + q * 2 + 1, none⟩ = some (.string ((x i).ps.getD q p0).2) := (h.b i hi).p.sl.atP hq
end Go.Proofs.YtgamhblkgojapaaDoor
