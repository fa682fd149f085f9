/- RecordMemory: six records whose lists lie each by itself, written over and lengthened. -/
import Derived.Test.YtdalheeifgampaaDoorT1
import Derived.Test.YtdalheeifgampaaDoorS3
namespace Go.Proofs.YtdalheeifgampaaDoor
open Go.RowKit Go.Sort Orl Pk
set_option linter.unusedVariables false
set_option linter.unusedSimpArgs false

theorem cells_TE (xs : List Tx) : TE.cells xs = xs.map Value.string := by
  induction xs with
  | nil => rfl
  | cons x r ih => simp only [El.cells, TE, List.flatMap_cons, List.map_cons] at ih ⊢; rw [ih]; rfl
theorem cells_PEc (x : Pr) (r : List Pr) : PE.cells (x :: r) = .string x.1 :: .string x.2 :: PE.cells r := rfl
theorem cells_PEset : ∀ (xs : List Pr) (j : Nat) (s t : Tx), j < xs.length → PE.cells (xs.set j (s, t)) = ((PE.cells xs).set (j * 2) (.string s)).set (j * 2 + 1) (.string t)
  | [], j, s, t, h => by simp at h
  | x :: r, 0, s, t, h => by simp [cells_PEc]
  | x :: r, j + 1, s, t, h => by
    rw [List.set_cons_succ, cells_PEc, cells_PEc, cells_PEset r j s t (by simpa using h), show (j + 1) * 2 = (j * 2 + 1) + 1 by omega, List.set_cons_succ, List.set_cons_succ, List.set_cons_succ, List.set_cons_succ]
theorem Own.setT {w : World} {g c : Nat} {xs : List Tx} (h : Own TE w (some ⟨g, 0, none⟩) c xs) (j : Nat) (s : Tx) : Own TE (w.setCell ⟨g, j, none⟩ (.string s)) (some ⟨g, 0, none⟩) c (xs.set j s) := by
  have := (World.ownsRow.stored h j (.string s)).1
  unfold Own
  rw [List.length_set]
  have e : TE.cells (xs.set j s) = (TE.cells xs).set j (.string s) := by rw [cells_TE, cells_TE, List.map_set]
  rw [e]
  exact this
theorem Own.setP {w : World} {g c : Nat} {xs : List Pr} (h : Own PE w (some ⟨g, 0, none⟩) c xs) (j : Nat) (hj : j < xs.length) (s t : Tx) : Own PE ((w.setCell ⟨g, j * 2, none⟩ (.string s)).setCell ⟨g, j * 2 + 1, none⟩ (.string t)) (some ⟨g, 0, none⟩) c (xs.set j (s, t)) := by
  have h1 := (World.ownsRow.stored h (j * 2) (.string s)).1
  have h2 := (World.ownsRow.stored h1 (j * 2 + 1) (.string t)).1
  unfold Own
  rw [List.length_set, cells_PEset xs j s t hj]
  exact h2
def nmL : List Tx := [⟨#[48]⟩, ⟨#[49]⟩, ⟨#[50]⟩, ⟨#[51]⟩, ⟨#[52]⟩, ⟨#[53]⟩]
def nmx (j : Nat) : Tx := nmL.getD j e0
/-- the lists of six records: each in a block by itself -/
structure Apt (V : List CV) (lo hi : Nat) : Prop where
  len : V.length = 6
  sep : ∀ i j, i < j → j < 6 → ∀ x y, (V.getD i cv0).blk x → (V.getD j cv0).blk y → x < y
  ne : ∀ j, j < 6 → ∀ x, inO (V.getD j cv0).ok x → ¬ inO (V.getD j cv0).op x
  ge : ∀ j, j < 6 → ∀ x, (V.getD j cv0).blk x → lo ≤ x
  lt : ∀ j, j < 6 → ∀ x, (V.getD j cv0).blk x → x < hi
theorem Apt.apart {V : List CV} {lo hi : Nat} (h : Apt V lo hi) {i j : Nat} (hi : i < 6) (hj : j < 6) (hne : i ≠ j) {x : Nat} (hx : (V.getD i cv0).blk x) : ¬ (V.getD j cv0).blk x := by
  intro hy
  rcases Nat.lt_or_gt_of_ne hne with g | g
  · exact Nat.lt_irrefl _ (h.sep i j g hj x x hx hy)
  · exact Nat.lt_irrefl _ (h.sep j i g hi x x hy hx)
/-- the keys (the pairs) of one: the first m are s -/
def LotK (W : World) (v : CV) (m : Nat) (s : Tx) : Prop := ∃ xs, Own TE W v.ok v.ck xs ∧ v.nk = xs.length ∧ ∀ q, q < m → xs.getD q e0 = s
def LotP (W : World) (v : CV) (m : Nat) (s : Tx) : Prop := ∃ xs, Own PE W v.op v.cp xs ∧ v.np = xs.length ∧ ∀ q, q < m → (xs.getD q p0).1 = s
theorem LotK.keeps {S : Nat → Prop} {W W' : World} {v : CV} {m : Nat} {s : Tx} (h : LotK W v m s) (hk : Keeps S W W') (hS : ∀ x, v.blk x → ¬ S x) : LotK W' v m s := by
  obtain ⟨xs, h1, h2, h3⟩ := h
  exact ⟨xs, h1.keeps hk (fun x hx => hS x (.inr hx)), h2, h3⟩
theorem LotP.keeps {S : Nat → Prop} {W W' : World} {v : CV} {m : Nat} {s : Tx} (h : LotP W v m s) (hk : Keeps S W W') (hS : ∀ x, v.blk x → ¬ S x) : LotP W' v m s := by
  obtain ⟨xs, h1, h2, h3⟩ := h
  exact ⟨xs, h1.keeps hk (fun x hx => hS x (.inl hx)), h2, h3⟩
structure Six (w0 : World) (gR gN : Nat) (V : List CV) (mk mp : Nat → Nat) (W : World) : Prop where
  a : Apt V w0.heap.size gR
  gn : gR < gN
  r0 : w0.heap.size ≤ gR
  rs : Sl CE W (some ⟨gR, 0, none⟩) 6 V
  nm : Sl TE W (some ⟨gN, 0, none⟩) 6 nmL
  k : ∀ j, j < 6 → LotK W (V.getD j cv0) (mk j) (nmx j)
  p : ∀ j, j < 6 → LotP W (V.getD j cv0) (mp j) (nmx j)
  kp : Keeps no w0 W
theorem set_getD {α : Type} (l : List α) (i j : Nat) (x d : α) (hi : i < l.length) : (l.set i x).getD j d = if j = i then x else l.getD j d := by
  simp only [List.getD_eq_getElem?_getD]
  by_cases h : j = i
  · subst h; rw [if_pos rfl, List.getElem?_set_self hi]; rfl
  · rw [if_neg h, List.getElem?_set_ne (fun e => h e.symm)]
theorem Six.wK {w0 : World} {gR gN : Nat} {V : List CV} {mk mp : Nat → Nat} {W : World} (h : Six w0 gR gN V mk mp W) {i q : Nat} (hi : i < 6) (hq : q < (V.getD i cv0).nk) (hm : mk i = q) :
    ∃ g, (V.getD i cv0).ok = some ⟨g, 0, none⟩ ∧ (∃ v, W.cell? ⟨g, q, none⟩ = some v) ∧ W.frozen? ⟨g, q, none⟩ = false ∧ g < gR ∧ Six w0 gR gN V (fun j => if j = i then q + 1 else mk j) mp (W.setCell ⟨g, q, none⟩ (.string (nmx i))) := by
  obtain ⟨xs, h1, h2, h3⟩ := h.k i hi
  obtain ⟨g, e, hb⟩ := h1.blk (by intro e; rw [e, List.length_nil] at h2; omega)
  have hgb : (V.getD i cv0).blk g := .inr ⟨_, e, rfl⟩
  have hgl := h.a.lt i hi g hgb
  have hgn := h.gn
  have hg0 := h.a.ge i hi g hgb
  have hc : (V.getD i cv0).ck * TE.k = (V.getD i cv0).ck := Nat.mul_one _
  rw [hc] at hb
  have hle := h1.cap.1
  obtain ⟨v, hv⟩ := hb.cell (i := q) (by omega)
  refine ⟨g, e, ⟨v, hv⟩, hb.free q, hgl, ?_⟩
  have kS : Keeps (eqA g) W (W.setCell ⟨g, q, none⟩ (.string (nmx i))) := (Keeps.refl (eqA g) W).setA q _
  refine ⟨h.a, h.gn, h.r0, h.rs.keeps kS (fun x hx => ?_), h.nm.keeps kS (fun x hx => ?_), fun j hj => ?_, fun j hj => ?_, h.kp.then kS (fun x hx => .inr (by unfold eqA at hx; omega))⟩
  · obtain ⟨y, ey, rfl⟩ := hx; cases ey; unfold eqA; simp only; omega
  · obtain ⟨y, ey, rfl⟩ := hx; cases ey; unfold eqA; simp only; omega
  · by_cases hji : j = i
    · subst hji
      rw [if_pos rfl]
      rw [e] at h1
      have h5 := h1.setT q (nmx j)
      refine ⟨_, by rw [e]; exact h5, by rw [List.length_set]; exact h2, fun t ht => ?_⟩
      rw [set_getD _ _ _ _ _ (by omega)]
      by_cases htq : t = q
      · rw [if_pos htq]
      · rw [if_neg htq]; exact h3 t (by omega)
    · rw [if_neg hji]
      exact (h.k j hj).keeps kS (fun x hx hs => h.a.apart hj hi hji hx (by unfold eqA at hs; subst hs; exact hgb))
  · by_cases hji : j = i
    · subst hji
      obtain ⟨ps, p1, p2, p3⟩ := h.p j hj
      exact ⟨ps, p1.keeps kS (fun x hx hs => h.a.ne j hj x (by unfold eqA at hs; subst hs; exact ⟨_, e, rfl⟩) hx), p2, p3⟩
    · exact (h.p j hj).keeps kS (fun x hx hs => h.a.apart hj hi hji hx (by unfold eqA at hs; subst hs; exact hgb))
theorem Six.wP {w0 : World} {gR gN : Nat} {V : List CV} {mk mp : Nat → Nat} {W : World} (h : Six w0 gR gN V mk mp W) {i q : Nat} (hi : i < 6) (hq : q < (V.getD i cv0).np) (hm : mp i = q) :
    ∃ g, (V.getD i cv0).op = some ⟨g, 0, none⟩ ∧ (∃ v, W.cell? ⟨g, q * 2, none⟩ = some v) ∧ (∃ v, W.cell? ⟨g, q * 2 + 1, none⟩ = some v) ∧ W.frozen? ⟨g, q * 2, none⟩ = false ∧ W.frozen? ⟨g, q * 2 + 1, none⟩ = false ∧ g < gR ∧ Six w0 gR gN V mk (fun j => if j = i then q + 1 else mp j) ((W.setCell ⟨g, q * 2, none⟩ (.string (nmx i))).setCell ⟨g, q * 2 + 1, none⟩ (.string e0)) := by
  obtain ⟨xs, h1, h2, h3⟩ := h.p i hi
  obtain ⟨g, e, hb⟩ := h1.blk (by intro e; rw [e, List.length_nil] at h2; omega)
  have hgb : (V.getD i cv0).blk g := .inl ⟨_, e, rfl⟩
  have hgl := h.a.lt i hi g hgb
  have hgn := h.gn
  have hg0 := h.a.ge i hi g hgb
  have hc : (V.getD i cv0).cp * PE.k = (V.getD i cv0).cp * 2 := rfl
  rw [hc] at hb
  have hle := h1.cap.1
  refine ⟨g, e, hb.cell (by omega), hb.cell (by omega), hb.free _, hb.free _, hgl, ?_⟩
  have kS : Keeps (eqA g) W ((W.setCell ⟨g, q * 2, none⟩ (.string (nmx i))).setCell ⟨g, q * 2 + 1, none⟩ (.string e0)) := ((Keeps.refl (eqA g) W).setA _ _).setA _ _
  refine ⟨h.a, h.gn, h.r0, h.rs.keeps kS (fun x hx => ?_), h.nm.keeps kS (fun x hx => ?_), fun j hj => ?_, fun j hj => ?_, h.kp.then kS (fun x hx => .inr (by unfold eqA at hx; omega))⟩
  · obtain ⟨y, ey, rfl⟩ := hx; cases ey; unfold eqA; simp only; omega
  · obtain ⟨y, ey, rfl⟩ := hx; cases ey; unfold eqA; simp only; omega
  · by_cases hji : j = i
    · subst hji
      obtain ⟨ps, p1, p2, p3⟩ := h.k j hj
      exact ⟨ps, p1.keeps kS (fun x hx hs => h.a.ne j hj x hx (by unfold eqA at hs; subst hs; exact ⟨_, e, rfl⟩)), p2, p3⟩
    · exact (h.k j hj).keeps kS (fun x hx hs => h.a.apart hj hi hji hx (by unfold eqA at hs; subst hs; exact hgb))
  · by_cases hji : j = i
    · subst hji
      rw [if_pos rfl]
      rw [e] at h1
      have h5 := h1.setP q (by omega) (nmx j) e0
      refine ⟨_, by rw [e]; exact h5, by rw [List.length_set]; exact h2, fun t ht => ?_⟩
      rw [set_getD _ _ _ _ _ (by omega)]
      by_cases htq : t = q
      · rw [if_pos htq]
      · rw [if_neg htq]; exact h3 t (by omega)
    · rw [if_neg hji]
      exact (h.p j hj).keeps kS (fun x hx hs => h.a.apart hj hi hji hx (by unfold eqA at hs; subst hs; exact hgb))
/-- the same, to be read alone -/
def RowK (W : World) (v : CV) (s : Tx) : Prop := ∃ xs, Row TE W v.ok xs ∧ v.nk = xs.length ∧ ∀ q, q < v.nk → xs.getD q e0 = s
def RowP (W : World) (v : CV) (s : Tx) : Prop := ∃ xs, Row PE W v.op xs ∧ v.np = xs.length ∧ ∀ q, q < v.np → (xs.getD q p0).1 = s
theorem RowK.keeps {S : Nat → Prop} {W W' : World} {v : CV} {s : Tx} (h : RowK W v s) (hk : Keeps S W W') (hS : ∀ x, v.blk x → ¬ S x) : RowK W' v s := by
  obtain ⟨xs, h1, h2, h3⟩ := h
  exact ⟨xs, h1.keeps hk (fun x hx => hS x (.inr hx)), h2, h3⟩
theorem RowP.keeps {S : Nat → Prop} {W W' : World} {v : CV} {s : Tx} (h : RowP W v s) (hk : Keeps S W W') (hS : ∀ x, v.blk x → ¬ S x) : RowP W' v s := by
  obtain ⟨xs, h1, h2, h3⟩ := h
  exact ⟨xs, h1.keeps hk (fun x hx => hS x (.inl hx)), h2, h3⟩
/-- i of them are lengthened -/
structure SixI (w0 : World) (gR gN : Nat) (V : List CV) (i : Nat) (W : World) : Prop where
  a : Apt V w0.heap.size gR
  gn : gR < gN
  r0 : w0.heap.size ≤ gR
  rs : Sl CE W (some ⟨gR, 0, none⟩) 6 V
  nm : Sl TE W (some ⟨gN, 0, none⟩) 6 nmL
  k : ∀ j, i ≤ j → j < 6 → LotK W (V.getD j cv0) (V.getD j cv0).nk (nmx j)
  p : ∀ j, i ≤ j → j < 6 → LotP W (V.getD j cv0) (V.getD j cv0).np (nmx j)
  k2 : ∀ j, j < i → j < 6 → RowK W (V.getD j cv0) (nmx j)
  p2 : ∀ j, j < i → j < 6 → RowP W (V.getD j cv0) (nmx j)
  kp : Keeps no w0 W
theorem SixI.next {w0 : World} {gR gN : Nat} {V : List CV} {i : Nat} {W W' : World} (h : SixI w0 gR gN V i W) (hi : i < 6) (hk : Keeps (V.getD i cv0).blk W W') (h1 : RowK W' (V.getD i cv0) (nmx i)) (h2 : RowP W' (V.getD i cv0) (nmx i)) : SixI w0 gR gN V (i + 1) W' := by
  have hgn := h.gn
  refine ⟨h.a, h.gn, h.r0, h.rs.keeps hk (fun x hx hs => ?_), h.nm.keeps hk (fun x hx hs => ?_), fun j h3 h4 => ?_, fun j h3 h4 => ?_, fun j h3 h4 => ?_, fun j h3 h4 => ?_, h.kp.then hk (fun x hx => .inr (h.a.ge i hi x hx))⟩
  · have := h.a.lt i hi x hs
    obtain ⟨y, ey, rfl⟩ := hx; cases ey; simp only at this; omega
  · have := h.a.lt i hi x hs
    obtain ⟨y, ey, rfl⟩ := hx; cases ey; simp only at this; omega
  · exact (h.k j (by omega) h4).keeps hk (fun x hx => h.a.apart h4 hi (by omega) hx)
  · exact (h.p j (by omega) h4).keeps hk (fun x hx => h.a.apart h4 hi (by omega) hx)
  · by_cases hji : j = i
    · subst hji; exact h1
    · exact (h.k2 j (by omega) h4).keeps hk (fun x hx => h.a.apart h4 hi hji hx)
  · by_cases hji : j = i
    · subst hji; exact h2
    · exact (h.p2 j (by omega) h4).keeps hk (fun x hx => h.a.apart h4 hi hji hx)
theorem Six.done {w0 : World} {gR gN : Nat} {V : List CV} {mk mp : Nat → Nat} {W : World} (h : Six w0 gR gN V mk mp W) (h1 : ∀ j, j < 6 → mk j = (V.getD j cv0).nk) (h2 : ∀ j, j < 6 → mp j = (V.getD j cv0).np) : SixI w0 gR gN V 0 W :=
  ⟨h.a, h.gn, h.r0, h.rs, h.nm, fun j _ h4 => h1 j h4 ▸ h.k j h4, fun j _ h4 => h2 j h4 ▸ h.p j h4, fun j h3 => absurd h3 (Nat.not_lt_zero _), fun j h3 => absurd h3 (Nat.not_lt_zero _), h.kp⟩
theorem Six.upd {w0 : World} {gR gN : Nat} {V : List CV} {mk mp mk' mp' : Nat → Nat} {W : World} (h : Six w0 gR gN V mk mp W) (h1 : ∀ j, j < 6 → mk' j ≤ mk j) (h2 : ∀ j, j < 6 → mp' j ≤ mp j) : Six w0 gR gN V mk' mp' W :=
  ⟨h.a, h.gn, h.r0, h.rs, h.nm, fun j hj => by obtain ⟨xs, a1, a2, a3⟩ := h.k j hj; exact ⟨xs, a1, a2, fun q hq => a3 q (by have := h1 j hj; omega)⟩, fun j hj => by obtain ⟨xs, a1, a2, a3⟩ := h.p j hj; exact ⟨xs, a1, a2, fun q hq => a3 q (by have := h2 j hj; omega)⟩, h.kp⟩
theorem row_pre {α : Type} {E : El α} {W : World} {o : Option Addr} {xs ys : List α} (h : Row E W o (xs ++ ys)) : Row E W o xs := by
  rcases h with e | ⟨b, off, e, hc⟩
  · exact .inl (List.append_eq_nil_iff.1 e).1
  · refine .inr ⟨b, off, e, fun j u hj => hc j u ?_⟩
    rw [cells_append]
    rw [List.getElem?_append_left (List.getElem?_eq_some_iff.1 hj).1]
    exact hj
/-- a list that is being lengthened: what it was stays -/
structure Lo {α : Type} (E : El α) (W0 : World) (o : Option Addr) (xs : List α) (o' : Option Addr) (c' : Nat) (ys : List α) (W : World) : Prop where
  own : Own E W o' c' (xs ++ ys)
  row : Row E W o xs
  new : o' = o ∨ New W0 o'
  old : ∀ x, inO o x → x < W0.heap.size
theorem Lo.start {α : Type} {E : El α} {W0 : World} {o : Option Addr} {c : Nat} {xs : List α} (h : Own E W0 o c xs) : Lo E W0 o xs o c [] W0 := ⟨by rw [List.append_nil]; exact h, h.row, .inl rfl, h.lt⟩
theorem Lo.app {α : Type} {E : El α} {W0 W W' : World} {o o' o'' : Option Addr} {xs ys : List α} {c' c'' : Nat} {zs : List α} (h : Lo E W0 o xs o' c' ys W) (hl : W0.heap.size ≤ W.heap.size) (ho : Own E W' o'' c'' (xs ++ ys ++ zs)) (hap : Ap W o' o'' W') : Lo E W0 o xs o'' c'' (ys ++ zs) W' := by
  rw [List.append_assoc] at ho
  refine ⟨ho, ?_, ?_, h.old⟩
  · rcases hap with ⟨rfl, hh⟩ | ⟨_, hh⟩
    · rcases h.new with rfl | hn
      · exact row_pre ho.row
      · exact h.row.keeps hh (fun x hx hi => by have := h.old x hx; have := hn x hi; omega)
    · exact h.row.keeps hh (fun _ _ h => h)
  · rcases hap with ⟨rfl, hh⟩ | ⟨⟨g, rfl, hg⟩, hh⟩
    · exact h.new
    · exact .inr (new_fresh _ _ (Nat.le_trans hl hg) _)
theorem Lo.keeps {α : Type} {E : El α} {S : Nat → Prop} {W0 W W' : World} {o o' : Option Addr} {xs ys : List α} {c' : Nat} (h : Lo E W0 o xs o' c' ys W) (hk : Keeps S W W') (h1 : ∀ x, inO o x → ¬ S x) (h2 : ∀ x, S x → x < W0.heap.size) : Lo E W0 o xs o' c' ys W' :=
  ⟨h.own.keeps hk (fun x hx hs => by rcases h.new with rfl | hn; exact h1 x hx hs; have := hn x hx; have := h2 x hs; omega), h.row.keeps hk h1, h.new, h.old⟩
theorem Lo.keepsN {α : Type} {E : El α} {W0 W W' : World} {o o' : Option Addr} {xs ys : List α} {c' : Nat} (h : Lo E W0 o xs o' c' ys W) (hk : Keeps no W W') : Lo E W0 o xs o' c' ys W' :=
  ⟨h.own.keepsN hk, h.row.keeps hk (fun _ _ h => h), h.new, h.old⟩
/-- the other list is let alone -/
theorem Lo.beside {α β : Type} {E : El α} {F : El β} (hne : E.e ≠ F.e) {W0 W W' : World} {o o' : Option Addr} {xs ys : List α} {c' : Nat} {q q' q'' : Option Addr} {us vs : List β} {d' : Nat} (hF : Lo F W0 q us q' d' vs W) (hE : Lo E W0 o xs o' c' ys W) (hd : ∀ x, inO o x → ¬ inO q x) (hap : Ap W o' q'' W') : Lo F W0 q us q' d' vs W' := by
  refine ⟨hF.own.aside hne hE.own hap, ?_, hF.new, hF.old⟩
  rcases hap with ⟨rfl, hh⟩ | ⟨_, hh⟩
  · refine hF.row.keeps hh (fun x hx hi => ?_)
    rcases hE.new with rfl | hn
    · exact hd x hi hx
    · have := hF.old x hx; have := hn x hi; omega
  · exact hF.row.keeps hh (fun _ _ h => h)
theorem Lo.kp {α : Type} {E : El α} {S : Nat → Prop} {W0 W W' : World} {o o' q'' : Option Addr} {xs ys : List α} {c' : Nat} (hE : Lo E W0 o xs o' c' ys W) (hS : ∀ x, inO o x → S x) (hk : Keeps S W0 W) (hap : Ap W o' q'' W') : Keeps S W0 W' := by
  rcases hap with ⟨rfl, hh⟩ | ⟨_, hh⟩
  · refine hk.then hh (fun x hi => ?_)
    rcases hE.new with rfl | hn
    · exact .inl (hS x hi)
    · exact .inr (hn x hi)
  · exact hk.then hh (fun x hi => hi.elim)
end Go.Proofs.YtdalheeifgampaaDoor
