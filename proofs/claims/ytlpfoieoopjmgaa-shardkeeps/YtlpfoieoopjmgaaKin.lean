import Derived.Test.YtlpfoieoopjmgaaMem
namespace Go.Proofs.Ytlpfoieoopjmgaa
open Go.RowKit
set_option linter.unusedVariables false
set_option linter.unusedSimpArgs false

abbrev Tx := ByteArray
abbrev Pr := ByteArray × ByteArray
def e0 : Tx := ⟨#[]⟩
def p0 : Pr := (e0, e0)
/-- a list as a value; a list with a number -/
structure LS (α : Type) where
  o : Option Addr
  c : Nat
  xs : List α
structure GS (α : Type) where
  n : Nat
  o : Option Addr
  c : Nat
  xs : List α
def ls0 {α : Type} : LS α := ⟨none, 0, []⟩
def gs0 {α : Type} : GS α := ⟨0, none, 0, []⟩
def LS.enc {α : Type} (s : LS α) : List Value := [.slice s.o s.xs.length s.c]
def GS.enc {α : Type} (s : GS α) : List Value := [.int .i64 (s.n : Nat), .slice s.o s.xs.length s.c]
def TE : El Tx := ⟨9, 22, 1, 16, fun s => [.string s]⟩
def PE : El Pr := ⟨38, 36, 2, 32, fun p => [.string p.1, .string p.2]⟩
def XE : El (LS Tx) := ⟨22, 47, 1, 24, LS.enc⟩
def YE : El (LS Pr) := ⟨36, 48, 1, 24, LS.enc⟩
def GE : El (GS Tx) := ⟨30, 24, 2, 32, GS.enc⟩
def HE : El (GS Pr) := ⟨43, 39, 2, 32, GS.enc⟩
def GR : El (GS Tx) := ⟨57, 51, 2, 32, GS.enc⟩
def HR : El (GS Pr) := ⟨58, 54, 2, 32, GS.enc⟩
def IE : El Nat := ⟨3, 31, 1, 8, fun n => [.int .i64 (n : Nat)]⟩
theorem info9 : (Try.prog.info? 9).map (fun i => (i.zero, i.size, i.bytes)) = some (some (.string ⟨#[]⟩), 1, 16) := by kernel_rfl
theorem info38 : (Try.prog.info? 38).map (fun i => (i.zero, i.size, i.bytes)) = some (some (.agg #[.string ⟨#[]⟩, .string ⟨#[]⟩]), 2, 32) := by kernel_rfl
theorem info22 : (Try.prog.info? 22).map (fun i => (i.zero, i.size, i.bytes)) = some (some (.slice none 0 0), 1, 24) := by kernel_rfl
theorem info36 : (Try.prog.info? 36).map (fun i => (i.zero, i.size, i.bytes)) = some (some (.slice none 0 0), 1, 24) := by kernel_rfl
theorem info30 : (Try.prog.info? 30).map (fun i => (i.zero, i.size, i.bytes)) = some (some (.agg #[.int .i64 0, .slice none 0 0]), 2, 32) := by kernel_rfl
theorem info43 : (Try.prog.info? 43).map (fun i => (i.zero, i.size, i.bytes)) = some (some (.agg #[.int .i64 0, .slice none 0 0]), 2, 32) := by kernel_rfl
theorem info57 : (Try.prog.info? 57).map (fun i => (i.zero, i.size, i.bytes)) = some (some (.agg #[.int .i64 0, .slice none 0 0]), 2, 32) := by kernel_rfl
theorem info58 : (Try.prog.info? 58).map (fun i => (i.zero, i.size, i.bytes)) = some (some (.agg #[.int .i64 0, .slice none 0 0]), 2, 32) := by kernel_rfl
theorem info3 : (Try.prog.info? 3).map (fun i => (i.zero, i.size, i.bytes)) = some (some (.int .i64 0), 1, 8) := by kernel_rfl
theorem okT : TE.Ok := by
  obtain ⟨i0, hi, hz0, hz1, hz2⟩ := info_parts info9
  exact ⟨fun _ => rfl, fun x u hu => by simp [TE] at hu; subst hu; rfl, by decide, Try.underlying22, i0, _, hi, hz0, hz1, hz2, rfl⟩
theorem okP : PE.Ok := by
  obtain ⟨i0, hi, hz0, hz1, hz2⟩ := info_parts info38
  exact ⟨fun _ => rfl, fun x u hu => by simp [PE] at hu; rcases hu with rfl | rfl <;> rfl, by decide, Try.underlying36, i0, _, hi, hz0, hz1, hz2, rfl⟩
theorem okX : XE.Ok := by
  obtain ⟨i0, hi, hz0, hz1, hz2⟩ := info_parts info22
  exact ⟨fun _ => rfl, fun x u hu => by simp [XE, LS.enc] at hu; subst hu; rfl, by decide, Try.underlying47, i0, _, hi, hz0, hz1, hz2, rfl⟩
theorem okY : YE.Ok := by
  obtain ⟨i0, hi, hz0, hz1, hz2⟩ := info_parts info36
  exact ⟨fun _ => rfl, fun x u hu => by simp [YE, LS.enc] at hu; subst hu; rfl, by decide, Try.underlying48, i0, _, hi, hz0, hz1, hz2, rfl⟩
theorem okG : GE.Ok := by
  obtain ⟨i0, hi, hz0, hz1, hz2⟩ := info_parts info30
  exact ⟨fun _ => rfl, fun x u hu => by simp [GE, GS.enc] at hu; rcases hu with rfl | rfl <;> rfl, by decide, Try.underlying24, i0, _, hi, hz0, hz1, hz2, rfl⟩
theorem okH : HE.Ok := by
  obtain ⟨i0, hi, hz0, hz1, hz2⟩ := info_parts info43
  exact ⟨fun _ => rfl, fun x u hu => by simp [HE, GS.enc] at hu; rcases hu with rfl | rfl <;> rfl, by decide, Try.underlying39, i0, _, hi, hz0, hz1, hz2, rfl⟩
theorem okGR : GR.Ok := by
  obtain ⟨i0, hi, hz0, hz1, hz2⟩ := info_parts info57
  exact ⟨fun _ => rfl, fun x u hu => by simp [GR, GS.enc] at hu; rcases hu with rfl | rfl <;> rfl, by decide, Try.underlying51, i0, _, hi, hz0, hz1, hz2, rfl⟩
theorem okHR : HR.Ok := by
  obtain ⟨i0, hi, hz0, hz1, hz2⟩ := info_parts info58
  exact ⟨fun _ => rfl, fun x u hu => by simp [HR, GS.enc] at hu; rcases hu with rfl | rfl <;> rfl, by decide, Try.underlying54, i0, _, hi, hz0, hz1, hz2, rfl⟩
theorem okI : IE.Ok := by
  obtain ⟨i0, hi, hz0, hz1, hz2⟩ := info_parts info3
  exact ⟨fun _ => rfl, fun x u hu => by simp [IE] at hu; subst hu; rfl, by decide, Try.underlying31, i0, _, hi, hz0, hz1, hz2, rfl⟩

theorem tx_eq (x y : Tx) : (x.toList == y.toList) = decide (x = y) := by
  rw [Lib.toList_data, Lib.toList_data]
  by_cases h : x = y
  · subst h; simp
  · simp [h]; intro e; exact h (by cases x; cases y; simpa using e)

/-! ### slices as they are handed on -/
structure Sl {α : Type} (E : El α) (w : World) (a : Option Addr) (c : Nat) (xs : List α) : Prop where
  row : Row E w a xs
  cap : xs.length ≤ c
  nil : a = none → c = 0
variable {α : Type} {E : El α}
theorem Own.sl {w : World} {o : Option Addr} {c : Nat} {xs : List α} (h : Own E w o c xs) : Sl E w o c xs := ⟨h.row, h.cap.1, h.cap.2⟩
theorem Sl.keeps {S : Nat → Prop} {w w' : World} {a : Option Addr} {c : Nat} {xs : List α} (h : Sl E w a c xs) (hk : Keeps S w w') (ha : ∀ k, inO a k → ¬ S k) : Sl E w' a c xs := ⟨h.row.keeps hk ha, h.cap, h.nil⟩
theorem Sl.keepsN {w w' : World} {a : Option Addr} {c : Nat} {xs : List α} (h : Sl E w a c xs) (hk : Keeps no w w') : Sl E w' a c xs := ⟨h.row.keepsN hk, h.cap, h.nil⟩
theorem Sl.lt {w : World} {a : Option Addr} {c : Nat} {xs : List α} (h : Sl E w a c xs) (hx : E.Ok) (hn : xs ≠ []) : ∀ k, inO a k → k < w.heap.size := by
  rcases h.row with e | ⟨b, off, rfl, hc⟩
  · exact absurd e hn
  · rintro k ⟨x, e, rfl⟩
    cases e
    cases xs with
    | nil => exact absurd rfl hn
    | cons y r =>
      have hl : 0 < (E.cells (y :: r)).length := by rw [cells_length hx]; exact Nat.mul_pos (by simp) hx.pos
      have := hc 0 _ (List.getElem?_eq_getElem hl)
      exact World.block_lt_of_cell? w _ this
/-- the j-th of a kind of one cell, of two cells -/
theorem Sl.one {w : World} {a : Option Addr} {c : Nat} {xs : List α} (h : Sl E w a c xs) (hx : E.Ok) (hk : E.k = 1) (d : α) {j : Nat} (hj : j < xs.length) (u : Value) (hu : E.enc (xs.getD j d) = [u]) : ∃ b off, a = some ⟨b, off, none⟩ ∧ w.cell? ⟨b, off + j, none⟩ = some u := by
  rcases h.row with e | ⟨b, off, rfl, hc⟩
  · subst e; simp at hj
  · refine ⟨b, off, rfl, hc j _ ?_⟩
    have := cells_at hx d xs j 0 hj (by omega)
    rw [hk, hu] at this
    simpa using this
theorem Sl.two {w : World} {a : Option Addr} {c : Nat} {xs : List α} (h : Sl E w a c xs) (hx : E.Ok) (hk : E.k = 2) (d : α) {j : Nat} (hj : j < xs.length) (u v : Value) (hu : E.enc (xs.getD j d) = [u, v]) : ∃ b off, a = some ⟨b, off, none⟩ ∧ w.cell? ⟨b, off + j * 2, none⟩ = some u ∧ w.cell? ⟨b, off + j * 2 + 1, none⟩ = some v := by
  rcases h.row with e | ⟨b, off, rfl, hc⟩
  · subst e; simp at hj
  · refine ⟨b, off, rfl, hc (j * 2) _ ?_, ?_⟩
    · have := cells_at hx d xs j 0 hj (by omega)
      rw [hk, hu] at this
      simpa using this
    · rw [Nat.add_assoc]
      refine hc (j * 2 + 1) _ ?_
      have := cells_at hx d xs j 1 hj (by omega)
      rw [hk, hu] at this
      simpa using this
theorem Sl.at {w : World} {a : Option Addr} {c : Nat} {xs : List Tx} (h : Sl TE w a c xs) {j : Nat} (hj : j < xs.length) : ∃ b off, a = some ⟨b, off, none⟩ ∧ w.cell? ⟨b, off + j, none⟩ = some (.string (xs.getD j e0)) := h.one okT rfl e0 hj _ rfl
theorem Sl.atP {w : World} {a : Option Addr} {c : Nat} {xs : List Pr} (h : Sl PE w a c xs) {j : Nat} (hj : j < xs.length) : ∃ b off, a = some ⟨b, off, none⟩ ∧ w.cell? ⟨b, off + j * 2, none⟩ = some (.string (xs.getD j p0).1) ∧ w.cell? ⟨b, off + j * 2 + 1, none⟩ = some (.string (xs.getD j p0).2) := h.two okP rfl p0 hj _ _ rfl
theorem Sl.atI {w : World} {a : Option Addr} {c : Nat} {xs : List Nat} (h : Sl IE w a c xs) {j : Nat} (hj : j < xs.length) : ∃ b off, a = some ⟨b, off, none⟩ ∧ w.cell? ⟨b, off + j, none⟩ = some (.int .i64 (xs.getD j 0 : Nat)) := h.one okI rfl 0 hj _ rfl
theorem own_empty (hE : E.Ok) (w : World) : Own E (w.alloc (.cells #[] E.e)) (some ⟨w.heap.size, 0, none⟩) 0 [] := by
  refine own_of_shape hE (blk_new w _) (Nat.le_refl _) (by unfold maxLen; omega) (by simp) (by simp [El.cells])
theorem new_fresh (w : World) (i : Nat) (h : w.heap.size ≤ i) (off : Nat) : New w (some ⟨i, off, none⟩) := by
  rintro k ⟨x, e, rfl⟩; cases e; exact h
theorem take_succ_getD {α : Type} (l : List α) (k : Nat) (d : α) (h : k < l.length) : l.take (k + 1) = l.take k ++ [l.getD k d] := by
  rw [List.take_add_one]; simp [h]
theorem getD_set {α : Type} (l : List α) (i j : Nat) (x d : α) (hi : i < l.length) : (l.set i x).getD j d = if j = i then x else l.getD j d := by
  simp only [List.getD_eq_getElem?_getD, List.getElem?_set]
  by_cases h : i = j
  · subst h; simp [hi]
  · rw [if_neg h, if_neg (Ne.symm h)]
theorem getD_append {α : Type} (l m : List α) (j : Nat) (d : α) : (l ++ m).getD j d = if j < l.length then l.getD j d else m.getD (j - l.length) d := by
  simp only [List.getD_eq_getElem?_getD]
  split
  · rw [List.getElem?_append_left (by assumption)]
  · rw [List.getElem?_append_right (by omega)]

/-! ### blocks of unlike kinds are unlike -/
theorem Own.tag {w : World} {o : Option Addr} {c : Nat} {xs : List α} (h : Own E w o c xs) : ∀ k, inO o k → ∃ cur, w.heap[k]? = some (.cells cur E.e (0, 0)) := by
  rintro k ⟨x, e, rfl⟩
  rcases h.shape with ⟨e', _⟩ | ⟨g, cur, e', hg, _⟩
  · rw [e'] at e; cases e
  · rw [e'] at e; cases e; exact ⟨cur, hg⟩
theorem tags_ne {α β : Type} {E : El α} {F : El β} (hEF : E.e ≠ F.e) {w : World} {o o' : Option Addr} {c c' : Nat} {xs : List α} {ys : List β} (h : Own E w o c xs) (h' : Own F w o' c' ys) : ∀ k, inO o k → ¬ inO o' k := by
  intro k h1 h2
  obtain ⟨a, ha⟩ := h.tag k h1
  obtain ⟨b, hb⟩ := h'.tag k h2
  rw [ha] at hb
  injection hb with hb
  injection hb with _ hb _
  exact hEF hb

/-! ### one cell written over -/
theorem cells_map (hk : E.k = 1) (f : α → Value) (hf : ∀ x, E.enc x = [f x]) : ∀ l : List α, E.cells l = l.map f
  | [] => rfl
  | x :: r => by
    have := cells_map hk f hf r
    simp only [El.cells, List.flatMap_cons, List.map_cons] at this ⊢
    rw [this, hf]; rfl
theorem Own.store {w : World} {o : Option Addr} {c : Nat} {xs : List α} (hE : E.Ok) (hk : E.k = 1) (f : α → Value) (hf : ∀ x, E.enc x = [f x]) (d : α) (h : Own E w o c xs) (j : Nat) (hj : j < xs.length) (s : α) :
    ∃ g, o = some ⟨g, 0, none⟩ ∧ w.cell? ⟨g, j, none⟩ = some (f (xs.getD j d)) ∧ w.frozen? ⟨g, j, none⟩ = false ∧ Own E (w.setCell ⟨g, j, none⟩ (f s)) o c (xs.set j s) ∧ Keeps (inO o) w (w.setCell ⟨g, j, none⟩ (f s)) := by
  rcases h.shape with ⟨_, _, e⟩ | ⟨g, cur, rfl, hg, hc, hm, hs, ht⟩
  · rw [e] at hj; simp at hj
  · refine ⟨g, rfl, ?_, frozen_of_blk hg j, ?_, (Keeps.refl _ _).setCell (.inl ⟨_, rfl, rfl⟩) _⟩
    · obtain ⟨b, off, e, h1⟩ := h.sl.one hE hk d hj _ (hf _)
      cases e
      rw [Nat.zero_add] at h1
      exact h1
    · refine own_of_shape hE (blk_set hg j _) (by simpa using hc) hm (by simp [hs]) ?_
      rw [cells_map hk f hf] at ht ⊢
      rw [hk, Nat.mul_one] at ht
      simp only [Array.toList_setIfInBounds, List.length_set, List.map_set, hk, Nat.mul_one]
      rw [List.take_set, ht]

/-! ### lists of lists, each by itself -/
structure Lots {α : Type} (E : El α) (X : El (LS α)) (w : World) (oA : Option Addr) (cA : Nat) (L : List (LS α)) : Prop where
  own : Own X w oA cA L
  each : ∀ j, j < L.length → Own E w (L.getD j ls0).o (L.getD j ls0).c (L.getD j ls0).xs
  far : ∀ i j, i < L.length → j < L.length → i ≠ j → ∀ k, inO (L.getD i ls0).o k → ¬ inO (L.getD j ls0).o k
structure Kind {α : Type} (E : El α) (X : El (LS α)) : Prop where
  e : E.Ok
  x : X.Ok
  ne : E.e ≠ X.e
  k : X.k = 1
  enc : ∀ s, X.enc s = [.slice s.o s.xs.length s.c]
theorem kindT : Kind TE XE := ⟨okT, okX, by decide, rfl, fun _ => rfl⟩
theorem kindP : Kind PE YE := ⟨okP, okY, by decide, rfl, fun _ => rfl⟩
variable {X : El (LS α)}
theorem Lots.keeps {S : Nat → Prop} {w w' : World} {oA : Option Addr} {cA : Nat} {L : List (LS α)} (h : Lots E X w oA cA L) (hk : Keeps S w w') (h1 : ∀ k, inO oA k → ¬ S k) (h2 : ∀ j, j < L.length → ∀ k, inO (L.getD j ls0).o k → ¬ S k) : Lots E X w' oA cA L :=
  ⟨h.own.keeps hk h1, fun j hj => (h.each j hj).keeps hk (h2 j hj), h.far⟩
theorem Lots.keepsN {w w' : World} {oA : Option Addr} {cA : Nat} {L : List (LS α)} (h : Lots E X w oA cA L) (hk : Keeps no w w') : Lots E X w' oA cA L := h.keeps hk (fun _ _ => id) (fun _ _ _ _ => id)
/-- one list longer, and laid back -/
theorem Lots.app (K : Kind E X) {w w' : World} {oA : Option Addr} {cA : Nat} {L : List (LS α)} (h : Lots E X w oA cA L) (i : Nat) (hi : i < L.length) {o' : Option Addr} {c' : Nat} {ys : List α} (ho : Own E w' o' c' ys) (hap : Ap w (L.getD i ls0).o o' w') :
    ∃ b, oA = some ⟨b, 0, none⟩ ∧ w'.cell? ⟨b, i, none⟩ = some (.slice (L.getD i ls0).o (L.getD i ls0).xs.length (L.getD i ls0).c) ∧ w'.frozen? ⟨b, i, none⟩ = false ∧ Lots E X (w'.setCell ⟨b, i, none⟩ (.slice o' ys.length c')) oA cA (L.set i ⟨o', c', ys⟩) ∧ Keeps (inO (L.getD i ls0).o) w w' := by
  have hk : Keeps (inO (L.getD i ls0).o) w w' := by
    rcases hap with ⟨_, hk⟩ | ⟨_, hk⟩
    · exact hk
    · exact hk.of_no
  have hX : Own X w' oA cA L := h.own.keeps hk (fun b hb1 hb2 => tags_ne K.ne (h.each i hi) h.own b hb2 hb1)
  obtain ⟨b, e, h1, h2, h3, h4⟩ := hX.store K.x K.k (fun s => .slice s.o s.xs.length s.c) K.enc ls0 i hi ⟨o', c', ys⟩
  have hoth : ∀ j, j < L.length → j ≠ i → Own E w' (L.getD j ls0).o (L.getD j ls0).c (L.getD j ls0).xs := fun j hj e => (h.each j hj).keeps hk (fun b hb1 hb2 => h.far j i hj hi e b hb1 hb2)
  have hnew : ∀ j, j < L.length → j ≠ i → ∀ x, inO o' x → ¬ inO (L.getD j ls0).o x := by
    intro j hj e x hx hx2
    rcases hap with ⟨e', _⟩ | ⟨⟨g, e', hg⟩, _⟩
    · subst e'; exact h.far j i hj hi e x hx2 hx
    · subst e'
      obtain ⟨y, ey, rfl⟩ := hx
      cases ey
      have := (h.each j hj).lt _ hx2
      simp at this
      omega
  refine ⟨b, e, h1, h2, ⟨h3, ?_, ?_⟩, hk⟩
  · intro j hj
    rw [List.length_set] at hj
    rw [getD_set L i j _ ls0 hi]
    by_cases e : j = i
    · rw [if_pos e]; exact ho.keeps h4 (fun b hb1 hb2 => tags_ne K.ne ho hX b hb1 hb2)
    · rw [if_neg e]; exact (hoth j hj e).keeps h4 (fun b hb1 hb2 => tags_ne K.ne (hoth j hj e) hX b hb1 hb2)
  · intro a c ha hc hac x hx
    rw [List.length_set] at ha hc
    rw [getD_set L i a _ ls0 hi] at hx
    rw [getD_set L i c _ ls0 hi]
    by_cases e1 : a = i
    · rw [if_pos e1] at hx
      rw [if_neg (fun e => hac (e1.trans e.symm))]
      exact hnew c hc (fun e => hac (e1.trans e.symm)) x hx
    · rw [if_neg e1] at hx
      by_cases e2 : c = i
      · rw [if_pos e2]
        exact fun h' => hnew a ha e1 x h' hx
      · rw [if_neg e2]; exact h.far a c ha hc hac x hx
end Go.Proofs.Ytlpfoieoopjmgaa
