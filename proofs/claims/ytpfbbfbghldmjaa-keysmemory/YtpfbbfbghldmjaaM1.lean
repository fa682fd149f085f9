import Derived.Test.YtpfbbfbghldmjaaE1
namespace Go.Proofs.Ytpfbbfbghldmjaa
open Go.RowKit Go.Sort Orl
set_option linter.unusedVariables false
set_option linter.unusedSimpArgs false

/-- a list of texts as a value -/
structure SlT where
  o : Option Addr
  c : Nat
  xs : List Tx
def s0 : SlT := ⟨none, 0, []⟩
def XE : El SlT := ⟨22, 44, 1, 24, fun s => [.slice s.o s.xs.length s.c]⟩
def IE : El Nat := ⟨3, 56, 1, 8, fun n => [.int .i64 (n : Nat)]⟩
theorem info22 : (Try.prog.info? 22).map (fun i => (i.zero, i.size, i.bytes)) = some (some (.slice none 0 0), 1, 24) := by kernel_rfl
theorem info3 : (Try.prog.info? 3).map (fun i => (i.zero, i.size, i.bytes)) = some (some (.int .i64 0), 1, 8) := by kernel_rfl
theorem okX : XE.Ok := by
  obtain ⟨i0, hi, hz0, hz1, hz2⟩ := info_parts info22
  exact ⟨fun _ => rfl, fun x u hu => by simp [XE] at hu; subst hu; rfl, by decide, Try.underlying44, i0, _, hi, hz0, hz1, hz2, rfl⟩
theorem okI : IE.Ok := by
  obtain ⟨i0, hi, hz0, hz1, hz2⟩ := info_parts info3
  exact ⟨fun _ => rfl, fun x u hu => by simp [IE] at hu; subst hu; rfl, by decide, Try.underlying56, i0, _, hi, hz0, hz1, hz2, rfl⟩
theorem Sl.atX {w : World} {a : Option Addr} {c : Nat} {xs : List SlT} (h : Sl XE w a c xs) {j : Nat} (hj : j < xs.length) : ∃ b off, a = some ⟨b, off, none⟩ ∧ w.cell? ⟨b, off + j, none⟩ = some (.slice (xs.getD j s0).o (xs.getD j s0).xs.length (xs.getD j s0).c) := by
  rcases h.row with e | ⟨b, off, rfl, hc⟩
  · subst e; simp at hj
  · refine ⟨b, off, rfl, hc j _ ?_⟩
    have := cells_at okX s0 xs j 0 hj (by decide)
    simpa [XE] using this
theorem Sl.atI {w : World} {a : Option Addr} {c : Nat} {xs : List Nat} (h : Sl IE w a c xs) {j : Nat} (hj : j < xs.length) : ∃ b off, a = some ⟨b, off, none⟩ ∧ w.cell? ⟨b, off + j, none⟩ = some (.int .i64 (xs.getD j 0 : Nat)) := by
  rcases h.row with e | ⟨b, off, rfl, hc⟩
  · subst e; simp at hj
  · refine ⟨b, off, rfl, hc j _ ?_⟩
    have := cells_at okI 0 xs j 0 hj (by decide)
    simpa [IE] using this

def mk (z : Int) : Tx := [z].foldl (fun r n => r.push (UInt8.ofNat n.toNat)) ByteArray.empty
theorem conv1 (W : World) (B : Nat) (z : Int) (h : W.heap[B]? = some (.cells #[.int .u8 z] 5 (0, 0))) : (convert 57 9 (.slice (some ⟨B, 0, none⟩) 1 1)).run Try.prog W = .ok (.string (mk z)) W := by
  rw [run_convert_bytes_string W 57 9 5 _ 1 1 Try.underlying57 Try.underlying5 Try.underlying9]
  have hload := run_loadCells_list (P := Try.prog) W ⟨B, 0, none⟩ [.int .u8 z] (by
    intro j u hj
    rw [addr_add, Nat.zero_add, cell_of_blk h]
    simpa using hj)
  exact run_bytesToString W ⟨B, 0, none⟩ 1 1 [z] hload

/-! ### lists of texts, each by itself -/
structure Lots (w : World) (oA : Option Addr) (cA : Nat) (L : List SlT) : Prop where
  own : Own XE w oA cA L
  each : ∀ j, j < L.length → Own TE w (L.getD j s0).o (L.getD j s0).c (L.getD j s0).xs
  far : ∀ i j, i < L.length → j < L.length → i ≠ j → ∀ k, inO (L.getD i s0).o k → ¬ inO (L.getD j s0).o k

theorem Own.tag {α : Type} {E : El α} {w : World} {o : Option Addr} {c : Nat} {xs : List α} (h : Own E w o c xs) : ∀ k, inO o k → ∃ cur, w.heap[k]? = some (.cells cur E.e (0, 0)) := by
  rintro k ⟨x, e, rfl⟩
  rcases h.shape with ⟨e', _⟩ | ⟨g, cur, e', hg, _⟩
  · rw [e'] at e; cases e
  · rw [e'] at e; cases e; exact ⟨cur, hg⟩
theorem tags_ne {α β : Type} {E : El α} {F : El β} (hEF : E.e ≠ F.e) {w : World} {o o' : Option Addr} {c c' : Nat} {xs : List α} {ys : List β} (h : Own E w o c xs) (h' : Own F w o' c' ys) : ∀ k, inO o k → ¬ inO o' k := by
  intro k h1 h2
  obtain ⟨a, ha⟩ := h.tag k h1
  obtain ⟨b, hb⟩ := h'.tag k h2
  rw [ha] at hb
  injection hb with hb
  injection hb with _ hb _
  exact hEF hb
theorem Lots.keeps {S : Nat → Prop} {w w' : World} {oA : Option Addr} {cA : Nat} {L : List SlT} (h : Lots w oA cA L) (hk : Keeps S w w') (h1 : ∀ k, inO oA k → ¬ S k) (h2 : ∀ j, j < L.length → ∀ k, inO (L.getD j s0).o k → ¬ S k) : Lots w' oA cA L :=
  ⟨h.own.keeps hk h1, fun j hj => (h.each j hj).keeps hk (h2 j hj), h.far⟩
theorem Lots.keepsN {w w' : World} {oA : Option Addr} {cA : Nat} {L : List SlT} (h : Lots w oA cA L) (hk : Keeps no w w') : Lots w' oA cA L := h.keeps hk (fun _ _ => id) (fun _ _ _ _ => id)
theorem Lots.keepsI {w w' : World} {oA : Option Addr} {cA : Nat} {L : List SlT} (h : Lots w oA cA L) {on : Option Addr} {cn : Nat} {ns : List Nat} (hi : Own IE w on cn ns) (hk : Keeps (inO on) w w') : Lots w' oA cA L :=
  h.keeps hk (fun k h1 h2 => tags_ne (by decide) h.own hi k h1 h2) (fun j hj k h1 h2 => tags_ne (by decide) (h.each j hj) hi k h1 h2)

theorem Own.storeT {w : World} {o : Option Addr} {c : Nat} {xs : List Tx} (h : Own TE w o c xs) (j : Nat) (hj : j < xs.length) (s : Tx) :
    ∃ g, o = some ⟨g, 0, none⟩ ∧ w.cell? ⟨g, j, none⟩ = some (.string (xs.getD j e0)) ∧ w.frozen? ⟨g, j, none⟩ = false ∧ Own TE (w.setCell ⟨g, j, none⟩ (.string s)) o c (xs.set j s) ∧ Keeps (inO o) w (w.setCell ⟨g, j, none⟩ (.string s)) := by
  rcases h.shape with ⟨_, _, e⟩ | ⟨g, cur, rfl, hg, hc, hm, hs, ht⟩
  · rw [e] at hj; simp at hj
  · refine ⟨g, rfl, ?_, frozen_of_blk hg j, ?_, (Keeps.refl _ _).setCell (.inl ⟨_, rfl, rfl⟩) _⟩
    · obtain ⟨b, off, e, h1⟩ := h.sl.at hj
      cases e
      rw [Nat.zero_add] at h1
      exact h1
    · refine own_of_shape okT (blk_set hg j _) (by simpa using hc) hm (by simp [hs]) ?_
      rw [cells_T] at ht ⊢
      simp only [Array.toList_setIfInBounds, List.length_set, List.map_set]
      rw [List.take_set, ht]
theorem Own.storeX {w : World} {o : Option Addr} {c : Nat} {L : List SlT} (h : Own XE w o c L) (j : Nat) (hj : j < L.length) (s : SlT) :
    ∃ g, o = some ⟨g, 0, none⟩ ∧ w.cell? ⟨g, j, none⟩ = some (.slice (L.getD j s0).o (L.getD j s0).xs.length (L.getD j s0).c) ∧ w.frozen? ⟨g, j, none⟩ = false ∧ Own XE (w.setCell ⟨g, j, none⟩ (.slice s.o s.xs.length s.c)) o c (L.set j s) ∧ Keeps (inO o) w (w.setCell ⟨g, j, none⟩ (.slice s.o s.xs.length s.c)) := by
  have cellsX : ∀ l : List SlT, XE.cells l = l.map fun s => .slice s.o s.xs.length s.c := by
    intro l
    induction l with
    | nil => rfl
    | cons x r ih => simp [El.cells, XE] at ih ⊢; exact ih
  rcases h.shape with ⟨_, _, e⟩ | ⟨g, cur, rfl, hg, hc, hm, hs, ht⟩
  · rw [e] at hj; simp at hj
  · refine ⟨g, rfl, ?_, frozen_of_blk hg j, ?_, (Keeps.refl _ _).setCell (.inl ⟨_, rfl, rfl⟩) _⟩
    · obtain ⟨b, off, e, h1⟩ := h.sl.atX hj
      cases e
      rw [Nat.zero_add] at h1
      exact h1
    · refine own_of_shape okX (blk_set hg j _) (by simpa using hc) hm (by simp [hs]) ?_
      rw [cellsX] at ht ⊢
      simp only [Array.toList_setIfInBounds, List.length_set, List.map_set]
      rw [List.take_set, ht]
theorem getD_set {α : Type} (l : List α) (i j : Nat) (x d : α) (hi : i < l.length) : (l.set i x).getD j d = if j = i then x else l.getD j d := by
  simp only [List.getD_eq_getElem?_getD, List.getElem?_set]
  by_cases h : i = j
  · subst h; simp [hi]
  · rw [if_neg h, if_neg (Ne.symm h)]

/-- one text of one list written over -/
theorem Lots.setT {w : World} {oA : Option Addr} {cA : Nat} {L : List SlT} (h : Lots w oA cA L) (i k : Nat) (hi : i < L.length) (hk : k < (L.getD i s0).xs.length) (s : Tx) :
    ∃ g, (L.getD i s0).o = some ⟨g, 0, none⟩ ∧ w.cell? ⟨g, k, none⟩ = some (.string ((L.getD i s0).xs.getD k e0)) ∧ w.frozen? ⟨g, k, none⟩ = false ∧ Lots (w.setCell ⟨g, k, none⟩ (.string s)) oA cA (L.set i ⟨(L.getD i s0).o, (L.getD i s0).c, (L.getD i s0).xs.set k s⟩) ∧ Keeps (inO (L.getD i s0).o) w (w.setCell ⟨g, k, none⟩ (.string s)) := by
  obtain ⟨g, e, h1, h2, h3, h4⟩ := (h.each i hi).storeT k hk s
  refine ⟨g, e, h1, h2, ⟨?_, ?_, ?_⟩, h4⟩
  · have h5 : Own XE (w.setCell ⟨g, k, none⟩ (.string s)) oA cA L := h.own.keeps h4 (fun b hb1 hb2 => tags_ne (by decide) (h.each i hi) h.own b hb2 hb1)
    have hc : XE.cells (L.set i ⟨(L.getD i s0).o, (L.getD i s0).c, (L.getD i s0).xs.set k s⟩) = XE.cells L := by
      have cellsX : ∀ l : List SlT, XE.cells l = l.map fun s => .slice s.o s.xs.length s.c := by
        intro l
        induction l with
        | nil => rfl
        | cons x r ih => simp [El.cells, XE] at ih ⊢; exact ih
      rw [cellsX, cellsX, List.map_set]
      apply List.ext_getElem?
      intro j
      rw [List.getElem?_set]
      by_cases e : i = j
      · subst e; simp [hi]
      · simp [e]
    unfold Own at h5 ⊢
    rw [hc, List.length_set]
    exact h5
  · intro j hj
    rw [List.length_set] at hj
    rw [getD_set L i j _ s0 hi]
    by_cases e : j = i
    · rw [if_pos e]; exact h3
    · rw [if_neg e]; exact (h.each j hj).keeps h4 (fun b hb1 hb2 => h.far j i hj hi e b hb1 hb2)
  · intro a b ha hb hab x hx
    rw [List.length_set] at ha hb
    rw [getD_set L i a _ s0 hi] at hx
    rw [getD_set L i b _ s0 hi]
    have hx' : inO (L.getD a s0).o x := by
      by_cases e : a = i
      · rw [if_pos e] at hx; subst e; exact hx
      · rw [if_neg e] at hx; exact hx
    have := h.far a b ha hb hab x hx'
    by_cases e : b = i
    · rw [if_pos e]; subst e; exact this
    · rw [if_neg e]; exact this

/-- one list longer by a text, and laid back -/
theorem Lots.app {w w' : World} {oA : Option Addr} {cA : Nat} {L : List SlT} (h : Lots w oA cA L) (i : Nat) (hi : i < L.length) {o' : Option Addr} {c' : Nat} {ys : List Tx} (ho : Own TE w' o' c' ys) (hap : Ap w (L.getD i s0).o o' w') :
    ∃ b, oA = some ⟨b, 0, none⟩ ∧ w'.cell? ⟨b, i, none⟩ = some (.slice (L.getD i s0).o (L.getD i s0).xs.length (L.getD i s0).c) ∧ w'.frozen? ⟨b, i, none⟩ = false ∧ Lots (w'.setCell ⟨b, i, none⟩ (.slice o' ys.length c')) oA cA (L.set i ⟨o', c', ys⟩) ∧ Keeps (inO (L.getD i s0).o) w w' := by
  have hk : Keeps (inO (L.getD i s0).o) w w' := by
    rcases hap with ⟨_, hk⟩ | ⟨_, hk⟩
    · exact hk
    · exact hk.of_no
  have hX : Own XE w' oA cA L := h.own.keeps hk (fun b hb1 hb2 => tags_ne (by decide) (h.each i hi) h.own b hb2 hb1)
  obtain ⟨b, e, h1, h2, h3, h4⟩ := hX.storeX i hi ⟨o', c', ys⟩
  have hoth : ∀ j, j < L.length → j ≠ i → Own TE w' (L.getD j s0).o (L.getD j s0).c (L.getD j s0).xs := fun j hj e => (h.each j hj).keeps hk (fun b hb1 hb2 => h.far j i hj hi e b hb1 hb2)
  have hnew : ∀ j, j < L.length → j ≠ i → ∀ x, inO o' x → ¬ inO (L.getD j s0).o x := by
    intro j hj e x hx hx2
    rcases hap with ⟨e', _⟩ | ⟨⟨g, e', hg⟩, _⟩
    · subst e'; exact h.far j i hj hi e x hx2 hx
    · subst e'
      obtain ⟨y, ey, rfl⟩ := hx
      cases ey
      have := (h.each j hj).lt _ hx2
      simp at this
      omega
  refine ⟨b, e, h1, h2, ⟨h3, ?_, ?_⟩, hk⟩
  · intro j hj
    rw [List.length_set] at hj
    rw [getD_set L i j _ s0 hi]
    by_cases e : j = i
    · rw [if_pos e]; exact ho.keeps h4 (fun b hb1 hb2 => tags_ne (by decide) ho hX b hb1 hb2)
    · rw [if_neg e]; exact (hoth j hj e).keeps h4 (fun b hb1 hb2 => tags_ne (by decide) (hoth j hj e) hX b hb1 hb2)
  · intro a c ha hc hac x hx
    rw [List.length_set] at ha hc
    rw [getD_set L i a _ s0 hi] at hx
    rw [getD_set L i c _ s0 hi]
    by_cases e1 : a = i
    · rw [if_pos e1] at hx
      rw [if_neg (fun e => hac (e1.trans e.symm))]
      exact hnew c hc (fun e => hac (e1.trans e.symm)) x hx
    · rw [if_neg e1] at hx
      by_cases e2 : c = i
      · rw [if_pos e2]
        exact fun h' => hnew a ha e1 x h' hx
      · rw [if_neg e2]; exact h.far a c ha hc hac x hx
end Go.Proofs.Ytpfbbfbghldmjaa
