import Derived.Test.YtbnohdgdadfjlaaGreatDoorMem
namespace Go.Proofs.YtbnohdgdadfjlaaGreatDoor
open Go.RowKit Go.Sort Orl
set_option linter.unusedVariables false
set_option linter.unusedSimpArgs false

abbrev Tx := ByteArray
abbrev Pr := ByteArray × ByteArray
def e0 : Tx := ⟨#[]⟩
def p0 : Pr := (e0, e0)
def TE : El Tx := ⟨9, 47, 1, 16, fun s => [.string s]⟩
def PE : El Pr := ⟨70, 53, 2, 32, fun p => [.string p.1, .string p.2]⟩
theorem info9 : (Tryz.prog.info? 9).map (fun i => (i.zero, i.size, i.bytes)) = some (some (.string ⟨#[]⟩), 1, 16) := by kernel_rfl
theorem infoP : (Tryz.prog.info? 70).map (fun i => (i.zero, i.size, i.bytes)) = some (some (.agg #[.string ⟨#[]⟩, .string ⟨#[]⟩]), 2, 32) := by kernel_rfl
theorem okT : TE.Ok := by
  obtain ⟨i0, hi, hz0, hz1, hz2⟩ := info_parts info9
  exact ⟨fun _ => rfl, fun x u hu => by simp [TE] at hu; subst hu; rfl, by decide, Tryz.underlying47, i0, _, hi, hz0, hz1, hz2, rfl⟩
theorem okP : PE.Ok := by
  obtain ⟨i0, hi, hz0, hz1, hz2⟩ := info_parts infoP
  exact ⟨fun _ => rfl, fun x u hu => by simp [PE] at hu; rcases hu with rfl | rfl <;> rfl, by decide, Tryz.underlying53, i0, _, hi, hz0, hz1, hz2, rfl⟩

/-! ### the order of bytes -/
def lts (x y : Tx) : Bool := Op.bytesLess x.toList y.toList
theorem lts_eq (x y : Tx) : lts x y = decide (x.data.toList < y.data.toList) := by
  unfold lts; rw [bytesLess_eq, Lib.toList_data, Lib.toList_data]
theorem tx_ext {x y : Tx} (h : x.data.toList = y.data.toList) : x = y := by
  cases x; cases y; exact congrArg ByteArray.mk (Array.toList_inj.1 h)
theorem tx_eq (x y : Tx) : (x.toList == y.toList) = decide (x = y) := by
  rw [Lib.toList_data, Lib.toList_data]
  by_cases h : x = y
  · subst h; simp
  · simp [h]; intro e; exact h (by cases x; cases y; simpa using e)
theorem swoT : SWO lts where
  irrefl x := by rw [lts_eq]; simp [List.lt_irrefl]
  trans x y z h1 h2 := by
    rw [lts_eq, decide_eq_true_eq] at *
    exact List.lt_trans h1 h2
  ntrans x y z h1 h2 := by
    rw [lts_eq, decide_eq_false_iff_not, List.not_lt] at *
    exact List.le_trans h2 h1
theorem triT : Tri lts := by
  intro x y h1 h2
  rw [lts_eq, decide_eq_false_iff_not, List.not_lt] at h1 h2
  exact tx_ext (List.le_antisymm h2 h1)

/-! ### slices as they are handed on -/
structure Sl {α : Type} (E : El α) (w : World) (a : Option Addr) (c : Nat) (xs : List α) : Prop where
  row : Row E w a xs
  cap : xs.length ≤ c
  nil : a = none → c = 0
variable {α : Type} {E : El α}
theorem Own.sl {w : World} {o : Option Addr} {c : Nat} {xs : List α} (h : Own E w o c xs) : Sl E w o c xs := ⟨h.row, h.cap.1, h.cap.2⟩
theorem Sl.keeps {S : Nat → Prop} {w w' : World} {a : Option Addr} {c : Nat} {xs : List α} (h : Sl E w a c xs) (hk : Keeps S w w') (ha : ∀ k, inO a k → ¬ S k) : Sl E w' a c xs := ⟨h.row.keeps hk ha, h.cap, h.nil⟩
theorem Sl.keepsN {w w' : World} {a : Option Addr} {c : Nat} {xs : List α} (h : Sl E w a c xs) (hk : Keeps no w w') : Sl E w' a c xs := ⟨h.row.keepsN hk, h.cap, h.nil⟩
theorem Sl.lt {w : World} {a : Option Addr} {c : Nat} {xs : List α} (h : Sl E w a c xs) (hx : E.Ok) (hn : xs ≠ []) : ∀ k, inO a k → k < w.heap.size := by
  rcases h.row with e | ⟨b, off, rfl, hc⟩
  · exact absurd e hn
  · rintro k ⟨x, e, rfl⟩
    cases e
    cases xs with
    | nil => exact absurd rfl hn
    | cons y r =>
      have hl : 0 < (E.cells (y :: r)).length := by rw [cells_length hx]; exact Nat.mul_pos (by simp) hx.pos
      have := hc 0 _ (List.getElem?_eq_getElem hl)
      exact World.block_lt_of_cell? w _ this
/-- the j-th text -/
theorem Sl.at {w : World} {a : Option Addr} {c : Nat} {xs : List Tx} (h : Sl TE w a c xs) {j : Nat} (hj : j < xs.length) : ∃ b off, a = some ⟨b, off, none⟩ ∧ w.cell? ⟨b, off + j, none⟩ = some (.string (xs.getD j e0)) := by
  rcases h.row with e | ⟨b, off, rfl, hc⟩
  · subst e; simp at hj
  · refine ⟨b, off, rfl, hc j _ ?_⟩
    have := cells_at okT e0 xs j 0 hj (by decide)
    simpa [TE] using this
theorem Sl.atP {w : World} {a : Option Addr} {c : Nat} {xs : List Pr} (h : Sl PE w a c xs) {j : Nat} (hj : j < xs.length) : ∃ b off, a = some ⟨b, off, none⟩ ∧ w.cell? ⟨b, off + j * 2, none⟩ = some (.string (xs.getD j p0).1) ∧ w.cell? ⟨b, off + j * 2 + 1, none⟩ = some (.string (xs.getD j p0).2) := by
  rcases h.row with e | ⟨b, off, rfl, hc⟩
  · subst e; simp at hj
  · refine ⟨b, off, rfl, hc (j * 2) _ ?_, ?_⟩
    · have := cells_at okP p0 xs j 0 hj (by decide)
      simpa [PE] using this
    · rw [Nat.add_assoc]
      refine hc (j * 2 + 1) _ ?_
      have := cells_at okP p0 xs j 1 hj (by decide)
      simpa [PE] using this

/-- a call's slice: new, and nothing that was there has turned -/
def Gives {α : Type} (E : El α) (w : World) (xs : List α) (v : Value) (w' : World) : Prop := ∃ o n c, v = .slice o n c ∧ Hid (n = xs.length) ∧ Own E w' o c xs ∧ New w o ∧ Keeps no w w'

def Small {α : Type} (xs : List α) : Prop := xs.length ≤ 100000

theorem own_empty (hE : E.Ok) (w : World) : Own E (w.alloc (.cells #[] E.e)) (some ⟨w.heap.size, 0, none⟩) 0 [] := by
  refine own_of_shape hE (blk_new w _) (Nat.le_refl _) (by unfold maxLen; omega) (by simp) (by simp [El.cells])
theorem new_fresh (w : World) (i : Nat) (h : w.heap.size ≤ i) (off : Nat) : New w (some ⟨i, off, none⟩) := by
  rintro k ⟨x, e, rfl⟩; cases e; exact h

end Go.Proofs.YtbnohdgdadfjlaaGreatDoor
