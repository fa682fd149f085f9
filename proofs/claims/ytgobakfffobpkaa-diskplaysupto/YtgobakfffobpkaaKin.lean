import Derived.Test.YtgobakfffobpkaaMem
import Derived.Test.YtgobakfffobpkaaSpec
namespace Go.Proofs.Ytgobakfffobpkaa
open Go.RowKit
set_option linter.unusedVariables false
set_option linter.unusedSimpArgs false

abbrev Tx := ByteArray
def e0 : Tx := ⟨#[]⟩
/-- a list as a value -/
structure LS (α : Type) where
  o : Option Addr
  c : Nat
  xs : List α
def LS.enc {α : Type} (s : LS α) : List Value := [.slice s.o s.xs.length s.c]
def bv (c : UInt8) : Value := .int .u8 ((c.toNat : Nat) : Int)
def BE : El UInt8 := ⟨5, 22, 1, 1, fun c => [bv c]⟩
def TE : El Tx := ⟨9, 36, 1, 16, fun s => [.string s]⟩
def XE : El (LS UInt8) := ⟨22, 41, 1, 24, LS.enc⟩
theorem info5 : (Try.prog.info? 5).map (fun i => (i.zero, i.size, i.bytes)) = some (some (.int .u8 0), 1, 1) := by kernel_rfl
theorem info9 : (Try.prog.info? 9).map (fun i => (i.zero, i.size, i.bytes)) = some (some (.string ⟨#[]⟩), 1, 16) := by kernel_rfl
theorem info22 : (Try.prog.info? 22).map (fun i => (i.zero, i.size, i.bytes)) = some (some (.slice none 0 0), 1, 24) := by kernel_rfl
theorem okB : BE.Ok := by
  obtain ⟨i0, hi, hz0, hz1, hz2⟩ := info_parts info5
  exact ⟨fun _ => rfl, fun x u hu => by simp [BE] at hu; subst hu; rfl, by decide, Try.underlying22, i0, _, hi, hz0, hz1, hz2, rfl⟩
theorem okT : TE.Ok := by
  obtain ⟨i0, hi, hz0, hz1, hz2⟩ := info_parts info9
  exact ⟨fun _ => rfl, fun x u hu => by simp [TE] at hu; subst hu; rfl, by decide, Try.underlying36, i0, _, hi, hz0, hz1, hz2, rfl⟩
theorem okX : XE.Ok := by
  obtain ⟨i0, hi, hz0, hz1, hz2⟩ := info_parts info22
  exact ⟨fun _ => rfl, fun x u hu => by simp [XE, LS.enc] at hu; subst hu; rfl, by decide, Try.underlying41, i0, _, hi, hz0, hz1, hz2, rfl⟩
theorem cells_B (bs : List UInt8) : BE.cells bs = bs.map bv := by
  induction bs with
  | nil => rfl
  | cons x r ih => simp [El.cells, BE] at ih ⊢; exact ih
theorem cells_T (xs : List Tx) : TE.cells xs = xs.map Value.string := by
  induction xs with
  | nil => rfl
  | cons x r ih => simp [El.cells, TE] at ih ⊢; exact ih

theorem tx_eq (x y : Tx) : (x.toList == y.toList) = decide (x = y) := by
  rw [Lib.toList_data, Lib.toList_data]
  by_cases h : x = y
  · subst h; simp
  · simp [h]; intro e; exact h (by cases x; cases y; simpa using e)

/-! ### slices as they are handed on -/
structure Sl {α : Type} (E : El α) (w : World) (a : Option Addr) (c : Nat) (xs : List α) : Prop where
  row : Row E w a xs
  cap : xs.length ≤ c
  nil : a = none → c = 0
variable {α : Type} {E : El α}
theorem Own.sl {w : World} {o : Option Addr} {c : Nat} {xs : List α} (h : Own E w o c xs) : Sl E w o c xs := ⟨h.row, h.cap.1, h.cap.2⟩
theorem Sl.keeps {S : Nat → Prop} {w w' : World} {a : Option Addr} {c : Nat} {xs : List α} (h : Sl E w a c xs) (hk : Keeps S w w') (ha : ∀ k, inO a k → ¬ S k) : Sl E w' a c xs := ⟨h.row.keeps hk ha, h.cap, h.nil⟩
theorem Sl.keepsN {w w' : World} {a : Option Addr} {c : Nat} {xs : List α} (h : Sl E w a c xs) (hk : Keeps no w w') : Sl E w' a c xs := ⟨h.row.keepsN hk, h.cap, h.nil⟩
theorem Sl.one {w : World} {a : Option Addr} {c : Nat} {xs : List α} (h : Sl E w a c xs) (hx : E.Ok) (hk : E.k = 1) (d : α) {j : Nat} (hj : j < xs.length) (u : Value) (hu : E.enc (xs.getD j d) = [u]) : ∃ b off, a = some ⟨b, off, none⟩ ∧ w.cell? ⟨b, off + j, none⟩ = some u := by
  rcases h.row with e | ⟨b, off, rfl, hc⟩
  · subst e; simp at hj
  · refine ⟨b, off, rfl, hc j _ ?_⟩
    have := cells_at hx d xs j 0 hj (by omega)
    rw [hk, hu] at this
    simpa using this
theorem Sl.at {w : World} {a : Option Addr} {c : Nat} {xs : List Tx} (h : Sl TE w a c xs) {j : Nat} (hj : j < xs.length) : ∃ b off, a = some ⟨b, off, none⟩ ∧ w.cell? ⟨b, off + j, none⟩ = some (.string (xs.getD j e0)) := h.one okT rfl e0 hj _ rfl
theorem Sl.atB {w : World} {a : Option Addr} {c : Nat} {xs : List UInt8} (h : Sl BE w a c xs) {j : Nat} (hj : j < xs.length) : ∃ b off, a = some ⟨b, off, none⟩ ∧ w.cell? ⟨b, off + j, none⟩ = some (bv (xs.getD j 0)) := h.one okB rfl 0 hj _ rfl
theorem own_empty (hE : E.Ok) (w : World) : Own E (w.alloc (.cells #[] E.e)) (some ⟨w.heap.size, 0, none⟩) 0 [] := by
  refine own_of_shape hE (blk_new w _) (Nat.le_refl _) (by unfold maxLen; omega) (by simp) (by simp [El.cells])
theorem new_fresh (w : World) (i : Nat) (h : w.heap.size ≤ i) (off : Nat) : New w (some ⟨i, off, none⟩) := by
  rintro k ⟨x, e, rfl⟩; cases e; exact h
theorem take_succ_getD {α : Type} (l : List α) (k : Nat) (d : α) (h : k < l.length) : l.take (k + 1) = l.take k ++ [l.getD k d] := by
  rw [List.take_add_one]; simp [h]
theorem Own.tag {w : World} {o : Option Addr} {c : Nat} {xs : List α} (h : Own E w o c xs) : ∀ k, inO o k → ∃ cur, w.heap[k]? = some (.cells cur E.e (0, 0)) := by
  rintro k ⟨x, e, rfl⟩
  rcases h.shape with ⟨e', _⟩ | ⟨g, cur, e', hg, _⟩
  · rw [e'] at e; cases e
  · rw [e'] at e; cases e; exact ⟨cur, hg⟩
theorem Own.max {w : World} {o : Option Addr} {c : Nat} {xs : List α} (h : Own E w o c xs) : c ≤ maxLen := by
  rcases h.shape with ⟨_, e, _⟩ | ⟨g, cur, _, _, _, h3, _⟩
  · omega
  · exact h3
/-- a slice cut short -/
theorem Own.cut (hE : E.Ok) {w : World} {o : Option Addr} {c : Nat} {xs : List α} (h : Own E w o c xs) {n : Nat} (hn : n ≤ xs.length) : Own E w o c (xs.take n) := by
  rcases h.shape with ⟨rfl, rfl, rfl⟩ | ⟨g, cur, rfl, hg, h2, h3, h4, h5⟩
  · simpa using h
  · refine own_of_shape hE hg (by simp; omega) h3 h4 ?_
    have e : (xs.take n).length = n := by simp; omega
    have e2 : E.cells xs = E.cells (xs.take n) ++ E.cells (xs.drop n) := by rw [← cells_append, List.take_append_drop]
    have e3 : cur.toList.take (n * E.k) = (cur.toList.take (xs.length * E.k)).take (n * E.k) := by
      rw [List.take_take, Nat.min_eq_left (Nat.mul_le_mul_right _ hn)]
    rw [e, e3, h5, e2, List.take_append_of_le_length (by rw [cells_length hE, e]; exact Nat.le_refl _), List.take_of_length_le (by rw [cells_length hE, e]; exact Nat.le_refl _)]

theorem sl22 : Try.prog.underlying 22 = some (.slice (Try.prog.elem 22)) := by kernel_rfl
/-- s[:I] -/
theorem cutO (o : Option Addr) (n c I : Nat) (h1 : I ≤ c) (hnil : o = none → c = 0) : ∀ w, (Instr.slice 22 (.slice o n c) none (some (.int .i64 ((I : Nat) : Int))) none).run Try.prog w = .ok (.slice o I c) w := by
  intro w
  match o, hnil with
  | none, hnil =>
    obtain rfl : c = 0 := hnil rfl
    obtain rfl : I = 0 := by omega
    rw [run_slice_h w 22 none _ 0 sl22 .i64 _ (by omega) (by omega)]
    go_simp
  | some ad, _ =>
    rw [run_slice_h w 22 (some ad) _ c sl22 .i64 _ (by omega) (by omega)]
    go_simp
/-- s[I:] -/
theorem cutL (w0 : World) (o : Option Addr) (c : Nat) (bs : List UInt8) (n I : Nat) (hn : n = bs.length) (hI : I ≤ n) (h : Sl BE w0 o c bs) :
    ∃ A d, (∀ w, (Instr.slice 22 (.slice o n c) (some (.int .i64 ((I : Nat) : Int))) none none).run Try.prog w = .ok (.slice A (n - I) d) w) ∧ Sl BE w0 A d (bs.drop I) := by
  subst hn
  have hcap := h.cap
  match o, h with
  | none, h =>
    obtain rfl : c = 0 := h.nil rfl
    obtain rfl : I = 0 := by omega
    have h0 : bs = [] := List.length_eq_zero_iff.mp (by omega)
    subst h0
    refine ⟨none, 0, fun w => ?_, ⟨h.row.drop okB 0 (fun _ b off e => by cases e), by simp, fun _ => rfl⟩⟩
    rw [run_slice_l w 22 none _ 0 sl22 .i64 _ (by omega) (by simp)]
    go_simp
  | some ad, h =>
    refine ⟨some (if c = I then ad else ad.add I), c - I, fun w => ?_, ⟨h.row.drop okB I (fun hlt b off e => ?_), by rw [List.length_drop]; omega, by simp⟩⟩
    · rw [run_slice_l w 22 (some ad) _ c sl22 .i64 _ (by omega) (by omega)]
      by_cases h : c = I
      · go_simp
      · go_simp
    · cases e
      rw [if_neg (by omega), addr_add]
      simp [BE]
/-- what a call gives: a new slice; nothing that was there has turned -/
def Gives (E : El α) (w : World) (xs : List α) (v : Value) (w' : World) : Prop := ∃ o n c, v = .slice o n c ∧ Hid (n = xs.length) ∧ Own E w' o c xs ∧ New w o ∧ Keeps no w w'
end Go.Proofs.Ytgobakfffobpkaa
