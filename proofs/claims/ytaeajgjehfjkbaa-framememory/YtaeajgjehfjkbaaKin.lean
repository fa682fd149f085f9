import Derived.Test.YtaeajgjehfjkbaaMem
namespace Go.Proofs.Ytaeajgjehfjkbaa
open Go.RowKit
set_option linter.unusedVariables false
set_option linter.unusedSimpArgs false

/-- a list as a value -/
structure LS (α : Type) where
  o : Option Addr
  c : Nat
  xs : List α
def LS.enc {α : Type} (s : LS α) : List Value := [.slice s.o s.xs.length s.c]
def ls0 : LS UInt8 := ⟨none, 0, []⟩
def bv (c : UInt8) : Value := .int .u8 ((c.toNat : Nat) : Int)
def BE : El UInt8 := ⟨5, 24, 1, 1, fun c => [bv c]⟩
def XE : El (LS UInt8) := ⟨24, 29, 1, 24, LS.enc⟩
def IE : El Nat := ⟨3, 37, 1, 8, fun n => [.int .i64 (n : Nat)]⟩
theorem info5 : (Try.prog.info? 5).map (fun i => (i.zero, i.size, i.bytes)) = some (some (.int .u8 0), 1, 1) := by kernel_rfl
theorem info24 : (Try.prog.info? 24).map (fun i => (i.zero, i.size, i.bytes)) = some (some (.slice none 0 0), 1, 24) := by kernel_rfl
theorem info3 : (Try.prog.info? 3).map (fun i => (i.zero, i.size, i.bytes)) = some (some (.int .i64 0), 1, 8) := by kernel_rfl
theorem okB : BE.Ok := by
  obtain ⟨i0, hi, hz0, hz1, hz2⟩ := info_parts info5
  exact ⟨fun _ => rfl, fun x u hu => by simp [BE] at hu; subst hu; rfl, by decide, Try.underlying24, i0, _, hi, hz0, hz1, hz2, rfl⟩
theorem okX : XE.Ok := by
  obtain ⟨i0, hi, hz0, hz1, hz2⟩ := info_parts info24
  exact ⟨fun _ => rfl, fun x u hu => by simp [XE, LS.enc] at hu; subst hu; rfl, by decide, Try.underlying29, i0, _, hi, hz0, hz1, hz2, rfl⟩
theorem okI : IE.Ok := by
  obtain ⟨i0, hi, hz0, hz1, hz2⟩ := info_parts info3
  exact ⟨fun _ => rfl, fun x u hu => by simp [IE] at hu; subst hu; rfl, by decide, Try.underlying37, i0, _, hi, hz0, hz1, hz2, rfl⟩
theorem cells_B (bs : List UInt8) : BE.cells bs = bs.map bv := by
  induction bs with
  | nil => rfl
  | cons x r ih => simp [El.cells, BE] at ih ⊢; exact ih
theorem cells_X (bs : List (LS UInt8)) : XE.cells bs = bs.map (fun s => .slice s.o s.xs.length s.c) := by
  induction bs with
  | nil => rfl
  | cons x r ih => simp [El.cells, XE, LS.enc] at ih ⊢; exact ih
theorem cells_I (bs : List Nat) : IE.cells bs = bs.map (fun n => .int .i64 (n : Nat)) := by
  induction bs with
  | nil => rfl
  | cons x r ih => simp [El.cells, IE] at ih ⊢; exact ih

/-! ### slices as they are handed on -/
structure Sl {α : Type} (E : El α) (w : World) (a : Option Addr) (c : Nat) (xs : List α) : Prop where
  row : Row E w a xs
  cap : xs.length ≤ c
  nil : a = none → c = 0
variable {α : Type} {E : El α}
theorem Own.sl {w : World} {o : Option Addr} {c : Nat} {xs : List α} (h : Own E w o c xs) : Sl E w o c xs := ⟨h.row, h.cap.1, h.cap.2⟩
theorem Sl.keeps {S : Nat → Prop} {w w' : World} {a : Option Addr} {c : Nat} {xs : List α} (h : Sl E w a c xs) (hk : Keeps S w w') (ha : ∀ k, inO a k → ¬ S k) : Sl E w' a c xs := ⟨h.row.keeps hk ha, h.cap, h.nil⟩
theorem Sl.keepsN {w w' : World} {a : Option Addr} {c : Nat} {xs : List α} (h : Sl E w a c xs) (hk : Keeps no w w') : Sl E w' a c xs := ⟨h.row.keepsN hk, h.cap, h.nil⟩
theorem Sl.one {w : World} {a : Option Addr} {c : Nat} {xs : List α} (h : Sl E w a c xs) (hx : E.Ok) (hk : E.k = 1) (d : α) {j : Nat} (hj : j < xs.length) (u : Value) (hu : E.enc (xs.getD j d) = [u]) : ∃ b off, a = some ⟨b, off, none⟩ ∧ w.cell? ⟨b, off + j, none⟩ = some u := by
  rcases h.row with e | ⟨b, off, rfl, hc⟩
  · subst e; simp at hj
  · refine ⟨b, off, rfl, hc j _ ?_⟩
    have := cells_at hx d xs j 0 hj (by omega)
    rw [hk, hu] at this
    simpa using this
theorem row_sl {w : World} {a : Option Addr} {xs : List α} (h : Row E w a xs) : Sl E w a (if a = none then 0 else xs.length) xs := by
  refine ⟨h, ?_, fun e => by rw [if_pos e]⟩
  rcases h with e | ⟨b, off, e, _⟩
  · subst e; simp
  · rw [e]; simp
theorem Row.at {w : World} {a : Option Addr} {xs : List α} (h : Row E w a xs) (hx : E.Ok) (hk : E.k = 1) (d : α) {j : Nat} (hj : j < xs.length) (u : Value) (hu : E.enc (xs.getD j d) = [u]) : ∃ b off, a = some ⟨b, off, none⟩ ∧ w.cell? ⟨b, off + j, none⟩ = some u := (row_sl h).one hx hk d hj u hu
theorem rowB_at {w : World} {a : Option Addr} {xs : List UInt8} (h : Row BE w a xs) {j : Nat} (hj : j < xs.length) : ∃ b off, a = some ⟨b, off, none⟩ ∧ w.cell? ⟨b, off + j, none⟩ = some (bv (xs.getD j 0)) := h.at okB rfl 0 hj _ rfl
theorem rowX_at {w : World} {a : Option Addr} {ls : List (LS UInt8)} (h : Row XE w a ls) {j : Nat} (hj : j < ls.length) : ∃ b off, a = some ⟨b, off, none⟩ ∧ w.cell? ⟨b, off + j, none⟩ = some (.slice (ls.getD j ls0).o (ls.getD j ls0).xs.length (ls.getD j ls0).c) := h.at okX rfl ls0 hj _ rfl
theorem rowI_at {w : World} {a : Option Addr} {ls : List Nat} (h : Row IE w a ls) {j : Nat} (hj : j < ls.length) : ∃ b off, a = some ⟨b, off, none⟩ ∧ w.cell? ⟨b, off + j, none⟩ = some (.int .i64 (ls.getD j 0 : Nat)) := h.at okI rfl 0 hj _ rfl
theorem own_empty (hE : E.Ok) (w : World) : Own E (w.alloc (.cells #[] E.e)) (some ⟨w.heap.size, 0, none⟩) 0 [] := by
  refine own_of_shape hE (blk_new w _) (Nat.le_refl _) (by unfold maxLen; omega) (by simp) (by simp [El.cells])
theorem new_fresh (w : World) (i : Nat) (h : w.heap.size ≤ i) (off : Nat) : New w (some ⟨i, off, none⟩) := by
  rintro k ⟨x, e, rfl⟩; cases e; exact h
theorem take_succ_getD {α : Type} (l : List α) (k : Nat) (d : α) (h : k < l.length) : l.take (k + 1) = l.take k ++ [l.getD k d] := by
  rw [List.take_add_one]; simp [h]
theorem Own.tag {w : World} {o : Option Addr} {c : Nat} {xs : List α} (h : Own E w o c xs) : ∀ k, inO o k → ∃ cur, w.heap[k]? = some (.cells cur E.e (0, 0)) := by
  rintro k ⟨x, e, rfl⟩
  rcases h.shape with ⟨e', _⟩ | ⟨g, cur, e', hg, _⟩
  · rw [e'] at e; cases e
  · rw [e'] at e; cases e; exact ⟨cur, hg⟩
theorem ne_own {α β : Type} {A : El α} {B : El β} {w : World} {o o' : Option Addr} {c c' : Nat} {xs : List α} {ys : List β} (h : Own A w o c xs) (h' : Own B w o' c' ys) (hne : A.e ≠ B.e) : ∀ k, inO o k → ¬ inO o' k := by
  intro k hk hk'
  obtain ⟨ca, ha⟩ := h.tag k hk
  obtain ⟨cb, hb⟩ := h'.tag k hk'
  rw [ha] at hb
  injection hb with hb
  injection hb with _ hb _
  exact hne hb
/-- a literal: its row, and as a slice of the call's own -/
theorem lit_row (hE : E.Ok) (w : World) (xs : List α) (C : Array Value) (fz : Nat × Nat) (hC : C.toList = E.cells xs) : Row E (w.alloc (.cells C E.e fz)) (some ⟨w.heap.size, 0, none⟩) xs := by
  refine .inr ⟨_, 0, rfl, fun j u hj => ?_⟩
  rw [← hC] at hj
  rw [Nat.zero_add, cell_of_blk (blk_new w _)]
  simpa using hj
theorem lit_own (hE : E.Ok) (w : World) (xs : List α) (n : Nat) (hn : n = xs.length) (hm : n ≤ maxLen) (C : Array Value) (hC : C.toList = E.cells xs) : Own E (w.alloc (.cells C E.e)) (some ⟨w.heap.size, 0, none⟩) n xs := by
  have hl : C.toList.length = n * E.k := by rw [hC, cells_length hE, hn]
  refine own_of_shape hE (blk_new w _) (by omega) hm (by simpa using hl) ?_
  rw [← hn, List.take_of_length_le (by omega), hC]
theorem Own.max {w : World} {o : Option Addr} {c : Nat} {xs : List α} (h : Own E w o c xs) : c ≤ maxLen := by
  rcases h.shape with ⟨_, e, _⟩ | ⟨g, cur, _, _, _, h3, _⟩
  · omega
  · exact h3
theorem Ap.keeps {w w' : World} {oa o' : Option Addr} (h : Ap w oa o' w') : Keeps (inO oa) w w' := by
  rcases h with ⟨_, h⟩ | ⟨_, h⟩
  · exact h
  · exact h.of_no

theorem sl24 : Try.prog.underlying 24 = some (.slice (Try.prog.elem 24)) := by kernel_rfl
/-- s[:I] -/
theorem cutO (o : Option Addr) (n c I : Nat) (h1 : I ≤ c) (hnil : o = none → c = 0) : ∀ w, (Instr.slice 24 (.slice o n c) none (some (.int .i64 ((I : Nat) : Int))) none).run Try.prog w = .ok (.slice o I c) w := by
  intro w
  match o, hnil with
  | none, hnil =>
    obtain rfl : c = 0 := hnil rfl
    obtain rfl : I = 0 := by omega
    rw [run_slice_h w 24 none _ 0 sl24 .i64 _ (by omega) (by omega)]
    go_simp
  | some ad, _ =>
    rw [run_slice_h w 24 (some ad) _ c sl24 .i64 _ (by omega) (by omega)]
    go_simp
/-- s[I:] -/
theorem cutL (w0 : World) (o : Option Addr) (c : Nat) (bs : List UInt8) (n I : Nat) (hn : n = bs.length) (hI : I ≤ n) (h : Sl BE w0 o c bs) :
    ∃ A d, (∀ w, (Instr.slice 24 (.slice o n c) (some (.int .i64 ((I : Nat) : Int))) none none).run Try.prog w = .ok (.slice A (n - I) d) w) ∧ Sl BE w0 A d (bs.drop I) := by
  subst hn
  have hcap := h.cap
  match o, h with
  | none, h =>
    obtain rfl : c = 0 := h.nil rfl
    obtain rfl : I = 0 := by omega
    have h0 : bs = [] := List.length_eq_zero_iff.mp (by omega)
    subst h0
    refine ⟨none, 0, fun w => ?_, ⟨h.row.drop okB 0 (fun _ b off e => by cases e), by simp, fun _ => rfl⟩⟩
    rw [run_slice_l w 24 none _ 0 sl24 .i64 _ (by omega) (by simp)]
    go_simp
  | some ad, h =>
    refine ⟨some (if c = I then ad else ad.add I), c - I, fun w => ?_, ⟨h.row.drop okB I (fun hlt b off e => ?_), by rw [List.length_drop]; omega, by simp⟩⟩
    · rw [run_slice_l w 24 (some ad) _ c sl24 .i64 _ (by omega) (by omega)]
      by_cases h : c = I
      · go_simp
      · go_simp
    · cases e
      rw [if_neg (by omega), addr_add]
      simp [BE]
/-- s[I:J] -/
theorem cutLH (w0 : World) (o : Option Addr) (c : Nat) (bs : List UInt8) (n I J : Nat) (hn : n = bs.length) (hI : I ≤ J) (hJ : J ≤ n) (h : Sl BE w0 o c bs) :
    ∃ A d, (∀ w, (Instr.slice 24 (.slice o n c) (some (.int .i64 ((I : Nat) : Int))) (some (.int .i64 ((J : Nat) : Int))) none).run Try.prog w = .ok (.slice A (J - I) d) w) ∧ Sl BE w0 A d ((bs.drop I).take (J - I)) := by
  subst hn
  have hcap := h.cap
  match o, h with
  | none, h =>
    obtain rfl : c = 0 := h.nil rfl
    obtain rfl : J = 0 := by omega
    obtain rfl : I = 0 := by omega
    have h0 : bs = [] := List.length_eq_zero_iff.mp (by omega)
    subst h0
    refine ⟨none, 0, fun w => ?_, ⟨.inl (by simp), by simp, fun _ => rfl⟩⟩
    rw [run_slice_lh w 24 none _ 0 sl24 .i64 .i64 _ _ (by omega) (by omega) (by simp)]
    go_simp
  | some ad, h =>
    refine ⟨some (if c = I then ad else ad.add I), c - I, fun w => ?_, ⟨?_, by rw [List.length_take, List.length_drop]; omega, by simp⟩⟩
    · rw [run_slice_lh w 24 (some ad) _ c sl24 .i64 .i64 _ _ (by omega) (by omega) (by omega)]
      by_cases h : c = I
      · go_simp
        try (first | rfl | (congr 1; omega))
      · go_simp
        try (first | rfl | (congr 1; omega))
    · refine (h.row.drop okB I (a' := some (if c = I then ad else ad.add I)) (fun hlt b off e => ?_)).take okB _
      cases e
      rw [if_neg (by omega), addr_add]
      simp [BE]
/-- what a call gives: a new slice; nothing that was there has turned -/
def Gives (E : El α) (w : World) (xs : List α) (v : Value) (w' : World) : Prop := ∃ o n c, v = .slice o n c ∧ Hid (n = xs.length) ∧ Own E w' o c xs ∧ New w o ∧ Keeps no w w'
end Go.Proofs.Ytaeajgjehfjkbaa
