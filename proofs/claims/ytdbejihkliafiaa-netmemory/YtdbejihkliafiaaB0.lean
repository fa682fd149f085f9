/- Bytes; rows written over. -/
import Derived.Test.YtdbejihkliafiaaA0
import Derived.Laws.IdiomCopy
import Derived.Laws.CopyRow
import Derived.Deep.OwnRows
import Derived.Lib.QuietBelow
namespace Go.Proofs.Ytdbejihkliafiaa
open Go.RowKit Go.Sort
set_option linter.unusedVariables false
set_option linter.unusedSimpArgs false

variable {α : Type} {E : El α}
def bv (c : UInt8) : Value := .int .u8 ((c.toNat : Nat) : Int)
def BE : El UInt8 := ⟨5, 22, 1, 1, fun c => [bv c]⟩
theorem info5 : (Try.prog.info? 5).map (fun i => (i.zero, i.size, i.bytes)) = some (some (.int .u8 0), 1, 1) := by kernel_rfl
theorem okB : BE.Ok := by
  obtain ⟨i0, hi, hz0, hz1, hz2⟩ := info_parts info5
  exact ⟨fun _ => rfl, fun x u hu => by simp [BE] at hu; subst hu; rfl, by decide, Try.underlying22, i0, _, hi, hz0, hz1, hz2, rfl⟩
theorem cells_B (bs : List UInt8) : BE.cells bs = bs.map bv := by
  induction bs with
  | nil => rfl
  | cons x r ih => simp [El.cells, BE] at ih ⊢; exact ih
theorem Sl.keepsE {S : Nat → Prop} {w w' : World} {a : Option Addr} {c : Nat} {xs : List α} (h : Sl E w a c xs) (hk : Keeps S w w') (ha : xs ≠ [] → ∀ k, inO a k → ¬ S k) : Sl E w' a c xs := by
  by_cases hx : xs = []
  · exact ⟨.inl hx, h.cap, h.nil⟩
  · exact h.keeps hk (ha hx)
theorem Sl.one {w : World} {a : Option Addr} {c : Nat} {xs : List α} (h : Sl E w a c xs) (hx : E.Ok) (hk : E.k = 1) (d : α) {j : Nat} (hj : j < xs.length) (u : Value) (hu : E.enc (xs.getD j d) = [u]) : ∃ b off, a = some ⟨b, off, none⟩ ∧ w.cell? ⟨b, off + j, none⟩ = some u := by
  rcases h.row with e | ⟨b, off, rfl, hc⟩
  · subst e; simp at hj
  · refine ⟨b, off, rfl, hc j _ ?_⟩
    have := cells_at hx d xs j 0 hj (by omega)
    rw [hk, hu] at this
    simpa using this
theorem row_sl {w : World} {a : Option Addr} {xs : List α} (h : Row E w a xs) : Sl E w a (if a = none then 0 else xs.length) xs := by
  refine ⟨h, ?_, fun e => by rw [if_pos e]⟩
  rcases h with e | ⟨b, off, e, _⟩
  · subst e; simp
  · rw [e]; simp
theorem Row.at {w : World} {a : Option Addr} {xs : List α} (h : Row E w a xs) (hx : E.Ok) (hk : E.k = 1) (d : α) {j : Nat} (hj : j < xs.length) (u : Value) (hu : E.enc (xs.getD j d) = [u]) : ∃ b off, a = some ⟨b, off, none⟩ ∧ w.cell? ⟨b, off + j, none⟩ = some u := (row_sl h).one hx hk d hj u hu
theorem rowB_at {w : World} {a : Option Addr} {xs : List UInt8} (h : Row BE w a xs) {j : Nat} (hj : j < xs.length) : ∃ b off, a = some ⟨b, off, none⟩ ∧ w.cell? ⟨b, off + j, none⟩ = some (bv (xs.getD j 0)) := h.at okB rfl 0 hj _ rfl
theorem take_succ_getD {α : Type} (l : List α) (k : Nat) (d : α) (h : k < l.length) : l.take (k + 1) = l.take k ++ [l.getD k d] := by
  rw [List.take_add_one]; simp [h]
theorem Own.tag {w : World} {o : Option Addr} {c : Nat} {xs : List α} (h : Own E w o c xs) : ∀ k, inO o k → ∃ cur, w.heap[k]? = some (.cells cur E.e (0, 0)) := by
  rintro k ⟨x, e, rfl⟩
  rcases h.shape with ⟨e', _⟩ | ⟨g, cur, e', hg, _⟩
  · rw [e'] at e; cases e
  · rw [e'] at e; cases e; exact ⟨cur, hg⟩
theorem ne_own {α β : Type} {A : El α} {B : El β} {w : World} {o o' : Option Addr} {c c' : Nat} {xs : List α} {ys : List β} (h : Own A w o c xs) (h' : Own B w o' c' ys) (hne : A.e ≠ B.e) : ∀ k, inO o k → ¬ inO o' k := by
  intro k hk hk'
  obtain ⟨ca, ha⟩ := h.tag k hk
  obtain ⟨cb, hb⟩ := h'.tag k hk'
  rw [ha] at hb
  injection hb with hb
  injection hb with _ hb _
  exact hne hb
/-- a literal: its row, and as a slice of the call's own -/
theorem lit_row (hE : E.Ok) (w : World) (xs : List α) (C : Array Value) (fz : Nat × Nat) (hC : C.toList = E.cells xs) : Row E (w.alloc (.cells C E.e fz)) (some ⟨w.heap.size, 0, none⟩) xs := by
  refine .inr ⟨_, 0, rfl, fun j u hj => ?_⟩
  rw [← hC] at hj
  rw [Nat.zero_add, cell_of_blk (blk_new w _)]
  simpa using hj
theorem lit_own (hE : E.Ok) (w : World) (xs : List α) (n : Nat) (hn : n = xs.length) (hm : n ≤ maxLen) (C : Array Value) (hC : C.toList = E.cells xs) : Own E (w.alloc (.cells C E.e)) (some ⟨w.heap.size, 0, none⟩) n xs := by
  have hl : C.toList.length = n * E.k := by rw [hC, cells_length hE, hn]
  refine own_of_shape hE (blk_new w _) (by omega) hm (by simpa using hl) ?_
  rw [← hn, List.take_of_length_le (by omega), hC]
theorem Own.max {w : World} {o : Option Addr} {c : Nat} {xs : List α} (h : Own E w o c xs) : c ≤ maxLen := by
  rcases h.shape with ⟨_, e, _⟩ | ⟨g, cur, _, _, _, h3, _⟩
  · omega
  · exact h3
theorem Ap.keeps {w w' : World} {oa o' : Option Addr} (h : Ap w oa o' w') : Keeps (inO oa) w w' := by
  rcases h with ⟨_, h⟩ | ⟨_, h⟩
  · exact h
  · exact h.of_no

theorem slB : Try.prog.underlying 22 = some (.slice (Try.prog.elem 22)) := by kernel_rfl
/-- s[:I] -/
theorem cutO (o : Option Addr) (n c I : Nat) (h1 : I ≤ c) (hnil : o = none → c = 0) : ∀ w, (Instr.slice 22 (.slice o n c) none (some (.int .i64 ((I : Nat) : Int))) none).run Try.prog w = .ok (.slice o I c) w := by
  intro w
  match o, hnil with
  | none, hnil =>
    obtain rfl : c = 0 := hnil rfl
    obtain rfl : I = 0 := by omega
    rw [run_slice_h w 22 none _ 0 slB .i64 _ (by omega) (by omega)]
    go_simp
  | some ad, _ =>
    rw [run_slice_h w 22 (some ad) _ c slB .i64 _ (by omega) (by omega)]
    go_simp
/-- s[I:] -/
theorem cutL (w0 : World) (o : Option Addr) (c : Nat) (bs : List UInt8) (n I : Nat) (hn : n = bs.length) (hI : I ≤ n) (h : Sl BE w0 o c bs) :
    ∃ A d, (∀ w, (Instr.slice 22 (.slice o n c) (some (.int .i64 ((I : Nat) : Int))) none none).run Try.prog w = .ok (.slice A (n - I) d) w) ∧ Sl BE w0 A d (bs.drop I) := by
  subst hn
  have hcap := h.cap
  match o, h with
  | none, h =>
    obtain rfl : c = 0 := h.nil rfl
    obtain rfl : I = 0 := by omega
    have h0 : bs = [] := List.length_eq_zero_iff.mp (by omega)
    subst h0
    refine ⟨none, 0, fun w => ?_, ⟨h.row.drop okB 0 (fun _ b off e => by cases e), by simp, fun _ => rfl⟩⟩
    rw [run_slice_l w 22 none _ 0 slB .i64 _ (by omega) (by simp)]
    go_simp
  | some ad, h =>
    refine ⟨some (if c = I then ad else ad.add I), c - I, fun w => ?_, ⟨h.row.drop okB I (fun hlt b off e => ?_), by rw [List.length_drop]; omega, by simp⟩⟩
    · rw [run_slice_l w 22 (some ad) _ c slB .i64 _ (by omega) (by omega)]
      by_cases h : c = I
      · go_simp
      · go_simp
    · cases e
      rw [if_neg (by omega), addr_add]
      simp [BE]
/-- s[I:J] -/
theorem cutLH (w0 : World) (o : Option Addr) (c : Nat) (bs : List UInt8) (n I J : Nat) (hn : n = bs.length) (hI : I ≤ J) (hJ : J ≤ n) (h : Sl BE w0 o c bs) :
    ∃ A d, (∀ w, (Instr.slice 22 (.slice o n c) (some (.int .i64 ((I : Nat) : Int))) (some (.int .i64 ((J : Nat) : Int))) none).run Try.prog w = .ok (.slice A (J - I) d) w) ∧ Sl BE w0 A d ((bs.drop I).take (J - I)) := by
  subst hn
  have hcap := h.cap
  match o, h with
  | none, h =>
    obtain rfl : c = 0 := h.nil rfl
    obtain rfl : J = 0 := by omega
    obtain rfl : I = 0 := by omega
    have h0 : bs = [] := List.length_eq_zero_iff.mp (by omega)
    subst h0
    refine ⟨none, 0, fun w => ?_, ⟨.inl (by simp), by simp, fun _ => rfl⟩⟩
    rw [run_slice_lh w 22 none _ 0 slB .i64 .i64 _ _ (by omega) (by omega) (by simp)]
    go_simp
  | some ad, h =>
    refine ⟨some (if c = I then ad else ad.add I), c - I, fun w => ?_, ⟨?_, by rw [List.length_take, List.length_drop]; omega, by simp⟩⟩
    · rw [run_slice_lh w 22 (some ad) _ c slB .i64 .i64 _ _ (by omega) (by omega) (by omega)]
      by_cases h : c = I
      · go_simp
        try (first | rfl | (congr 1; omega))
      · go_simp
        try (first | rfl | (congr 1; omega))
    · refine (h.row.drop okB I (a' := some (if c = I then ad else ad.add I)) (fun hlt b off e => ?_)).take okB _
      cases e
      rw [if_neg (by omega), addr_add]
      simp [BE]
abbrev Tx := ByteArray
theorem tx_eq (x y : Tx) : (x.toList == y.toList) = decide (x = y) := by
  rw [Lib.toList_data, Lib.toList_data]
  by_cases h : x = y
  · subst h; simp
  · simp [h]; intro e; exact h (by cases x; cases y; simpa using e)
def mkT (l : List UInt8) : Tx := ⟨l.toArray⟩
theorem mkT_inj {a b : List UInt8} : mkT a = mkT b ↔ a = b := by
  constructor
  · intro h; have := congrArg (fun t : Tx => t.data.toList) h; simpa [mkT] using this
  · rintro rfl; rfl
theorem foldl_push (s : ByteArray) : ∀ ns : List Int, ns.foldl (fun r n => r.push (UInt8.ofNat n.toNat)) s = ⟨s.data ++ (ns.map fun n => UInt8.ofNat n.toNat).toArray⟩ := by
  intro ns
  induction ns generalizing s with
  | nil => simp
  | cons n r ih =>
    rw [List.foldl_cons, ih]
    simp [ByteArray.push]
theorem run_text (w : World) (a : Option Addr) (bs : List UInt8) (n cap : Nat) (hn : n = bs.length) (hr : Row BE w a bs) :
    (convert 22 9 (.slice a n cap)).run Try.prog w = .ok (.string (mkT bs)) w := by
  subst hn
  rw [run_convert_bytes_string w 22 9 5 a bs.length cap Try.underlying22 Try.underlying5 Try.underlying9]
  match a, hr with
  | none, hr =>
    obtain rfl : bs = [] := by rcases hr with h | ⟨b, off, h, _⟩; exact h; cases h
    simp [Conv.bytesToString, mkT]
    rfl
  | some ad, hr =>
    have hload := run_loadCells_list (P := Try.prog) w ad (BE.cells bs) hr.news
    have e : BE.cells bs = (bs.map fun c => ((c.toNat : Nat) : Int)).map (Value.int .u8) := by rw [cells_B]; simp [bv]
    have e2 : (BE.cells bs).length = bs.length := by rw [cells_B]; simp
    rw [e2, e] at hload
    rw [run_bytesToString w ad bs.length cap _ hload, foldl_push]
    congr 2
    simp [mkT, Function.comp_def]
theorem same_any (w : World) (oa : Option Addr) (na ca : Nat) (ob : Option Addr) (nb cb : Nat) (xs ys : List UInt8) (hna : na = xs.length) (hnb : nb = ys.length) (ha : Row BE w oa xs) (hb : Row BE w ob ys) :
    Calls Try.prog 15 #[.slice oa na ca, .slice ob nb cb] w fun e w' => e = .returned (.bool (decide (xs = ys))) ∧ w' = w := by
  have h1 := run_text w oa xs na ca hna ha
  have h2 := run_text w ob ys nb cb hnb hb
  clear hna hnb
  go_enter Try.func15, Try.ntmps15
  go_wp2
  go_ret
  refine ⟨?_, rfl⟩
  rw [tx_eq]
  simp [mkT_inj]
theorem same_yes (w : World) (oa : Option Addr) (na ca : Nat) (ob : Option Addr) (nb cb : Nat) (xs : List UInt8) (hna : na = xs.length) (hnb : nb = xs.length) (ha : Row BE w oa xs) (hb : Row BE w ob xs) :
    Calls Try.prog 15 #[.slice oa na ca, .slice ob nb cb] w fun e w' => e = .returned (.bool true) ∧ w' = w := by
  refine (same_any w oa na ca ob nb cb xs xs hna hnb ha hb).mono ?_
  rintro e w' ⟨rfl, rfl⟩
  exact ⟨by simp, rfl⟩
theorem getD_at {α : Type} {l : List α} {j : Nat} (h : j < l.length) (d : α) : l.getD j d = l[j] := by simp [List.getD, h]
theorem blk_setCells {g : Nat} {t : TypeId} {fz : Nat × Nat} : ∀ (vs : List Value) (o : Nat) {w : World} {cur : Array Value}, w.heap[g]? = some (.cells cur t fz) → ∃ cur', (w.setCells g o vs).heap[g]? = some (.cells cur' t fz) ∧ cur'.size = cur.size ∧ ∀ i, cur'[i]? = if o ≤ i ∧ i < o + vs.length ∧ i < cur.size then vs[i - o]? else cur[i]?
  | [], o, w, cur, h => ⟨cur, h, rfl, fun i => by rw [if_neg (by simp; omega)]⟩
  | v :: r, o, w, cur, h => by
    obtain ⟨cur', h1, h2, h3⟩ := blk_setCells r (o + 1) (blk_set h o v)
    refine ⟨cur', h1, by simpa using h2, fun i => ?_⟩
    rw [h3 i]
    simp only [Array.size_setIfInBounds, List.length_cons]
    by_cases e : i = o
    · subst e
      rw [if_neg (by omega)]
      by_cases hi : i < cur.size
      · rw [if_pos ⟨by omega, by omega, hi⟩]
        simp [hi]
      · rw [if_neg (by omega)]
        simp [Array.getElem?_eq_none (Nat.le_of_not_lt hi), hi]
    · by_cases hc : o + 1 ≤ i ∧ i < o + 1 + r.length ∧ i < cur.size
      · rw [if_pos hc, if_pos ⟨by omega, by omega, hc.2.2⟩, show i - o = (i - (o + 1)) + 1 by omega]
        simp
      · rw [if_neg hc, if_neg (by omega)]
        rw [Array.getElem?_setIfInBounds_ne (by omega)]
theorem keeps_setCells {g : Nat} : ∀ (vs : List Value) (o : Nat) (w : World), Keeps (fun b => b = g) w (w.setCells g o vs)
  | [], o, w => Keeps.refl _ _
  | v :: r, o, w => ((Keeps.refl (fun b => b = g) w).setCell (p := ⟨g, o, none⟩) (.inl rfl) v).trans (keeps_setCells r (o + 1) _)
section
variable {α : Type} {E : El α}
theorem cells_setE (hE : E.Ok) (x : α) : ∀ (xs : List α) (j i : Nat), j < xs.length → (E.cells (xs.set j x))[i]? = if j * E.k ≤ i ∧ i < j * E.k + E.k then (E.enc x)[i - j * E.k]? else (E.cells xs)[i]?
  | [], j, i, h => absurd h (by simp)
  | y :: r, 0, i, h => by
    simp only [List.set_cons_zero, El.cells, List.flatMap_cons, Nat.zero_mul, Nat.zero_add, Nat.zero_le, true_and, Nat.sub_zero]
    by_cases hi : i < E.k
    · rw [if_pos hi, List.getElem?_append_left (by rw [hE.len]; exact hi)]
    · rw [if_neg hi, List.getElem?_append_right (by rw [hE.len]; omega), List.getElem?_append_right (by rw [hE.len]; omega), hE.len, hE.len]
  | y :: r, j + 1, i, h => by
    have ih := cells_setE hE x r j (i - E.k) (by simpa using h)
    simp only [El.cells] at ih
    simp only [List.set_cons_succ, El.cells, List.flatMap_cons, Nat.succ_mul]
    have hp := hE.pos
    by_cases hi : i < E.k
    · rw [if_neg (by omega), List.getElem?_append_left (by rw [hE.len]; exact hi), List.getElem?_append_left (by rw [hE.len]; exact hi)]
    · rw [List.getElem?_append_right (by rw [hE.len]; omega), List.getElem?_append_right (by rw [hE.len]; omega), hE.len, ih]
      by_cases hc : j * E.k ≤ i - E.k ∧ i - E.k < j * E.k + E.k
      · rw [if_pos hc, if_pos (by omega)]
        congr 1; omega
      · rw [if_neg hc, if_neg (by omega)]
theorem take_eq {l m : List Value} {N : Nat} (h : l.take N = m) (i : Nat) (hi : i < N) : l[i]? = m[i]? := by
  rw [← h, List.getElem?_take, if_pos hi]
/-- one element written over -/
theorem Own.storeE (hE : E.Ok) {w : World} {o : Option Addr} {c : Nat} {xs : List α} (h : Own E w o c xs) (j : Nat) (hj : j < xs.length) (x : α) :
    ∃ g, o = some ⟨g, 0, none⟩ ∧ (∀ i, w.frozen? ⟨g, i, none⟩ = false) ∧ Own E (w.setCells g (j * E.k) (E.enc x)) o c (xs.set j x) ∧ Keeps (inO o) w (w.setCells g (j * E.k) (E.enc x)) := by
  rcases h.shape with ⟨_, _, e⟩ | ⟨g, cur, rfl, hg, hc, hm, hs, ht⟩
  · rw [e] at hj; simp at hj
  · refine ⟨g, rfl, fun i => frozen_of_blk hg i, ?_, (keeps_setCells _ _ _).mono fun b hb => ⟨_, rfl, hb.symm⟩⟩
    obtain ⟨cur', h1, h2, h3⟩ := blk_setCells (E.enc x) (j * E.k) hg
    refine own_of_shape hE h1 (by simpa using hc) hm (by rw [h2, hs]) ?_
    have hjk : j * E.k + E.k ≤ xs.length * E.k := by rw [← Nat.succ_mul]; exact Nat.mul_le_mul_right _ hj
    have hck : xs.length * E.k ≤ c * E.k := Nat.mul_le_mul_right _ hc
    apply List.ext_getElem?
    intro i
    rw [cells_setE hE x xs j i hj, List.getElem?_take, List.length_set]
    by_cases hi : i < xs.length * E.k
    · rw [if_pos hi, Array.getElem?_toList, h3 i, hE.len]
      by_cases hcs : j * E.k ≤ i ∧ i < j * E.k + E.k
      · rw [if_pos ⟨hcs.1, hcs.2, by omega⟩, if_pos hcs]
      · rw [if_neg (by omega), if_neg hcs, ← take_eq ht i hi, Array.getElem?_toList]
    · rw [if_neg hi, if_neg (by omega)]
      have := cells_length hE xs
      rw [List.getElem?_eq_none (by omega)]
end
theorem Own.store1 {α : Type} {E : El α} (hE : E.Ok) {w : World} {o : Option Addr} {c : Nat} {xs : List α} (h : Own E w o c xs) (d : α) (j : Nat) (hj : j < xs.length) (f : Nat) (hf : f < E.k) (x : α) (v : Value) (hx : E.enc x = (E.enc (xs.getD j d)).set f v) :
    ∃ g, o = some ⟨g, 0, none⟩ ∧ (∀ i, w.frozen? ⟨g, i, none⟩ = false) ∧ Own E (w.setCell ⟨g, j * E.k + f, none⟩ v) o c (xs.set j x) ∧ Keeps (inO o) w (w.setCell ⟨g, j * E.k + f, none⟩ v) := by
  rcases h.shape with ⟨_, _, e⟩ | ⟨g, cur, rfl, hg, hc, hm, hs, ht⟩
  · rw [e] at hj; simp at hj
  · refine ⟨g, rfl, fun i => frozen_of_blk hg i, ?_, (Keeps.refl _ _).setCell (.inl ⟨_, rfl, rfl⟩) v⟩
    refine own_of_shape hE (blk_set hg _ _) (by simpa using hc) hm (by simp [hs]) ?_
    have hjk : j * E.k + E.k ≤ xs.length * E.k := by rw [← Nat.succ_mul]; exact Nat.mul_le_mul_right _ hj
    have hck : xs.length * E.k ≤ c * E.k := Nat.mul_le_mul_right _ hc
    apply List.ext_getElem?
    intro i
    rw [cells_setE hE x xs j i hj, List.getElem?_take, List.length_set, Array.getElem?_toList]
    by_cases hi : i < xs.length * E.k
    · rw [if_pos hi]
      by_cases e : i = j * E.k + f
      · subst e
        have hl : f < (E.enc (xs.getD j d)).length := by rw [hE.len]; exact hf
        rw [if_pos (by omega), hx, show j * E.k + f - j * E.k = f by omega, Array.getElem?_setIfInBounds_self_of_lt (by rw [hs]; omega)]
        rw [List.getElem?_set_self hl]
      · rw [Array.getElem?_setIfInBounds_ne (by omega), ← Array.getElem?_toList, take_eq ht i hi]
        split
        · rename_i hcs
          rw [hx, List.getElem?_set_ne (by omega)]
          have := cells_at hE d xs j (i - j * E.k) hj (by omega)
          rw [← this]
          congr 1
          omega
        · rfl
    · rw [if_neg hi, if_neg (by omega)]
      have := cells_length hE xs
      rw [List.getElem?_eq_none (by omega)]
theorem blk_whole {w : World} {g : Nat} {cur : Array Value} {t : TypeId} {fz : Nat × Nat} (h : w.heap[g]? = some (.cells cur t fz)) (vs : List Value) (hl : cur.size = vs.length) : (w.setCells g 0 vs).heap[g]? = some (.cells vs.toArray t fz) := by
  obtain ⟨cur', h1, h2, h3⟩ := blk_setCells vs 0 h
  rw [h1]
  congr 2
  apply Array.ext_getElem?
  intro i
  rw [h3 i]
  by_cases hi : i < vs.length
  · rw [if_pos ⟨by omega, by omega, by omega⟩]; simp
  · rw [if_neg (by omega), Array.getElem?_eq_none (by omega), List.getElem?_toArray, List.getElem?_eq_none (by omega)]
theorem keeps_setCells' {S : Nat → Prop} {a w : World} {g : Nat} (vs : List Value) (o : Nat) (h : Keeps S a w) (hg : S g ∨ a.heap.size ≤ g) : Keeps S a (w.setCells g o vs) :=
  h.then (keeps_setCells vs o w) (fun i hi => by subst hi; exact hg)
theorem own_any (w : World) (a : Option Addr) (n c : Nat) (xs : List UInt8) (hn : n = xs.length) (hs : Sl BE w a c xs) (hb : xs.length ≤ 140737488355328) :
    Calls Try.prog 10 #[.slice a n c] w fun e w' => ∃ v, e = .returned v ∧ Gives BE w xs v w' := by
  have HN : Hid (n = xs.length) := hn
  have hb' : Hid (xs.length ≤ 140737488355328) := hb
  clear hn hb
  go_enter Try.func10, Try.ntmps10
  go_wp2_with (at_builtin; refine wpList_app okB rfl _ _ rfl none 0 0 [] rfl rfl (own_nil w) _ _ _ xs rfl HN.out hs.nil hs.row (by have := hb'.out; simp [BE]; omega) (by have := hb'.out; simp; omega) ?_; intro o' c' w' ho hap)
  go_ret
  have := hap.new (w0 := w) (new_none w) (Keeps.refl _ _)
  exact ⟨_, rfl, o', _, c', rfl, (show _ = _ by simp [HN.out]), by simpa using ho, this.1, this.2⟩
theorem keeps_grown (W : World) (d : Nat) (os : Array Obj) : Keeps no W (Sort.grow (redrawn W d) os) := Keeps.of_below (below_regrown W d os)
theorem grown_keeps {W X : World} (h : Keeps no W X) : ∃ p : Regrown, X = Sort.grow (redrawn W p.d) p.os := regrown_of_below (h.below (Nat.le_refl _) (fun _ h => h.elim))
theorem call_grown {f : FuncId} {args : Array Value} {W : World} {v : Value} (h : ∀ X, Keeps no W X → Calls Try.prog f args X fun e w' => e = .returned v ∧ Keeps no X w') (d : Nat) (os : Array Obj) :
    Calls Try.prog f args (Sort.grow (redrawn W d) os) fun e w'' => e = .returned v ∧ ∃ p : Regrown, w'' = Sort.grow (redrawn W p.d) p.os :=
  (h _ (keeps_grown W d os)).mono fun e w' ⟨he, hk⟩ => ⟨he, grown_keeps ((keeps_grown W d os).trans hk)⟩
end Go.Proofs.Ytdbejihkliafiaa
