import Derived.Test.YtdemoghlibnooaaGreatDoorB7
import Derived.Lib.SliceRun
import Derived.Test.YtdemoghlibnooaaGreatDoorBC
import Derived.Deep.RegionHeld3
/- One element of a row written over; the end of a row cleared. -/
namespace Go.Proofs.YtdemoghlibnooaaGreatDoor
open Go.RowKit Go.Maps Go.Sort Orl
set_option linter.unusedVariables false
set_option linter.unusedSimpArgs false

theorem getD_at {α : Type} {l : List α} {j : Nat} (h : j < l.length) (d : α) : l.getD j d = l[j] := by simp [List.getD, h]
theorem blk_setCells {g : Nat} {t : TypeId} {fz : Nat × Nat} : ∀ (vs : List Value) (o : Nat) {w : World} {cur : Array Value}, w.heap[g]? = some (.cells cur t fz) → ∃ cur', (w.setCells g o vs).heap[g]? = some (.cells cur' t fz) ∧ cur'.size = cur.size ∧ ∀ i, cur'[i]? = if o ≤ i ∧ i < o + vs.length ∧ i < cur.size then vs[i - o]? else cur[i]?
  | [], o, w, cur, h => ⟨cur, h, rfl, fun i => by rw [if_neg (by simp; omega)]⟩
  | v :: r, o, w, cur, h => by
    obtain ⟨cur', h1, h2, h3⟩ := blk_setCells r (o + 1) (blk_set h o v)
    refine ⟨cur', h1, by simpa using h2, fun i => ?_⟩
    rw [h3 i]
    simp only [Array.size_setIfInBounds, List.length_cons]
    by_cases e : i = o
    · subst e
      rw [if_neg (by omega)]
      by_cases hi : i < cur.size
      · rw [if_pos ⟨by omega, by omega, hi⟩]
        simp [hi]
      · rw [if_neg (by omega)]
        simp [Array.getElem?_eq_none (Nat.le_of_not_lt hi), hi]
    · by_cases hc : o + 1 ≤ i ∧ i < o + 1 + r.length ∧ i < cur.size
      · rw [if_pos hc, if_pos ⟨by omega, by omega, hc.2.2⟩, show i - o = (i - (o + 1)) + 1 by omega]
        simp
      · rw [if_neg hc, if_neg (by omega)]
        rw [Array.getElem?_setIfInBounds_ne (by omega)]
theorem keeps_setCells {g : Nat} : ∀ (vs : List Value) (o : Nat) (w : World), Keeps (fun b => b = g) w (w.setCells g o vs)
  | [], o, w => Keeps.refl _ _
  | v :: r, o, w => ((Keeps.refl (fun b => b = g) w).setCell (p := ⟨g, o, none⟩) (.inl rfl) v).trans (keeps_setCells r (o + 1) _)
section
variable {α : Type} {E : El α}
theorem cells_setE (hE : E.Ok) (x : α) : ∀ (xs : List α) (j i : Nat), j < xs.length → (E.cells (xs.set j x))[i]? = if j * E.k ≤ i ∧ i < j * E.k + E.k then (E.enc x)[i - j * E.k]? else (E.cells xs)[i]?
  | [], j, i, h => absurd h (by simp)
  | y :: r, 0, i, h => by
    simp only [List.set_cons_zero, El.cells, List.flatMap_cons, Nat.zero_mul, Nat.zero_add, Nat.zero_le, true_and, Nat.sub_zero]
    by_cases hi : i < E.k
    · rw [if_pos hi, List.getElem?_append_left (by rw [hE.len]; exact hi)]
    · rw [if_neg hi, List.getElem?_append_right (by rw [hE.len]; omega), List.getElem?_append_right (by rw [hE.len]; omega), hE.len, hE.len]
  | y :: r, j + 1, i, h => by
    have ih := cells_setE hE x r j (i - E.k) (by simpa using h)
    simp only [El.cells] at ih
    simp only [List.set_cons_succ, El.cells, List.flatMap_cons, Nat.succ_mul]
    have hp := hE.pos
    by_cases hi : i < E.k
    · rw [if_neg (by omega), List.getElem?_append_left (by rw [hE.len]; exact hi), List.getElem?_append_left (by rw [hE.len]; exact hi)]
    · rw [List.getElem?_append_right (by rw [hE.len]; omega), List.getElem?_append_right (by rw [hE.len]; omega), hE.len, ih]
      by_cases hc : j * E.k ≤ i - E.k ∧ i - E.k < j * E.k + E.k
      · rw [if_pos hc, if_pos (by omega)]
        congr 1; omega
      · rw [if_neg hc, if_neg (by omega)]
theorem take_eq {l m : List Value} {N : Nat} (h : l.take N = m) (i : Nat) (hi : i < N) : l[i]? = m[i]? := by
  rw [← h, List.getElem?_take, if_pos hi]
/-- one element written over -/
theorem Own.storeE (hE : E.Ok) {w : World} {o : Option Addr} {c : Nat} {xs : List α} (h : Own E w o c xs) (j : Nat) (hj : j < xs.length) (x : α) :
    ∃ g, o = some ⟨g, 0, none⟩ ∧ (∀ i, w.frozen? ⟨g, i, none⟩ = false) ∧ Own E (w.setCells g (j * E.k) (E.enc x)) o c (xs.set j x) ∧ Keeps (inO o) w (w.setCells g (j * E.k) (E.enc x)) := by
  rcases h.shape with ⟨_, _, e⟩ | ⟨g, cur, rfl, hg, hc, hm, hs, ht⟩
  · rw [e] at hj; simp at hj
  · refine ⟨g, rfl, fun i => frozen_of_blk hg i, ?_, (keeps_setCells _ _ _).mono fun b hb => ⟨_, rfl, hb.symm⟩⟩
    obtain ⟨cur', h1, h2, h3⟩ := blk_setCells (E.enc x) (j * E.k) hg
    refine own_of_shape hE h1 (by simpa using hc) hm (by rw [h2, hs]) ?_
    have hjk : j * E.k + E.k ≤ xs.length * E.k := by rw [← Nat.succ_mul]; exact Nat.mul_le_mul_right _ hj
    have hck : xs.length * E.k ≤ c * E.k := Nat.mul_le_mul_right _ hc
    apply List.ext_getElem?
    intro i
    rw [cells_setE hE x xs j i hj, List.getElem?_take, List.length_set]
    by_cases hi : i < xs.length * E.k
    · rw [if_pos hi, Array.getElem?_toList, h3 i, hE.len]
      by_cases hcs : j * E.k ≤ i ∧ i < j * E.k + E.k
      · rw [if_pos ⟨hcs.1, hcs.2, by omega⟩, if_pos hcs]
      · rw [if_neg (by omega), if_neg hcs, ← take_eq ht i hi, Array.getElem?_toList]
    · rw [if_neg hi, if_neg (by omega)]
      have := cells_length hE xs
      rw [List.getElem?_eq_none (by omega)]
end
theorem Own.store1 {α : Type} {E : El α} (hE : E.Ok) {w : World} {o : Option Addr} {c : Nat} {xs : List α} (h : Own E w o c xs) (d : α) (j : Nat) (hj : j < xs.length) (f : Nat) (hf : f < E.k) (x : α) (v : Value) (hx : E.enc x = (E.enc (xs.getD j d)).set f v) :
    ∃ g, o = some ⟨g, 0, none⟩ ∧ (∀ i, w.frozen? ⟨g, i, none⟩ = false) ∧ Own E (w.setCell ⟨g, j * E.k + f, none⟩ v) o c (xs.set j x) ∧ Keeps (inO o) w (w.setCell ⟨g, j * E.k + f, none⟩ v) := by
  rcases h.shape with ⟨_, _, e⟩ | ⟨g, cur, rfl, hg, hc, hm, hs, ht⟩
  · rw [e] at hj; simp at hj
  · refine ⟨g, rfl, fun i => frozen_of_blk hg i, ?_, (Keeps.refl _ _).setCell (.inl ⟨_, rfl, rfl⟩) v⟩
    refine own_of_shape hE (blk_set hg _ _) (by simpa using hc) hm (by simp [hs]) ?_
    have hjk : j * E.k + E.k ≤ xs.length * E.k := by rw [← Nat.succ_mul]; exact Nat.mul_le_mul_right _ hj
    have hck : xs.length * E.k ≤ c * E.k := Nat.mul_le_mul_right _ hc
    apply List.ext_getElem?
    intro i
    rw [cells_setE hE x xs j i hj, List.getElem?_take, List.length_set, Array.getElem?_toList]
    by_cases hi : i < xs.length * E.k
    · rw [if_pos hi]
      by_cases e : i = j * E.k + f
      · subst e
        have hl : f < (E.enc (xs.getD j d)).length := by rw [hE.len]; exact hf
        rw [if_pos (by omega), hx, show j * E.k + f - j * E.k = f by omega, Array.getElem?_setIfInBounds_self_of_lt (by rw [hs]; omega)]
        rw [List.getElem?_set_self hl]
      · rw [Array.getElem?_setIfInBounds_ne (by omega), ← Array.getElem?_toList, take_eq ht i hi]
        split
        · rename_i hcs
          rw [hx, List.getElem?_set_ne (by omega)]
          have := cells_at hE d xs j (i - j * E.k) hj (by omega)
          rw [← this]
          congr 1
          omega
        · rfl
    · rw [if_neg hi, if_neg (by omega)]
      have := cells_length hE xs
      rw [List.getElem?_eq_none (by omega)]
end Go.Proofs.YtdemoghlibnooaaGreatDoor
/- The reader of a snapshot. -/
namespace Go.Proofs.YtdemoghlibnooaaGreatDoor
open Go.RowKit Go.Maps Go.Sort Orl Pk
set_option linter.unusedVariables false
set_option linter.unusedSimpArgs false

/-- a reader whose blocks lie below w; it alone has turned since -/
structure Rt (w : World) (a : Nat) (st : RS) (wr : World) : Prop where
  is : ∃ o c, IsR 274 wr a o c st.1 st.2 ∧ ∀ k, footW a o k → k < w.heap.size
  keep : Keeps (eqA a) w wr
theorem Rt.lt {w : World} {a : Nat} {st : RS} {wr : World} (h : Rt w a st wr) : a < w.heap.size := by
  obtain ⟨⟨o, c, h1, h2⟩, _⟩ := h
  exact h2 a (.inl rfl)
theorem Rt.byt {w : World} {a : Nat} {st : RS} {wr : World} (h : Rt w a st wr) : Byt st := by
  obtain ⟨⟨o, c, h1, h2⟩, _⟩ := h
  exact h1.sl.row.1
theorem Rt.lid {w : World} {a : Nat} {st : RS} {wr : World} (h : Rt w a st wr) : st.1.length ≤ 140737488355328 := by
  obtain ⟨⟨o, c, h1, h2⟩, _⟩ := h
  exact h1.lid
theorem Rt.other {w : World} {a : Nat} {st : RS} {wr wr' : World} (h : Rt w a st wr) {S : Nat → Prop} (hk : Keeps S wr wr') (hS : ∀ i, S i → w.heap.size ≤ i) : Rt w a st wr' := by
  obtain ⟨⟨o, c, h1, h2⟩, h3⟩ := h
  exact ⟨⟨o, c, h1.keeps hk (fun k hk' hs => by have := h2 k hk'; have := hS k hs; omega), h2⟩, h3.then hk (fun i hi => .inr (hS i hi))⟩
theorem Rt.go {w : World} {a : Nat} {st : RS} {wr wr' : World} (h : Rt w a st wr) (hk : Keeps no wr wr') : Rt w a st wr' := h.other hk (fun _ h => h.elim)
theorem Rt.step {w : World} {a : Nat} {st' : RS} {wr w' : World} {o : Option Addr} (h2 : ∀ k, footW a o k → k < w.heap.size) (h3 : Keeps (eqA a) w wr) (h : RStep 274 wr a o st' w') : Rt w a st' w' ∧ Keeps (eqA a) wr w' := by
  obtain ⟨o', c', hR, hS, hK⟩ := h
  refine ⟨⟨⟨o', c', hR, fun k hk => ?_⟩, h3.trans hK⟩, hK⟩
  rcases hk with hk | hk
  · exact h2 k (.inl hk)
  · exact h2 k (.inr (hS.in k hk))
theorem rt_new (w : World) (o : Option Addr) (n c : Nat) (bs : List Nat) (hn : n = bs.length) (h : BSl w o c bs) (hlid : bs.length ≤ 140737488355328) :
    Calls Tryz.prog 153 #[.slice o n c] w fun e w' => ∃ a, e = .returned (.pointer (some ⟨a, 0, none⟩)) ∧ Hid (Rt w' a (bs, 0) w' ∧ w.heap.size ≤ a ∧ Keeps no w w') := by
  refine (newReader_any w o n c bs hn h hlid).mono ?_
  rintro e w' ⟨a, o', c', he, hR, hF, hK⟩
  exact ⟨a, he, ⟨⟨o', c', hR, hR.lt⟩, Keeps.refl _ _⟩, hF a (.inl rfl), hK⟩
section
variable {w : World} {a : Nat} {st : RS} {wr : World}
theorem Rt.u8 (h : Rt w a st wr) : Calls Tryz.prog 193 #[.pointer (some ⟨a, 0, none⟩)] wr fun e w2 => ∃ v : Nat, e = .returned (.int .u8 (v : Nat)) ∧ Hid (v = (rnum 1 st).1) ∧ Hid (v < 256) ∧ Hid (Rt w a (rnum 1 st).2 w2 ∧ Keeps (eqA a) wr w2) := by
  have hb := h.byt
  obtain ⟨⟨o, c, h1, h2⟩, h3⟩ := h
  refine (rU8_any wr a o c st.1 st.2 h1).mono ?_
  rintro e w2 ⟨he, hs⟩
  exact ⟨_, he, rfl, (show _ < _ by have := rnum_lt' 1 st hb; omega), Rt.step h2 h3 hs⟩
theorem Rt.u32 (h : Rt w a st wr) : Calls Tryz.prog 192 #[.pointer (some ⟨a, 0, none⟩)] wr fun e w2 => ∃ v : Nat, e = .returned (.int .u32 (v : Nat)) ∧ Hid (v = (rnum 4 st).1) ∧ Hid (v < 4294967296) ∧ Hid (Rt w a (rnum 4 st).2 w2 ∧ Keeps (eqA a) wr w2) := by
  have hb := h.byt
  obtain ⟨⟨o, c, h1, h2⟩, h3⟩ := h
  refine (rU32_any wr a o c st.1 st.2 h1).mono ?_
  rintro e w2 ⟨he, hs⟩
  exact ⟨_, he, rfl, (show _ < _ by have := rnum_lt' 4 st hb; omega), Rt.step h2 h3 hs⟩
theorem Rt.u64 (h : Rt w a st wr) : Calls Tryz.prog 194 #[.pointer (some ⟨a, 0, none⟩)] wr fun e w2 => ∃ v : Nat, e = .returned (.int .u64 (v : Nat)) ∧ Hid (v = (rnum 8 st).1) ∧ Hid (v < 18446744073709551616) ∧ Hid (Rt w a (rnum 8 st).2 w2 ∧ Keeps (eqA a) wr w2) := by
  have hb := h.byt
  obtain ⟨⟨o, c, h1, h2⟩, h3⟩ := h
  refine (rU64_any wr a o c st.1 st.2 h1).mono ?_
  rintro e w2 ⟨he, hs⟩
  exact ⟨_, he, rfl, (show _ < _ by have := rnum_lt' 8 st hb; omega), Rt.step h2 h3 hs⟩
theorem Rt.text (h : Rt w a st wr) : Calls Tryz.prog 197 #[.pointer (some ⟨a, 0, none⟩), .int .i64 65535] wr fun e w2 => ∃ s : Tx, e = .returned (.string s) ∧ Hid (s = text (rtext 65535 st).1) ∧ Hid (Rt w a (rtext 65535 st).2 w2 ∧ Keeps (eqA a) wr w2) := by
  obtain ⟨⟨o, c, h1, h2⟩, h3⟩ := h
  refine (rText_any wr a o c st.1 st.2 65535 (by omega) (by omega) h1).mono ?_
  rintro e w2 ⟨he, hs⟩
  exact ⟨_, he, rfl, Rt.step h2 h3 hs⟩
theorem Rt.texts (h : Rt w a st wr) : Calls Tryz.prog 199 #[.pointer (some ⟨a, 0, none⟩), .int .i64 1024, .int .i64 65535] wr fun e w2 => ∃ oo n c, e = .returned (.slice oo n c) ∧ Hid (n = (rkeys st).1.length) ∧ Hid (Own TE w2 oo c (rkeys st).1 ∧ New wr oo ∧ Rt w a (rkeys st).2 w2 ∧ Keeps (eqA a) wr w2) := by
  obtain ⟨⟨o, c, h1, h2⟩, h3⟩ := h
  refine (rTexts_any wr a o c st.1 st.2 1024 65535 (by omega) (by omega) (by omega) (by omega) h1).mono ?_
  rintro e w2 ⟨⟨oo, cc, n, he, hn, _, hown, hnew, _⟩, hs⟩
  refine ⟨oo, n, cc, he, ?_, ownT_of hown, hnew, Rt.step h2 h3 hs⟩
  show n = _
  rw [hn.out]; unfold rkeys; simp
theorem Rt.count (h : Rt w a st wr) (m : Nat) (hm : m = st.1.length) : Calls Tryz.prog 195 #[.pointer (some ⟨a, 0, none⟩), .int .i64 (m : Nat)] wr fun e w2 => ∃ v : Nat, e = .returned (.int .i64 (v : Nat)) ∧ Hid (v = (rcnt st).1) ∧ (v : Int) ≤ 4294967295 ∧ Hid (Rt w a (rcnt st).2 w2 ∧ Keeps (eqA a) wr w2) := by
  have hb := h.byt
  have hl := h.lid
  obtain ⟨⟨o, c, h1, h2⟩, h3⟩ := h
  subst hm
  refine (rCount_any wr a o c st.1 st.2 (st.1.length : Int) (by omega) (by omega) h1).mono ?_
  rintro e w2 ⟨he, hs⟩
  exact ⟨(rcnt st).1, he, rfl, by have := rcnt_lt st hb; omega, Rt.step h2 h3 hs⟩
theorem Rt.left (h : Rt w a st wr) : Calls Tryz.prog 196 #[.pointer (some ⟨a, 0, none⟩)] wr fun e w2 => ∃ m : Nat, e = .returned (.int .i64 (m : Nat)) ∧ Hid (m = st.1.length) ∧ w2 = wr := by
  have hl := h.lid
  obtain ⟨⟨o, c, h1, h2⟩, h3⟩ := h
  have c0 : wr.cell? ⟨a, 0, none⟩ = some (.slice o st.1.length c) := cell_of_blk h1.blk 0
  clear h1 h2 h3
  go_enter Tryz.func196, Tryz.ntmps196
  go_wp2_with fail
  go_ret
  exact ⟨_, rfl, rfl, rfl⟩
theorem Rt.err (h : Rt w a st wr) : Calls Tryz.prog 198 #[.pointer (some ⟨a, 0, none⟩)] wr fun e w2 => ∃ E : Nat, e = .returned (.int .i64 (E : Nat)) ∧ Hid (E = st.2) ∧ w2 = wr := by
  obtain ⟨⟨o, c, h1, h2⟩, h3⟩ := h
  have c1 : wr.cell? ⟨a, 1, none⟩ = some (.int .i64 (st.2 : Nat)) := cell_of_blk h1.blk 1
  clear h1 h2 h3
  go_enter Tryz.func198, Tryz.ntmps198
  go_wp2_with fail
  go_ret
  exact ⟨_, rfl, rfl, rfl⟩
theorem Rt.end_ (h : Rt w a st wr) : Calls Tryz.prog 157 #[.pointer (some ⟨a, 0, none⟩)] wr fun e w2 => ∃ E : Nat, e = .returned (.int .i64 (E : Nat)) ∧ Hid (E = 0 ↔ rend0 st = true) ∧ w2 = wr := by
  obtain ⟨⟨o, c, h1, h2⟩, h3⟩ := h
  refine (rEnd_any wr a o c st.1 st.2 h1).mono ?_
  rintro e w2 ⟨he, hw⟩
  refine ⟨_, he, ?_, hw⟩
  show _ ↔ _
  unfold rend rend0
  simp only [decide_eq_true_eq]
  split
  · rename_i h
    constructor
    · intro h; omega
    · rintro ⟨_, e⟩
      rw [e] at h; simp at h
  · rename_i h
    constructor
    · intro h'
      refine ⟨h', ?_⟩
      have : ¬ 0 < st.1.length := fun hc => h ⟨h', hc⟩
      exact List.length_eq_zero_iff.1 (by omega)
    · exact fun h => h.1
end
/-! ### errors stay -/
theorem rnum_err {k : Nat} {st : RS} (h : st.2 ≠ 0) : (rnum k st).2 = st := by unfold rnum; rw [if_pos h]
theorem rtext_err {most : Int} {st : RS} (h : st.2 ≠ 0) : (rtext most st).2 = st := by unfold rtext; rw [if_pos h]
theorem rkeys_err {st : RS} (h : st.2 ≠ 0) : (rkeys st).2 = st := by unfold rkeys rtexts; rw [if_pos h]
theorem rlast_err {st : RS} (h : st.2 ≠ 0) : (rlast st).2 = st := by
  unfold rlast
  simp only
  rw [rtext_err h, rnum_err h]
theorem rver_err {st : RS} (h : st.2 ≠ 0) : (rver st).2 = st := by
  unfold rver
  simp only
  rw [rtext_err h, rnum_err h, rtext_err h, rkeys_err h]
theorem rmany_err {α : Type} {f : RS → α × RS} (hf : ∀ st, st.2 ≠ 0 → (f st).2 = st) {k : Nat} {st : RS} (h : (rmany f k st).2.2 ≠ 0) : ∀ {n : Nat}, k ≤ n → (rmany f n st).2 = (rmany f k st).2
  | 0, hn => by have : k = 0 := by omega
                rw [this]
  | n + 1, hn => by
    by_cases e : k = n + 1
    · rw [e]
    · have ih := rmany_err hf h (n := n) (by omega)
      show (f (rmany f n st).2).2 = _
      rw [ih]
      exact hf _ h
def RdLs (w : World) (a : Nat) (r : List Mk × RS) (wr : World) (o : Option Addr) (n c : Nat) (w' : World) : Prop :=
  ∃ xs, n = xs.length ∧ Own LE w' o c xs ∧ New wr o ∧ Rt w a r.2 w' ∧ Keeps (eqA a) wr w' ∧ (r.2.2 = 0 → xs = r.1)
set_option maxRecDepth 10000 in
theorem readLasts_any {w : World} {a : Nat} {st : RS} {wr : World} (h : Rt w a st wr) :
    Calls Tryz.prog 155 #[.pointer (some ⟨a, 0, none⟩)] wr fun e w' => ∃ o n c, e = .returned (.slice o n c) ∧ Hid (RdLs w a (rlasts st) wr o n c w') := by
  have HR : Hid (Rt w a st wr) := h
  clear h
  go_enter Tryz.func155, Tryz.ntmps155
  go_wp2_with fail
  refine HR.out.left.mono ?_
  rintro e w1 ⟨m, rfl, hm, hw⟩
  subst w1
  go_wp2_with fail
  refine (HR.out.count m hm.out).mono ?_
  rintro e w1 ⟨n, rfl, hn, hn2, H1⟩
  obtain ⟨S, hS⟩ : ∃ S, S = (rcnt st).2 := ⟨_, rfl⟩
  have HS : Hid (S = (rcnt st).2 ∧ rlasts st = rmany rlast n S) := ⟨hS, by rw [hS, hn.out]; rfl⟩
  rw [← hS] at H1
  clear hS hn hm
  go_wp2_with fail
  go_loopw [3, 4, 9] (fun s3 _ i wq => ∃ (k : Nat) (v : Value), k ≤ n ∧ i = .int .i64 k ∧ s3 = v ∧ Hid (∃ o m d, v = .slice o m d ∧ m = k ∧ Own LE wq o d (rmany rlast k S).1 ∧ New wr o ∧ Rt w a (rmany rlast k S).2 wq ∧ Keeps (eqA a) wr wq)) (fun _ _ i _ => n - (intOf i).toNat)
  case atStart => exact ⟨0, _, by omega, rfl, rfl, none, 0, 0, rfl, rfl, own_nil _, new_none _, H1.out.1, H1.out.2⟩
  case round =>
    rename World => wq
    obtain ⟨k, v, hk, rfl, rfl, HG⟩ := hrel
    obtain ⟨o, m, d, rfl, hm, hg⟩ := HG.out
    have HM : Hid (m = k) := hm
    have HQ : Hid (Own LE wq o d (rmany rlast k S).1 ∧ New wr o ∧ Rt w a (rmany rlast k S).2 wq ∧ Keeps (eqA a) wr wq) := hg
    clear hm hg HG
    by_cases hlt : k < n
    · obtain ⟨Q, hQ⟩ : ∃ Q, Q = (rmany rlast k S).2 := ⟨_, rfl⟩
      have HQ' : Hid (Q = (rmany rlast k S).2) := hQ
      have hR := HQ.out.2.2.1
      rw [← hQ] at hR
      have HRt : Hid (Rt w a Q wq) := hR
      clear hQ hR
      go_wp2_with fail
      refine HRt.out.text.mono ?_
      rintro e w2 ⟨t, rfl, ht, H2⟩
      go_wp2_with fail
      refine H2.out.1.u64.mono ?_
      rintro e w3 ⟨i, rfl, hi, hi2, H3⟩
      go_wp2_with fail
      refine ((H3.out.1.go ((Keeps.refl no w3).alloc (.cells #[.string t, .int .u64 ((i : Nat) : Int)] 116))).err).mono ?_
      rintro e w4 ⟨E, rfl, hE, hw⟩
      subst w4
      have HX : Hid ((t, i) = (rlast Q).1 ∧ (rnum 8 (rtext 65535 Q).2).2 = (rlast Q).2) := ⟨by rw [ht.out, hi.out]; rfl, rfl⟩
      have HK : Hid (Keeps (eqA a) wq w3) := H2.out.2.trans H3.out.2
      have HR3 : Hid (Rt w a (rlast Q).2 (w3.alloc (.cells #[.string t, .int .u64 ((i : Nat) : Int)] 116))) := H3.out.1.go ((Keeps.refl no w3).alloc _)
      have HE : Hid (E = (rlast Q).2.2) := hE.out
      have HN : Hid (rmany rlast (k + 1) S = ((rmany rlast k S).1 ++ [(t, i)], (rlast Q).2)) := (show _ = _ by
        rw [rmany, ← HQ'.out, ← HX.out.1])
      have HO : Hid (Own LE w3 o d (rmany rlast k S).1) := HQ.out.1.keeps HK.out (fun b hb e => by
        have h1 := HQ.out.2.1 b hb
        have h2 := HRt.out.lt
        have h3 := HR.out.keep.size
        have e : b = a := e
        omega)
      clear hE ht hi H2 H3
      by_cases hz : E = 0
      · have HZ : Hid (E = 0) := hz
        subst E
        have HLn : Hid ((rmany rlast k S).1.length = k) := rmany_length _ _ _
        have d0 : (w3.alloc (.cells #[.string t, .int .u64 ((i : Nat) : Int)] 116)).cell? ⟨w3.heap.size, 0, none⟩ = some (.string t) := cell_of_blk (blk_new w3 _) 0
        have d1 : (w3.alloc (.cells #[.string t, .int .u64 ((i : Nat) : Int)] 116)).cell? ⟨w3.heap.size, 1, none⟩ = some (.int .u64 ((i : Nat) : Int)) := cell_of_blk (blk_new w3 _) 1
        have HROW : Hid (Row LE ((w3.alloc (.cells #[.string t, .int .u64 ((i : Nat) : Int)] 116)).alloc (.cells #[.string t, .int .u64 ((i : Nat) : Int)] 116)) (some ⟨w3.heap.size + 1, 0, none⟩) [(t, i)]) := by
          have hh := (own_oneL (w3.alloc (.cells #[.string t, .int .u64 ((i : Nat) : Int)] 116)) (t, i)).row
          rw [World.size_alloc] at hh
          exact hh
        go_wp2_with (at_builtin; refine wpList_app okL rfl _ _ rfl _ _ _ (rmany rlast k S).1 rfl (by rw [HLn.out]; exact HM.out) (HO.out.keepsN (((Keeps.refl no w3).alloc _).alloc _)) _ _ _ [(t, i)] rfl rfl (fun h => by cases h) HROW.out (by rw [HLn.out]; simp [LE]; omega) (by rw [HLn.out]; simp; omega) ?_; intro o1 c1 w5 ho5 hap5)
        go_roundw
        case rel =>
          have hkk : Keeps no w3 ((w3.alloc (.cells #[.string t, .int .u64 ((i : Nat) : Int)] 116)).alloc (.cells #[.string t, .int .u64 ((i : Nat) : Int)] 116)) := ((Keeps.refl no w3).alloc _).alloc _
          have hnw : New wr o1 ∧ Keeps (eqA a) wr w5 ∧ Rt w a (rlast Q).2 w5 := by
            have hkr : Keeps (eqA a) wr _ := (HQ.out.2.2.2.trans HK.out).trans hkk.of_no
            have hlt := HR.out.keep.size
            rcases hap5 with ⟨rfl, hA⟩ | ⟨⟨g, rfl, hg⟩, hA⟩
            · exact ⟨HQ.out.2.1, hkr.then hA (fun b hb => .inr (HQ.out.2.1 b hb)), (HR3.out.go ((Keeps.refl no _).alloc _)).other hA (fun b hb => Nat.le_trans hlt (HQ.out.2.1 b hb))⟩
            · refine ⟨?_, hkr.trans hA.of_no, (HR3.out.go ((Keeps.refl no _).alloc _)).go hA⟩
              rintro b ⟨x, e, rfl⟩
              cases e
              exact Nat.le_trans hkr.size hg
          refine ⟨k + 1, _, by omega, by go_num, rfl, o1, _, c1, rfl, ?_, ?_⟩
          · rw [HM.out]
          · rw [HN.out]
            exact ⟨ho5, hnw.1, hnw.2.2, hnw.2.1⟩
        case measure => simp [intOf]; omega
      · have hz' : ¬ ((E : Nat) : Int) = 0 := by omega
        have HZ : Hid (¬ E = 0) := hz
        clear hz
        go_wp2_with fail
        go_ret
        have e1 : (rlasts st).2 = (rlast Q).2 := by
          rw [HS.out.2, rmany_err (fun st h => rlast_err h) (k := k + 1) (by rw [HN.out]; simp only; rw [← HE.out]; exact HZ.out) (by omega), HN.out]
        refine ⟨none, 0, 0, rfl, [], rfl, own_nil _, new_none _, by rw [e1]; exact HR3.out, (HQ.out.2.2.2.trans HK.out).trans ((Keeps.refl _ _).alloc _), fun h0 => ?_⟩
        rw [e1, ← HE.out] at h0
        exact absurd h0 HZ.out
    · go_wp2_with fail
      go_ret
      have hkn : k = n := by omega
      subst hkn
      refine ⟨o, m, d, rfl, _, (by rw [rmany_length]; exact HM.out), HQ.out.1, HQ.out.2.1, ?_, HQ.out.2.2.2, fun _ => by rw [HS.out.2]⟩
      rw [HS.out.2]
      exact HQ.out.2.2.1
end Go.Proofs.YtdemoghlibnooaaGreatDoor
/- The versions of a snapshot, read. -/
namespace Go.Proofs.YtdemoghlibnooaaGreatDoor
open Go.RowKit Go.Maps Go.Sort Orl Pk
set_option linter.unusedVariables false
set_option linter.unusedSimpArgs false

/-- a list of versions, new since w0: what they say, no stamps yet -/
structure Vl (w0 : World) (vs : List VT) (xs : List KV) (o : Option Addr) (c : Nat) (w' : World) : Prop where
  own : Own KE w' o c xs
  vt : vts xs = vs
  key : ∀ x ∈ xs, Own TE w' x.o x.c x.keys ∧ New w0 x.o
  new : New w0 o
theorem vl_nil (w0 w' : World) : Vl w0 [] [] none 0 w' := ⟨own_nil _, rfl, (fun x hx => by cases hx), new_none _⟩
theorem Vl.keeps {w0 : World} {vs : List VT} {xs : List KV} {o : Option Addr} {c : Nat} {w' w'' : World} {S : Nat → Prop} (h : Vl w0 vs xs o c w') (hk : Keeps S w' w'') (hS : ∀ b, S b → b < w0.heap.size) : Vl w0 vs xs o c w'' :=
  ⟨h.own.keeps hk (fun b hb hs => by have := h.new b hb; have := hS b hs; omega), h.vt, fun x hx => ⟨(h.key x hx).1.keeps hk (fun b hb hs => by have := (h.key x hx).2 b hb; have := hS b hs; omega), (h.key x hx).2⟩, h.new⟩
theorem Vl.keepsN {w0 : World} {vs : List VT} {xs : List KV} {o : Option Addr} {c : Nat} {w' w'' : World} (h : Vl w0 vs xs o c w') (hk : Keeps no w' w'') : Vl w0 vs xs o c w'' := h.keeps hk (fun _ h => h.elim)
theorem Vl.push {w0 : World} {vs : List VT} {xs : List KV} {o : Option Addr} {c : Nat} {w2 w3 : World} (h : Vl w0 vs xs o c w2) {x : KV} (hx : Own TE w2 x.o x.c x.keys) (hn : New w0 x.o) (hs : w0.heap.size ≤ w2.heap.size) {o' : Option Addr} {c' : Nat} (ho : Own KE w3 o' c' (xs ++ [x])) (ha : Ap w2 o o' w3) : Vl w0 (vs ++ [x.vt]) (xs ++ [x]) o' c' w3 := by
  have hkp : ∀ {y : KV}, Own TE w2 y.o y.c y.keys → Own TE w3 y.o y.c y.keys := fun {y} hy => by
    rcases ha with ⟨rfl, ha⟩ | ⟨_, ha⟩
    · exact hy.keeps ha (fun i hi hj => tags_ne h.own hy kt_ne i hj hi)
    · exact hy.keepsN ha
  refine ⟨ho, by rw [← h.vt]; simp [vts], fun y hy => ?_, ?_⟩
  · rcases List.mem_append.1 hy with hy | hy
    · exact ⟨hkp (h.key y hy).1, (h.key y hy).2⟩
    · simp at hy; subst hy
      exact ⟨hkp hx, hn⟩
  · rcases ha with ⟨rfl, ha⟩ | ⟨⟨g, rfl, hg⟩, ha⟩
    · exact h.new
    · rintro b ⟨y, e, rfl⟩
      cases e
      exact Nat.le_trans hs hg
def RdVs (w : World) (a : Nat) (r : List VT × RS) (wr : World) (o : Option Addr) (n c : Nat) (w' : World) : Prop :=
  ∃ vs xs, n = xs.length ∧ Vl wr vs xs o c w' ∧ Rt w a r.2 w' ∧ Keeps (eqA a) wr w' ∧ (r.2.2 = 0 → vs = r.1)
set_option maxRecDepth 10000 in
theorem readVersions_any {w : World} {a : Nat} {st : RS} {wr : World} (h : Rt w a st wr) :
    Calls Tryz.prog 156 #[.pointer (some ⟨a, 0, none⟩)] wr fun e w' => ∃ o n c, e = .returned (.slice o n c) ∧ Hid (RdVs w a (rvers st) wr o n c w') := by
  have HR : Hid (Rt w a st wr) := h
  clear h
  go_enter Tryz.func156, Tryz.ntmps156
  go_wp2_with fail
  refine HR.out.left.mono ?_
  rintro e w1 ⟨m, rfl, hm, hw⟩
  subst w1
  go_wp2_with fail
  refine (HR.out.count m hm.out).mono ?_
  rintro e w1 ⟨n, rfl, hn, hn2, H1⟩
  obtain ⟨S, hS⟩ : ∃ S, S = (rcnt st).2 := ⟨_, rfl⟩
  have HS : Hid (S = (rcnt st).2 ∧ rvers st = rmany rver n S) := ⟨hS, by rw [hS, hn.out]; rfl⟩
  rw [← hS] at H1
  clear hS hn hm
  go_wp2_with fail
  go_loopw [3, 4, 9] (fun s3 _ i wq => ∃ (k : Nat) (v : Value), k ≤ n ∧ i = .int .i64 k ∧ s3 = v ∧ Hid (∃ o m d xs, v = .slice o m d ∧ m = xs.length ∧ Vl wr (rmany rver k S).1 xs o d wq ∧ Rt w a (rmany rver k S).2 wq ∧ Keeps (eqA a) wr wq)) (fun _ _ i _ => n - (intOf i).toNat)
  case atStart => exact ⟨0, _, by omega, rfl, rfl, none, 0, 0, [], rfl, rfl, vl_nil _ _, H1.out.1, H1.out.2⟩
  case round =>
    rename World => wq
    obtain ⟨k, v, hk, rfl, rfl, HG⟩ := hrel
    obtain ⟨o, m, d, xs, rfl, hm, hg⟩ := HG.out
    have HQ : Hid (Vl wr (rmany rver k S).1 xs o d wq ∧ Rt w a (rmany rver k S).2 wq ∧ Keeps (eqA a) wr wq) := hg
    have HM : Hid (m = xs.length ∧ xs.length = k) := ⟨hm, by
      have := congrArg List.length HQ.out.1.vt
      rw [rmany_length] at this
      simpa [vts] using this⟩
    clear hm hg HG
    by_cases hlt : k < n
    · obtain ⟨Q, hQ⟩ : ∃ Q, Q = (rmany rver k S).2 := ⟨_, rfl⟩
      have HQ' : Hid (Q = (rmany rver k S).2) := hQ
      have hR := HQ.out.2.1
      rw [← hQ] at hR
      have HRt : Hid (Rt w a Q wq) := hR
      clear hQ hR
      go_wp2_with fail
      refine HRt.out.text.mono ?_
      rintro e w2 ⟨t, rfl, ht, H2⟩
      go_wp2_with fail
      refine H2.out.1.u64.mono ?_
      rintro e w3 ⟨i, rfl, hi, hi2, H3⟩
      go_wp2_with fail
      refine H3.out.1.text.mono ?_
      rintro e w4 ⟨tv, rfl, htv, H4⟩
      go_wp2_with fail
      refine H4.out.1.texts.mono ?_
      rintro e w5 ⟨ko, kn, kc, rfl, hkn, H5⟩
      obtain ⟨kys, hkys⟩ : ∃ kys, kys = (rkeys (rtext 65535 (rnum 8 (rtext 65535 Q).2).2).2).1 := ⟨_, rfl⟩
      rw [← hkys] at H5 hkn
      have HX : Hid (((t, i), tv, kys) = (rver Q).1) := (show _ = _ by rw [ht.out, hi.out, htv.out, hkys]; rfl)
      have HK : Hid (Keeps (eqA a) wq w4 ∧ Keeps (eqA a) w4 w5) := ⟨(H2.out.2.trans H3.out.2).trans H4.out.2, H5.out.2.2.2⟩
      have HKy : Hid (kn = kys.length ∧ Own TE w5 ko kc kys ∧ New wr ko) := ⟨hkn.out, H5.out.1, H5.out.2.1.of_le (Nat.le_trans HQ.out.2.2.size HK.out.1.size)⟩
      have HR5 : Hid (Rt w a (rver Q).2 w5) := H5.out.2.2.1
      clear ht hi htv hkn H2 H3 H4 H5 hkys
      go_wp2_with fail
      refine ((HR5.out.go ((Keeps.refl no w5).alloc (.cells #[.string t, .int .u64 ((i : Nat) : Int), .string tv, .slice ko kn kc] 112))).err).mono ?_
      rintro e w6 ⟨E, rfl, hE, hw⟩
      subst w6
      have HE : Hid (E = (rver Q).2.2) := hE.out
      have HN : Hid (rmany rver (k + 1) S = ((rmany rver k S).1 ++ [((t, i), tv, kys)], (rver Q).2)) := (show _ = _ by
        rw [rmany, ← HQ'.out, ← HX.out])
      have HV : Hid (Vl wr (rmany rver k S).1 xs o d w5) := HQ.out.1.keeps (HK.out.1.trans HK.out.2) (fun b hb => by
        have h2 := HRt.out.lt
        have h3 := HR.out.keep.size
        have e : b = a := hb
        omega)
      clear hE
      by_cases hz : E = 0
      · have HZ : Hid (E = 0) := hz
        subst E
        have hb5 := blk_new w5 (.cells #[.string t, .int .u64 ((i : Nat) : Int), .string tv, .slice ko kn kc] 112)
        have d0 : (w5.alloc (.cells #[.string t, .int .u64 ((i : Nat) : Int), .string tv, .slice ko kn kc] 112)).cell? ⟨w5.heap.size, 0, none⟩ = some (.string t) := cell_of_blk hb5 0
        have d1 : (w5.alloc (.cells #[.string t, .int .u64 ((i : Nat) : Int), .string tv, .slice ko kn kc] 112)).cell? ⟨w5.heap.size, 1, none⟩ = some (.int .u64 ((i : Nat) : Int)) := cell_of_blk hb5 1
        have d2 : (w5.alloc (.cells #[.string t, .int .u64 ((i : Nat) : Int), .string tv, .slice ko kn kc] 112)).cell? ⟨w5.heap.size, 2, none⟩ = some (.string tv) := cell_of_blk hb5 2
        have d3 : (w5.alloc (.cells #[.string t, .int .u64 ((i : Nat) : Int), .string tv, .slice ko kn kc] 112)).cell? ⟨w5.heap.size, 3, none⟩ = some (.slice ko kn kc) := cell_of_blk hb5 3
        clear hb5
        have HROW : Hid (Row KE ((w5.alloc (.cells #[.string t, .int .u64 ((i : Nat) : Int), .string tv, .slice ko kn kc] 112)).alloc (.cells #[.string t, .int .u64 ((i : Nat) : Int), .string tv, .slice ko kn kc, .int .i64 0] 114)) (some ⟨w5.heap.size + 1, 0, none⟩) [⟨(t, i), tv, ko, kc, kys, 0⟩]) := by
          have hh := (own_oneK (w5.alloc (.cells #[.string t, .int .u64 ((i : Nat) : Int), .string tv, .slice ko kn kc] 112)) ⟨(t, i), tv, ko, kc, kys, 0⟩).row
          rw [World.size_alloc] at hh
          simp only at hh
          rw [← HKy.out.1] at hh
          exact hh
        go_wp2_with (at_builtin; refine wpList_app okK rfl _ _ rfl _ _ _ xs rfl HM.out.1 (HV.out.own.keepsN (((Keeps.refl no w5).alloc _).alloc _)) _ _ _ [⟨(t, i), tv, ko, kc, kys, 0⟩] rfl rfl (fun h => by cases h) HROW.out (by rw [HM.out.2]; simp [KE]; omega) (by rw [HM.out.2]; simp; omega) ?_; intro o1 c1 w6 ho6 hap6)
        go_roundw
        case rel =>
          have hkk : Keeps no w5 ((w5.alloc (.cells #[.string t, .int .u64 ((i : Nat) : Int), .string tv, .slice ko kn kc] 112)).alloc (.cells #[.string t, .int .u64 ((i : Nat) : Int), .string tv, .slice ko kn kc, .int .i64 0] 114)) := ((Keeps.refl no w5).alloc _).alloc _
          have hlt := HR.out.keep.size
          have hkr : Keeps (eqA a) wr _ := (HQ.out.2.2.trans (HK.out.1.trans HK.out.2)).trans hkk.of_no
          have hp := (HV.out.keepsN hkk).push (x := ⟨(t, i), tv, ko, kc, kys, 0⟩) (HKy.out.2.1.keepsN hkk) HKy.out.2.2 hkr.size ho6 hap6
          have hnw : Keeps (eqA a) wr w6 ∧ Rt w a (rver Q).2 w6 := by
            rcases hap6 with ⟨rfl, hA⟩ | ⟨⟨g, rfl, hg⟩, hA⟩
            · exact ⟨hkr.then hA (fun b hb => .inr (HV.out.new b hb)), (HR5.out.go hkk).other hA (fun b hb => Nat.le_trans hlt (HV.out.new b hb))⟩
            · exact ⟨hkr.trans hA.of_no, (HR5.out.go hkk).go hA⟩
          refine ⟨k + 1, _, by omega, by go_num, rfl, o1, _, c1, (xs ++ [⟨(t, i), tv, ko, kc, kys, 0⟩]), rfl, ?_, ?_, ?_, hnw.1⟩
          · rw [List.length_append, ← HM.out.1]; rfl
          · rw [HN.out]; exact hp
          · rw [HN.out]; exact hnw.2
        case measure => simp [intOf]; omega
      · have hz' : ¬ ((E : Nat) : Int) = 0 := by omega
        have HZ : Hid (¬ E = 0) := hz
        clear hz
        go_wp2_with fail
        go_ret
        have e1 : (rvers st).2 = (rver Q).2 := by
          rw [HS.out.2, rmany_err (fun st h => rver_err h) (k := k + 1) (by rw [HN.out]; simp only; rw [← HE.out]; exact HZ.out) (by omega), HN.out]
        refine ⟨none, 0, 0, rfl, [], [], rfl, vl_nil _ _, by rw [e1]; exact HR5.out.go ((Keeps.refl no _).alloc _), (HQ.out.2.2.trans (HK.out.1.trans HK.out.2)).trans ((Keeps.refl _ _).alloc _), fun h0 => ?_⟩
        rw [e1, ← HE.out] at h0
        exact absurd h0 HZ.out
    · go_wp2_with fail
      go_ret
      have hkn : k = n := by omega
      subst hkn
      refine ⟨o, m, d, rfl, _, xs, HM.out.1, HQ.out.1, ?_, HQ.out.2.2, fun _ => by rw [HS.out.2]⟩
      rw [HS.out.2]
      exact HQ.out.2.1
end Go.Proofs.YtdemoghlibnooaaGreatDoor
/- The stamps of what is read. -/
namespace Go.Proofs.YtdemoghlibnooaaGreatDoor
open Go.RowKit Go.Maps Go.Sort Orl Pk
set_option linter.unusedVariables false
set_option linter.unusedSimpArgs false

def mapL (ls : List Mk) : List (Tx × Nat) := ls.foldl (fun m l => put l.1 l.2 m) []
theorem mapL_snoc (ls : List Mk) (l : Mk) : mapL (ls ++ [l]) = put l.1 l.2 (mapL ls) := by simp [mapL]
theorem put_len {k : Tx} {v : Nat} (L : List (Tx × Nat)) : (put k v L).length ≤ L.length + 1 := by
  simp only [put, List.length_cons]
  have : (del k L).length ≤ L.length := List.length_filter_le _ _
  omega
theorem mapL_len : ∀ (ls : List Mk) (m : List (Tx × Nat)), (ls.foldl (fun m l => put l.1 l.2 m) m).length ≤ m.length + ls.length
  | [], m => by simp
  | l :: r, m => by
    have h1 := mapL_len r (put l.1 l.2 m)
    have h2 := put_len (k := l.1) (v := l.2) m
    simp only [List.foldl_cons, List.length_cons] at h1 ⊢
    omega
theorem mapL_fnd : ∀ (ls : List Mk) (m : List (Tx × Nat)) (k : Tx), Nk ls → fnd k (ls.foldl (fun m l => put l.1 l.2 m) m) = match fnd k ls with | some i => some i | none => fnd k m
  | [], m, k, _ => rfl
  | l :: r, m, k, hn => by
    obtain ⟨h1, h2⟩ := List.pairwise_cons.1 hn
    rw [List.foldl_cons, mapL_fnd r _ k h2]
    simp only [fnd]
    by_cases e : l.1 = k
    · rw [if_pos e]
      have hf : fnd k r = none := fnd_none.2 (fun q hq e' => h1 q hq (e.trans e'.symm))
      rw [hf]
      simp only
      rw [fnd_put, if_pos e.symm]
    · rw [if_neg e]
      cases hf : fnd k r with
      | some i => rfl
      | none =>
        simp only
        rw [fnd_put, if_neg (fun h => e h.symm)]
def lastM (ls : List Mk) (k : Tx) : Nat := (fnd k (mapL ls)).getD 0
theorem lastM_in {ls : List Mk} (h : Nk ls) (k : Tx) : lastM ls k = lastIn ls k := by
  unfold lastM lastIn mapL
  rw [mapL_fnd ls [] k h]
  cases fnd k ls <;> rfl
def stM (now : Int) (ls : List Mk) (m : Mk) : Int := if m.2 < lastM ls m.1 then now else -1
def KV.at (x : KV) (t : Int) : KV := { x with stamp := t }
def restK (now : Int) (ls : List Mk) (x : KV) : KV := x.at (stM now ls x.m)
def stampTo (now : Int) (ls : List Mk) (xs : List KV) (j : Nat) : List KV := (xs.take j).map (restK now ls) ++ xs.drop j
theorem stampTo_zero (now : Int) (ls : List Mk) (xs : List KV) : stampTo now ls xs 0 = xs := by simp [stampTo]
theorem stampTo_all (now : Int) (ls : List Mk) (xs : List KV) (j : Nat) (h : xs.length ≤ j) : stampTo now ls xs j = xs.map (restK now ls) := by
  unfold stampTo
  rw [List.take_of_length_le h, List.drop_eq_nil_of_le h, List.append_nil]
theorem stampTo_length (now : Int) (ls : List Mk) (xs : List KV) (j : Nat) : (stampTo now ls xs j).length = xs.length := by
  simp [stampTo]; omega
theorem stampTo_at (now : Int) (ls : List Mk) (xs : List KV) (j : Nat) (h : j < xs.length) : (stampTo now ls xs j).getD j kv0 = xs.getD j kv0 := by
  have hl : ((xs.take j).map (restK now ls)).length = j := by simp; omega
  unfold stampTo
  rw [List.getD_eq_getElem?_getD, List.getElem?_append_right (by omega), hl, Nat.sub_self, List.getElem?_drop, Nat.add_zero, ← List.getD_eq_getElem?_getD]
theorem stampTo_set (now : Int) (ls : List Mk) (xs : List KV) (j : Nat) (h : j < xs.length) : (stampTo now ls xs j).set j (restK now ls (xs.getD j kv0)) = stampTo now ls xs (j + 1) := by
  have hl : ((xs.take j).map (restK now ls)).length = j := by simp; omega
  unfold stampTo
  rw [List.set_append_right _ _ (by omega), hl, Nat.sub_self, take_succ_getD xs j kv0 h, List.map_append, List.append_assoc]
  congr 1
  rw [List.drop_eq_getElem_cons h, List.set_cons_zero]
  rfl
theorem set_set {α : Type} (l : List α) (j : Nat) (a b : α) : (l.set j a).set j b = l.set j b := List.set_set ..
theorem tagsS : KE.e ≠ 116 := by decide
set_option maxRecDepth 10000 in
set_option maxHeartbeats 1000000 in
theorem stamp_any (w : World) (ok : Option Addr) (nk ck : Nat) (xs : List KV) (ol : Option Addr) (nl cl : Nat) (ls : List Mk) (now : Int) (hnk : nk = xs.length) (hnl : nl = ls.length) (hlk : xs.length ≤ 4294967295) (hll : ls.length ≤ 4294967295) (hok : Own KE w ok ck xs) (hol : Own LE w ol cl ls) (hsl : ∀ l ∈ ls, l.1.size ≤ 65535) (hsk : ∀ x ∈ xs, x.m.1.size ≤ 65535) :
    Calls Tryz.prog 158 #[.slice ok nk ck, .slice ol nl cl, .int .i64 now] w fun e w' => e = .returned (.tuple #[]) ∧ Hid (Own KE w' ok ck (xs.map (restK now ls)) ∧ Keeps (inO ok) w w') := by
  have HA : Hid (nk = xs.length ∧ nl = ls.length ∧ xs.length ≤ 4294967295 ∧ ls.length ≤ 4294967295 ∧ Own KE w ok ck xs ∧ Own LE w ol cl ls ∧ (∀ l ∈ ls, l.1.size ≤ 65535) ∧ ∀ x ∈ xs, x.m.1.size ≤ 65535) := ⟨hnk, hnl, hlk, hll, hok, hol, hsl, hsk⟩
  have hnkb : (nk : Int) ≤ 4294967295 := by omega
  have hnlb : (nl : Int) ≤ 4294967295 := by omega
  clear hnk hnl hlk hll hok hol hsl hsk
  have hmk := fun W n => makeLI W n
  obtain ⟨M, hM⟩ : ∃ M, M = w.heap.size := ⟨_, rfl⟩
  have HM : Hid (M = w.heap.size) := hM
  have H1 : Hid (IsMp KT vvI (w.alloc (.map #[] 0)) M [] ∧ Keeps no w (w.alloc (.map #[] 0))) := ⟨by rw [hM]; exact isMp_made w, (Keeps.refl no w).alloc _⟩
  clear hM
  go_enter Tryz.func158, Tryz.ntmps158
  go_wp2_with fail
  rw [← HM.out]
  generalize w.alloc (.map #[] 0) = w1 at H1 ⊢
  clear hmk
  go_loopw [8, 16] (fun _ i wr => ∃ j : Nat, j ≤ nl ∧ i = .int .i64 j ∧ Hid (IsMp KT vvI wr M (mapL (ls.take j)) ∧ Keeps no w wr)) (fun _ i _ => nl - (intOf i).toNat)
  case atStart => exact ⟨0, by omega, rfl, H1.out.1, H1.out.2⟩
  case round =>
    obtain ⟨j, hj, rfl, HJ⟩ := hrel
    clear H1
    by_cases hlt : j < nl
    · have hlt' : (j : Int) < nl := by omega
      have hja : j < ls.length := by have := HA.out.2.1; omega
      obtain ⟨b1, off1, e1, d0, d1⟩ := (HA.out.2.2.2.2.2.1.keepsN HJ.out.2).sl.atL hja
      obtain ⟨x, hx⟩ : ∃ x, x = ls.getD j (e0, 0) := ⟨_, rfl⟩
      rw [← hx] at d0 d1
      have hkm := HA.out.2.2.2.2.2.2.1 x (by rw [hx]; exact getD_mem_lt _ hja)
      have e2 : mapL (ls.take (j + 1)) = put x.1 x.2 (mapL (ls.take j)) := by rw [take_succ_getD ls j (e0, 0) hja, mapL_snoc, hx]
      obtain ⟨xk, xi⟩ := x
      simp only at d0 d1 e2
      have hkA : Keeps no wr (wr.alloc (.cells #[.string xk, .int .u64 ((xi : Nat) : Int)] 116)) := (Keeps.refl no wr).alloc _
      obtain ⟨w4, hr4, hm4, hk4, hs4⟩ := updLI (k := xk) (HJ.out.1.keepsN hkA) (by
        have h1 := mapL_len (ls.take j) []
        rw [List.length_take] at h1
        have h2 := HA.out.2.2.2.1
        unfold mapL maxLen
        simp only [List.length_nil] at h1
        omega) (by unfold maxLen; simp only at hkm; omega) xi
      have H4 : Hid (IsMp KT vvI w4 M (mapL (ls.take (j + 1))) ∧ Keeps no w w4) := ⟨by rw [e2]; exact hm4, (HJ.out.2.trans hkA).then hk4 (fun b hb => .inr (by rw [hb, HM.out]; exact Nat.le_refl _))⟩
      clear hja hx hkm hkA hm4 hk4 hs4 e2
      subst e1
      go_wp2_with fail
      go_roundw
      case rel => exact ⟨j + 1, by omega, by go_num, H4.out⟩
      case measure => simp [intOf]; omega
    · have hlt' : ¬ (j : Int) < nl := by omega
      have HMp : Hid (IsMp KT vvI wr M (mapL ls) ∧ Keeps no w wr) := by
        have := HJ.out
        rw [List.take_of_length_le (by have := HA.out.2.1; omega)] at this
        exact this
      rename World => w2
      clear HJ
      go_wp2_with fail
      go_loopw [9, 10, 28] (fun _ _ i wq => ∃ j : Nat, j ≤ nk ∧ i = .int .i64 j ∧ Hid (IsMp KT vvI wq M (mapL ls) ∧ Own KE wq ok ck (stampTo now ls xs j) ∧ Keeps (inO ok) w wq)) (fun _ _ i _ => nk - (intOf i).toNat)
      case atStart => exact ⟨0, by omega, rfl, HMp.out.1, by rw [stampTo_zero]; exact HA.out.2.2.2.2.1.keepsN HMp.out.2, HMp.out.2.of_no⟩
      case round =>
        rename World => wq
        clear HMp
        obtain ⟨t, ht, rfl, HT⟩ := hrel
        by_cases htl : t < nk
        · have htl' : (t : Int) < nk := by omega
          have hta : t < xs.length := by have := HA.out.1; omega
          have hta' : t < (stampTo now ls xs t).length := by rw [stampTo_length]; exact hta
          obtain ⟨x, hx⟩ : ∃ x, x = xs.getD t kv0 := ⟨_, rfl⟩
          have hat := stampTo_at now ls xs t hta
          rw [← hx] at hat
          have hkm := HA.out.2.2.2.2.2.2.2 x (by rw [hx]; exact getD_mem_lt _ hta)
          obtain ⟨g, e1, hfz, ho1, hk1⟩ := HT.out.2.1.store1 okK kv0 t hta' 4 (by decide) (x.at (-1)) (.int .i64 (-1)) (by rw [hat]; rfl)
          have ho1' : Own KE (wq.setCell ⟨g, t * 5 + 4, none⟩ (.int .i64 (-1))) ok ck ((stampTo now ls xs t).set t (x.at (-1))) := ho1
          have hk1' : Keeps (inO ok) wq (wq.setCell ⟨g, t * 5 + 4, none⟩ (.int .i64 (-1))) := hk1
          obtain ⟨b0, off0, eb, q0, q1, q2, q3, q4⟩ := HT.out.2.1.sl.atK hta'
          have eb2 := eb
          rw [e1] at eb2
          injection eb2 with eb2
          injection eb2 with eb2 eb3 _
          subst eb2 eb3
          rw [hat] at q4
          simp only [Nat.zero_add] at q4
          have hf4 := hfz (t * 5 + 4)
          have hml : ¬ inO ok M := fun h => by have := HA.out.2.2.2.2.1.lt M h; have := HM.out; omega
          have hset1 : ((stampTo now ls xs t).set t (x.at (-1))).getD t kv0 = x.at (-1) := by
            rw [List.getD_eq_getElem?_getD, List.getElem?_set_self hta']; rfl
          have hlen1 : t < ((stampTo now ls xs t).set t (x.at (-1))).length := by simpa using hta'
          have H5 : Hid (Own KE (wq.setCell ⟨g, t * 5 + 4, none⟩ (.int .i64 (-1))) ok ck ((stampTo now ls xs t).set t (x.at (-1))) ∧ IsMp KT vvI (wq.setCell ⟨g, t * 5 + 4, none⟩ (.int .i64 (-1))) M (mapL ls) ∧ Keeps (inO ok) w (wq.setCell ⟨g, t * 5 + 4, none⟩ (.int .i64 (-1)))) := ⟨ho1', HT.out.1.keeps hk1' hml, HT.out.2.2.trans hk1'⟩
          clear ho1 ho1' hk1 hk1' q0 q1 q2 q3 hfz eb
          have HX : Hid (x = xs.getD t kv0 ∧ t < xs.length) := ⟨hx, hta⟩
          have HE : Hid (ok = some ⟨g, 0, none⟩) := e1
          rw [e1]
          go_upto_region 11 with fail
          generalize wq.setCell ⟨g, t * 5 + 4, none⟩ (.int .i64 (-1)) = w5 at H5 ⊢
          obtain ⟨b0, off0, eb, q0, q1, q2, q3, q4'⟩ := H5.out.1.sl.atK hlen1
          rw [hset1] at q0 q1 q4'
          rw [HE.out] at eb
          injection eb with eb
          injection eb with eb2 eb3 _
          subst eb2 eb3
          simp only [Nat.zero_add] at q0 q1 q4'
          obtain ⟨⟨xk, xi⟩, xv, xo, xc, xks, xst⟩ := x
          simp only [KV.at] at q0 q1 q4' hkm
          obtain ⟨L, hL⟩ : ∃ L, L = (fnd xk (mapL ls)).getD 0 := ⟨_, rfl⟩
          have HL : Hid (L = lastM ls xk) := hL
          have HS : Hid (∀ X, Keeps no w5 X → X.cell? ⟨g, t * 5, none⟩ = some (.string xk) ∧ X.cell? ⟨g, t * 5 + 1, none⟩ = some (.int .u64 ((xi : Nat) : Int)) ∧ (Instr.lookup 279 (.map (some M)) (.string xk) false).run Tryz.prog X = .ok (.int .u64 ((L : Nat) : Int)) X) := fun X hX => ⟨hX.cellN q0, hX.cellN q1, by rw [hL]; exact lookLI (H5.out.2.1.keepsN hX) (by unfold maxLen; omega)⟩
          clear hL q0 q1 q2 q3 hkm hset1 hlen1 hat hta' hx hta
          go_region_held3 (fun X => X.cell? ⟨g, t * 5, none⟩ = some (.string xk) ∧ X.cell? ⟨g, t * 5 + 1, none⟩ = some (.int .u64 ((xi : Nat) : Int)) ∧ (Instr.lookup 279 (.map (some M)) (.string xk) false).run Tryz.prog X = .ok (.int .u64 ((L : Nat) : Int)) X) (first | exact HS.out _ (Keeps.refl _ _) | exact HS.out _ ((Keeps.refl _ _).drew)) (fail)
          all_goals (rename _ ∧ _ => hh; clear hh)
          have HW6 : Hid (Own KE w5.drew ok ck ((stampTo now ls xs t).set t (KV.at ⟨(xk, xi), xv, xo, xc, xks, xst⟩ (-1))) ∧ IsMp KT vvI w5.drew M (mapL ls) ∧ Keeps (inO ok) w w5.drew) := ⟨H5.out.1.keepsN ((Keeps.refl _ _).drew), H5.out.2.1.keepsN ((Keeps.refl _ _).drew), H5.out.2.2.drew⟩
          have c4 : w5.drew.cell? ⟨g, t * 5 + 4, none⟩ = some (.int .i64 (-1)) := q4'
          have HXs : Hid (restK now ls ⟨(xk, xi), xv, xo, xc, xks, xst⟩ = KV.at ⟨(xk, xi), xv, xo, xc, xks, xst⟩ (if xi < L then now else -1)) := (show _ = _ by unfold restK stM; rw [HL.out])
          clear H5 HS q4' q4 hf4
          generalize w5.drew = w6 at HW6 c4 ⊢
          have hle6 : t < ((stampTo now ls xs t).set t (KV.at ⟨(xk, xi), xv, xo, xc, xks, xst⟩ (-1))).length := by rw [List.length_set, stampTo_length]; exact HX.out.2
          obtain ⟨g2, e2, hfz, ho2, hk2⟩ := HW6.out.1.store1 okK kv0 t hle6 4 (by decide) (KV.at ⟨(xk, xi), xv, xo, xc, xks, xst⟩ now) (.int .i64 now) (by
            rw [List.getD_eq_getElem?_getD, List.getElem?_set_self (by rw [stampTo_length]; exact HX.out.2)]; rfl)
          rw [HE.out] at e2
          injection e2 with e2
          injection e2 with e2 _ _
          subst e2
          have hf6 := hfz (t * 5 + 4)
          have H7 : Hid (Own KE (w6.setCell ⟨g, t * 5 + 4, none⟩ (.int .i64 now)) ok ck ((stampTo now ls xs t).set t (KV.at ⟨(xk, xi), xv, xo, xc, xks, xst⟩ now)) ∧ IsMp KT vvI (w6.setCell ⟨g, t * 5 + 4, none⟩ (.int .i64 now)) M (mapL ls) ∧ Keeps (inO ok) w (w6.setCell ⟨g, t * 5 + 4, none⟩ (.int .i64 now))) := ⟨by have := ho2; rw [set_set] at this; exact this, HW6.out.2.1.keeps hk2 hml, HW6.out.2.2.trans hk2⟩
          have HSt := stampTo_set now ls xs t HX.out.2
          rw [← HX.out.1, HXs.out] at HSt
          have HST : Hid ((stampTo now ls xs t).set t (KV.at ⟨(xk, xi), xv, xo, xc, xks, xst⟩ (if xi < L then now else -1)) = stampTo now ls xs (t + 1)) := HSt
          clear HSt hle6 ho2 hk2 hfz e1
          by_cases hxl : xi < L
          · have HXL : Hid (xi < L) := hxl
            rw [if_pos hxl] at HST
            go_wp2_with fail
            go_roundw
            case rel =>
              refine ⟨t + 1, by omega, by go_num, ?_⟩
              rw [← HE.out, ← HST.out]
              exact ⟨H7.out.2.1, H7.out.1, H7.out.2.2⟩
            case measure => simp [intOf]; omega
          · have HXL : Hid (¬ xi < L) := hxl
            rw [if_neg hxl] at HST
            go_wp2_with fail
            go_roundw
            case rel =>
              refine ⟨t + 1, by omega, by go_num, ?_⟩
              rw [← HE.out, ← HST.out]
              exact ⟨HW6.out.2.1, HW6.out.1, HW6.out.2.2⟩
            case measure => simp [intOf]; omega
        · have htl' : ¬ (t : Int) < nk := by omega
          have e1 := stampTo_all now ls xs t (by have := HA.out.1; omega)
          go_wp2_with fail
          go_end0
          have := HT.out.2
          rw [e1] at this
          exact ⟨rfl, this⟩
end Go.Proofs.YtdemoghlibnooaaGreatDoor
