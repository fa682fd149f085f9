/- The readers, as steps. -/
import Derived.Test.YtgamhblkgojapaaGreatDoorP1
namespace Go.Proofs.YtgamhblkgojapaaGreatDoor
open Go.RowKit Go.Sort Orl Pk
set_option linter.unusedVariables false
set_option linter.unusedSimpArgs false

set_option linter.unusedVariables false
set_option linter.unusedSimpArgs false

def eqA (a : Nat) : Nat → Prop := fun k => k = a
theorem RStep.trans {t : Nat} {w w1 w2 : World} {a : Nat} {o o1 : Option Addr} {st2 : RS} (hS : BSub o o1) (hK : Keeps (eqA a) w w1) (h : RStep t w1 a o1 st2 w2) : RStep t w a o st2 w2 := by
  obtain ⟨o2, c2, hR, hS2, hK2⟩ := h
  exact ⟨o2, c2, hR, hS.trans hS2, hK.trans hK2⟩
theorem RStep.keeps {t : Nat} {w w1 : World} {a : Nat} {o : Option Addr} {st : RS} (h : RStep t w a o st w1) : Keeps (eqA a) w w1 := by
  obtain ⟨o1, c1, hR, hS, hK⟩ := h; exact hK
theorem RStep.start {t : Nat} {w : World} {a : Nat} {o : Option Addr} {c : Nat} {bs : List Nat} {e : Nat} (h : IsR t w a o c bs e) : RStep t w a o (bs, e) w := ⟨o, c, h, BSub.refl _, Keeps.refl _ _⟩
/-- another step that lets the reader alone: what it writes is new -/
theorem RStep.beside {t : Nat} {w w1 w2 : World} {a : Nat} {o : Option Addr} {st : RS} (h : RStep t w a o st w1) (hw : IsR t w a o 0 [] 0 ∨ (a < w.heap.size ∧ ∀ k, inO o k → k < w.heap.size)) {S : Nat → Prop} (k : Keeps S w1 w2) (hn : ∀ i, S i → w.heap.size ≤ i) : RStep t w a o st w2 := by
  obtain ⟨o1, c1, hR, hS, hK⟩ := h
  have hlt : a < w.heap.size ∧ ∀ k, inO o k → k < w.heap.size := by
    rcases hw with h | h
    · exact ⟨lt_of_block h.blk, h.live⟩
    · exact h
  refine ⟨o1, c1, hR.keeps k ?_, hS, hK.then k (fun i hi => .inr (hn i hi))⟩
  rintro i (rfl | hi) hs
  · have := hn _ hs; omega
  · have := hn _ hs
    have := hlt.2 i (hS.in i hi)
    omega
theorem RStep.byt {t : Nat} {w w1 : World} {a : Nat} {o : Option Addr} {st : RS} (h : RStep t w a o st w1) : ∀ c ∈ st.1, c < 256 := by
  obtain ⟨o1, c1, hR, hS, hK⟩ := h; exact hR.sl.row.1
theorem text_size (l : List Nat) : (text l).size = l.length := by simp [text, ByteArray.size]
theorem rtext_len (most : Int) (st : RS) : (rtext most st).1.length ≤ most.toNat := by
  obtain ⟨b, e⟩ := st
  unfold rtext
  by_cases he : e = 0
  · subst he
    rw [if_neg (by simp)]
    simp only
    by_cases hz : (ctext b most).2.2 = 0
    · rw [if_neg (by simp [hz])]
      unfold ctext at hz ⊢
      simp only at hz ⊢
      by_cases h2 : (ccount b most).2.2 = 0
      · rw [if_neg (by simp [h2])] at hz ⊢
        by_cases h3 : (ccount b most).2.1.length < (ccount b most).1
        · rw [if_pos h3] at hz; simp at hz
        · rw [if_neg h3]
          simp only [List.length_take]
          have : (ccount b most).1 ≤ most.toNat := by
            unfold ccount
            repeat' split
            all_goals first | exact Nat.zero_le _ | (simp only; omega)
          omega
      · rw [if_pos h2] at hz; exact absurd hz h2
    · rw [if_pos hz]; simp
  · rw [if_pos he]; simp
theorem rsU8 {w w1 : World} {a : Nat} {o : Option Addr} {st : RS} (h : RStep 148 w a o st w1) :
    Calls Tryz.prog 94 #[.pointer (some ⟨a, 0, none⟩)] w1 fun e w2 => (∃ v : Nat, e = .returned (.int .u8 (v : Nat)) ∧ Hid (v = (rnum 1 st).1) ∧ v < 256) ∧ RStep 148 w a o (rnum 1 st).2 w2 ∧ Keeps (eqA a) w1 w2 := by
  have hb := h.byt
  obtain ⟨o1, c1, hR, hS, hK⟩ := h
  refine (rU8_any w1 a o1 c1 st.1 st.2 hR).mono ?_
  rintro e w2 ⟨rfl, h2⟩
  exact ⟨⟨_, rfl, rfl, by have := rnum_lt 1 st.1 st.2 hb; omega⟩, h2.trans hS hK, h2.keeps⟩
theorem rsU64 {w w1 : World} {a : Nat} {o : Option Addr} {st : RS} (h : RStep 148 w a o st w1) :
    Calls Tryz.prog 95 #[.pointer (some ⟨a, 0, none⟩)] w1 fun e w2 => (∃ v : Nat, e = .returned (.int .u64 (v : Nat)) ∧ Hid (v = (rnum 8 st).1) ∧ v < 18446744073709551616) ∧ RStep 148 w a o (rnum 8 st).2 w2 ∧ Keeps (eqA a) w1 w2 := by
  have hb := h.byt
  obtain ⟨o1, c1, hR, hS, hK⟩ := h
  refine (rU64_any w1 a o1 c1 st.1 st.2 hR).mono ?_
  rintro e w2 ⟨rfl, h2⟩
  exact ⟨⟨_, rfl, rfl, by have := rnum_lt 8 st.1 st.2 hb; omega⟩, h2.trans hS hK, h2.keeps⟩
theorem rsCount {w w1 : World} {a : Nat} {o : Option Addr} {st : RS} (h : RStep 148 w a o st w1) :
    Calls Tryz.prog 111 #[.pointer (some ⟨a, 0, none⟩), .int .i64 1024] w1 fun e w2 => (∃ v : Nat, e = .returned (.int .i64 (v : Nat)) ∧ Hid (v = (rcount 1024 st).1) ∧ v ≤ 1024) ∧ RStep 148 w a o (rcount 1024 st).2 w2 ∧ Keeps (eqA a) w1 w2 := by
  obtain ⟨o1, c1, hR, hS, hK⟩ := h
  refine (rCount_any w1 a o1 c1 st.1 st.2 1024 (by omega) (by omega) hR).mono ?_
  rintro e w2 ⟨rfl, h2⟩
  exact ⟨⟨_, rfl, rfl, rcount_le 1024 st⟩, h2.trans hS hK, h2.keeps⟩
theorem rsText {w w1 : World} {a : Nat} {o : Option Addr} {st : RS} (h : RStep 148 w a o st w1) :
    Calls Tryz.prog 112 #[.pointer (some ⟨a, 0, none⟩), .int .i64 65535] w1 fun e w2 => (∃ s : Tx, e = .returned (.string s) ∧ Hid (s = text (rtext 65535 st).1)) ∧ RStep 148 w a o (rtext 65535 st).2 w2 ∧ Keeps (eqA a) w1 w2 := by
  obtain ⟨o1, c1, hR, hS, hK⟩ := h
  refine (rText_any w1 a o1 c1 st.1 st.2 65535 (by omega) (by omega) hR).mono ?_
  rintro e w2 ⟨rfl, h2⟩
  exact ⟨⟨_, rfl, rfl⟩, h2.trans hS hK, h2.keeps⟩
theorem cells_T (ss : List Tx) : TE.cells ss = ss.map Value.string := by
  induction ss with
  | nil => rfl
  | cons s l ih => simp only [El.cells, List.flatMap_cons, List.map_cons] at ih ⊢; rw [ih]; rfl
theorem ownT_of {w : World} {o : Option Addr} {c : Nat} {ss : List Tx} (h : OwnsS w o c ss) : Own TE w o c ss := by
  unfold Own OwnsS at *
  rw [cells_T]; exact h
theorem rsTexts {w w1 : World} {a : Nat} {o : Option Addr} {st : RS} (h : RStep 148 w a o st w1) :
    Calls Tryz.prog 97 #[.pointer (some ⟨a, 0, none⟩), .int .i64 1024, .int .i64 65535] w1 fun e w2 => (∃ oo n c, e = .returned (.slice oo n c) ∧ Hid (n = (rkeys st).1.length) ∧ Own TE w2 oo c (rkeys st).1 ∧ New w1 oo) ∧ RStep 148 w a o (rkeys st).2 w2 ∧ Keeps (eqA a) w1 w2 := by
  obtain ⟨o1, c1, hR, hS, hK⟩ := h
  refine (rTexts_any w1 a o1 c1 st.1 st.2 1024 65535 (by omega) (by omega) (by omega) (by omega) hR).mono ?_
  rintro e w2 ⟨⟨oo, c, n, rfl, hn, _, hown, hnew, _⟩, h2⟩
  refine ⟨⟨oo, n, c, rfl, ?_, ownT_of hown, hnew⟩, h2.trans hS hK, h2.keeps⟩
  show n = _
  rw [hn.out]; unfold rkeys; simp
theorem rmany_length {α : Type} (f : RS → α × RS) (n : Nat) (st : RS) : (rmany f n st).1.length = n := by
  induction n with
  | zero => rfl
  | succ n ih => simp [rmany, ih]
theorem lt_of_rstep {t : Nat} {w w1 : World} {a : Nat} {o : Option Addr} {c : Nat} {bs : List Nat} {e : Nat} (h : IsR t w a o c bs e) : a < w.heap.size ∧ ∀ k, inO o k → k < w.heap.size := ⟨lt_of_block h.blk, h.live⟩
theorem own_oneP (w : World) (x y : Tx) : Sl PE (w.alloc (.cells #[.string x, .string y] 102)) (some ⟨w.heap.size, 0, none⟩) 1 [(x, y)] := by
  refine ⟨.inr ⟨_, _, rfl, fun j u hj => ?_⟩, by simp, fun e => by cases e⟩
  rw [cell_of_blk (blk_new w _), Nat.zero_add]
  simpa [El.cells, PE] using hj
end Go.Proofs.YtgamhblkgojapaaGreatDoor
