/- The program's readers of lists. -/
import Derived.Test.YtjklpcamlppegaaGreatP5
namespace Go.Proofs.YtjklpcamlppegaaGreat
open Go.RowKit Go.Sort Orl Pk
set_option linter.unusedVariables false
set_option linter.unusedSimpArgs false

def eqA (a : Nat) : Nat → Prop := fun k => k = a
theorem RStep.trans {t : Nat} {w w1 w2 : World} {a : Nat} {o o1 : Option Addr} {st2 : RS} (hS : BSub o o1) (hK : Keeps (eqA a) w w1) (h : RStep t w1 a o1 st2 w2) : RStep t w a o st2 w2 := by
  obtain ⟨o2, c2, hR, hS2, hK2⟩ := h
  exact ⟨o2, c2, hR, hS.trans hS2, hK.trans hK2⟩
theorem RStep.keeps {t : Nat} {w w1 : World} {a : Nat} {o : Option Addr} {st : RS} (h : RStep t w a o st w1) : Keeps (eqA a) w w1 := by
  obtain ⟨o1, c1, hR, hS, hK⟩ := h; exact hK
theorem RStep.start {t : Nat} {w : World} {a : Nat} {o : Option Addr} {c : Nat} {bs : List Nat} {e : Nat} (h : IsR t w a o c bs e) : RStep t w a o (bs, e) w := ⟨o, c, h, BSub.refl _, Keeps.refl _ _⟩
/-- another step that lets the reader alone: what it writes is new -/
theorem RStep.beside {t : Nat} {w w1 w2 : World} {a : Nat} {o : Option Addr} {st : RS} (h : RStep t w a o st w1) (hw : IsR t w a o 0 [] 0 ∨ (a < w.heap.size ∧ ∀ k, inO o k → k < w.heap.size)) {S : Nat → Prop} (k : Keeps S w1 w2) (hn : ∀ i, S i → w.heap.size ≤ i) : RStep t w a o st w2 := by
  obtain ⟨o1, c1, hR, hS, hK⟩ := h
  have hlt : a < w.heap.size ∧ ∀ k, inO o k → k < w.heap.size := by
    rcases hw with h | h
    · exact ⟨lt_of_block h.blk, h.live⟩
    · exact h
  refine ⟨o1, c1, hR.keeps k ?_, hS, hK.then k (fun i hi => .inr (hn i hi))⟩
  rintro i (rfl | hi) hs
  · have := hn _ hs; omega
  · have := hn _ hs
    have := hlt.2 i (hS.in i hi)
    omega
theorem RStep.byt {t : Nat} {w w1 : World} {a : Nat} {o : Option Addr} {st : RS} (h : RStep t w a o st w1) : ∀ c ∈ st.1, c < 256 := by
  obtain ⟨o1, c1, hR, hS, hK⟩ := h; exact hR.sl.row.1
theorem text_size (l : List Nat) : (text l).size = l.length := by simp [text, ByteArray.size]
theorem rtext_len (most : Int) (st : RS) : (rtext most st).1.length ≤ most.toNat := by
  obtain ⟨b, e⟩ := st
  unfold rtext
  by_cases he : e = 0
  · subst he
    rw [if_neg (by simp)]
    simp only
    by_cases hz : (ctext b most).2.2 = 0
    · rw [if_neg (by simp [hz])]
      unfold ctext at hz ⊢
      simp only at hz ⊢
      by_cases h2 : (ccount b most).2.2 = 0
      · rw [if_neg (by simp [h2])] at hz ⊢
        by_cases h3 : (ccount b most).2.1.length < (ccount b most).1
        · rw [if_pos h3] at hz; simp at hz
        · rw [if_neg h3]
          simp only [List.length_take]
          have : (ccount b most).1 ≤ most.toNat := by
            unfold ccount
            repeat' split
            all_goals first | exact Nat.zero_le _ | (simp only; omega)
          omega
      · rw [if_pos h2] at hz; exact absurd hz h2
    · rw [if_pos hz]; simp
  · rw [if_pos he]; simp

theorem rsU8 {w w1 : World} {a : Nat} {o : Option Addr} {st : RS} (h : RStep 101 w a o st w1) :
    Calls Tryz.prog 61 #[.pointer (some ⟨a, 0, none⟩)] w1 fun e w2 => (∃ v : Nat, e = .returned (.int .u8 (v : Nat)) ∧ Hid (v = (rnum 1 st).1) ∧ v < 256) ∧ RStep 101 w a o (rnum 1 st).2 w2 ∧ Keeps (eqA a) w1 w2 := by
  have hb := h.byt
  obtain ⟨o1, c1, hR, hS, hK⟩ := h
  refine (rU8_any w1 a o1 c1 st.1 st.2 hR).mono ?_
  rintro e w2 ⟨rfl, h2⟩
  exact ⟨⟨_, rfl, rfl, by have := rnum_lt 1 st.1 st.2 hb; omega⟩, h2.trans hS hK, h2.keeps⟩
theorem rsU64 {w w1 : World} {a : Nat} {o : Option Addr} {st : RS} (h : RStep 101 w a o st w1) :
    Calls Tryz.prog 62 #[.pointer (some ⟨a, 0, none⟩)] w1 fun e w2 => (∃ v : Nat, e = .returned (.int .u64 (v : Nat)) ∧ Hid (v = (rnum 8 st).1) ∧ v < 18446744073709551616) ∧ RStep 101 w a o (rnum 8 st).2 w2 ∧ Keeps (eqA a) w1 w2 := by
  have hb := h.byt
  obtain ⟨o1, c1, hR, hS, hK⟩ := h
  refine (rU64_any w1 a o1 c1 st.1 st.2 hR).mono ?_
  rintro e w2 ⟨rfl, h2⟩
  exact ⟨⟨_, rfl, rfl, by have := rnum_lt 8 st.1 st.2 hb; omega⟩, h2.trans hS hK, h2.keeps⟩
theorem rsCount {w w1 : World} {a : Nat} {o : Option Addr} {st : RS} (h : RStep 101 w a o st w1) :
    Calls Tryz.prog 59 #[.pointer (some ⟨a, 0, none⟩), .int .i64 1024] w1 fun e w2 => (∃ v : Nat, e = .returned (.int .i64 (v : Nat)) ∧ Hid (v = (rcount 1024 st).1) ∧ v ≤ 1024) ∧ RStep 101 w a o (rcount 1024 st).2 w2 ∧ Keeps (eqA a) w1 w2 := by
  obtain ⟨o1, c1, hR, hS, hK⟩ := h
  refine (rCount_any w1 a o1 c1 st.1 st.2 1024 (by omega) (by omega) hR).mono ?_
  rintro e w2 ⟨rfl, h2⟩
  exact ⟨⟨_, rfl, rfl, rcount_le 1024 st⟩, h2.trans hS hK, h2.keeps⟩
theorem rsText {w w1 : World} {a : Nat} {o : Option Addr} {st : RS} (h : RStep 101 w a o st w1) :
    Calls Tryz.prog 98 #[.pointer (some ⟨a, 0, none⟩), .int .i64 65535] w1 fun e w2 => (∃ s : Tx, e = .returned (.string s) ∧ Hid (s = text (rtext 65535 st).1)) ∧ RStep 101 w a o (rtext 65535 st).2 w2 ∧ Keeps (eqA a) w1 w2 := by
  obtain ⟨o1, c1, hR, hS, hK⟩ := h
  refine (rText_any w1 a o1 c1 st.1 st.2 65535 (by omega) (by omega) hR).mono ?_
  rintro e w2 ⟨rfl, h2⟩
  exact ⟨⟨_, rfl, rfl⟩, h2.trans hS hK, h2.keeps⟩
theorem ownT_of {w : World} {o : Option Addr} {c : Nat} {ss : List Tx} (h : OwnsS w o c ss) : Own TE w o c ss := by
  unfold Own OwnsS at *
  rw [cells_T]; exact h
theorem rsTexts {w w1 : World} {a : Nat} {o : Option Addr} {st : RS} (h : RStep 101 w a o st w1) :
    Calls Tryz.prog 97 #[.pointer (some ⟨a, 0, none⟩), .int .i64 1024, .int .i64 65535] w1 fun e w2 => (∃ oo n c, e = .returned (.slice oo n c) ∧ Hid (n = (rkeys st).1.length) ∧ Own TE w2 oo c (rkeys st).1 ∧ New w1 oo) ∧ RStep 101 w a o (rkeys st).2 w2 ∧ Keeps (eqA a) w1 w2 := by
  obtain ⟨o1, c1, hR, hS, hK⟩ := h
  refine (rTexts_any w1 a o1 c1 st.1 st.2 1024 65535 (by omega) (by omega) (by omega) (by omega) hR).mono ?_
  rintro e w2 ⟨⟨oo, c, n, rfl, hn, _, hown, hnew, _⟩, h2⟩
  refine ⟨⟨oo, n, c, rfl, ?_, ownT_of hown, hnew⟩, h2.trans hS hK, h2.keeps⟩
  show n = _
  rw [hn.out]; unfold rkeys; simp
theorem readKeys_any {w w1 : World} {a : Nat} {o : Option Addr} {st : RS} (h : RStep 101 w a o st w1) :
    Calls Tryz.prog 63 #[.pointer (some ⟨a, 0, none⟩)] w1 fun e w2 => (∃ oo n c, e = .returned (.slice oo n c) ∧ Hid (n = (rkeys st).1.length) ∧ Own TE w2 oo c (rkeys st).1 ∧ New w1 oo) ∧ RStep 101 w a o (rkeys st).2 w2 ∧ Keeps (eqA a) w1 w2 := by
  go_enter Tryz.func63, Tryz.ntmps63
  go_wp2_with fail
  refine (rsTexts h).mono ?_
  rintro e w2 ⟨⟨oo, n, c, rfl, hn, hown, hnew⟩, h2, hk2⟩
  go_wp2
  go_ret
  exact ⟨⟨oo, n, c, rfl, hn, hown, hnew⟩, h2, hk2⟩

theorem rmany_length {α : Type} (f : RS → α × RS) (n : Nat) (st : RS) : (rmany f n st).1.length = n := by
  induction n with
  | zero => rfl
  | succ n ih => simp [rmany, ih]
theorem lt_of_rstep {t : Nat} {w w1 : World} {a : Nat} {o : Option Addr} {c : Nat} {bs : List Nat} {e : Nat} (h : IsR t w a o c bs e) : a < w.heap.size ∧ ∀ k, inO o k → k < w.heap.size := ⟨lt_of_block h.blk, h.live⟩
theorem own_oneP (w : World) (x y : Tx) : Sl PE (w.alloc (.cells #[.string x, .string y] 51)) (some ⟨w.heap.size, 0, none⟩) 1 [(x, y)] := by
  refine ⟨.inr ⟨_, _, rfl, fun j u hj => ?_⟩, by simp, fun e => by cases e⟩
  rw [cell_of_blk (blk_new w _), Nat.zero_add]
  simpa [El.cells, PE] using hj
theorem own_oneW (w : World) (x : Tx) (y : Nat) : Sl WE (w.alloc (.cells #[.string x, .int .u64 (y : Nat)] 53)) (some ⟨w.heap.size, 0, none⟩) 1 [(x, y)] := by
  refine ⟨.inr ⟨_, _, rfl, fun j u hj => ?_⟩, by simp, fun e => by cases e⟩
  rw [cell_of_blk (blk_new w _), Nat.zero_add]
  simpa [El.cells, WE] using hj

set_option maxRecDepth 10000 in
theorem readPairs_any {w w1 : World} {a : Nat} {o : Option Addr} {st : RS} (h : RStep 101 w a o st w1) (hlt : a < w.heap.size ∧ ∀ k, inO o k → k < w.heap.size) :
    Calls Tryz.prog 64 #[.pointer (some ⟨a, 0, none⟩)] w1 fun e w2 => (∃ oo n c, e = .returned (.slice oo n c) ∧ Hid (n = (rpairs st).1.length) ∧ Own PE w2 oo c (rpairs st).1 ∧ New w1 oo) ∧ RStep 101 w a o (rpairs st).2 w2 ∧ Keeps (eqA a) w1 w2 := by
  have HLT : Hid (a < w.heap.size ∧ ∀ k, inO o k → k < w.heap.size) := hlt
  clear hlt
  have hws : w.heap.size ≤ w1.heap.size := h.keeps.size
  have haw : a < w1.heap.size := by have := HLT.out.1; omega
  go_enter Tryz.func64, Tryz.ntmps64
  go_wp2_with fail
  refine (rsCount h).mono ?_
  rintro e w2 ⟨⟨N, rfl, HN, hN⟩, h2, hk2⟩
  generalize hS0 : (rcount 1024 st).2 = S0 at h2
  have HS0 : Hid ((rcount 1024 st).2 = S0) := hS0
  clear hS0
  have HP : Hid (rpairs st = rmany rpair N S0) := by show _ = _; unfold rpairs; rw [HS0.out, ← HN.out]
  go_wp2_with fail
  go_loopw [3, 6] (fun s i wr => ∃ k : Nat, ∃ oo mo co, k ≤ N ∧ i = .int .i64 k ∧ s = .slice oo mo co ∧ Hid (mo = k) ∧ Own PE wr oo co (rmany rpair k S0).1 ∧ New w1 oo ∧ Hid (RStep 101 w a o (rmany rpair k S0).2 wr) ∧ Keeps (eqA a) w1 wr) (fun _ i _ => N - (intOf i).toNat)
  case atStart => exact ⟨0, none, 0, 0, by omega, rfl, rfl, rfl, own_nil _, new_none _, h2, hk2⟩
  case round =>
    obtain ⟨k, oo, mo, co, hk, rfl, rfl, HMO, hown, hnew, HR, hkp⟩ := hrel
    by_cases h2 : k < N
    · have HL : Hid (rmany rpair (k + 1) S0 = ((rmany rpair k S0).1 ++ [(rpair (rmany rpair k S0).2).1], (rpair (rmany rpair k S0).2).2)) := rfl
      have HLen : Hid ((rmany rpair k S0).1.length = k) := rmany_length _ _ _
      generalize (rmany rpair k S0).1 = L at hown HL HLen
      generalize (rmany rpair k S0).2 = S at HR HL
      have hmo : mo ≤ 1024 := by have := HMO.out; omega
      go_wp2_with fail
      refine (rsText HR.out).mono ?_
      rintro e w3 ⟨⟨s1, rfl, hs1⟩, h3, hk3⟩
      go_wp2_with fail
      refine (rsText h3).mono ?_
      rintro e w4 ⟨⟨s2, rfl, hs2⟩, h4, hk4⟩
      have hk14 := (hk3.trans hk4)
      have HO4 : Hid (Own PE w4 oo co L) := hown.keeps hk14 (fun j hj e => by have := hnew j hj; unfold eqA at e; omega)
      have HML : Hid (mo = L.length ∧ L.length ≤ 1024) := ⟨by rw [HLen.out]; exact HMO.out, by rw [HLen.out]; omega⟩
      have HK4 : Hid (Keeps (eqA a) w1 w4) := hkp.trans hk14
      have H4 : Hid (RStep 101 w a o (rtext 65535 (rtext 65535 S).2).2 w4) := h4
      clear hown hk3 hk4 hk14 h3 h4 HLen
      go_wp2_with (at_builtin; go_must (refine wpList_app okP rfl _ _ rfl _ _ _ L rfl HML.out.1 (HO4.out.keepsN ((Keeps.refl _ _).alloc _)) _ _ _ [(s1, s2)] rfl rfl (fun h => by cases h) (own_oneP _ s1 s2).row (by have := HML.out; simp [PE]; omega) (by have := HML.out; simp; omega) ?_); intro o' c' w' ho hap)
      go_roundw
      case rel =>
        have hx : New w1 o' ∧ Keeps (eqA a) w1 w' := by
          rcases hap with ⟨rfl, hh⟩ | ⟨⟨g, rfl, hg⟩, hh⟩
          · exact ⟨hnew, (HK4.out.alloc _).then hh (fun i hi => .inr (hnew i hi))⟩
          · exact ⟨new_fresh _ _ (Nat.le_trans HK4.out.size (Nat.le_trans (by simp) hg)) _, (HK4.out.alloc _).then hh (fun i hi => hi.elim)⟩
        have hy : RStep 101 w a o (rtext 65535 (rtext 65535 S).2).2 w' := by
          have := H4.out.beside (.inr HLT.out) ((Keeps.refl no _).alloc (.cells #[.string s1, .string s2] 51)) (fun i hi => hi.elim)
          rcases hap with ⟨_, hh⟩ | ⟨_, hh⟩
          · exact this.beside (.inr HLT.out) hh (fun i hi => Nat.le_trans hws (hnew i hi))
          · exact this.beside (.inr HLT.out) hh (fun i hi => hi.elim)
        refine ⟨k + 1, o', _, c', by omega, by go_num, rfl, (by have := HMO.out; show _ = _; omega), ?_, hx.1, ?_, hx.2⟩
        · rw [HL.out]; simp only; unfold rpair; rw [← hs1.out, ← hs2.out]; exact ho
        · rw [HL.out]; exact hy
      case measure => simp [intOf]; omega
    · have hkn : k = N := by omega
      go_wp2
      go_ret
      rw [hkn] at hown
      have hR := HR.out
      rw [hkn] at hR
      refine ⟨⟨oo, mo, co, rfl, ?_, ?_, hnew⟩, ?_, hkp⟩
      · show _ = _; rw [HP.out, rmany_length, HMO.out, hkn]
      · rw [HP.out]; exact hown
      · rw [HP.out]; exact hR
set_option maxRecDepth 10000 in
theorem readWants_any {w w1 : World} {a : Nat} {o : Option Addr} {st : RS} (h : RStep 101 w a o st w1) (hlt : a < w.heap.size ∧ ∀ k, inO o k → k < w.heap.size) :
    Calls Tryz.prog 65 #[.pointer (some ⟨a, 0, none⟩)] w1 fun e w2 => (∃ oo n c, e = .returned (.slice oo n c) ∧ Hid (n = (rwants st).1.length) ∧ Own WE w2 oo c (rwants st).1 ∧ New w1 oo) ∧ RStep 101 w a o (rwants st).2 w2 ∧ Keeps (eqA a) w1 w2 := by
  have HLT : Hid (a < w.heap.size ∧ ∀ k, inO o k → k < w.heap.size) := hlt
  clear hlt
  have hws : w.heap.size ≤ w1.heap.size := h.keeps.size
  have haw : a < w1.heap.size := by have := HLT.out.1; omega
  go_enter Tryz.func65, Tryz.ntmps65
  go_wp2_with fail
  refine (rsCount h).mono ?_
  rintro e w2 ⟨⟨N, rfl, HN, hN⟩, h2, hk2⟩
  generalize hS0 : (rcount 1024 st).2 = S0 at h2
  have HS0 : Hid ((rcount 1024 st).2 = S0) := hS0
  clear hS0
  have HP : Hid (rwants st = rmany rwant N S0) := by show _ = _; unfold rwants; rw [HS0.out, ← HN.out]
  go_wp2_with fail
  go_loopw [3, 6] (fun s i wr => ∃ k : Nat, ∃ oo mo co, k ≤ N ∧ i = .int .i64 k ∧ s = .slice oo mo co ∧ Hid (mo = k) ∧ Own WE wr oo co (rmany rwant k S0).1 ∧ New w1 oo ∧ Hid (RStep 101 w a o (rmany rwant k S0).2 wr) ∧ Keeps (eqA a) w1 wr) (fun _ i _ => N - (intOf i).toNat)
  case atStart => exact ⟨0, none, 0, 0, by omega, rfl, rfl, rfl, own_nil _, new_none _, h2, hk2⟩
  case round =>
    obtain ⟨k, oo, mo, co, hk, rfl, rfl, HMO, hown, hnew, HR, hkp⟩ := hrel
    by_cases h2 : k < N
    · have HL : Hid (rmany rwant (k + 1) S0 = ((rmany rwant k S0).1 ++ [(rwant (rmany rwant k S0).2).1], (rwant (rmany rwant k S0).2).2)) := rfl
      have HLen : Hid ((rmany rwant k S0).1.length = k) := rmany_length _ _ _
      generalize (rmany rwant k S0).1 = L at hown HL HLen
      generalize (rmany rwant k S0).2 = S at HR HL
      have hmo : mo ≤ 1024 := by have := HMO.out; omega
      go_wp2_with fail
      refine (rsText HR.out).mono ?_
      rintro e w3 ⟨⟨s1, rfl, hs1⟩, h3, hk3⟩
      go_wp2_with fail
      refine (rsU64 h3).mono ?_
      rintro e w4 ⟨⟨s2, rfl, hs2, hs2b⟩, h4, hk4⟩
      have hk14 := (hk3.trans hk4)
      have HO4 : Hid (Own WE w4 oo co L) := hown.keeps hk14 (fun j hj e => by have := hnew j hj; unfold eqA at e; omega)
      have HML : Hid (mo = L.length ∧ L.length ≤ 1024) := ⟨by rw [HLen.out]; exact HMO.out, by rw [HLen.out]; omega⟩
      have HK4 : Hid (Keeps (eqA a) w1 w4) := hkp.trans hk14
      have H4 : Hid (RStep 101 w a o (rnum 8 (rtext 65535 S).2).2 w4) := h4
      clear hown hk3 hk4 hk14 h3 h4 HLen
      go_wp2_with (at_builtin; go_must (refine wpList_app okW rfl _ _ rfl _ _ _ L rfl HML.out.1 (HO4.out.keepsN ((Keeps.refl _ _).alloc _)) _ _ _ [(s1, s2)] rfl rfl (fun h => by cases h) (own_oneW _ s1 s2).row (by have := HML.out; simp [WE]; omega) (by have := HML.out; simp; omega) ?_); intro o' c' w' ho hap)
      go_roundw
      case rel =>
        have hx : New w1 o' ∧ Keeps (eqA a) w1 w' := by
          rcases hap with ⟨rfl, hh⟩ | ⟨⟨g, rfl, hg⟩, hh⟩
          · exact ⟨hnew, (HK4.out.alloc _).then hh (fun i hi => .inr (hnew i hi))⟩
          · exact ⟨new_fresh _ _ (Nat.le_trans HK4.out.size (Nat.le_trans (by simp) hg)) _, (HK4.out.alloc _).then hh (fun i hi => hi.elim)⟩
        have hy : RStep 101 w a o (rnum 8 (rtext 65535 S).2).2 w' := by
          have := H4.out.beside (.inr HLT.out) ((Keeps.refl no _).alloc (.cells #[.string s1, .int .u64 (s2 : Nat)] 53)) (fun i hi => hi.elim)
          rcases hap with ⟨_, hh⟩ | ⟨_, hh⟩
          · exact this.beside (.inr HLT.out) hh (fun i hi => Nat.le_trans hws (hnew i hi))
          · exact this.beside (.inr HLT.out) hh (fun i hi => hi.elim)
        refine ⟨k + 1, o', _, c', by omega, by go_num, rfl, (by have := HMO.out; show _ = _; omega), ?_, hx.1, ?_, hx.2⟩
        · rw [HL.out]; simp only; unfold rwant; rw [← hs1.out, ← hs2.out]; exact ho
        · rw [HL.out]; exact hy
      case measure => simp [intOf]; omega
    · have hkn : k = N := by omega
      go_wp2
      go_ret
      rw [hkn] at hown
      have hR := HR.out
      rw [hkn] at hR
      refine ⟨⟨oo, mo, co, rfl, ?_, ?_, hnew⟩, ?_, hkp⟩
      · show _ = _; rw [HP.out, rmany_length, HMO.out, hkn]
      · rw [HP.out]; exact hown
      · rw [HP.out]; exact hR

theorem cells2 {w : World} {g : Nat} {a0 a1 : Value} {t : TypeId} {fr : Nat × Nat} (h : w.heap[g]? = some (.cells #[a0, a1] t fr)) :
    w.cell? ⟨g, 0, none⟩ = some a0 ∧ w.cell? ⟨g, 1, none⟩ = some a1 := ⟨cell_of_blk h 0, cell_of_blk h 1⟩
end Go.Proofs.YtjklpcamlppegaaGreat
