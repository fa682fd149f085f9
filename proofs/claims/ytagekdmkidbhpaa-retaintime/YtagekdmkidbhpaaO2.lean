import Derived.Test.YtagekdmkidbhpaaO1
import Derived.Deep.RegionHeldLaw
/- What an op's write says. -/
namespace Go.Proofs.Ytagekdmkidbhpaa
open Go.RowKit Go.Maps Orl
set_option linter.unusedVariables false
set_option linter.unusedSimpArgs false

def cut3 (v : Tx) : Tx := ByteArray.extract v 0 (min (v.size : Int) 300).toNat
theorem cut3_size (v : Tx) : (cut3 v).size ≤ 300 := by
  unfold cut3
  rw [ByteArray.size_extract]
  omega
/-- the pairs of an op's write -/
def prs (b : Nat) (v : Tx) : List Pr := (namesTo b 6).map fun k => (k, cut3 v)
theorem prs_len (b : Nat) (v : Tx) : (prs b v).length = (namesTo b 6).length := by simp [prs]
theorem oT_pne : (52 : TypeId) ≠ 9 := by decide
theorem andB (a b : Nat) (ha : a < 256) (hb : b < 256) : bits .and .u8 (a : Int) (b : Int) = ((a &&& b : Nat) : Int) := u8_and_nat a b ha hb
theorem and_lt (a b : Nat) (ha : a < 256) : a &&& b < 256 := Nat.lt_of_le_of_lt Nat.and_le_left ha
set_option maxRecDepth 10000 in
set_option maxHeartbeats 1000000 in
theorem write_any (w : World) (k : Int) (i : Int) (a b : Nat) (v : Tx) (ha : a < 256) (hb : b < 256) : Calls Try.prog 11 #[.agg #[.int .i64 k, .int .u64 i, .int .u8 ((a : Nat) : Int), .int .u8 ((b : Nat) : Int), .string v]] w fun e w' => ∃ x y, e = .returned (.tuple #[x, y]) ∧ ∃ o n c o2 n2 c2, x = .slice o n c ∧ y = .slice o2 n2 c2 ∧ Hid (n = (prs (a &&& b) v).length ∧ n2 = (namesTo a 6).length) ∧ Hid (Own PE w' o c (prs (a &&& b) v) ∧ Own TE w' o2 c2 (namesTo a 6) ∧ New w o ∧ New w o2 ∧ Keeps no w w') := by
  have hn1 := names_any (w.alloc (.cells #[.int .i64 k, .int .u64 i, .int .u8 ((a : Nat) : Int), .int .u8 ((b : Nat) : Int), .string v] 43)) a ha
  have hn2 := fun X => names_any X (a &&& b) (and_lt a b ha)
  have hab := andB a b ha hb
  have hbk := blk_new w (.cells #[.int .i64 k, .int .u64 i, .int .u8 ((a : Nat) : Int), .int .u8 ((b : Nat) : Int), .string v] 43)
  have hk0 := (Keeps.refl no w).alloc (.cells #[.int .i64 k, .int .u64 i, .int .u8 ((a : Nat) : Int), .int .u8 ((b : Nat) : Int), .string v] 43)
  generalize hq : a &&& b = q at hn2 hab ⊢
  have HL : Hid ((namesTo q 6).length ≤ 6) := namesTo_len q 6
  have H0 : Hid (Keeps no w (w.alloc (.cells #[.int .i64 k, .int .u64 i, .int .u8 ((a : Nat) : Int), .int .u8 ((b : Nat) : Int), .string v] 43)) ∧ (w.alloc (.cells #[.int .i64 k, .int .u64 i, .int .u8 ((a : Nat) : Int), .int .u8 ((b : Nat) : Int), .string v] 43)).heap[w.heap.size]? = some (.cells #[.int .i64 k, .int .u64 i, .int .u8 ((a : Nat) : Int), .int .u8 ((b : Nat) : Int), .string v] 43 (0, 0))) := ⟨hk0, hbk⟩
  clear hq hk0 hbk
  go_enter Try.func11, Try.ntmps11
  go_wp2_with fail
  refine hn1.mono ?_
  rintro e w1 ⟨v1, rfl, o1, n1, c1, rfl, hm1, ho1, hw1, hk1⟩
  obtain ⟨B, hB⟩ : ∃ B, w.heap.size = B := ⟨_, rfl⟩
  rw [hB] at H0 ⊢
  have H1 : Hid (Keeps no w w1 ∧ w1.heap[B]? = some (.cells #[.int .i64 k, .int .u64 i, .int .u8 ((a : Nat) : Int), .int .u8 ((b : Nat) : Int), .string v] 43 (0, 0)) ∧ n1 = (namesTo a 6).length ∧ Own TE w1 o1 c1 (namesTo a 6) ∧ New w o1) := ⟨H0.out.1.trans hk1, hk1.at H0.out.2 id, hm1.out, ho1, hw1.of_le H0.out.1.size⟩
  have HB : Hid (w.heap.size = B) := hB
  have d2 := cell_of_blk H1.out.2.1 2
  have d3 := cell_of_blk H1.out.2.1 3
  simp at d2 d3
  have hn2' := hn2 w1
  clear hm1 ho1 hw1 hk1 hB hn1 H0 hn2
  go_wp2_with fail
  refine hn2'.mono ?_
  rintro e w2 ⟨v2, rfl, o2, n2, c2, rfl, hm2, ho2, hw2, hk2⟩
  have H2 : Hid (Keeps no w w2 ∧ w2.heap[B]? = some (.cells #[.int .i64 k, .int .u64 i, .int .u8 ((a : Nat) : Int), .int .u8 ((b : Nat) : Int), .string v] 43 (0, 0)) ∧ Own TE w2 o1 c1 (namesTo a 6) ∧ Own TE w2 o2 c2 (namesTo q 6) ∧ Keeps no w1 w2) := ⟨H1.out.1.trans hk2, hk2.at H1.out.2.1 id, H1.out.2.2.2.1.keepsN hk2, ho2, hk2⟩
  have HN2 : Hid (n2 = (namesTo q 6).length ∧ n2 ≤ 6) := ⟨hm2.out, by rw [hm2.out]; exact HL.out⟩
  have hn6 : n2 ≤ 6 := HN2.out.2
  clear hm2 ho2 hw2 hk2 hn2' d2 d3 hab
  go_wp2_with fail
  go_loopw [6, 7] (fun s6 s7 wr => ∃ (j : Nat) (x : Value), j ≤ n2 ∧ s7 = .int .i64 j ∧ s6 = x ∧ Hid (∃ o n c, x = .slice o n c ∧ n = ((prs q v).take j).length ∧ Own PE wr o c ((prs q v).take j) ∧ New w2 o ∧ Keeps no w2 wr)) (fun _ s7 _ => n2 - (intOf s7).toNat)
  case atStart => exact ⟨0, _, by omega, rfl, rfl, none, 0, 0, rfl, rfl, own_nil _, new_none _, Keeps.refl _ _⟩
  case round =>
    obtain ⟨j, x, hj, rfl, rfl, HG⟩ := hrel
    obtain ⟨o, n, c, rfl, hn, ho, hnw, hkp⟩ := HG.out
    have HD : Hid (n = ((prs q v).take j).length ∧ Own PE wr o c ((prs q v).take j) ∧ New w2 o ∧ Keeps no w2 wr) := ⟨hn, ho, hnw, hkp⟩
    clear HG hn ho hnw hkp
    by_cases hlt : j < n2
    · have hlt' : (j : Int) < n2 := by omega
      have hjl : j < (namesTo q 6).length := by rw [← HN2.out.1]; exact hlt
      obtain ⟨bb, off, rfl, f1⟩ := (H2.out.2.2.2.1.keepsN HD.out.2.2.2).sl.at hjl
      obtain ⟨y, hy⟩ : ∃ y, y = (namesTo q 6).getD j e0 := ⟨_, rfl⟩
      rw [← hy] at f1
      have g4 : wr.cell? ⟨B, 4, none⟩ = some (.string v) := cell_of_blk (HD.out.2.2.2.at H2.out.2.1 id) 4
      have hst : (prs q v).take (j + 1) = (prs q v).take j ++ [(y, cut3 v)] := by
        rw [take_succ_getD _ j p0 (by rw [prs_len]; exact hjl)]
        congr 2
        unfold prs
        rw [hy, getD_at (by simpa using hjl), getD_at hjl]
        simp
      have HT : Hid ((prs q v).take (j + 1) = (prs q v).take j ++ [(y, cut3 v)]) := hst
      have hpl : ((prs q v).take j).length ≤ 6 := Nat.le_trans (List.length_take_le _ _) (by omega)
      have HBD : Hid ((((prs q v).take j).length + [(y, cut3 v)].length) * PE.nb ≤ 140737488355328 ∧ ((prs q v).take j).length + [(y, cut3 v)].length ≤ 140737488355328) := ⟨by simp [PE]; simp at hpl; omega, by simp; simp at hpl; omega⟩
      have hbB := HD.out.2.2.2.at H2.out.2.1 id
      have hbT := H2.out.2.2.2.1.keepsN HD.out.2.2.2
      have HO0 : Hid (Own PE (wr.drew.alloc (.cells #[.string y, .string (cut3 v)] 52)) o c ((prs q v).take j)) := (HD.out.2.1.keepsN (Keeps.refl no wr).drew).keepsN ((Keeps.refl no _).alloc _)
      have HR0 : Hid (Row PE (wr.drew.alloc (.cells #[.string y, .string (cut3 v)] 52)) (some ⟨wr.heap.size, 0, none⟩) [(y, cut3 v)]) := (own_oneP wr.drew y (cut3 v)).row
      have HST : Hid (∀ X, Keeps no wr X → X.cell? ⟨bb, off + j, none⟩ = some (.string y) ∧ X.cell? ⟨B, 4, none⟩ = some (.string v)) := fun X hX => ⟨hX.cellN f1, hX.cellN g4⟩
      have HAL : Hid (Keeps no wr (wr.drew.alloc (.cells #[.string y, .string (cut3 v)] 52))) := ((Keeps.refl no wr).drew).alloc _
      have HAP : Hid (∀ o3 w3, Ap (wr.drew.alloc (.cells #[.string y, .string (cut3 v)] 52)) o o3 w3 → w3.cell? ⟨bb, off + j, none⟩ = some (.string y) ∧ w3.cell? ⟨B, 4, none⟩ = some (.string v)) := fun o3 w3 hap => by
        have hn2 : ¬ inO o bb := fun hc => by
          obtain ⟨c1, h1⟩ := HO0.out.tag bb hc
          obtain ⟨c2, h2⟩ := (hbT.keepsN HAL.out).tag bb ⟨_, rfl, rfl⟩
          rw [h1] at h2
          injection h2 with h2
          injection h2 with _ h2 _
          exact oT_pne h2
        have hnB : ¬ inO o B := fun hc => by
          obtain ⟨cur, hcur⟩ := HO0.out.tag B hc
          rw [HAL.out.at hbB id] at hcur
          injection hcur with hcur
          injection hcur with _ hcur _
          exact absurd hcur (by decide)
        have hK := hap.keeps.1
        exact ⟨hK.cell (HAL.out.cellN f1) hn2, hK.cell (HAL.out.cellN g4) hnB⟩
      have hm1 : (0 : Int) ≤ min (v.size : Int) 300 := by omega
      have hm2 : min (v.size : Int) 300 ≤ (v.size : Int) := by omega
      clear hy hst hpl hbB hbT
      go_upto_region 7 with fail
      go_region_held_law (fun X => X.cell? ⟨bb, off + j, none⟩ = some (.string y) ∧ X.cell? ⟨B, 4, none⟩ = some (.string v)) (first | exact HST.out _ (Keeps.refl no _) | exact HST.out _ ((Keeps.refl no _).drew) | exact HST.out _ HAL.out | exact HCS.out) (first
        | (refine step_app1 okP rfl (.tmp 23) (.tmp 36) rfl o n c ((prs q v).take j) rfl HD.out.1 HO0.out (some (Addr.mk wr.heap.size 0 none)) 1 1 [(y, cut3 v)] rfl rfl (fun e => by cases e) HR0.out HBD.out.1 HBD.out.2 ?_; intro o3 c3 w3 ho3 hap3; have HCS : Hid (w3.cell? ⟨bb, off + j, none⟩ = some (.string y) ∧ w3.cell? ⟨B, 4, none⟩ = some (.string v)) := HAP.out o3 w3 hap3; have H9 : Hid (Own PE w3 o3 c3 ((prs q v).take j ++ [(y, cut3 v)]) ∧ Ap (wr.drew.alloc (.cells #[.string y, .string (cut3 v)] 52)) o o3 w3) := ⟨ho3, hap3⟩; clear ho3 hap3))
      all_goals (try (rename _ ∧ _ => hh; clear hh))
      go_wp2_with fail
      go_roundw
      case rel =>
        have hnn := H9.out.2.new HD.out.2.2.1 (HD.out.2.2.2.trans HAL.out)
        refine ⟨j + 1, _, by omega, by go_num, rfl, o3, _, c3, rfl, ?_, ?_, hnn.1, hnn.2⟩
        · rw [HT.out, List.length_append, ← HD.out.1]; rfl
        · rw [HT.out]; exact H9.out.1
      case measure => simp [intOf]; omega
    · have hjn : j = n2 := by omega
      have HTK : Hid ((prs q v).take j = prs q v) := List.take_of_length_le (by rw [prs_len, ← HN2.out.1]; omega)
      rw [HTK.out] at HD
      go_wp2_with fail
      go_ret2
      exact ⟨_, _, rfl, o, n, c, o1, n1, c1, rfl, rfl, ⟨HD.out.1, H1.out.2.2.1⟩, HD.out.2.1, H2.out.2.2.1.keepsN HD.out.2.2.2, HD.out.2.2.1.of_le H2.out.1.size, H1.out.2.2.2.2, H2.out.1.trans HD.out.2.2.2⟩
end Go.Proofs.Ytagekdmkidbhpaa
