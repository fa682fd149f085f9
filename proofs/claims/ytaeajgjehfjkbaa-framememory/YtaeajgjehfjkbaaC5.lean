/- The document's Split; sameLists. -/
import Derived.Test.YtaeajgjehfjkbaaC4
namespace Go.Proofs.Ytaeajgjehfjkbaa
open Go.RowKit
set_option linter.unusedVariables false
set_option linter.unusedSimpArgs false

theorem num_drop (bs : Bs) (p : Nat) : num (bs.drop p) = (bs.getD p 0).toNat * 16777216 + (bs.getD (p + 1) 0).toNat * 65536 + (bs.getD (p + 2) 0).toNat * 256 + (bs.getD (p + 3) 0).toNat := by
  simp [num, List.getD_eq_getElem?_getD, List.getElem?_drop]
set_option maxRecDepth 100000 in
theorem refSplit_any (w : World) (a : Option Addr) (n c : Nat) (bs : Bs) (hn : n = bs.length) (hs : Sl BE w a c bs) (hb : (n : Int) ≤ 16777216) :
    Calls Try.prog 16 #[.slice a n c] w fun e w' => Told w bs e w' := by
  have HN : Hid (n = bs.length) := hn
  have HSL : Hid (Sl BE w a c bs) := hs
  have HS0 : Hid (SLp w bs w a n c (bs.drop 0) none 0 0 []) := ⟨rfl, hn, hs, held_nil w, by rw [List.drop_zero]; cases split bs <;> rfl, by simp⟩
  have HB : Hid (bs.length ≤ 16777216) := by show bs.length ≤ 16777216; omega
  clear hn hs
  go_enter Try.func16, Try.ntmps16
  go_wp2_with fail
  go_loopw [5, 6] (fun l i wr => ∃ (p : Nat) (oL : Option Addr) (M cL : Nat) (ls : List (LS UInt8)), p ≤ n ∧ i = .int .i64 p ∧ l = .slice oL M cL ∧ Hid (M = ls.length ∧ Held w wr oL cL ls ∧ split bs = (split (bs.drop p)).map (pre (bods ls)) ∧ ls.length * 4 ≤ p)) (fun _ i _ => n - (intOf i).toNat)
  case atStart => exact ⟨0, none, 0, 0, [], by omega, rfl, rfl, ⟨rfl, held_nil w, HS0.out.e, by simp⟩⟩
  case round =>
    rename World => wr
    clear HS0
    obtain ⟨p, oL, M, cL, ls, hp, rfl, rfl, HI⟩ := hrel
    have HD : Hid ((bs.drop p).length = n - p) := by show _ = _; rw [List.length_drop, ← HN.out]
    obtain ⟨A2, d2, hcut2, hs2⟩ := cutL' w a c bs n p (p : Int) rfl HN.out hp HSL.out
    have HS2 : Hid (Sl BE w A2 d2 (bs.drop p)) := hs2
    obtain ⟨q, hq⟩ : ∃ q, q = n - p := ⟨_, rfl⟩
    have hqi : (n : Int) - p = q := by omega
    rw [← hq] at hcut2
    have HQ : Hid (q = (bs.drop p).length) := by show _ = _; rw [HD.out, hq]
    clear hs2 hq
    by_cases h4 : (4 : Int) ≤ q
    · obtain ⟨b, off, rfl, c0⟩ := rowB_at (HSL.out.keepsN HI.out.2.1.kp).row (j := p) (by have := HN.out; omega)
      obtain ⟨_, _, e, c1⟩ := rowB_at (HSL.out.keepsN HI.out.2.1.kp).row (j := p + 1) (by have := HN.out; omega)
      cases e
      obtain ⟨_, _, e, c2⟩ := rowB_at (HSL.out.keepsN HI.out.2.1.kp).row (j := p + 2) (by have := HN.out; omega)
      cases e
      obtain ⟨_, _, e, c3⟩ := rowB_at (HSL.out.keepsN HI.out.2.1.kp).row (j := p + 3) (by have := HN.out; omega)
      cases e
      have hnum := num_drop bs p
      have l0 := (bs.getD p 0).toNat_lt
      have l1 := (bs.getD (p + 1) 0).toNat_lt
      have l2 := (bs.getD (p + 2) 0).toNat_lt
      have l3 := (bs.getD (p + 3) 0).toNat_lt
      simp only [bv] at c0 c1 c2 c3
      obtain ⟨x0, y0⟩ : ∃ x, x = (bs.getD p 0).toNat := ⟨_, rfl⟩
      obtain ⟨x1, y1⟩ : ∃ x, x = (bs.getD (p + 1) 0).toNat := ⟨_, rfl⟩
      obtain ⟨x2, y2⟩ : ∃ x, x = (bs.getD (p + 2) 0).toNat := ⟨_, rfl⟩
      obtain ⟨x3, y3⟩ : ∃ x, x = (bs.getD (p + 3) 0).toNat := ⟨_, rfl⟩
      rw [← y0] at c0 l0 hnum
      rw [← y1] at c1 l1 hnum
      rw [← y2] at c2 l2 hnum
      rw [← y3] at c3 l3 hnum
      obtain ⟨z, hz⟩ : ∃ z, z = num (bs.drop p) := ⟨_, rfl⟩
      have HZ : Hid (z = num (bs.drop p)) := hz
      have hsum : (x0 : Int) * 16777216 + (x1 : Int) * 65536 + (x2 : Int) * 256 + (x3 : Int) = z := by omega
      clear hz hnum y0 y1 y2 y3
      by_cases hlong : 1048576 < (z : Int)
      · go_wp2_with fail
        go_quiet (fail)
        go_wp2_with fail
        go_ret3
        refine Or.inl ⟨?_, rfl, HI.out.2.1.kp.drewN _⟩
        rw [HI.out.2.2.1, split_long (by have := HQ.out; omega) (by have := HZ.out; omega)]
        rfl
      · have hlo : (z : Int) ≤ 1048576 := by omega
        clear hlong
        by_cases hpart : (q : Int) - 4 < z
        · go_wp2_with fail
          go_quiet (fail)
          have HK1 := (Keeps.refl no wr).drewN nq
          generalize wr.drewN nq = w1 at HK1 ⊢
          have HK1 : Hid (Keeps no wr w1) := HK1
          go_wp2_with (at_builtin; go_must (refine wpList_app okB rfl _ _ rfl _ 0 0 [] rfl rfl (own_empty okB w1) _ _ _ (bs.drop p) rfl HQ.out HS2.out.nil (HS2.out.row.keepsN ((HI.out.2.1.kp.trans HK1.out).alloc _)) (by have := HB.out; simp [BE]; omega) (by have := HB.out; simp; omega) ?_); intro o' c' w' ho hap)
          go_ret3
          have hnw := hap.new (w0 := w1) (new_fresh w1 _ (Nat.le_refl _) _) ((Keeps.refl _ _).alloc _)
          refine Or.inr ⟨_, _, _, ls, _, _, _, bs.drop p, rfl, ?_, HI.out.1, HQ, (HI.out.2.1.keepsN HK1.out).spl ho hnw.1 hnw.2⟩
          rw [HI.out.2.2.1, split_part (by have := HQ.out; omega) (by have := HZ.out; omega) (by have := HZ.out; have := HQ.out; omega)]
          simp [pre]
        · obtain ⟨A1, d1, hcut1, hs1⟩ := cutLH' w (some ⟨b, off, none⟩) c bs n (p + 4) (p + 4 + z) ((p : Int) + 4) ((p : Int) + 4 + z) (by omega) (by omega) HN.out (by omega) (by omega) HSL.out
          rw [show p + 4 + z - (p + 4) = z by omega, ← List.drop_drop] at hs1
          rw [show p + 4 + z - (p + 4) = z by omega] at hcut1
          have HS1 : Hid (Sl BE w A1 d1 (((bs.drop p).drop 4).take z)) := hs1
          obtain ⟨B1, hB1⟩ : ∃ B1, B1 = ((bs.drop p).drop 4).take z := ⟨_, rfl⟩
          rw [← hB1] at HS1
          have HL1 : Hid (z = B1.length) := by show _ = _; rw [hB1, List.length_take, List.length_drop]; have := HQ.out; omega
          have HB1 : Hid (B1 = ((bs.drop p).drop 4).take z) := hB1
          clear hs1 hB1
          go_wp2_with fail
          go_quiet (fail)
          have HK1 := (Keeps.refl no wr).drewN nq
          generalize wr.drewN nq = w1 at HK1 ⊢
          have HK1 : Hid (Keeps no wr w1) := HK1
          have HLB : Hid (ls.length * 4 + 4 ≤ 16777216) := by show _ ≤ _; have := HB.out; have := HI.out.2.2.2; have := HN.out; omega
          go_wp2_with (at_builtin; first | (refine wpList_app okB rfl _ _ rfl _ 0 0 [] rfl rfl (own_empty okB w1) _ _ _ B1 rfl HL1.out HS1.out.nil (HS1.out.row.keepsN ((HI.out.2.1.kp.trans HK1.out).alloc _)) (by have := HL1.out; simp [BE]; omega) (by have := HL1.out; simp; omega) ?_; intro o2 c2 w2 ho2 hap2; have HA2 : Hid (New w1 o2 ∧ Keeps no w1 w2) := hap2.new (w0 := w1) (new_fresh w1 _ (Nat.le_refl _) _) ((Keeps.refl _ _).alloc _); have HO2 : Hid (Own BE w2 o2 c2 B1) := ho2; clear ho2 hap2) | (go_must (refine wpList_app okX rfl _ _ rfl oL _ cL ls rfl HI.out.1 (((HI.out.2.1.keepsN HK1.out).keepsN HA2.out.2).own.keepsN ((Keeps.refl _ _).alloc _)) _ _ _ [⟨o2, c2, B1⟩] rfl rfl (fun e => by cases e) (lit_row okX w2 [⟨o2, c2, B1⟩] _ _ (litX (by have := HL1.out; omega))) (by have := HLB.out; simp [XE]; omega) (by have := HLB.out; simp; omega) ?_); intro o3 c3 w3 ho3 hap3))
          go_roundw
          case rel =>
            refine ⟨p + 4 + z, o3, M + 1, c3, ls ++ [⟨o2, c2, B1⟩], by omega, by go_num, rfl, ⟨?_, ?_, ?_, ?_⟩⟩
            · rw [List.length_append, ← HI.out.1]; rfl
            · exact (HI.out.2.1.keepsN HK1.out).push HO2.out HA2.out.1 HA2.out.2 _ ho3 hap3
            · rw [HI.out.2.2.1, split_next (by have := HQ.out; omega) (by have := HZ.out; omega) (by have := HZ.out; have := HQ.out; omega), ← HZ.out, Option.map_map, bods_app, ← HB1.out, List.drop_drop, show p + (4 + z) = p + 4 + z by omega]
              cases split (bs.drop (p + 4 + z)) <;> simp [pre, conz]
            · rw [List.length_append, List.length_singleton]
              have := HI.out.2.2.2
              omega
          case measure => simp [intOf]; omega
    · go_wp2_with (at_builtin; go_must (refine wpList_app okB rfl _ _ rfl _ 0 0 [] rfl rfl (own_empty okB wr) _ _ _ (bs.drop p) rfl HQ.out HS2.out.nil (HS2.out.row.keepsN (HI.out.2.1.kp.alloc _)) (by have := HB.out; simp [BE]; omega) (by have := HB.out; simp; omega) ?_); intro o' c' w' ho hap)
      go_ret3
      have hnw := hap.new (w0 := wr) (new_fresh wr _ (Nat.le_refl _) _) ((Keeps.refl _ _).alloc _)
      refine Or.inr ⟨_, _, _, ls, _, _, _, bs.drop p, rfl, ?_, HI.out.1, HQ, HI.out.2.1.spl ho hnw.1 hnw.2⟩
      rw [HI.out.2.2.1, split_short (by have := HQ.out; omega)]
      simp [pre]
end Go.Proofs.Ytaeajgjehfjkbaa
