/- The program's Size. -/
import Derived.Test.YtjklpcamlppegaaGreatN6
namespace Go.Proofs.YtjklpcamlppegaaGreat
open Go.RowKit Go.Sort Orl Pk
set_option linter.unusedVariables false
set_option linter.unusedSimpArgs false

theorem body_len (m : Msg) : (body m).length = 10 + (layF m).length := by
  unfold body; simp only [List.length_append, num_length]; omega
theorem may_F {m : Msg} (h : may m = true) : mayF m = true := by unfold may at h; simp at h; exact h.2
theorem valK_txs {l : List Tx} (h : valK l = true) : Txs l := ⟨(valK_all h).1, (valK_all h).2.2⟩
theorem layP_all {l : List Pr} (h : valP l = true) : (layP l).length ≤ 134223872 := by
  obtain ⟨a, b, c⟩ := valP_all h
  have := layP_le l c l.length (Nat.le_refl _)
  rw [List.take_length] at this
  have : l.length * 131078 ≤ 1024 * 131078 := Nat.mul_le_mul_right _ a
  omega
theorem layW_all {l : List Wn} (h : mayW l = true) : (layW l).length ≤ 67120128 := by
  obtain ⟨a, b, c, _⟩ := mayW_all h
  have := layW_le l c l.length (Nat.le_refl _)
  rw [List.take_length] at this
  have : l.length * 65547 ≤ 1024 * 65547 := Nat.mul_le_mul_right _ a
  omega
theorem layV_all {v : Ver} (h : OkV v) : (layV v).length ≤ 70000000 := by
  rw [layV_len]
  have := h.key
  have := h.val
  have := h.keys.all
  split <;> omega
/-- what Size tells -/
def sizE (m : Msg) : Value := if may m then .tuple #[.int .i64 ((body m).length : Int), .int .i64 0] else .tuple #[.int .i64 0, .int .i64 1]

set_option maxRecDepth 10000 in
theorem Size_any (w : World) (k cl : Int) (q i : Nat) (op : Option Addr) (np cp : Nat) (ok : Option Addr) (nk ck : Nat) (ow : Option Addr) (nw cw : Nat) (ov : Option Addr) (nv cv : Nat) (rs : List RV) (m : Msg)
    (h : IsM w k cl q i op np cp ok nk ck ow nw cw ov nv cv rs m) :
    Calls Tryz.prog 9 #[.agg #[.int .i64 k, .int .i64 cl, .int .u64 (q : Nat), .int .u64 (i : Nat), .slice op np cp, .slice ok nk ck, .slice ow nw cw, .slice ov nv cv]] w
      fun e w' => e = .returned (sizE m) ∧ Keeps no w w' := by
  have H : Hid (IsM w k cl q i op np cp ok nk ck ow nw cw ov nv cv rs m) := h
  have hk : k = m.kind := h.k
  clear h
  have hk0 : Keeps no w (w.alloc (.cells #[.int .i64 k, .int .i64 cl, .int .u64 (q : Nat), .int .u64 (i : Nat), .slice op np cp, .slice ok nk ck, .slice ow nw cw, .slice ov nv cv] 29)) := (Keeps.refl _ _).alloc _
  by_cases hm : may m = true
  · have HS : Hid (sizE m = .tuple #[.int .i64 ((body m).length : Int), .int .i64 0]) := by show _ = _; unfold sizE; rw [if_pos hm]
    generalize sizE m = SE at HS
    have HF := kinds m (may_F hm)
    have HBL := body_len m
    generalize (body m).length = BL at HS HBL
    rw [← hk] at HF
    have HFF : Hid _ := HF
    have HBB : Hid (BL = 10 + (layF m).length) := HBL
    have HK : Hid (k = m.kind) := hk
    clear HF HBL hk
    go_enter Tryz.func9, Tryz.ntmps9
    go_wp2_with fail
    refine (May_any _ k cl q i op np cp ok nk ck ow nw cw ov nv cv rs m (H.out.keepsN hk0)).mono ?_
    rintro e w1 ⟨rfl, hk1⟩
    rw [hm]
    clear hm
    have hb1 := hk1.at (blk_new w _) id
    obtain ⟨x0, x1, x2, x3, x4, x5, x6, x7⟩ := cells8 hb1
    go_wp2_with fail
    refine (fieldsOf_any _ k).mono ?_
    rintro e w2 ⟨rfl, hk2⟩
    have hk02 := (hk0.trans hk1).trans hk2
    have hb2 := hk2.at hb1 id
    clear x0 x1 x2 x3 x4 x5 x6 x7 hb1 hk1 hk2
    rcases HFF.out with ⟨g0, g1, g2, g3, g4, g5, g6, g7⟩ | ⟨g0, g1, g2, g3, g4, g5, g7⟩ | ⟨g0, g1, g2, g3, g4, g5, g6, g7⟩ | ⟨g0, g1, g2, g3, g4, g5, g6, g7⟩ | ⟨g0, g1, g2, g3, g4, g5, g6, g7⟩
    · rw [g1, g2, g3, g4, g5]
      obtain ⟨x0, x1, x2, x3, x4, x5, x6, x7⟩ := cells8 (blk_alloc hb2 (.cells #[.bool true, .bool true, .bool true, .bool false, .bool false] 55))
      have hk3 := hk02.alloc (.cells #[.bool true, .bool true, .bool true, .bool false, .bool false] 55)
      obtain ⟨z0, z1, z2, z3, z4⟩ := cells5 (blk_new w2 (.cells #[.bool true, .bool true, .bool true, .bool false, .bool false] 55))
      have hl1 := (valK_txs g6.1).all
      have hl2 := layP_all g6.2
      have HL : Hid (BL = 10 + (8 + (4 + bodyLen (natss m.keys) + (4 + (layP m.pairs).length)))) := by
        show _ = _
        rw [HBB.out, g7]; simp only [List.length_append, num_length, txts_length]
      have G6 : Hid (valK m.keys = true ∧ valP m.pairs = true) := g6
      have HKT : Hid (∀ w', Keeps no w w' → Calls Tryz.prog 24 #[.slice ok nk ck] w' fun e w'' => e = .returned (.int .i64 ((4 + bodyLen (natss m.keys) : Nat) : Int)) ∧ w'' = w') := fun w' hkk => msgTextsSize_any w' ok nk ck m.keys H.out.nk (valK_txs G6.out.1) (H.out.kys.keepsN hkk)
      have HPT : Hid (∀ w', Keeps no w w' → Calls Tryz.prog 25 #[.slice op np cp] w' fun e w'' => e = .returned (.int .i64 ((4 + (layP m.pairs).length : Nat) : Int)) ∧ Keeps no w' w'') := fun w' hkk => pairsSize_any w' op np cp m.pairs H.out.np (valP_all G6.out.2).1 (valP_all G6.out.2).2.2 (H.out.prs.keepsN hkk)
      generalize bodyLen (natss m.keys) = Y1 at hl1 HL HKT
      generalize (layP m.pairs).length = Y2 at hl2 HL HPT
      clear g0 g1 g2 g3 g4 g5 g6 g7 HFF HBB
      go_wp2_with fail
      refine (HKT.out _ hk3).mono ?_
      rintro e wq ⟨rfl, hwq⟩
      subst wq
      go_wp2_with fail
      refine (HPT.out _ hk3).mono ?_
      rintro e w4 ⟨rfl, hk4⟩
      obtain ⟨u0, u1, u2, u3, u4⟩ := cells5 (hk4.at (blk_new w2 _) (fun h => h))
      go_wp2
      go_ret2
      refine ⟨?_, hk3.trans hk4⟩
      have := HL.out
      rw [HS.out]
      show Ending.returned (.tuple #[.int .i64 _, _]) = _
      congr 5
      omega
    · rw [g1, g2, g3, g4, g5]
      obtain ⟨x0, x1, x2, x3, x4, x5, x6, x7⟩ := cells8 (blk_alloc hb2 (.cells #[.bool true, .bool false, .bool false, .bool false, .bool false] 55))
      have hk3 := hk02.alloc (.cells #[.bool true, .bool false, .bool false, .bool false, .bool false] 55)
      obtain ⟨z0, z1, z2, z3, z4⟩ := cells5 (blk_new w2 (.cells #[.bool true, .bool false, .bool false, .bool false, .bool false] 55))
      have HL : Hid (BL = 10 + 8) := by
        show _ = _
        rw [HBB.out, g7]; simp only [num_length]
      clear g0 g1 g2 g3 g4 g5 g7 HFF HBB
      go_wp2
      go_ret2
      refine ⟨?_, hk3⟩
      have := HL.out
      rw [HS.out]
      show Ending.returned (.tuple #[.int .i64 _, _]) = _
      congr 5
      omega
    · rw [g1, g2, g3, g4, g5]
      obtain ⟨x0, x1, x2, x3, x4, x5, x6, x7⟩ := cells8 (blk_alloc hb2 (.cells #[.bool false, .bool true, .bool false, .bool false, .bool false] 55))
      have hk3 := hk02.alloc (.cells #[.bool false, .bool true, .bool false, .bool false, .bool false] 55)
      obtain ⟨z0, z1, z2, z3, z4⟩ := cells5 (blk_new w2 (.cells #[.bool false, .bool true, .bool false, .bool false, .bool false] 55))
      have hl1 := (valK_txs g6).all
      have HL : Hid (BL = 10 + (4 + bodyLen (natss m.keys))) := by
        show _ = _
        rw [HBB.out, g7]; simp only [txts_length]
      have G6 : Hid (valK m.keys = true) := g6
      have HKT : Hid (∀ w', Keeps no w w' → Calls Tryz.prog 24 #[.slice ok nk ck] w' fun e w'' => e = .returned (.int .i64 ((4 + bodyLen (natss m.keys) : Nat) : Int)) ∧ w'' = w') := fun w' hkk => msgTextsSize_any w' ok nk ck m.keys H.out.nk (valK_txs G6.out) (H.out.kys.keepsN hkk)
      generalize bodyLen (natss m.keys) = Y1 at hl1 HL HKT
      clear g0 g1 g2 g3 g4 g5 g6 g7 HFF HBB
      go_wp2_with fail
      refine (HKT.out _ hk3).mono ?_
      rintro e wq ⟨rfl, hwq⟩
      subst wq
      go_wp2
      go_ret2
      refine ⟨?_, hk3⟩
      have := HL.out
      rw [HS.out]
      show Ending.returned (.tuple #[.int .i64 _, _]) = _
      congr 5
      omega
    · rw [g1, g2, g3, g4, g5]
      obtain ⟨x0, x1, x2, x3, x4, x5, x6, x7⟩ := cells8 (blk_alloc hb2 (.cells #[.bool false, .bool false, .bool false, .bool true, .bool false] 55))
      have hk3 := hk02.alloc (.cells #[.bool false, .bool false, .bool false, .bool true, .bool false] 55)
      obtain ⟨z0, z1, z2, z3, z4⟩ := cells5 (blk_new w2 (.cells #[.bool false, .bool false, .bool false, .bool true, .bool false] 55))
      have hl2 := layW_all g6
      have HL : Hid (BL = 10 + (4 + (layW m.wants).length)) := by
        show _ = _
        rw [HBB.out, g7]; simp only [List.length_append, num_length]
      have G6 : Hid (mayW m.wants = true) := g6
      have HPT : Hid (∀ w', Keeps no w w' → Calls Tryz.prog 26 #[.slice ow nw cw] w' fun e w'' => e = .returned (.int .i64 ((4 + (layW m.wants).length : Nat) : Int)) ∧ Keeps no w' w'') := fun w' hkk => wantsSize_any w' ow nw cw m.wants H.out.nw (mayW_all G6.out).1 (mayW_all G6.out).2.2.1 (H.out.wts.keepsN hkk)
      generalize (layW m.wants).length = Y2 at hl2 HL HPT
      clear g0 g1 g2 g3 g4 g5 g6 g7 HFF HBB
      go_wp2_with fail
      refine (HPT.out _ hk3).mono ?_
      rintro e w4 ⟨rfl, hk4⟩
      obtain ⟨u0, u1, u2, u3, u4⟩ := cells5 (hk4.at (blk_new w2 _) (fun h => h))
      go_wp2
      go_ret2
      refine ⟨?_, hk3.trans hk4⟩
      have := HL.out
      rw [HS.out]
      show Ending.returned (.tuple #[.int .i64 _, _]) = _
      congr 5
      omega
    · rw [g1, g2, g3, g4, g5]
      obtain ⟨x0, x1, x2, x3, x4, x5, x6, x7⟩ := cells8 (blk_alloc hb2 (.cells #[.bool false, .bool false, .bool false, .bool false, .bool true] 55))
      have hk3 := hk02.alloc (.cells #[.bool false, .bool false, .bool false, .bool false, .bool true] 55)
      obtain ⟨z0, z1, z2, z3, z4⟩ := cells5 (blk_new w2 (.cells #[.bool false, .bool false, .bool false, .bool false, .bool true] 55))
      have hov := mayV_ok g6.2
      have hl2 := layV_all hov
      have HL : Hid (BL = 10 + (layV (m.vers.getD 0 v0)).length) := by
        show _ = _
        rw [HBB.out, g7]
      have hl : m.vers.length = 1 := g6.1
      have hrl : rs.length = 1 := by rw [H.out.vrs.len]; exact hl
      have hnv : nv = 1 := by rw [H.out.nv]; exact hl
      obtain ⟨b0, off, rfl, d0, d1, d2, d3⟩ := (H.out.vrs.sl.keepsN hk3).atV (j := 0) (by omega)
      have hvo := (H.out.vrs.each 0 (by omega)).keepsN hk3
      obtain ⟨x, hx⟩ : ∃ x, x = rs.getD 0 r0 := ⟨_, rfl⟩
      rw [← hx] at d0 d1 d2 d3 hvo
      obtain ⟨key, id, val, o, n, c⟩ := x
      simp only [Nat.zero_mul, Nat.add_zero] at d0 d1 d2 d3
      have HPT : Hid (Calls Tryz.prog 27 #[.agg #[.string key, .int .u64 (id : Nat), .string val, .slice o n c]] (w2.alloc (.cells #[.bool false, .bool false, .bool false, .bool false, .bool true] 55)) fun e w'' => e = .returned (.int .i64 ((layV (m.vers.getD 0 v0)).length : Int)) ∧ Keeps no (w2.alloc (.cells #[.bool false, .bool false, .bool false, .bool false, .bool true] 55)) w'') := versionSize_any _ _ key id val o n c hvo hov
      generalize (layV (m.vers.getD 0 v0)).length = Y2 at hl2 HL HPT
      clear g0 g1 g2 g3 g4 g5 g6 g7 HFF HBB hx hl hrl hov hvo
      subst hnv
      go_wp2_with fail
      refine HPT.out.mono ?_
      rintro e w4 ⟨rfl, hk4⟩
      obtain ⟨u0, u1, u2, u3, u4⟩ := cells5 (hk4.at (blk_new w2 _) (fun h => h))
      go_wp2
      go_ret2
      refine ⟨?_, hk3.trans hk4⟩
      have := HL.out
      rw [HS.out]
      show Ending.returned (.tuple #[.int .i64 _, _]) = _
      congr 5
      omega
  · have hm' : may m = false := by simpa using hm
    have HS : Hid (sizE m = .tuple #[.int .i64 0, .int .i64 1]) := by show _ = _; unfold sizE; rw [hm']; rfl
    generalize sizE m = SE at HS
    clear hk
    go_enter Tryz.func9, Tryz.ntmps9
    go_wp2_with fail
    refine (May_any _ k cl q i op np cp ok nk ck ow nw cw ov nv cv rs m (H.out.keepsN hk0)).mono ?_
    rintro e w1 ⟨rfl, hk1⟩
    rw [hm']
    go_wp2
    go_ret2
    exact ⟨by rw [HS.out]; rfl, hk0.trans hk1⟩
end Go.Proofs.YtjklpcamlppegaaGreat
