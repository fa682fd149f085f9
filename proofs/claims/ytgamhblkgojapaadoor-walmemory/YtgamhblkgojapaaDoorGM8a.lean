/- WalMemory: its first loop -/
import Derived.Test.YtgamhblkgojapaaDoorGM8d
import Derived.Deep.RegionHeldLaw
import Derived.Deep.Light
namespace Go.Proofs.YtgamhblkgojapaaDoor
open Go.RowKit Pk Dk
set_option linter.unusedVariables false
set_option linter.unusedSimpArgs false

set_option maxRecDepth 10000 in
set_option maxHeartbeats 4000000 in
theorem memTail_of (hN : MemA) : MemTail := by
  intro w x J ID Q_i1 w1 HK1 HT w2 p F0 w3 q0 o3 c3 vs3 V gI gF gP gK w4 v4 w5 gW w6 F1 w7 w8 F2 w9 wA HGD HLN wB qA cA vA wC qB cB vB gA a1 dq osq u1 wE qE oE cE vE wF K_i1 a_i1 gB b1 HFR gL W0 T HRS HDUO
  go_cut [21] from 167 to 203 (fun _ wc => ∃ S x, Hid (Duo W0 T gL S x wc) ∧ Hid (Fz x (fun _ => 2) (fun _ => 2) (fun _ => [])))
  case first =>
    go_wp2_with fail
    go_loopw [21] (fun i wr => ∃ (I : Nat) (S : Nat → Nat → Prop) (x : Nat → BagS), i = .int .i64 (I : Nat) ∧ (I : Int) ≤ 2 ∧ Hid (Duo W0 T gL S x wr) ∧ Hid (Fz x (fun _ => 2) (mI I 0) (fun _ => []))) (fun i _ => 2 - (intOf i).toNat)
    case atStart =>
      go_light
      obtain ⟨S, x, h1, h2⟩ := HDUO.out
      exact ⟨0, S, x, rfl, by omega, h1, h2.congr (fun _ _ => rfl) (fun j _ => by unfold mI; simp) (fun _ _ => rfl)⟩
    case round =>
      rename World => wr
      obtain ⟨I, S, x, rfl, hI, HD, HF⟩ := hrel
      by_cases hI2 : (I : Int) < 2
      · go_upto_block 2 with fail
        go_wp2_with fail
        go_loopw [22] (fun k wk => ∃ (K : Nat) (S : Nat → Nat → Prop) (x : Nat → BagS), k = .int .i64 (K : Nat) ∧ (K : Int) ≤ 2 ∧ Hid (Duo W0 T gL S x wk) ∧ Hid (Fz x (fun _ => 2) (mI I K) (fun _ => []))) (fun k _ => 2 - (intOf k).toNat)
        case atStart => go_light; exact ⟨0, S, x, rfl, by omega, HD, HF⟩
        case round =>
          rename World => wk
          obtain ⟨K, S, x, rfl, hK, HD, HF⟩ := hrel
          by_cases hK2 : (K : Int) < 2
          · skip
            have HI2 : Hid (I < 2 ∧ K < 2) := ⟨by omega, by omega⟩
            obtain ⟨B, hB⟩ : ∃ B : Nat, B = 33 + I := ⟨_, rfl⟩
            have HB : Hid (B = 33 + I ∧ B < 256) := ⟨hB, by omega⟩
            have hw1 : IntKind.i64.wrap (33 + (I : Int)) = 33 + (I : Int) := by rw [IntKind.wrap_i64]; omega
            have hw2 : IntKind.u8.wrap (33 + (I : Int)) = (B : Int) := by rw [IntKind.wrap_u8]; omega
            clear hB
            obtain ⟨g, hg, hSg, c1, _, _, c2, c3, _⟩ := HD.out.at HI2.out.1
            obtain ⟨gk, hgk, hn1, hn2, hst⟩ := HD.out.overK (q := K) HI2.out.1 (by have := (HF.out.len I HI2.out.1).1; have := HI2.out; omega)
            have hnk := (HD.out.b I HI2.out.1).nk
            have htl := HF.out.tl I HI2.out.1
            rw [(HF.out.len I HI2.out.1).1] at hnk
            rw [hgk, hnk] at c3
            rw [htl] at c1
            simp only [List.length_nil, Nat.zero_add] at c1
            have hn3 : ¬ gk = g := hn2 g ⟨_, hg, rfl⟩
            have HST : Hid _ := hst
            obtain ⟨cI, hcI⟩ : ∃ cI, cI = (x I).c := ⟨_, rfl⟩
            obtain ⟨ckI, hckI⟩ : ∃ ckI, ckI = (x I).v.ck := ⟨_, rfl⟩
            rw [← hcI] at c1
            rw [← hckI] at c3
            clear hg hSg hgk hn2 hst hnk htl hcI hckI c2
            go_wp2_with fail
            have hcv := run_t1 ((wk.alloc (.cells #[.int .u8 (B : Int)] 5)).drew) wk.heap.size B HB.out.2 (blk_new wk _)
            obtain ⟨⟨u0, hu0⟩, hz0, hD0⟩ := HST.out ((wk.alloc (.cells #[.int .u8 (B : Int)] 5)).drew) (((Keeps.refl no wk).alloc _).drew)
            have HD0 : Hid _ := hD0
            clear hD0
            refine wp_region_held_drew (S := (fun X => X.cell? ⟨gL, I, none⟩ = some (.slice (some ⟨g, 0, none⟩) 2 cI) ∧ X.cell? ⟨g, 3, none⟩ = some (.slice (some ⟨gk, 0, none⟩) 2 ckI))) (by kernel_rfl) ?_ (fun hHeld => ?_)
            · go_keep
            refine wpAnyH_take (i := 0) (v := ?_) (by simp only [List.getElem?_toArray, List.getElem?_cons_succ, List.getElem?_cons_zero]; rfl) (by kernel_rfl) (by kernel_rfl) (by kernel_rfl) (by exact fun _ _ _ h => h) (Or.inl ⟨by rfl, ?_⟩) (by assumption) ?_
            rotate_left
            · (intro _ hSw; (try dsimp only at hSw); go_simp; (try with_reducible rfl))
            try simp only [Act.put, List.setIfInBounds_toArray, List.set_cons_zero, List.set_cons_succ]
            refine wpAnyH_take (i := 1) (v := ?_) (by simp only [List.getElem?_toArray, List.getElem?_cons_succ, List.getElem?_cons_zero]; rfl) (by kernel_rfl) (by kernel_rfl) (by kernel_rfl) (by exact fun _ _ _ h => h) (Or.inl ⟨by rfl, ?_⟩) (by assumption) ?_
            rotate_left
            · (intro _ hSw; (try dsimp only at hSw); go_simp; (try with_reducible rfl))
            try simp only [Act.put, List.setIfInBounds_toArray, List.set_cons_zero, List.set_cons_succ]
            refine wpAnyH_take (i := 2) (v := ?_) (by simp only [List.getElem?_toArray, List.getElem?_cons_succ, List.getElem?_cons_zero]; rfl) (by kernel_rfl) (by kernel_rfl) (by kernel_rfl) (by exact fun _ _ _ h => h) (Or.inl ⟨by rfl, ?_⟩) (by assumption) ?_
            rotate_left
            · (intro _ hSw; (try dsimp only at hSw); go_simp; (try with_reducible rfl))
            try simp only [Act.put, List.setIfInBounds_toArray, List.set_cons_zero, List.set_cons_succ]
            refine wpAnyH_take (i := 3) (v := ?_) (by simp only [List.getElem?_toArray, List.getElem?_cons_succ, List.getElem?_cons_zero]; rfl) (by kernel_rfl) (by kernel_rfl) (by kernel_rfl) (by exact fun _ _ _ h => h) (Or.inl ⟨by rfl, ?_⟩) (by assumption) ?_
            rotate_left
            · (intro _ hSw; (try dsimp only at hSw); go_simp; (try with_reducible rfl))
            try simp only [Act.put, List.setIfInBounds_toArray, List.set_cons_zero, List.set_cons_succ]
            refine wpAnyH_take (i := 4) (v := ?_) (by simp only [List.getElem?_toArray, List.getElem?_cons_succ, List.getElem?_cons_zero]; rfl) (by kernel_rfl) (by kernel_rfl) (by kernel_rfl) (by exact fun _ _ _ h => h) (Or.inl ⟨by rfl, ?_⟩) (by assumption) ?_
            rotate_left
            · (intro _ hSw; (try dsimp only at hSw); go_simp; (try with_reducible rfl))
            try simp only [Act.put, List.setIfInBounds_toArray, List.set_cons_zero, List.set_cons_succ]
            refine wpAnyH_take (i := 5) (v := ?_) (by simp only [List.getElem?_toArray, List.getElem?_cons_succ, List.getElem?_cons_zero]; rfl) (by kernel_rfl) (by kernel_rfl) (by kernel_rfl) (by exact fun _ _ _ h => h) (Or.inl ⟨by rfl, ?_⟩) (by assumption) ?_
            rotate_left
            · (intro _ hSw; (try dsimp only at hSw); go_simp; (try with_reducible rfl))
            try simp only [Act.put, List.setIfInBounds_toArray, List.set_cons_zero, List.set_cons_succ]
            refine wpAnyH_take (i := 6) (v := ?_) (by simp only [List.getElem?_toArray, List.getElem?_cons_succ, List.getElem?_cons_zero]; rfl) (by kernel_rfl) (by kernel_rfl) (by kernel_rfl) (by exact fun _ _ _ h => h) (Or.inl ⟨by rfl, ?_⟩) (by assumption) ?_
            rotate_left
            · (intro _ hSw; (try dsimp only at hSw); go_simp; (try with_reducible rfl))
            try simp only [Act.put, List.setIfInBounds_toArray, List.set_cons_zero, List.set_cons_succ]
            refine wpAnyH_take (i := 7) (v := ?_) (by simp only [List.getElem?_toArray, List.getElem?_cons_succ, List.getElem?_cons_zero]; rfl) (by kernel_rfl) (by kernel_rfl) (by kernel_rfl) (by exact fun _ _ _ h => h) (Or.inl ⟨by rfl, ?_⟩) (by assumption) ?_
            rotate_left
            · (intro _ hSw; (try dsimp only at hSw); go_simp; (try with_reducible rfl))
            try simp only [Act.put, List.setIfInBounds_toArray, List.set_cons_zero, List.set_cons_succ]
            refine wpAnyH_take (i := 8) (v := ?_) (by simp only [List.getElem?_toArray, List.getElem?_cons_succ, List.getElem?_cons_zero]; rfl) (by kernel_rfl) (by kernel_rfl) (by kernel_rfl) (by exact fun _ _ _ h => h) (Or.inl ⟨by rfl, ?_⟩) (by assumption) ?_
            rotate_left
            · (intro _ hSw; (try dsimp only at hSw); go_simp; (try with_reducible rfl))
            try simp only [Act.put, List.setIfInBounds_toArray, List.set_cons_zero, List.set_cons_succ]
            refine wpAnyH_take (i := 9) (v := ?_) (by simp only [List.getElem?_toArray, List.getElem?_cons_succ, List.getElem?_cons_zero]; rfl) (by kernel_rfl) (by kernel_rfl) (by kernel_rfl) (by exact fun _ _ _ h => h) (Or.inl ⟨by rfl, ?_⟩) (by assumption) ?_
            rotate_left
            · (intro _ hSw; (try dsimp only at hSw); go_simp; (try with_reducible rfl))
            try simp only [Act.put, List.setIfInBounds_toArray, List.set_cons_zero, List.set_cons_succ]
            refine wpAnyH_take (i := 10) (v := ?_) (by simp only [List.getElem?_toArray, List.getElem?_cons_succ, List.getElem?_cons_zero]; rfl) (by kernel_rfl) (by kernel_rfl) (by kernel_rfl) (by exact fun _ _ _ h => h) (Or.inl ⟨by rfl, ?_⟩) (by assumption) ?_
            rotate_left
            · (intro _ hSw; (try dsimp only at hSw); go_simp; (try with_reducible rfl))
            try simp only [Act.put, List.setIfInBounds_toArray, List.set_cons_zero, List.set_cons_succ]
            refine wpAnyH_ready (rs := [11]) (by kernel_rfl) (by simp) ?_
            refine AllReadyH.cons (by simp only [List.getElem?_toArray, List.getElem?_cons_succ, List.getElem?_cons_zero]; rfl) (fun Kq hKq => ?_) AllReadyH.nil
            go_simp
            refine hKq.out _ _ ?_ (fun hHeldN => ?_)
            · go_keep
            clear hKq Kq hHeld
            have hHeld := hHeldN
            clear hHeldN
            refine wpAnyH_ready (rs := [12]) (by kernel_rfl) (by simp) ?_
            refine AllReadyH.cons (by simp only [List.getElem?_toArray, List.getElem?_cons_succ, List.getElem?_cons_zero]; rfl) (fun Kq hKq => ?_) AllReadyH.nil
            go_simp
            refine hKq.out _ _ ?_ (fun hHeldN => ?_)
            · go_keep
            clear hKq Kq hHeld
            have hHeld := hHeldN
            clear hHeldN
            refine wpAnyH_take (i := 13) (v := ?_) (by simp only [List.getElem?_toArray, List.getElem?_cons_succ, List.getElem?_cons_zero]; rfl) (by kernel_rfl) (by kernel_rfl) (by kernel_rfl) (by exact fun _ _ _ h => h) (Or.inl ⟨by rfl, ?_⟩) (by assumption) ?_
            rotate_left
            · (intro _ hSw; (try dsimp only at hSw); go_simp; (try with_reducible rfl))
            try simp only [Act.put, List.setIfInBounds_toArray, List.set_cons_zero, List.set_cons_succ]
            refine wpAnyH_ready (rs := [14]) (by kernel_rfl) (by simp) ?_
            refine AllReadyH.cons (by simp only [List.getElem?_toArray, List.getElem?_cons_succ, List.getElem?_cons_zero]; rfl) (fun Kq hKq => ?_) AllReadyH.nil
            go_simp
            refine hKq.out _ _ ?_ (fun hHeldN => ?_)
            · go_keep
            clear hKq Kq hHeld
            have hHeld := hHeldN
            clear hHeldN
            refine wpAnyH_done (by kernel_rfl) ?_ _
            obtain ⟨S1, x1, HD1, HX1⟩ : ∃ S1 x1, Hid (Duo W0 T gL S1 x1 ((wk.alloc (.cells #[.int .u8 (B : Int)] 5)).setCell ⟨gk, K, none⟩ (.string (t1 B))).drew) ∧ Hid (x1 I = { x I with ks := (x I).ks.set K (t1 B) } ∧ ∀ j, j ≠ I → x1 j = x j) := ⟨_, _, HD0.out (t1 B), ⟨if_pos rfl, fun j hj => if_neg hj⟩⟩
            clear hHeld hcv hu0 hz0 HD0 HST c1 c3 hn1 hn3 HD
            generalize ((wk.alloc (.cells #[.int .u8 (B : Int)] 5)).setCell ⟨gk, K, none⟩ (.string (t1 B))).drew = wm at HD1 ⊢
            obtain ⟨g, hg, hSg, c1, _, _, c2, c3, _⟩ := HD1.out.at HI2.out.1
            obtain ⟨gk, hgk, hn1, hn2, hst⟩ := HD1.out.overP (q := K) HI2.out.1 (by rw [HX1.out.1]; have := (HF.out.len I HI2.out.1).2; have := HI2.out; simp only; omega)
            have hnp := (HD1.out.b I HI2.out.1).np
            have htl := HF.out.tl I HI2.out.1
            have hlp := (HF.out.len I HI2.out.1).2
            rw [HX1.out.1] at hnp c1 hgk hst
            simp only at hnp c1 hgk hst
            rw [hlp] at hnp
            rw [HX1.out.1] at c2
            simp only at c2
            rw [hgk, hnp] at c2
            rw [htl] at c1
            simp only [List.length_nil, Nat.zero_add] at c1
            have hn3 : ¬ gk = g := hn2 g ⟨_, hg, rfl⟩
            have HST : Hid _ := hst
            obtain ⟨cI, hcI⟩ : ∃ cI, cI = (x I).c := ⟨_, rfl⟩
            obtain ⟨ckI, hckI⟩ : ∃ ckI, ckI = (x I).v.cp := ⟨_, rfl⟩
            rw [← hcI] at c1
            rw [← hckI] at c2
            clear hg hSg hgk hn2 hst hnp htl hcI hckI c3 hlp
            go_wp2_with fail
            have hcv := run_t1 ((wm.alloc (.cells #[.int .u8 (B : Int)] 5)).drew) wm.heap.size B HB.out.2 (blk_new wm _)
            obtain ⟨⟨u0, hu0⟩, hz0, hD0⟩ := HST.out ((wm.alloc (.cells #[.int .u8 (B : Int)] 5)).drew) (((Keeps.refl no wm).alloc _).drew)
            have HD0 : Hid _ := hD0
            clear hD0
            refine wp_region_held_drew (S := (fun X => X.cell? ⟨gL, I, none⟩ = some (.slice (some ⟨g, 0, none⟩) 2 cI) ∧ X.cell? ⟨g, 2, none⟩ = some (.slice (some ⟨gk, 0, none⟩) 2 ckI))) (by kernel_rfl) ?_ (fun hHeld => ?_)
            · go_keep
            refine wpAnyH_take (i := 0) (v := ?_) (by simp only [List.getElem?_toArray, List.getElem?_cons_succ, List.getElem?_cons_zero]; rfl) (by kernel_rfl) (by kernel_rfl) (by kernel_rfl) (by exact fun _ _ _ h => h) (Or.inl ⟨by rfl, ?_⟩) (by assumption) ?_
            rotate_left
            · (intro _ hSw; (try dsimp only at hSw); go_simp; (try with_reducible rfl))
            try simp only [Act.put, List.setIfInBounds_toArray, List.set_cons_zero, List.set_cons_succ]
            refine wpAnyH_take (i := 1) (v := ?_) (by simp only [List.getElem?_toArray, List.getElem?_cons_succ, List.getElem?_cons_zero]; rfl) (by kernel_rfl) (by kernel_rfl) (by kernel_rfl) (by exact fun _ _ _ h => h) (Or.inl ⟨by rfl, ?_⟩) (by assumption) ?_
            rotate_left
            · (intro _ hSw; (try dsimp only at hSw); go_simp; (try with_reducible rfl))
            try simp only [Act.put, List.setIfInBounds_toArray, List.set_cons_zero, List.set_cons_succ]
            refine wpAnyH_take (i := 2) (v := ?_) (by simp only [List.getElem?_toArray, List.getElem?_cons_succ, List.getElem?_cons_zero]; rfl) (by kernel_rfl) (by kernel_rfl) (by kernel_rfl) (by exact fun _ _ _ h => h) (Or.inl ⟨by rfl, ?_⟩) (by assumption) ?_
            rotate_left
            · (intro _ hSw; (try dsimp only at hSw); go_simp; (try with_reducible rfl))
            try simp only [Act.put, List.setIfInBounds_toArray, List.set_cons_zero, List.set_cons_succ]
            refine wpAnyH_take (i := 3) (v := ?_) (by simp only [List.getElem?_toArray, List.getElem?_cons_succ, List.getElem?_cons_zero]; rfl) (by kernel_rfl) (by kernel_rfl) (by kernel_rfl) (by exact fun _ _ _ h => h) (Or.inl ⟨by rfl, ?_⟩) (by assumption) ?_
            rotate_left
            · (intro _ hSw; (try dsimp only at hSw); go_simp; (try with_reducible rfl))
            try simp only [Act.put, List.setIfInBounds_toArray, List.set_cons_zero, List.set_cons_succ]
            refine wpAnyH_take (i := 4) (v := ?_) (by simp only [List.getElem?_toArray, List.getElem?_cons_succ, List.getElem?_cons_zero]; rfl) (by kernel_rfl) (by kernel_rfl) (by kernel_rfl) (by exact fun _ _ _ h => h) (Or.inl ⟨by rfl, ?_⟩) (by assumption) ?_
            rotate_left
            · (intro _ hSw; (try dsimp only at hSw); go_simp; (try with_reducible rfl))
            try simp only [Act.put, List.setIfInBounds_toArray, List.set_cons_zero, List.set_cons_succ]
            refine wpAnyH_take (i := 5) (v := ?_) (by simp only [List.getElem?_toArray, List.getElem?_cons_succ, List.getElem?_cons_zero]; rfl) (by kernel_rfl) (by kernel_rfl) (by kernel_rfl) (by exact fun _ _ _ h => h) (Or.inl ⟨by rfl, ?_⟩) (by assumption) ?_
            rotate_left
            · (intro _ hSw; (try dsimp only at hSw); go_simp; (try with_reducible rfl))
            try simp only [Act.put, List.setIfInBounds_toArray, List.set_cons_zero, List.set_cons_succ]
            refine wpAnyH_take (i := 6) (v := ?_) (by simp only [List.getElem?_toArray, List.getElem?_cons_succ, List.getElem?_cons_zero]; rfl) (by kernel_rfl) (by kernel_rfl) (by kernel_rfl) (by exact fun _ _ _ h => h) (Or.inl ⟨by rfl, ?_⟩) (by assumption) ?_
            rotate_left
            · (intro _ hSw; (try dsimp only at hSw); go_simp; (try with_reducible rfl))
            try simp only [Act.put, List.setIfInBounds_toArray, List.set_cons_zero, List.set_cons_succ]
            refine wpAnyH_take (i := 7) (v := ?_) (by simp only [List.getElem?_toArray, List.getElem?_cons_succ, List.getElem?_cons_zero]; rfl) (by kernel_rfl) (by kernel_rfl) (by kernel_rfl) (by exact fun _ _ _ h => h) (Or.inl ⟨by rfl, ?_⟩) (by assumption) ?_
            rotate_left
            · (intro _ hSw; (try dsimp only at hSw); go_simp; (try with_reducible rfl))
            try simp only [Act.put, List.setIfInBounds_toArray, List.set_cons_zero, List.set_cons_succ]
            refine wpAnyH_take (i := 8) (v := ?_) (by simp only [List.getElem?_toArray, List.getElem?_cons_succ, List.getElem?_cons_zero]; rfl) (by kernel_rfl) (by kernel_rfl) (by kernel_rfl) (by exact fun _ _ _ h => h) (Or.inl ⟨by rfl, ?_⟩) (by assumption) ?_
            rotate_left
            · (intro _ hSw; (try dsimp only at hSw); go_simp; (try with_reducible rfl))
            try simp only [Act.put, List.setIfInBounds_toArray, List.set_cons_zero, List.set_cons_succ]
            refine wpAnyH_take (i := 9) (v := ?_) (by simp only [List.getElem?_toArray, List.getElem?_cons_succ, List.getElem?_cons_zero]; rfl) (by kernel_rfl) (by kernel_rfl) (by kernel_rfl) (by exact fun _ _ _ h => h) (Or.inl ⟨by rfl, ?_⟩) (by assumption) ?_
            rotate_left
            · (intro _ hSw; (try dsimp only at hSw); go_simp; (try with_reducible rfl))
            try simp only [Act.put, List.setIfInBounds_toArray, List.set_cons_zero, List.set_cons_succ]
            refine wpAnyH_take (i := 10) (v := ?_) (by simp only [List.getElem?_toArray, List.getElem?_cons_succ, List.getElem?_cons_zero]; rfl) (by kernel_rfl) (by kernel_rfl) (by kernel_rfl) (by exact fun _ _ _ h => h) (Or.inl ⟨by rfl, ?_⟩) (by assumption) ?_
            rotate_left
            · (intro _ hSw; (try dsimp only at hSw); go_simp; (try with_reducible rfl))
            try simp only [Act.put, List.setIfInBounds_toArray, List.set_cons_zero, List.set_cons_succ]
            refine wpAnyH_ready (rs := [11]) (by kernel_rfl) (by simp) ?_
            refine AllReadyH.cons (by simp only [List.getElem?_toArray, List.getElem?_cons_succ, List.getElem?_cons_zero]; rfl) (fun Kq hKq => ?_) AllReadyH.nil
            go_simp
            refine hKq.out _ _ ?_ (fun hHeldN => ?_)
            · go_keep
            clear hKq Kq hHeld
            have hHeld := hHeldN
            clear hHeldN
            refine wpAnyH_ready (rs := [12]) (by kernel_rfl) (by simp) ?_
            refine AllReadyH.cons (by simp only [List.getElem?_toArray, List.getElem?_cons_succ, List.getElem?_cons_zero]; rfl) (fun Kq hKq => ?_) AllReadyH.nil
            go_simp
            refine hKq.out _ _ ?_ (fun hHeldN => ?_)
            · go_keep
            clear hKq Kq hHeld
            have hHeld := hHeldN
            clear hHeldN
            refine wpAnyH_take (i := 13) (v := ?_) (by simp only [List.getElem?_toArray, List.getElem?_cons_succ, List.getElem?_cons_zero]; rfl) (by kernel_rfl) (by kernel_rfl) (by kernel_rfl) (by exact fun _ _ _ h => h) (Or.inl ⟨by rfl, ?_⟩) (by assumption) ?_
            rotate_left
            · (intro _ hSw; (try dsimp only at hSw); go_simp; (try with_reducible rfl))
            try simp only [Act.put, List.setIfInBounds_toArray, List.set_cons_zero, List.set_cons_succ]
            refine wpAnyH_take (i := 14) (v := ?_) (by simp only [List.getElem?_toArray, List.getElem?_cons_succ, List.getElem?_cons_zero]; rfl) (by kernel_rfl) (by kernel_rfl) (by kernel_rfl) (by exact fun _ _ _ h => h) (Or.inl ⟨by rfl, ?_⟩) (by assumption) ?_
            rotate_left
            · (intro _ hSw; (try dsimp only at hSw); go_simp; (try with_reducible rfl))
            try simp only [Act.put, List.setIfInBounds_toArray, List.set_cons_zero, List.set_cons_succ]
            refine wpAnyH_ready (rs := [15]) (by kernel_rfl) (by simp) ?_
            refine AllReadyH.cons (by simp only [List.getElem?_toArray, List.getElem?_cons_succ, List.getElem?_cons_zero]; rfl) (fun Kq hKq => ?_) AllReadyH.nil
            go_simp
            refine hKq.out _ _ ?_ (fun hHeldN => ?_)
            · go_keep
            clear hKq Kq hHeld
            have hHeld := hHeldN
            clear hHeldN
            refine wpAnyH_done (by kernel_rfl) ?_ _
            obtain ⟨S2, x2, HD2, HX2⟩ : ∃ S2 x2, Hid (Duo W0 T gL S2 x2 ((wm.alloc (.cells #[.int .u8 (B : Int)] 5)).setCell ⟨gk, K * 2 + 1, none⟩ (.string (t1 B))).drew) ∧ Hid (Fz x2 (fun _ => 2) (mI I (K + 1)) (fun _ => [])) := by
              refine ⟨_, _, HD0.out (t1 B), ?_⟩
              have hm : K = mI I K I := by unfold mI; rw [if_neg (by omega), if_pos rfl]
              have h := HF.out.over (i := I) (q := K) (x' := { x I with ks := (x I).ks.set K (t1 (33 + I)), ps := (x I).ps.set K (((x I).ps.getD K p0).1, t1 (33 + I)) }) HI2.out.1 hm rfl HI2.out.2 rfl rfl rfl rfl
              refine (h.congr (fun _ _ => rfl) (fun j hj => ?_) (fun _ _ => rfl)).congrX (fun j hj => ?_)
              · unfold mI
                by_cases e : j = I
                · simp [e]
                · simp [e]
              · by_cases e : j = I
                · subst e
                  simp only [if_true]
                  rw [HB.out.1]
                · simp only [e, if_false]
                  exact HX1.out.2 j e
            generalize ((wm.alloc (.cells #[.int .u8 (B : Int)] 5)).setCell ⟨gk, K * 2 + 1, none⟩ (.string (t1 B))).drew = wn at HD2 ⊢
            clear hHeld hcv hu0 hz0 HD0 HST c1 c2 hn1 hn3 HD1 HX1 hw1 hw2
            go_wp2_with fail
            go_roundw
            case rel => go_light; exact ⟨K + 1, S2, x2, by go_num, by omega, HD2, HX2⟩
            case measure => go_light; simp [intOf]; omega
          · have hKe : K = 2 := by omega
            subst hKe
            go_wp2_with fail
            go_roundw
            case rel => go_light; exact ⟨I + 1, S, x, by go_num, by omega, HD, HF.out.congr (fun _ _ => rfl) (fun j _ => by unfold mI; by_cases h1 : j < I; (rw [if_pos h1, if_pos (by omega)]); (rw [if_neg h1]; by_cases h2 : j = I; (rw [if_pos h2, if_pos (by omega)]); (rw [if_neg h2, if_neg (by omega)]; by_cases h3 : j = I + 1; (rw [if_pos h3]); (rw [if_neg h3])))) (fun _ _ => rfl)⟩
            case measure => go_light; simp [intOf]; omega
      · have hIe : I = 2 := by omega
        subst hIe
        go_wp2_with fail
        go_meet
        go_light
        exact ⟨S, x, HD, HF.out.congr (fun _ _ => rfl) (fun j hj => by unfold mI; rw [if_pos hj]) (fun _ _ => rfl)⟩
  case rest =>
    rename World => wc1
    obtain ⟨S1, x1, HD1, HF1⟩ := hcut
    revert w x J ID Q_i1 w1 HK1 HT w2 p F0 w3 q0 o3 c3 vs3 V gI gF gP gK w4 v4 w5 gW w6 F1 w7 w8 F2 w9 wA HGD HLN wB qA cA vA wC qB cB vB gA a1 dq osq u1 wE qE oE cE vE wF K_i1 a_i1 gB b1 HFR gL W0 T HRS HDUO wc1 u21 u22 u167 u168 u169 u170 u171 u172 u173 u174 u175 u176 u177 u178 u179 u180 u181 u182 u183 u184 u185 u186 u187 u188 u189 u190 u191 u192 u193 u194 u195 u196 u197 u198 u199 u200 u201 u202 u203 S1 x1 HD1 HF1
    exact hN
end Go.Proofs.YtgamhblkgojapaaDoor
