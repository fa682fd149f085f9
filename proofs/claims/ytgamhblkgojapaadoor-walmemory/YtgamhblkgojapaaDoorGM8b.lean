/- WalMemory: its second loop -/
import Derived.Test.YtgamhblkgojapaaDoorGM8d
import Derived.Deep.RegionHeldLaw
import Derived.Deep.Light
namespace Go.Proofs.YtgamhblkgojapaaDoor
open Go.RowKit Pk Dk
set_option linter.unusedVariables false
set_option linter.unusedSimpArgs false

set_option maxRecDepth 10000 in
set_option maxHeartbeats 4000000 in
theorem memA_of (hN : MemB) : MemA := by
  intro w x J ID Q_i1 w1 HK1 HT w2 p F0 w3 q0 o3 c3 vs3 V gI gF gP gK w4 v4 w5 gW w6 F1 w7 w8 F2 w9 wA HGD HLN wB qA cA vA wC qB cB vB gA a1 dq osq u1 wE qE oE cE vE wF K_i1 a_i1 gB b1 HFR gL W0 T HRS HDUO wc1 u21 u22 u167 u168 u169 u170 u171 u172 u173 u174 u175 u176 u177 u178 u179 u180 u181 u182 u183 u184 u185 u186 u187 u188 u189 u190 u191 u192 u193 u194 u195 u196 u197 u198 u199 u200 u201 u202 u203 S1 x1 HD1 HF1
  go_upto_block 4 with fail
  go_cut [23] from 204 to 252 (fun _ wc => ∃ S x, Hid (Duo W0 T gL S x wc) ∧ Hid (Fz x (fun _ => 42) (fun _ => 2) (fun _ => [])))
  case first =>
    go_wp2_with fail
    go_loopw [23] (fun i wr => ∃ (I : Nat) (S : Nat → Nat → Prop) (x : Nat → BagS), i = .int .i64 (I : Nat) ∧ (I : Int) ≤ 2 ∧ Hid (Duo W0 T gL S x wr) ∧ Hid (Fz x (nI I 0) (fun _ => 2) (fun _ => []))) (fun i _ => 2 - (intOf i).toNat)
    case atStart => go_light; exact ⟨0, S1, x1, rfl, by omega, HD1, HF1.out.congr (fun j _ => by unfold nI; simp) (fun _ _ => rfl) (fun _ _ => rfl)⟩
    case round =>
      rename World => wr
      obtain ⟨I, S, x, rfl, hI, HD, HF⟩ := hrel
      clear HD1 HF1
      by_cases hI2 : (I : Int) < 2
      · go_upto_block 6 with fail
        go_wp2_with fail
        go_loopw [24] (fun k wk => ∃ (K : Nat) (S : Nat → Nat → Prop) (x : Nat → BagS), k = .int .i64 (K : Nat) ∧ (K : Int) ≤ 40 ∧ Hid (Duo W0 T gL S x wk) ∧ Hid (Fz x (nI I K) (fun _ => 2) (fun _ => []))) (fun k _ => 40 - (intOf k).toNat)
        case atStart => go_light; exact ⟨0, S, x, rfl, by omega, HD, HF⟩
        case round =>
          rename World => wk
          obtain ⟨K, S, x, rfl, hK, HD, HF⟩ := hrel
          by_cases hK2 : (K : Int) < 40
          · skip
            have HI2 : Hid (I < 2 ∧ K < 40) := ⟨by omega, by omega⟩
            obtain ⟨B, hB⟩ : ∃ B : Nat, B = 97 + I := ⟨_, rfl⟩
            have HB : Hid (B = 97 + I ∧ B < 256) := ⟨hB, by omega⟩
            have hw1 : IntKind.i64.wrap (97 + (I : Int)) = 97 + (I : Int) := by rw [IntKind.wrap_i64]; omega
            have hw2 : IntKind.u8.wrap (97 + (I : Int)) = (B : Int) := by rw [IntKind.wrap_u8]; omega
            clear hB
            obtain ⟨N, hN⟩ : ∃ N : Nat, N = 2 + K := ⟨_, rfl⟩
            have HN : Hid (N = 2 + K ∧ nI I K I = N ∧ N ≤ 41) := ⟨hN, by unfold nI; rw [if_neg (by omega), if_pos rfl, hN], by omega⟩
            clear hN
            go_upto_region 39 with fail
            go_cut [] from 212 to 231 (fun wm => ∃ S' x', Hid (Duo W0 T gL S' x' wm) ∧ Hid (∃ o' c', x' I = { x I with v := { (x I).v with ok := o', nk := N + 1, ck := c' }, ks := (x I).ks ++ [t1 B] } ∧ ∀ j, j ≠ I → x' j = x j))
            case first =>
              obtain ⟨g, hg, hSg, c1, _, _, c2, c3, _⟩ := HD.out.at HI2.out.1
              have HG : Hid ((x I).o = some ⟨g, 0, none⟩) := hg
              have htl : (x I).tl = [] := HF.out.tl I HI2.out.1
              rw [htl] at c1
              simp only [List.length_nil, Nat.zero_add] at c1
              have HLN2 : Hid ((x I).ks.length = N) := by rw [← HN.out.2.1]; exact (HF.out.len I HI2.out.1).1
              have HNK : Hid ((x I).v.nk = N) := (HD.out.b I HI2.out.1).nk.trans HLN2.out
              have HDP : Hid (Duo W0 T gL S x ((wk.alloc (.cells #[.int .u8 (B : Int)] 5)).alloc (.cells #[.string (t1 B)] 9)).drew) := HD.out.keepsN ((((Keeps.refl no wk).alloc _).alloc _).drew)
              have HOK : Hid (Own TE ((wk.alloc (.cells #[.int .u8 (B : Int)] 5)).alloc (.cells #[.string (t1 B)] 9)).drew (x I).v.ok (x I).v.ck (x I).ks) := (HDP.out.b I HI2.out.1).k
              have HRW : Hid (Row TE ((wk.alloc (.cells #[.int .u8 (B : Int)] 5)).alloc (.cells #[.string (t1 B)] 9)).drew (some ⟨wk.heap.size + 1, 0, none⟩) [t1 B]) := own_oneT2 wk _ _
              have HTL : Hid ((x I).tl = []) := htl
              rw [HNK.out] at c3
              have ca := (((Keeps.refl no wk).alloc (.cells #[.int .u8 (B : Int)] 5)).drew).cellN c3
              have cb := ((((Keeps.refl no wk).alloc (.cells #[.int .u8 (B : Int)] 5)).alloc (.cells #[.string (t1 B)] 9)).drew).cellN c3
              have hcv := run_t1 ((wk.alloc (.cells #[.int .u8 (B : Int)] 5)).drew) wk.heap.size B HB.out.2 (blk_new wk _)
              clear hg hSg htl c2
              generalize hcI : (x I).c = cI at c1
              have HCI : Hid ((x I).c = cI) := hcI
              generalize hok : (x I).v.ok = okI at c3 ca cb HOK
              generalize hck : (x I).v.ck = ckI at c3 ca cb HOK
              have HOKI : Hid ((x I).v.ok = okI) := hok
              clear hcI hok hck
              refine wp_region_held_drew (S := (fun X => X.cell? ⟨gL, I, none⟩ = some (.slice (some ⟨g, 0, none⟩) 2 cI))) (by kernel_rfl) ?_ (fun hHeld => ?_)
              · go_keep
              refine wpAnyH_take (i := 0) (v := ?_) (by simp only [List.getElem?_toArray, List.getElem?_cons_succ, List.getElem?_cons_zero]; rfl) (by kernel_rfl) (by kernel_rfl) (by kernel_rfl) (by exact fun _ _ _ h => h) (Or.inl ⟨by rfl, ?_⟩) (by assumption) ?_
              rotate_left
              · (intro _ hSw; (try dsimp only at hSw); go_simp; (try with_reducible rfl))
              try simp only [Act.put, List.setIfInBounds_toArray, List.set_cons_zero, List.set_cons_succ]
              refine wpAnyH_take (i := 1) (v := ?_) (by simp only [List.getElem?_toArray, List.getElem?_cons_succ, List.getElem?_cons_zero]; rfl) (by kernel_rfl) (by kernel_rfl) (by kernel_rfl) (by exact fun _ _ _ h => h) (Or.inl ⟨by rfl, ?_⟩) (by assumption) ?_
              rotate_left
              · (intro _ hSw; (try dsimp only at hSw); go_simp; (try with_reducible rfl))
              try simp only [Act.put, List.setIfInBounds_toArray, List.set_cons_zero, List.set_cons_succ]
              refine wpAnyH_take (i := 2) (v := ?_) (by simp only [List.getElem?_toArray, List.getElem?_cons_succ, List.getElem?_cons_zero]; rfl) (by kernel_rfl) (by kernel_rfl) (by kernel_rfl) (by exact fun _ _ _ h => h) (Or.inl ⟨by rfl, ?_⟩) (by assumption) ?_
              rotate_left
              · (intro _ hSw; (try dsimp only at hSw); go_simp; (try with_reducible rfl))
              try simp only [Act.put, List.setIfInBounds_toArray, List.set_cons_zero, List.set_cons_succ]
              refine wpAnyH_take (i := 3) (v := ?_) (by simp only [List.getElem?_toArray, List.getElem?_cons_succ, List.getElem?_cons_zero]; rfl) (by kernel_rfl) (by kernel_rfl) (by kernel_rfl) (by exact fun _ _ _ h => h) (Or.inl ⟨by rfl, ?_⟩) (by assumption) ?_
              rotate_left
              · (intro _ hSw; (try dsimp only at hSw); go_simp; (try with_reducible rfl))
              try simp only [Act.put, List.setIfInBounds_toArray, List.set_cons_zero, List.set_cons_succ]
              refine wpAnyH_take (i := 4) (v := ?_) (by simp only [List.getElem?_toArray, List.getElem?_cons_succ, List.getElem?_cons_zero]; rfl) (by kernel_rfl) (by kernel_rfl) (by kernel_rfl) (by exact fun _ _ _ h => h) (Or.inl ⟨by rfl, ?_⟩) (by assumption) ?_
              rotate_left
              · (intro _ hSw; (try dsimp only at hSw); go_simp; (try with_reducible rfl))
              try simp only [Act.put, List.setIfInBounds_toArray, List.set_cons_zero, List.set_cons_succ]
              refine wpAnyH_take (i := 5) (v := ?_) (by simp only [List.getElem?_toArray, List.getElem?_cons_succ, List.getElem?_cons_zero]; rfl) (by kernel_rfl) (by kernel_rfl) (by kernel_rfl) (by exact fun _ _ _ h => h) (Or.inl ⟨by rfl, ?_⟩) (by assumption) ?_
              rotate_left
              · (intro _ hSw; (try dsimp only at hSw); go_simp; (try with_reducible rfl))
              try simp only [Act.put, List.setIfInBounds_toArray, List.set_cons_zero, List.set_cons_succ]
              refine wpAnyH_take (i := 6) (v := ?_) (by simp only [List.getElem?_toArray, List.getElem?_cons_succ, List.getElem?_cons_zero]; rfl) (by kernel_rfl) (by kernel_rfl) (by kernel_rfl) (by exact fun _ _ _ h => h) (Or.inl ⟨by rfl, ?_⟩) (by assumption) ?_
              rotate_left
              · (intro _ hSw; (try dsimp only at hSw); go_simp; (try with_reducible rfl))
              try simp only [Act.put, List.setIfInBounds_toArray, List.set_cons_zero, List.set_cons_succ]
              refine wpAnyH_take (i := 7) (v := ?_) (by simp only [List.getElem?_toArray, List.getElem?_cons_succ, List.getElem?_cons_zero]; rfl) (by kernel_rfl) (by kernel_rfl) (by kernel_rfl) (by exact fun _ _ _ h => h) (Or.inl ⟨by rfl, ?_⟩) (by assumption) ?_
              rotate_left
              · (intro _ hSw; (try dsimp only at hSw); go_simp; (try with_reducible rfl))
              try simp only [Act.put, List.setIfInBounds_toArray, List.set_cons_zero, List.set_cons_succ]
              refine wpAnyH_take (i := 8) (v := ?_) (by simp only [List.getElem?_toArray, List.getElem?_cons_succ, List.getElem?_cons_zero]; rfl) (by kernel_rfl) (by kernel_rfl) (by kernel_rfl) (by exact fun _ _ _ h => h) (Or.inl ⟨by rfl, ?_⟩) (by assumption) ?_
              rotate_left
              · (intro _ hSw; (try dsimp only at hSw); go_simp; (try with_reducible rfl))
              try simp only [Act.put, List.setIfInBounds_toArray, List.set_cons_zero, List.set_cons_succ]
              refine wpAnyH_take (i := 9) (v := ?_) (by simp only [List.getElem?_toArray, List.getElem?_cons_succ, List.getElem?_cons_zero]; rfl) (by kernel_rfl) (by kernel_rfl) (by kernel_rfl) (by exact fun _ _ _ h => h) (Or.inl ⟨by rfl, ?_⟩) (by assumption) ?_
              rotate_left
              · (intro _ hSw; (try dsimp only at hSw); go_simp; (try with_reducible rfl))
              try simp only [Act.put, List.setIfInBounds_toArray, List.set_cons_zero, List.set_cons_succ]
              refine wpAnyH_take (i := 11) (v := ?_) (by simp only [List.getElem?_toArray, List.getElem?_cons_succ, List.getElem?_cons_zero]; rfl) (by kernel_rfl) (by kernel_rfl) (by kernel_rfl) (by exact fun _ _ _ h => h) (Or.inl ⟨by rfl, ?_⟩) (by assumption) ?_
              rotate_left
              · (intro _ hSw; (try dsimp only at hSw); go_simp; (try with_reducible rfl))
              try simp only [Act.put, List.setIfInBounds_toArray, List.set_cons_zero, List.set_cons_succ]
              refine wpAnyH_take (i := 12) (v := ?_) (by simp only [List.getElem?_toArray, List.getElem?_cons_succ, List.getElem?_cons_zero]; rfl) (by kernel_rfl) (by kernel_rfl) (by kernel_rfl) (by exact fun _ _ _ h => h) (Or.inl ⟨by rfl, ?_⟩) (by assumption) ?_
              rotate_left
              · (intro _ hSw; (try dsimp only at hSw); go_simp; (try with_reducible rfl))
              try simp only [Act.put, List.setIfInBounds_toArray, List.set_cons_zero, List.set_cons_succ]
              refine wpAnyH_take (i := 13) (v := ?_) (by simp only [List.getElem?_toArray, List.getElem?_cons_succ, List.getElem?_cons_zero]; rfl) (by kernel_rfl) (by kernel_rfl) (by kernel_rfl) (by exact fun _ _ _ h => h) (Or.inl ⟨by rfl, ?_⟩) (by assumption) ?_
              rotate_left
              · (intro _ hSw; (try dsimp only at hSw); go_simp; (try with_reducible rfl))
              try simp only [Act.put, List.setIfInBounds_toArray, List.set_cons_zero, List.set_cons_succ]
              refine wpAnyH_ready (rs := [10, 14]) (by kernel_rfl) (by simp) ?_
              refine AllReadyH.cons (by simp only [List.getElem?_toArray, List.getElem?_cons_succ, List.getElem?_cons_zero]; rfl) (fun Kq hKq => ?_) (AllReadyH.cons (by simp only [List.getElem?_toArray, List.getElem?_cons_succ, List.getElem?_cons_zero]; rfl) (fun Kq hKq => ?_) AllReadyH.nil)
              · go_simp
                refine hKq.out _ _ ?_ (fun hHeldN => ?_)
                · go_keep
                clear hKq Kq hHeld
                have hHeld := hHeldN
                clear hHeldN
                refine wpAnyH_ready (rs := [14]) (by kernel_rfl) (by simp) ?_
                refine AllReadyH.cons (by simp only [List.getElem?_toArray, List.getElem?_cons_succ, List.getElem?_cons_zero]; rfl) (fun Kq hKq => ?_) AllReadyH.nil
                go_simp
                refine hKq.out _ _ ?_ (fun hHeldN => ?_)
                · go_keep
                clear hKq Kq hHeld
                have hHeld := hHeldN
                clear hHeldN
                refine wpAnyH_ready (rs := [15]) (by kernel_rfl) (by simp) ?_
                refine AllReadyH.cons (by simp only [List.getElem?_toArray, List.getElem?_cons_succ, List.getElem?_cons_zero]; rfl) (fun Kq hKq => ?_) AllReadyH.nil
                go_simp
                refine hKq.out _ _ ?_ (fun hHeldN => ?_)
                · go_keep
                clear hKq Kq hHeld
                have hHeld := hHeldN
                clear hHeldN
                refine wpAnyH_ready (rs := [16]) (by kernel_rfl) (by simp) ?_
                refine AllReadyH.cons (by simp only [List.getElem?_toArray, List.getElem?_cons_succ, List.getElem?_cons_zero]; rfl) (fun Kq hKq => ?_) AllReadyH.nil
                go_simp
                refine hKq.out _ _ ?_ (fun hHeldN => ?_)
                · go_keep
                clear hKq Kq hHeld
                have hHeld := hHeldN
                clear hHeldN
                refine wpAnyH_ready (rs := [17]) (by kernel_rfl) (by simp) ?_
                refine AllReadyH.cons (by simp only [List.getElem?_toArray, List.getElem?_cons_succ, List.getElem?_cons_zero]; rfl) (fun Kq hKq => ?_) AllReadyH.nil
                (refine step_appW okT rfl (.tmp 222) (.tmp 228) rfl okI N ckI (x I).ks rfl HLN2.out.symm HOK.out (some ⟨wk.heap.size + 1, 0, none⟩) 1 1 [t1 B] rfl rfl (fun e => by cases e) HRW.out (by have := HN.out; have := HLN2.out; simp [TE]; omega) (by have := HN.out; have := HLN2.out; simp; omega) ?_; intro o2 c2' w2 ho2 hap2; obtain ⟨hq1, ⟨u3, hq2⟩, hq3, hng, S', hq4⟩ := HDP.out.moreK HI2.out.1 HG.out HNK.out ho2 (by rw [HOKI.out]; exact hap2); rw [HTL.out, HCI.out] at hq1; simp only [List.length_nil, Nat.zero_add] at hq1; have HQ4 : Hid _ := hq4; clear hq4 ho2 hap2)
                refine hKq.out _ _ ?_ (fun hHeldN => ?_)
                · go_keep
                clear hKq Kq hHeld
                have hHeld := hHeldN
                clear hHeldN
                refine wpAnyH_take (i := 18) (v := ?_) (by simp only [List.getElem?_toArray, List.getElem?_cons_succ, List.getElem?_cons_zero]; rfl) (by kernel_rfl) (by kernel_rfl) (by kernel_rfl) (by exact fun _ _ _ h => h) (Or.inl ⟨by rfl, ?_⟩) (by assumption) ?_
                rotate_left
                · (intro _ hSw; (try dsimp only at hSw); go_simp; (try with_reducible rfl))
                try simp only [Act.put, List.setIfInBounds_toArray, List.set_cons_zero, List.set_cons_succ]
                refine wpAnyH_take (i := 19) (v := ?_) (by simp only [List.getElem?_toArray, List.getElem?_cons_succ, List.getElem?_cons_zero]; rfl) (by kernel_rfl) (by kernel_rfl) (by kernel_rfl) (by exact fun _ _ _ h => h) (Or.inl ⟨by rfl, ?_⟩) (by assumption) ?_
                rotate_left
                · (intro _ hSw; (try dsimp only at hSw); go_simp; (try with_reducible rfl))
                try simp only [Act.put, List.setIfInBounds_toArray, List.set_cons_zero, List.set_cons_succ]
                refine wpAnyH_ready (rs := [20]) (by kernel_rfl) (by simp) ?_
                refine AllReadyH.cons (by simp only [List.getElem?_toArray, List.getElem?_cons_succ, List.getElem?_cons_zero]; rfl) (fun Kq hKq => ?_) AllReadyH.nil
                go_simp
                refine hKq.out _ _ ?_ (fun hHeldN => ?_)
                · go_keep
                clear hKq Kq hHeld
                have hHeld := hHeldN
                clear hHeldN
                refine wpAnyH_done (by kernel_rfl) ?_ _
                go_wp2_with fail
                go_meet
                go_light
                exact ⟨S', _, HQ4.out, o2, c2', if_pos rfl, fun j hj => if_neg hj⟩
              · go_simp
                refine hKq.out _ _ ?_ (fun hHeldN => ?_)
                · go_keep
                clear hKq Kq hHeld
                have hHeld := hHeldN
                clear hHeldN
                refine wpAnyH_ready (rs := [10, 15]) (by kernel_rfl) (by simp) ?_
                refine AllReadyH.cons (by simp only [List.getElem?_toArray, List.getElem?_cons_succ, List.getElem?_cons_zero]; rfl) (fun Kq hKq => ?_) (AllReadyH.cons (by simp only [List.getElem?_toArray, List.getElem?_cons_succ, List.getElem?_cons_zero]; rfl) (fun Kq hKq => ?_) AllReadyH.nil)
                · go_simp
                  refine hKq.out _ _ ?_ (fun hHeldN => ?_)
                  · go_keep
                  clear hKq Kq hHeld
                  have hHeld := hHeldN
                  clear hHeldN
                  refine wpAnyH_ready (rs := [15]) (by kernel_rfl) (by simp) ?_
                  refine AllReadyH.cons (by simp only [List.getElem?_toArray, List.getElem?_cons_succ, List.getElem?_cons_zero]; rfl) (fun Kq hKq => ?_) AllReadyH.nil
                  go_simp
                  refine hKq.out _ _ ?_ (fun hHeldN => ?_)
                  · go_keep
                  clear hKq Kq hHeld
                  have hHeld := hHeldN
                  clear hHeldN
                  refine wpAnyH_ready (rs := [16]) (by kernel_rfl) (by simp) ?_
                  refine AllReadyH.cons (by simp only [List.getElem?_toArray, List.getElem?_cons_succ, List.getElem?_cons_zero]; rfl) (fun Kq hKq => ?_) AllReadyH.nil
                  go_simp
                  refine hKq.out _ _ ?_ (fun hHeldN => ?_)
                  · go_keep
                  clear hKq Kq hHeld
                  have hHeld := hHeldN
                  clear hHeldN
                  refine wpAnyH_ready (rs := [17]) (by kernel_rfl) (by simp) ?_
                  refine AllReadyH.cons (by simp only [List.getElem?_toArray, List.getElem?_cons_succ, List.getElem?_cons_zero]; rfl) (fun Kq hKq => ?_) AllReadyH.nil
                  (refine step_appW okT rfl (.tmp 222) (.tmp 228) rfl okI N ckI (x I).ks rfl HLN2.out.symm HOK.out (some ⟨wk.heap.size + 1, 0, none⟩) 1 1 [t1 B] rfl rfl (fun e => by cases e) HRW.out (by have := HN.out; have := HLN2.out; simp [TE]; omega) (by have := HN.out; have := HLN2.out; simp; omega) ?_; intro o2 c2' w2 ho2 hap2; obtain ⟨hq1, ⟨u3, hq2⟩, hq3, hng, S', hq4⟩ := HDP.out.moreK HI2.out.1 HG.out HNK.out ho2 (by rw [HOKI.out]; exact hap2); rw [HTL.out, HCI.out] at hq1; simp only [List.length_nil, Nat.zero_add] at hq1; have HQ4 : Hid _ := hq4; clear hq4 ho2 hap2)
                  refine hKq.out _ _ ?_ (fun hHeldN => ?_)
                  · go_keep
                  clear hKq Kq hHeld
                  have hHeld := hHeldN
                  clear hHeldN
                  refine wpAnyH_take (i := 18) (v := ?_) (by simp only [List.getElem?_toArray, List.getElem?_cons_succ, List.getElem?_cons_zero]; rfl) (by kernel_rfl) (by kernel_rfl) (by kernel_rfl) (by exact fun _ _ _ h => h) (Or.inl ⟨by rfl, ?_⟩) (by assumption) ?_
                  rotate_left
                  · (intro _ hSw; (try dsimp only at hSw); go_simp; (try with_reducible rfl))
                  try simp only [Act.put, List.setIfInBounds_toArray, List.set_cons_zero, List.set_cons_succ]
                  refine wpAnyH_take (i := 19) (v := ?_) (by simp only [List.getElem?_toArray, List.getElem?_cons_succ, List.getElem?_cons_zero]; rfl) (by kernel_rfl) (by kernel_rfl) (by kernel_rfl) (by exact fun _ _ _ h => h) (Or.inl ⟨by rfl, ?_⟩) (by assumption) ?_
                  rotate_left
                  · (intro _ hSw; (try dsimp only at hSw); go_simp; (try with_reducible rfl))
                  try simp only [Act.put, List.setIfInBounds_toArray, List.set_cons_zero, List.set_cons_succ]
                  refine wpAnyH_ready (rs := [20]) (by kernel_rfl) (by simp) ?_
                  refine AllReadyH.cons (by simp only [List.getElem?_toArray, List.getElem?_cons_succ, List.getElem?_cons_zero]; rfl) (fun Kq hKq => ?_) AllReadyH.nil
                  go_simp
                  refine hKq.out _ _ ?_ (fun hHeldN => ?_)
                  · go_keep
                  clear hKq Kq hHeld
                  have hHeld := hHeldN
                  clear hHeldN
                  refine wpAnyH_done (by kernel_rfl) ?_ _
                  go_wp2_with fail
                  go_meet
                  go_light
                  exact ⟨S', _, HQ4.out, o2, c2', if_pos rfl, fun j hj => if_neg hj⟩
                · go_simp
                  refine hKq.out _ _ ?_ (fun hHeldN => ?_)
                  · go_keep
                  clear hKq Kq hHeld
                  have hHeld := hHeldN
                  clear hHeldN
                  refine wpAnyH_ready (rs := [10, 16]) (by kernel_rfl) (by simp) ?_
                  refine AllReadyH.cons (by simp only [List.getElem?_toArray, List.getElem?_cons_succ, List.getElem?_cons_zero]; rfl) (fun Kq hKq => ?_) (AllReadyH.cons (by simp only [List.getElem?_toArray, List.getElem?_cons_succ, List.getElem?_cons_zero]; rfl) (fun Kq hKq => ?_) AllReadyH.nil)
                  · go_simp
                    refine hKq.out _ _ ?_ (fun hHeldN => ?_)
                    · go_keep
                    clear hKq Kq hHeld
                    have hHeld := hHeldN
                    clear hHeldN
                    refine wpAnyH_ready (rs := [16]) (by kernel_rfl) (by simp) ?_
                    refine AllReadyH.cons (by simp only [List.getElem?_toArray, List.getElem?_cons_succ, List.getElem?_cons_zero]; rfl) (fun Kq hKq => ?_) AllReadyH.nil
                    go_simp
                    refine hKq.out _ _ ?_ (fun hHeldN => ?_)
                    · go_keep
                    clear hKq Kq hHeld
                    have hHeld := hHeldN
                    clear hHeldN
                    refine wpAnyH_ready (rs := [17]) (by kernel_rfl) (by simp) ?_
                    refine AllReadyH.cons (by simp only [List.getElem?_toArray, List.getElem?_cons_succ, List.getElem?_cons_zero]; rfl) (fun Kq hKq => ?_) AllReadyH.nil
                    (refine step_appW okT rfl (.tmp 222) (.tmp 228) rfl okI N ckI (x I).ks rfl HLN2.out.symm HOK.out (some ⟨wk.heap.size + 1, 0, none⟩) 1 1 [t1 B] rfl rfl (fun e => by cases e) HRW.out (by have := HN.out; have := HLN2.out; simp [TE]; omega) (by have := HN.out; have := HLN2.out; simp; omega) ?_; intro o2 c2' w2 ho2 hap2; obtain ⟨hq1, ⟨u3, hq2⟩, hq3, hng, S', hq4⟩ := HDP.out.moreK HI2.out.1 HG.out HNK.out ho2 (by rw [HOKI.out]; exact hap2); rw [HTL.out, HCI.out] at hq1; simp only [List.length_nil, Nat.zero_add] at hq1; have HQ4 : Hid _ := hq4; clear hq4 ho2 hap2)
                    refine hKq.out _ _ ?_ (fun hHeldN => ?_)
                    · go_keep
                    clear hKq Kq hHeld
                    have hHeld := hHeldN
                    clear hHeldN
                    refine wpAnyH_take (i := 18) (v := ?_) (by simp only [List.getElem?_toArray, List.getElem?_cons_succ, List.getElem?_cons_zero]; rfl) (by kernel_rfl) (by kernel_rfl) (by kernel_rfl) (by exact fun _ _ _ h => h) (Or.inl ⟨by rfl, ?_⟩) (by assumption) ?_
                    rotate_left
                    · (intro _ hSw; (try dsimp only at hSw); go_simp; (try with_reducible rfl))
                    try simp only [Act.put, List.setIfInBounds_toArray, List.set_cons_zero, List.set_cons_succ]
                    refine wpAnyH_take (i := 19) (v := ?_) (by simp only [List.getElem?_toArray, List.getElem?_cons_succ, List.getElem?_cons_zero]; rfl) (by kernel_rfl) (by kernel_rfl) (by kernel_rfl) (by exact fun _ _ _ h => h) (Or.inl ⟨by rfl, ?_⟩) (by assumption) ?_
                    rotate_left
                    · (intro _ hSw; (try dsimp only at hSw); go_simp; (try with_reducible rfl))
                    try simp only [Act.put, List.setIfInBounds_toArray, List.set_cons_zero, List.set_cons_succ]
                    refine wpAnyH_ready (rs := [20]) (by kernel_rfl) (by simp) ?_
                    refine AllReadyH.cons (by simp only [List.getElem?_toArray, List.getElem?_cons_succ, List.getElem?_cons_zero]; rfl) (fun Kq hKq => ?_) AllReadyH.nil
                    go_simp
                    refine hKq.out _ _ ?_ (fun hHeldN => ?_)
                    · go_keep
                    clear hKq Kq hHeld
                    have hHeld := hHeldN
                    clear hHeldN
                    refine wpAnyH_done (by kernel_rfl) ?_ _
                    go_wp2_with fail
                    go_meet
                    go_light
                    exact ⟨S', _, HQ4.out, o2, c2', if_pos rfl, fun j hj => if_neg hj⟩
                  · go_simp
                    refine hKq.out _ _ ?_ (fun hHeldN => ?_)
                    · go_keep
                    clear hKq Kq hHeld
                    have hHeld := hHeldN
                    clear hHeldN
                    refine wpAnyH_ready (rs := [10]) (by kernel_rfl) (by simp) ?_
                    refine AllReadyH.cons (by simp only [List.getElem?_toArray, List.getElem?_cons_succ, List.getElem?_cons_zero]; rfl) (fun Kq hKq => ?_) AllReadyH.nil
                    go_simp
                    refine hKq.out _ _ ?_ (fun hHeldN => ?_)
                    · go_keep
                    clear hKq Kq hHeld
                    have hHeld := hHeldN
                    clear hHeldN
                    refine wpAnyH_ready (rs := [17]) (by kernel_rfl) (by simp) ?_
                    refine AllReadyH.cons (by simp only [List.getElem?_toArray, List.getElem?_cons_succ, List.getElem?_cons_zero]; rfl) (fun Kq hKq => ?_) AllReadyH.nil
                    (refine step_appW okT rfl (.tmp 222) (.tmp 228) rfl okI N ckI (x I).ks rfl HLN2.out.symm HOK.out (some ⟨wk.heap.size + 1, 0, none⟩) 1 1 [t1 B] rfl rfl (fun e => by cases e) HRW.out (by have := HN.out; have := HLN2.out; simp [TE]; omega) (by have := HN.out; have := HLN2.out; simp; omega) ?_; intro o2 c2' w2 ho2 hap2; obtain ⟨hq1, ⟨u3, hq2⟩, hq3, hng, S', hq4⟩ := HDP.out.moreK HI2.out.1 HG.out HNK.out ho2 (by rw [HOKI.out]; exact hap2); rw [HTL.out, HCI.out] at hq1; simp only [List.length_nil, Nat.zero_add] at hq1; have HQ4 : Hid _ := hq4; clear hq4 ho2 hap2)
                    refine hKq.out _ _ ?_ (fun hHeldN => ?_)
                    · go_keep
                    clear hKq Kq hHeld
                    have hHeld := hHeldN
                    clear hHeldN
                    refine wpAnyH_take (i := 18) (v := ?_) (by simp only [List.getElem?_toArray, List.getElem?_cons_succ, List.getElem?_cons_zero]; rfl) (by kernel_rfl) (by kernel_rfl) (by kernel_rfl) (by exact fun _ _ _ h => h) (Or.inl ⟨by rfl, ?_⟩) (by assumption) ?_
                    rotate_left
                    · (intro _ hSw; (try dsimp only at hSw); go_simp; (try with_reducible rfl))
                    try simp only [Act.put, List.setIfInBounds_toArray, List.set_cons_zero, List.set_cons_succ]
                    refine wpAnyH_take (i := 19) (v := ?_) (by simp only [List.getElem?_toArray, List.getElem?_cons_succ, List.getElem?_cons_zero]; rfl) (by kernel_rfl) (by kernel_rfl) (by kernel_rfl) (by exact fun _ _ _ h => h) (Or.inl ⟨by rfl, ?_⟩) (by assumption) ?_
                    rotate_left
                    · (intro _ hSw; (try dsimp only at hSw); go_simp; (try with_reducible rfl))
                    try simp only [Act.put, List.setIfInBounds_toArray, List.set_cons_zero, List.set_cons_succ]
                    refine wpAnyH_ready (rs := [20]) (by kernel_rfl) (by simp) ?_
                    refine AllReadyH.cons (by simp only [List.getElem?_toArray, List.getElem?_cons_succ, List.getElem?_cons_zero]; rfl) (fun Kq hKq => ?_) AllReadyH.nil
                    go_simp
                    refine hKq.out _ _ ?_ (fun hHeldN => ?_)
                    · go_keep
                    clear hKq Kq hHeld
                    have hHeld := hHeldN
                    clear hHeldN
                    refine wpAnyH_done (by kernel_rfl) ?_ _
                    go_wp2_with fail
                    go_meet
                    go_light
                    exact ⟨S', _, HQ4.out, o2, c2', if_pos rfl, fun j hj => if_neg hj⟩
            case rest =>
              rename World => wm
              obtain ⟨S1, x1, HD1, HX1⟩ := hcut
              obtain ⟨o1, c1', hx1, hx2⟩ := HX1.out
              have HX1I : Hid _ := hx1
              have HX1J : Hid _ := hx2
              clear hx1 hx2 HX1 HD
              go_wp2_with fail
              obtain ⟨g, hg, hSg, c1, _, _, c2, c3, _⟩ := HD1.out.at HI2.out.1
              have HG : Hid ((x1 I).o = some ⟨g, 0, none⟩) := hg
              have htl : (x1 I).tl = [] := by rw [HX1I.out]; exact HF.out.tl I HI2.out.1
              rw [htl] at c1
              simp only [List.length_nil, Nat.zero_add] at c1
              have HLN2 : Hid ((x1 I).ps.length = N) := by rw [HX1I.out, ← HN.out.2.1]; exact (HF.out.len I HI2.out.1).2
              have HNK : Hid ((x1 I).v.np = N) := (HD1.out.b I HI2.out.1).np.trans HLN2.out
              have HDP : Hid (Duo W0 T gL S1 x1 ((wm.alloc (.cells #[.int .u8 (B : Int)] 5)).alloc (.cells #[.string (t1 B), .string ⟨#[]⟩] 50)).drew) := HD1.out.keepsN ((((Keeps.refl no wm).alloc _).alloc _).drew)
              have HOK : Hid (Own PE ((wm.alloc (.cells #[.int .u8 (B : Int)] 5)).alloc (.cells #[.string (t1 B), .string ⟨#[]⟩] 50)).drew (x1 I).v.op (x1 I).v.cp (x1 I).ps) := (HDP.out.b I HI2.out.1).p
              have HRW : Hid (Row PE ((wm.alloc (.cells #[.int .u8 (B : Int)] 5)).alloc (.cells #[.string (t1 B), .string ⟨#[]⟩] 50)).drew (some ⟨wm.heap.size + 1, 0, none⟩) [(t1 B, ⟨#[]⟩)]) := own_oneQ2 wm _ _ _
              have HTL : Hid ((x1 I).tl = []) := htl
              rw [HNK.out] at c2
              have ca := (((Keeps.refl no wm).alloc (.cells #[.int .u8 (B : Int)] 5)).drew).cellN c2
              have cb := ((((Keeps.refl no wm).alloc (.cells #[.int .u8 (B : Int)] 5)).alloc (.cells #[.string (t1 B), .string ⟨#[]⟩] 50)).drew).cellN c2
              have hcv := run_t1 ((wm.alloc (.cells #[.int .u8 (B : Int)] 5)).drew) wm.heap.size B HB.out.2 (blk_new wm _)
              clear hg hSg htl c3
              generalize hcI : (x1 I).c = cI at c1
              have HCI : Hid ((x1 I).c = cI) := hcI
              generalize hok : (x1 I).v.op = okI at c2 ca cb HOK
              generalize hck : (x1 I).v.cp = ckI at c2 ca cb HOK
              have HOKI : Hid ((x1 I).v.op = okI) := hok
              clear hcI hok hck
              refine wp_region_held_drew (S := (fun X => X.cell? ⟨gL, I, none⟩ = some (.slice (some ⟨g, 0, none⟩) 2 cI))) (by kernel_rfl) ?_ (fun hHeld => ?_)
              · go_keep
              refine wpAnyH_take (i := 0) (v := ?_) (by simp only [List.getElem?_toArray, List.getElem?_cons_succ, List.getElem?_cons_zero]; rfl) (by kernel_rfl) (by kernel_rfl) (by kernel_rfl) (by exact fun _ _ _ h => h) (Or.inl ⟨by rfl, ?_⟩) (by assumption) ?_
              rotate_left
              · (intro _ hSw; (try dsimp only at hSw); go_simp; (try with_reducible rfl))
              try simp only [Act.put, List.setIfInBounds_toArray, List.set_cons_zero, List.set_cons_succ]
              refine wpAnyH_take (i := 1) (v := ?_) (by simp only [List.getElem?_toArray, List.getElem?_cons_succ, List.getElem?_cons_zero]; rfl) (by kernel_rfl) (by kernel_rfl) (by kernel_rfl) (by exact fun _ _ _ h => h) (Or.inl ⟨by rfl, ?_⟩) (by assumption) ?_
              rotate_left
              · (intro _ hSw; (try dsimp only at hSw); go_simp; (try with_reducible rfl))
              try simp only [Act.put, List.setIfInBounds_toArray, List.set_cons_zero, List.set_cons_succ]
              refine wpAnyH_take (i := 2) (v := ?_) (by simp only [List.getElem?_toArray, List.getElem?_cons_succ, List.getElem?_cons_zero]; rfl) (by kernel_rfl) (by kernel_rfl) (by kernel_rfl) (by exact fun _ _ _ h => h) (Or.inl ⟨by rfl, ?_⟩) (by assumption) ?_
              rotate_left
              · (intro _ hSw; (try dsimp only at hSw); go_simp; (try with_reducible rfl))
              try simp only [Act.put, List.setIfInBounds_toArray, List.set_cons_zero, List.set_cons_succ]
              refine wpAnyH_take (i := 3) (v := ?_) (by simp only [List.getElem?_toArray, List.getElem?_cons_succ, List.getElem?_cons_zero]; rfl) (by kernel_rfl) (by kernel_rfl) (by kernel_rfl) (by exact fun _ _ _ h => h) (Or.inl ⟨by rfl, ?_⟩) (by assumption) ?_
              rotate_left
              · (intro _ hSw; (try dsimp only at hSw); go_simp; (try with_reducible rfl))
              try simp only [Act.put, List.setIfInBounds_toArray, List.set_cons_zero, List.set_cons_succ]
              refine wpAnyH_take (i := 4) (v := ?_) (by simp only [List.getElem?_toArray, List.getElem?_cons_succ, List.getElem?_cons_zero]; rfl) (by kernel_rfl) (by kernel_rfl) (by kernel_rfl) (by exact fun _ _ _ h => h) (Or.inl ⟨by rfl, ?_⟩) (by assumption) ?_
              rotate_left
              · (intro _ hSw; (try dsimp only at hSw); go_simp; (try with_reducible rfl))
              try simp only [Act.put, List.setIfInBounds_toArray, List.set_cons_zero, List.set_cons_succ]
              refine wpAnyH_take (i := 5) (v := ?_) (by simp only [List.getElem?_toArray, List.getElem?_cons_succ, List.getElem?_cons_zero]; rfl) (by kernel_rfl) (by kernel_rfl) (by kernel_rfl) (by exact fun _ _ _ h => h) (Or.inl ⟨by rfl, ?_⟩) (by assumption) ?_
              rotate_left
              · (intro _ hSw; (try dsimp only at hSw); go_simp; (try with_reducible rfl))
              try simp only [Act.put, List.setIfInBounds_toArray, List.set_cons_zero, List.set_cons_succ]
              refine wpAnyH_take (i := 6) (v := ?_) (by simp only [List.getElem?_toArray, List.getElem?_cons_succ, List.getElem?_cons_zero]; rfl) (by kernel_rfl) (by kernel_rfl) (by kernel_rfl) (by exact fun _ _ _ h => h) (Or.inl ⟨by rfl, ?_⟩) (by assumption) ?_
              rotate_left
              · (intro _ hSw; (try dsimp only at hSw); go_simp; (try with_reducible rfl))
              try simp only [Act.put, List.setIfInBounds_toArray, List.set_cons_zero, List.set_cons_succ]
              refine wpAnyH_take (i := 7) (v := ?_) (by simp only [List.getElem?_toArray, List.getElem?_cons_succ, List.getElem?_cons_zero]; rfl) (by kernel_rfl) (by kernel_rfl) (by kernel_rfl) (by exact fun _ _ _ h => h) (Or.inl ⟨by rfl, ?_⟩) (by assumption) ?_
              rotate_left
              · (intro _ hSw; (try dsimp only at hSw); go_simp; (try with_reducible rfl))
              try simp only [Act.put, List.setIfInBounds_toArray, List.set_cons_zero, List.set_cons_succ]
              refine wpAnyH_take (i := 8) (v := ?_) (by simp only [List.getElem?_toArray, List.getElem?_cons_succ, List.getElem?_cons_zero]; rfl) (by kernel_rfl) (by kernel_rfl) (by kernel_rfl) (by exact fun _ _ _ h => h) (Or.inl ⟨by rfl, ?_⟩) (by assumption) ?_
              rotate_left
              · (intro _ hSw; (try dsimp only at hSw); go_simp; (try with_reducible rfl))
              try simp only [Act.put, List.setIfInBounds_toArray, List.set_cons_zero, List.set_cons_succ]
              refine wpAnyH_take (i := 9) (v := ?_) (by simp only [List.getElem?_toArray, List.getElem?_cons_succ, List.getElem?_cons_zero]; rfl) (by kernel_rfl) (by kernel_rfl) (by kernel_rfl) (by exact fun _ _ _ h => h) (Or.inl ⟨by rfl, ?_⟩) (by assumption) ?_
              rotate_left
              · (intro _ hSw; (try dsimp only at hSw); go_simp; (try with_reducible rfl))
              try simp only [Act.put, List.setIfInBounds_toArray, List.set_cons_zero, List.set_cons_succ]
              refine wpAnyH_take (i := 11) (v := ?_) (by simp only [List.getElem?_toArray, List.getElem?_cons_succ, List.getElem?_cons_zero]; rfl) (by kernel_rfl) (by kernel_rfl) (by kernel_rfl) (by exact fun _ _ _ h => h) (Or.inl ⟨by rfl, ?_⟩) (by assumption) ?_
              rotate_left
              · (intro _ hSw; (try dsimp only at hSw); go_simp; (try with_reducible rfl))
              try simp only [Act.put, List.setIfInBounds_toArray, List.set_cons_zero, List.set_cons_succ]
              refine wpAnyH_take (i := 12) (v := ?_) (by simp only [List.getElem?_toArray, List.getElem?_cons_succ, List.getElem?_cons_zero]; rfl) (by kernel_rfl) (by kernel_rfl) (by kernel_rfl) (by exact fun _ _ _ h => h) (Or.inl ⟨by rfl, ?_⟩) (by assumption) ?_
              rotate_left
              · (intro _ hSw; (try dsimp only at hSw); go_simp; (try with_reducible rfl))
              try simp only [Act.put, List.setIfInBounds_toArray, List.set_cons_zero, List.set_cons_succ]
              refine wpAnyH_take (i := 13) (v := ?_) (by simp only [List.getElem?_toArray, List.getElem?_cons_succ, List.getElem?_cons_zero]; rfl) (by kernel_rfl) (by kernel_rfl) (by kernel_rfl) (by exact fun _ _ _ h => h) (Or.inl ⟨by rfl, ?_⟩) (by assumption) ?_
              rotate_left
              · (intro _ hSw; (try dsimp only at hSw); go_simp; (try with_reducible rfl))
              try simp only [Act.put, List.setIfInBounds_toArray, List.set_cons_zero, List.set_cons_succ]
              refine wpAnyH_ready (rs := [10, 14]) (by kernel_rfl) (by simp) ?_
              refine AllReadyH.cons (by simp only [List.getElem?_toArray, List.getElem?_cons_succ, List.getElem?_cons_zero]; rfl) (fun Kq hKq => ?_) (AllReadyH.cons (by simp only [List.getElem?_toArray, List.getElem?_cons_succ, List.getElem?_cons_zero]; rfl) (fun Kq hKq => ?_) AllReadyH.nil)
              · go_simp
                refine hKq.out _ _ ?_ (fun hHeldN => ?_)
                · go_keep
                clear hKq Kq hHeld
                have hHeld := hHeldN
                clear hHeldN
                refine wpAnyH_ready (rs := [14]) (by kernel_rfl) (by simp) ?_
                refine AllReadyH.cons (by simp only [List.getElem?_toArray, List.getElem?_cons_succ, List.getElem?_cons_zero]; rfl) (fun Kq hKq => ?_) AllReadyH.nil
                go_simp
                refine hKq.out _ _ ?_ (fun hHeldN => ?_)
                · go_keep
                clear hKq Kq hHeld
                have hHeld := hHeldN
                clear hHeldN
                refine wpAnyH_ready (rs := [15]) (by kernel_rfl) (by simp) ?_
                refine AllReadyH.cons (by simp only [List.getElem?_toArray, List.getElem?_cons_succ, List.getElem?_cons_zero]; rfl) (fun Kq hKq => ?_) AllReadyH.nil
                go_simp
                refine hKq.out _ _ ?_ (fun hHeldN => ?_)
                · go_keep
                clear hKq Kq hHeld
                have hHeld := hHeldN
                clear hHeldN
                refine wpAnyH_take (i := 16) (v := ?_) (by simp only [List.getElem?_toArray, List.getElem?_cons_succ, List.getElem?_cons_zero]; rfl) (by kernel_rfl) (by kernel_rfl) (by kernel_rfl) (by exact fun _ _ _ h => h) (Or.inl ⟨by rfl, ?_⟩) (by assumption) ?_
                rotate_left
                · (intro _ hSw; (try dsimp only at hSw); go_simp; (try with_reducible rfl))
                try simp only [Act.put, List.setIfInBounds_toArray, List.set_cons_zero, List.set_cons_succ]
                refine wpAnyH_ready (rs := [17]) (by kernel_rfl) (by simp) ?_
                refine AllReadyH.cons (by simp only [List.getElem?_toArray, List.getElem?_cons_succ, List.getElem?_cons_zero]; rfl) (fun Kq hKq => ?_) AllReadyH.nil
                go_simp
                refine hKq.out _ _ ?_ (fun hHeldN => ?_)
                · go_keep
                clear hKq Kq hHeld
                have hHeld := hHeldN
                clear hHeldN
                refine wpAnyH_ready (rs := [18]) (by kernel_rfl) (by simp) ?_
                refine AllReadyH.cons (by simp only [List.getElem?_toArray, List.getElem?_cons_succ, List.getElem?_cons_zero]; rfl) (fun Kq hKq => ?_) AllReadyH.nil
                (refine step_appW okP rfl (.tmp 242) (.tmp 249) rfl okI N ckI (x1 I).ps rfl HLN2.out.symm HOK.out (some ⟨wm.heap.size + 1, 0, none⟩) 1 1 [(t1 B, ⟨#[]⟩)] rfl rfl (fun e => by cases e) HRW.out (by have := HN.out; have := HLN2.out; simp [PE]; omega) (by have := HN.out; have := HLN2.out; simp; omega) ?_; intro o2 c2' w2 ho2 hap2; obtain ⟨hq1, ⟨u3, hq2⟩, hq3, hng, S', hq4⟩ := HDP.out.moreP HI2.out.1 HG.out HNK.out ho2 (by rw [HOKI.out]; exact hap2); rw [HTL.out, HCI.out] at hq1; simp only [List.length_nil, Nat.zero_add] at hq1; have HQ4 : Hid _ := hq4; clear hq4 ho2 hap2)
                refine hKq.out _ _ ?_ (fun hHeldN => ?_)
                · go_keep
                clear hKq Kq hHeld
                have hHeld := hHeldN
                clear hHeldN
                refine wpAnyH_take (i := 19) (v := ?_) (by simp only [List.getElem?_toArray, List.getElem?_cons_succ, List.getElem?_cons_zero]; rfl) (by kernel_rfl) (by kernel_rfl) (by kernel_rfl) (by exact fun _ _ _ h => h) (Or.inl ⟨by rfl, ?_⟩) (by assumption) ?_
                rotate_left
                · (intro _ hSw; (try dsimp only at hSw); go_simp; (try with_reducible rfl))
                try simp only [Act.put, List.setIfInBounds_toArray, List.set_cons_zero, List.set_cons_succ]
                refine wpAnyH_take (i := 20) (v := ?_) (by simp only [List.getElem?_toArray, List.getElem?_cons_succ, List.getElem?_cons_zero]; rfl) (by kernel_rfl) (by kernel_rfl) (by kernel_rfl) (by exact fun _ _ _ h => h) (Or.inl ⟨by rfl, ?_⟩) (by assumption) ?_
                rotate_left
                · (intro _ hSw; (try dsimp only at hSw); go_simp; (try with_reducible rfl))
                try simp only [Act.put, List.setIfInBounds_toArray, List.set_cons_zero, List.set_cons_succ]
                refine wpAnyH_ready (rs := [21]) (by kernel_rfl) (by simp) ?_
                refine AllReadyH.cons (by simp only [List.getElem?_toArray, List.getElem?_cons_succ, List.getElem?_cons_zero]; rfl) (fun Kq hKq => ?_) AllReadyH.nil
                go_simp
                refine hKq.out _ _ ?_ (fun hHeldN => ?_)
                · go_keep
                clear hKq Kq hHeld
                have hHeld := hHeldN
                clear hHeldN
                refine wpAnyH_done (by kernel_rfl) ?_ _
                have HF2 : Hid _ := more_round HF.out HI2.out.1 HN.out.2.1 HB.out.1 HX1I.out HX1J.out o2 c2'
                clear hHeld hq1 hq2 hq3 hng
                go_wp2_with fail
                go_roundw
                case rel => go_light; exact ⟨K + 1, S', _, by go_num, by omega, HQ4, HF2⟩
                case measure => go_light; simp [intOf]; omega
              · go_simp
                refine hKq.out _ _ ?_ (fun hHeldN => ?_)
                · go_keep
                clear hKq Kq hHeld
                have hHeld := hHeldN
                clear hHeldN
                refine wpAnyH_ready (rs := [10, 15]) (by kernel_rfl) (by simp) ?_
                refine AllReadyH.cons (by simp only [List.getElem?_toArray, List.getElem?_cons_succ, List.getElem?_cons_zero]; rfl) (fun Kq hKq => ?_) (AllReadyH.cons (by simp only [List.getElem?_toArray, List.getElem?_cons_succ, List.getElem?_cons_zero]; rfl) (fun Kq hKq => ?_) AllReadyH.nil)
                · go_simp
                  refine hKq.out _ _ ?_ (fun hHeldN => ?_)
                  · go_keep
                  clear hKq Kq hHeld
                  have hHeld := hHeldN
                  clear hHeldN
                  refine wpAnyH_ready (rs := [15]) (by kernel_rfl) (by simp) ?_
                  refine AllReadyH.cons (by simp only [List.getElem?_toArray, List.getElem?_cons_succ, List.getElem?_cons_zero]; rfl) (fun Kq hKq => ?_) AllReadyH.nil
                  go_simp
                  refine hKq.out _ _ ?_ (fun hHeldN => ?_)
                  · go_keep
                  clear hKq Kq hHeld
                  have hHeld := hHeldN
                  clear hHeldN
                  refine wpAnyH_take (i := 16) (v := ?_) (by simp only [List.getElem?_toArray, List.getElem?_cons_succ, List.getElem?_cons_zero]; rfl) (by kernel_rfl) (by kernel_rfl) (by kernel_rfl) (by exact fun _ _ _ h => h) (Or.inl ⟨by rfl, ?_⟩) (by assumption) ?_
                  rotate_left
                  · (intro _ hSw; (try dsimp only at hSw); go_simp; (try with_reducible rfl))
                  try simp only [Act.put, List.setIfInBounds_toArray, List.set_cons_zero, List.set_cons_succ]
                  refine wpAnyH_ready (rs := [17]) (by kernel_rfl) (by simp) ?_
                  refine AllReadyH.cons (by simp only [List.getElem?_toArray, List.getElem?_cons_succ, List.getElem?_cons_zero]; rfl) (fun Kq hKq => ?_) AllReadyH.nil
                  go_simp
                  refine hKq.out _ _ ?_ (fun hHeldN => ?_)
                  · go_keep
                  clear hKq Kq hHeld
                  have hHeld := hHeldN
                  clear hHeldN
                  refine wpAnyH_ready (rs := [18]) (by kernel_rfl) (by simp) ?_
                  refine AllReadyH.cons (by simp only [List.getElem?_toArray, List.getElem?_cons_succ, List.getElem?_cons_zero]; rfl) (fun Kq hKq => ?_) AllReadyH.nil
                  (refine step_appW okP rfl (.tmp 242) (.tmp 249) rfl okI N ckI (x1 I).ps rfl HLN2.out.symm HOK.out (some ⟨wm.heap.size + 1, 0, none⟩) 1 1 [(t1 B, ⟨#[]⟩)] rfl rfl (fun e => by cases e) HRW.out (by have := HN.out; have := HLN2.out; simp [PE]; omega) (by have := HN.out; have := HLN2.out; simp; omega) ?_; intro o2 c2' w2 ho2 hap2; obtain ⟨hq1, ⟨u3, hq2⟩, hq3, hng, S', hq4⟩ := HDP.out.moreP HI2.out.1 HG.out HNK.out ho2 (by rw [HOKI.out]; exact hap2); rw [HTL.out, HCI.out] at hq1; simp only [List.length_nil, Nat.zero_add] at hq1; have HQ4 : Hid _ := hq4; clear hq4 ho2 hap2)
                  refine hKq.out _ _ ?_ (fun hHeldN => ?_)
                  · go_keep
                  clear hKq Kq hHeld
                  have hHeld := hHeldN
                  clear hHeldN
                  refine wpAnyH_take (i := 19) (v := ?_) (by simp only [List.getElem?_toArray, List.getElem?_cons_succ, List.getElem?_cons_zero]; rfl) (by kernel_rfl) (by kernel_rfl) (by kernel_rfl) (by exact fun _ _ _ h => h) (Or.inl ⟨by rfl, ?_⟩) (by assumption) ?_
                  rotate_left
                  · (intro _ hSw; (try dsimp only at hSw); go_simp; (try with_reducible rfl))
                  try simp only [Act.put, List.setIfInBounds_toArray, List.set_cons_zero, List.set_cons_succ]
                  refine wpAnyH_take (i := 20) (v := ?_) (by simp only [List.getElem?_toArray, List.getElem?_cons_succ, List.getElem?_cons_zero]; rfl) (by kernel_rfl) (by kernel_rfl) (by kernel_rfl) (by exact fun _ _ _ h => h) (Or.inl ⟨by rfl, ?_⟩) (by assumption) ?_
                  rotate_left
                  · (intro _ hSw; (try dsimp only at hSw); go_simp; (try with_reducible rfl))
                  try simp only [Act.put, List.setIfInBounds_toArray, List.set_cons_zero, List.set_cons_succ]
                  refine wpAnyH_ready (rs := [21]) (by kernel_rfl) (by simp) ?_
                  refine AllReadyH.cons (by simp only [List.getElem?_toArray, List.getElem?_cons_succ, List.getElem?_cons_zero]; rfl) (fun Kq hKq => ?_) AllReadyH.nil
                  go_simp
                  refine hKq.out _ _ ?_ (fun hHeldN => ?_)
                  · go_keep
                  clear hKq Kq hHeld
                  have hHeld := hHeldN
                  clear hHeldN
                  refine wpAnyH_done (by kernel_rfl) ?_ _
                  have HF2 : Hid _ := more_round HF.out HI2.out.1 HN.out.2.1 HB.out.1 HX1I.out HX1J.out o2 c2'
                  clear hHeld hq1 hq2 hq3 hng
                  go_wp2_with fail
                  go_roundw
                  case rel => go_light; exact ⟨K + 1, S', _, by go_num, by omega, HQ4, HF2⟩
                  case measure => go_light; simp [intOf]; omega
                · go_simp
                  refine hKq.out _ _ ?_ (fun hHeldN => ?_)
                  · go_keep
                  clear hKq Kq hHeld
                  have hHeld := hHeldN
                  clear hHeldN
                  refine wpAnyH_take (i := 16) (v := ?_) (by simp only [List.getElem?_toArray, List.getElem?_cons_succ, List.getElem?_cons_zero]; rfl) (by kernel_rfl) (by kernel_rfl) (by kernel_rfl) (by exact fun _ _ _ h => h) (Or.inl ⟨by rfl, ?_⟩) (by assumption) ?_
                  rotate_left
                  · (intro _ hSw; (try dsimp only at hSw); go_simp; (try with_reducible rfl))
                  try simp only [Act.put, List.setIfInBounds_toArray, List.set_cons_zero, List.set_cons_succ]
                  refine wpAnyH_ready (rs := [10, 17]) (by kernel_rfl) (by simp) ?_
                  refine AllReadyH.cons (by simp only [List.getElem?_toArray, List.getElem?_cons_succ, List.getElem?_cons_zero]; rfl) (fun Kq hKq => ?_) (AllReadyH.cons (by simp only [List.getElem?_toArray, List.getElem?_cons_succ, List.getElem?_cons_zero]; rfl) (fun Kq hKq => ?_) AllReadyH.nil)
                  · go_simp
                    refine hKq.out _ _ ?_ (fun hHeldN => ?_)
                    · go_keep
                    clear hKq Kq hHeld
                    have hHeld := hHeldN
                    clear hHeldN
                    refine wpAnyH_ready (rs := [17]) (by kernel_rfl) (by simp) ?_
                    refine AllReadyH.cons (by simp only [List.getElem?_toArray, List.getElem?_cons_succ, List.getElem?_cons_zero]; rfl) (fun Kq hKq => ?_) AllReadyH.nil
                    go_simp
                    refine hKq.out _ _ ?_ (fun hHeldN => ?_)
                    · go_keep
                    clear hKq Kq hHeld
                    have hHeld := hHeldN
                    clear hHeldN
                    refine wpAnyH_ready (rs := [18]) (by kernel_rfl) (by simp) ?_
                    refine AllReadyH.cons (by simp only [List.getElem?_toArray, List.getElem?_cons_succ, List.getElem?_cons_zero]; rfl) (fun Kq hKq => ?_) AllReadyH.nil
                    (refine step_appW okP rfl (.tmp 242) (.tmp 249) rfl okI N ckI (x1 I).ps rfl HLN2.out.symm HOK.out (some ⟨wm.heap.size + 1, 0, none⟩) 1 1 [(t1 B, ⟨#[]⟩)] rfl rfl (fun e => by cases e) HRW.out (by have := HN.out; have := HLN2.out; simp [PE]; omega) (by have := HN.out; have := HLN2.out; simp; omega) ?_; intro o2 c2' w2 ho2 hap2; obtain ⟨hq1, ⟨u3, hq2⟩, hq3, hng, S', hq4⟩ := HDP.out.moreP HI2.out.1 HG.out HNK.out ho2 (by rw [HOKI.out]; exact hap2); rw [HTL.out, HCI.out] at hq1; simp only [List.length_nil, Nat.zero_add] at hq1; have HQ4 : Hid _ := hq4; clear hq4 ho2 hap2)
                    refine hKq.out _ _ ?_ (fun hHeldN => ?_)
                    · go_keep
                    clear hKq Kq hHeld
                    have hHeld := hHeldN
                    clear hHeldN
                    refine wpAnyH_take (i := 19) (v := ?_) (by simp only [List.getElem?_toArray, List.getElem?_cons_succ, List.getElem?_cons_zero]; rfl) (by kernel_rfl) (by kernel_rfl) (by kernel_rfl) (by exact fun _ _ _ h => h) (Or.inl ⟨by rfl, ?_⟩) (by assumption) ?_
                    rotate_left
                    · (intro _ hSw; (try dsimp only at hSw); go_simp; (try with_reducible rfl))
                    try simp only [Act.put, List.setIfInBounds_toArray, List.set_cons_zero, List.set_cons_succ]
                    refine wpAnyH_take (i := 20) (v := ?_) (by simp only [List.getElem?_toArray, List.getElem?_cons_succ, List.getElem?_cons_zero]; rfl) (by kernel_rfl) (by kernel_rfl) (by kernel_rfl) (by exact fun _ _ _ h => h) (Or.inl ⟨by rfl, ?_⟩) (by assumption) ?_
                    rotate_left
                    · (intro _ hSw; (try dsimp only at hSw); go_simp; (try with_reducible rfl))
                    try simp only [Act.put, List.setIfInBounds_toArray, List.set_cons_zero, List.set_cons_succ]
                    refine wpAnyH_ready (rs := [21]) (by kernel_rfl) (by simp) ?_
                    refine AllReadyH.cons (by simp only [List.getElem?_toArray, List.getElem?_cons_succ, List.getElem?_cons_zero]; rfl) (fun Kq hKq => ?_) AllReadyH.nil
                    go_simp
                    refine hKq.out _ _ ?_ (fun hHeldN => ?_)
                    · go_keep
                    clear hKq Kq hHeld
                    have hHeld := hHeldN
                    clear hHeldN
                    refine wpAnyH_done (by kernel_rfl) ?_ _
                    have HF2 : Hid _ := more_round HF.out HI2.out.1 HN.out.2.1 HB.out.1 HX1I.out HX1J.out o2 c2'
                    clear hHeld hq1 hq2 hq3 hng
                    go_wp2_with fail
                    go_roundw
                    case rel => go_light; exact ⟨K + 1, S', _, by go_num, by omega, HQ4, HF2⟩
                    case measure => go_light; simp [intOf]; omega
                  · go_simp
                    refine hKq.out _ _ ?_ (fun hHeldN => ?_)
                    · go_keep
                    clear hKq Kq hHeld
                    have hHeld := hHeldN
                    clear hHeldN
                    refine wpAnyH_ready (rs := [10]) (by kernel_rfl) (by simp) ?_
                    refine AllReadyH.cons (by simp only [List.getElem?_toArray, List.getElem?_cons_succ, List.getElem?_cons_zero]; rfl) (fun Kq hKq => ?_) AllReadyH.nil
                    go_simp
                    refine hKq.out _ _ ?_ (fun hHeldN => ?_)
                    · go_keep
                    clear hKq Kq hHeld
                    have hHeld := hHeldN
                    clear hHeldN
                    refine wpAnyH_ready (rs := [18]) (by kernel_rfl) (by simp) ?_
                    refine AllReadyH.cons (by simp only [List.getElem?_toArray, List.getElem?_cons_succ, List.getElem?_cons_zero]; rfl) (fun Kq hKq => ?_) AllReadyH.nil
                    (refine step_appW okP rfl (.tmp 242) (.tmp 249) rfl okI N ckI (x1 I).ps rfl HLN2.out.symm HOK.out (some ⟨wm.heap.size + 1, 0, none⟩) 1 1 [(t1 B, ⟨#[]⟩)] rfl rfl (fun e => by cases e) HRW.out (by have := HN.out; have := HLN2.out; simp [PE]; omega) (by have := HN.out; have := HLN2.out; simp; omega) ?_; intro o2 c2' w2 ho2 hap2; obtain ⟨hq1, ⟨u3, hq2⟩, hq3, hng, S', hq4⟩ := HDP.out.moreP HI2.out.1 HG.out HNK.out ho2 (by rw [HOKI.out]; exact hap2); rw [HTL.out, HCI.out] at hq1; simp only [List.length_nil, Nat.zero_add] at hq1; have HQ4 : Hid _ := hq4; clear hq4 ho2 hap2)
                    refine hKq.out _ _ ?_ (fun hHeldN => ?_)
                    · go_keep
                    clear hKq Kq hHeld
                    have hHeld := hHeldN
                    clear hHeldN
                    refine wpAnyH_take (i := 19) (v := ?_) (by simp only [List.getElem?_toArray, List.getElem?_cons_succ, List.getElem?_cons_zero]; rfl) (by kernel_rfl) (by kernel_rfl) (by kernel_rfl) (by exact fun _ _ _ h => h) (Or.inl ⟨by rfl, ?_⟩) (by assumption) ?_
                    rotate_left
                    · (intro _ hSw; (try dsimp only at hSw); go_simp; (try with_reducible rfl))
                    try simp only [Act.put, List.setIfInBounds_toArray, List.set_cons_zero, List.set_cons_succ]
                    refine wpAnyH_take (i := 20) (v := ?_) (by simp only [List.getElem?_toArray, List.getElem?_cons_succ, List.getElem?_cons_zero]; rfl) (by kernel_rfl) (by kernel_rfl) (by kernel_rfl) (by exact fun _ _ _ h => h) (Or.inl ⟨by rfl, ?_⟩) (by assumption) ?_
                    rotate_left
                    · (intro _ hSw; (try dsimp only at hSw); go_simp; (try with_reducible rfl))
                    try simp only [Act.put, List.setIfInBounds_toArray, List.set_cons_zero, List.set_cons_succ]
                    refine wpAnyH_ready (rs := [21]) (by kernel_rfl) (by simp) ?_
                    refine AllReadyH.cons (by simp only [List.getElem?_toArray, List.getElem?_cons_succ, List.getElem?_cons_zero]; rfl) (fun Kq hKq => ?_) AllReadyH.nil
                    go_simp
                    refine hKq.out _ _ ?_ (fun hHeldN => ?_)
                    · go_keep
                    clear hKq Kq hHeld
                    have hHeld := hHeldN
                    clear hHeldN
                    refine wpAnyH_done (by kernel_rfl) ?_ _
                    have HF2 : Hid _ := more_round HF.out HI2.out.1 HN.out.2.1 HB.out.1 HX1I.out HX1J.out o2 c2'
                    clear hHeld hq1 hq2 hq3 hng
                    go_wp2_with fail
                    go_roundw
                    case rel => go_light; exact ⟨K + 1, S', _, by go_num, by omega, HQ4, HF2⟩
                    case measure => go_light; simp [intOf]; omega
          · have hKe : K = 40 := by omega
            subst hKe
            go_wp2_with fail
            go_roundw
            case rel => go_light; exact ⟨I + 1, S, x, by go_num, by omega, HD, HF.out.congr (fun j _ => by unfold nI; by_cases h1 : j < I; (rw [if_pos h1, if_pos (by omega)]); (rw [if_neg h1]; by_cases h2 : j = I; (rw [if_pos h2, if_pos (by omega)]); (rw [if_neg h2, if_neg (by omega)]; by_cases h3 : j = I + 1; (rw [if_pos h3]); (rw [if_neg h3])))) (fun _ _ => rfl) (fun _ _ => rfl)⟩
            case measure => go_light; simp [intOf]; omega
      · have hIe : I = 2 := by omega
        subst hIe
        go_wp2_with fail
        go_meet
        go_light
        exact ⟨S, x, HD, HF.out.congr (fun j hj => by unfold nI; rw [if_pos hj]) (fun _ _ => rfl) (fun _ _ => rfl)⟩
  case rest =>
    rename World => wc2
    obtain ⟨S2, x2, HD2, HF2⟩ := hcut
    rename_i K_j108 a_j109
    revert w x J ID Q_i1 w1 HK1 HT w2 p F0 w3 q0 o3 c3 vs3 V gI gF gP gK w4 v4 w5 gW w6 F1 w7 w8 F2 w9 wA HGD HLN wB qA cA vA wC qB cB vB gA a1 dq osq u1 wE qE oE cE vE wF gB b1 HFR gL W0 T HRS HDUO wc1 u21 u22 u167 u168 u169 u170 u171 u172 u173 u174 u175 u176 u177 u178 u179 u180 u181 u182 u183 u184 u185 u186 u187 u188 u189 u190 u191 u192 u193 u194 u195 u196 u197 u198 u199 u200 u201 u202 u203 S1 x1 HD1 HF1 K_j108 a_j109 wc2 u23 u24 u204 u205 u206 u207 u208 u209 u210 u211 u212 u213 u214 u215 u216 u217 u218 u219 u220 u221 u222 u223 u224 u225 u226 u227 u228 u229 u230 u231 u232 u233 u234 u235 u236 u237 u238 u239 u240 u241 u242 u243 u244 u245 u246 u247 u248 u249 u250 u251 u252 S2 x2 HD2 HF2
    exact hN
end Go.Proofs.YtgamhblkgojapaaDoor
