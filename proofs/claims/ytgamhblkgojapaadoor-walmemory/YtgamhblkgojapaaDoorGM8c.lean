/- WalMemory: its third loop -/
import Derived.Test.YtgamhblkgojapaaDoorGM8d
import Derived.Deep.RegionHeldLaw
import Derived.Deep.Light
namespace Go.Proofs.YtgamhblkgojapaaDoor
open Go.RowKit Pk Dk
set_option linter.unusedVariables false
set_option linter.unusedSimpArgs false

set_option maxRecDepth 10000 in
set_option maxHeartbeats 4000000 in
theorem memB_of (hN : MemC) : MemB := by
  intro w x J ID Q_i1 w1 HK1 HT w2 p F0 w3 q0 o3 c3 vs3 V gI gF gP gK w4 v4 w5 gW w6 F1 w7 w8 F2 w9 wA HGD HLN wB qA cA vA wC qB cB vB gA a1 dq osq u1 wE qE oE cE vE wF gB b1 HFR gL W0 T HRS HDUO wc1 u21 u22 u167 u168 u169 u170 u171 u172 u173 u174 u175 u176 u177 u178 u179 u180 u181 u182 u183 u184 u185 u186 u187 u188 u189 u190 u191 u192 u193 u194 u195 u196 u197 u198 u199 u200 u201 u202 u203 S1 x1 HD1 HF1 K_j108 a_j109 wc2 u23 u24 u204 u205 u206 u207 u208 u209 u210 u211 u212 u213 u214 u215 u216 u217 u218 u219 u220 u221 u222 u223 u224 u225 u226 u227 u228 u229 u230 u231 u232 u233 u234 u235 u236 u237 u238 u239 u240 u241 u242 u243 u244 u245 u246 u247 u248 u249 u250 u251 u252 S2 x2 HD2 HF2
  go_upto_block 8 with fail
  go_cut [25] from 253 to 271 (fun _ wc => ∃ S x, Hid (Duo W0 T gL S x wc) ∧ Hid (Fz x (fun _ => 42) (fun _ => 2) (tI 2)))
  case first =>
    go_wp2_with fail
    go_loopw [25] (fun i wr => ∃ (I : Nat) (S : Nat → Nat → Prop) (x : Nat → BagS), i = .int .i64 (I : Nat) ∧ (I : Int) ≤ 2 ∧ Hid (Duo W0 T gL S x wr) ∧ Hid (Fz x (fun _ => 42) (fun _ => 2) (tI I))) (fun i _ => 2 - (intOf i).toNat)
    case atStart => go_light; exact ⟨0, S2, x2, rfl, by omega, HD2, HF2.out.congr (fun _ _ => rfl) (fun _ _ => rfl) (fun j _ => by unfold tI; rw [if_neg (by omega)])⟩
    case round =>
      rename World => wr
      obtain ⟨I, S, x, rfl, hI, HD, HF⟩ := hrel
      clear HD2 HF2
      by_cases hI2 : (I : Int) < 2
      · have HI2 : Hid (I < 2) := (by omega : I < 2)
        obtain ⟨g, hg, hSg, c1, _⟩ := HD.out.at HI2.out
        have htl := HF.out.tl I HI2.out
        rw [show tI I I = [] by unfold tI; rw [if_neg (by omega)]] at htl
        rw [htl] at c1
        simp only [List.length_nil, Nat.zero_add] at c1
        have HG : Hid ((x I).o = some ⟨g, 0, none⟩) := hg
        have HTL : Hid ((x I).tl = []) := htl
        generalize hcI : (x I).c = cI at c1
        have HCI : Hid ((x I).c = cI) := hcI
        clear hg hSg htl hcI
        obtain ⟨M, hM⟩ : ∃ M : Nat, M = 11 + I := ⟨_, rfl⟩
        obtain ⟨Q, hQ⟩ : ∃ Q : Nat, Q = M * 65536 := ⟨_, rfl⟩
        have HQ : Hid (Q = M * 65536 ∧ (M : Int) ≤ 1000000) := ⟨hQ, by omega⟩
        have HQI : Hid (Q = (11 + I) * 65536) := by show _ = _; rw [hQ, hM]
        have hw1 : IntKind.i64.wrap (11 + (I : Int)) = (M : Int) := by rw [IntKind.wrap_i64]; omega
        clear hM hQ
        go_wp2_with fail
        refine wp_region_held_drew (S := (fun _ => True)) (by kernel_rfl) ?_ (fun hHeld => ?_)
        · exact trivial
        refine wpAnyH_take (i := 0) (v := ?_) (by simp only [List.getElem?_toArray, List.getElem?_cons_succ, List.getElem?_cons_zero]; rfl) (by kernel_rfl) (by kernel_rfl) (by kernel_rfl) (by exact fun _ _ _ h => h) (Or.inl ⟨by rfl, ?_⟩) (by assumption) ?_
        rotate_left
        · (intro _ hSw; (try dsimp only at hSw); go_simp; (try with_reducible rfl))
        try simp only [Act.put, List.setIfInBounds_toArray, List.set_cons_zero, List.set_cons_succ]
        refine wpAnyH_take (i := 1) (v := ?_) (by simp only [List.getElem?_toArray, List.getElem?_cons_succ, List.getElem?_cons_zero]; rfl) (by kernel_rfl) (by kernel_rfl) (by kernel_rfl) (by exact fun _ _ _ h => h) (Or.inl ⟨by rfl, ?_⟩) (by assumption) ?_
        rotate_left
        · (intro _ hSw; (try dsimp only at hSw); go_simp; (try with_reducible rfl))
        try simp only [Act.put, List.setIfInBounds_toArray, List.set_cons_zero, List.set_cons_succ]
        refine wpAnyH_take (i := 2) (v := ?_) (by simp only [List.getElem?_toArray, List.getElem?_cons_succ, List.getElem?_cons_zero]; rfl) (by kernel_rfl) (by kernel_rfl) (by kernel_rfl) (by exact fun _ _ _ h => h) (Or.inl ⟨by rfl, ?_⟩) (by assumption) ?_
        rotate_left
        · (intro _ hSw; (try dsimp only at hSw); go_simp; (try with_reducible rfl))
        try simp only [Act.put, List.setIfInBounds_toArray, List.set_cons_zero, List.set_cons_succ]
        refine wpAnyH_take (i := 3) (v := ?_) (by simp only [List.getElem?_toArray, List.getElem?_cons_succ, List.getElem?_cons_zero]; rfl) (by kernel_rfl) (by kernel_rfl) (by kernel_rfl) (by exact fun _ _ _ h => h) (Or.inl ⟨by rfl, ?_⟩) (by assumption) ?_
        rotate_left
        · (intro _ hSw; (try dsimp only at hSw); go_simp; (try with_reducible rfl))
        try simp only [Act.put, List.setIfInBounds_toArray, List.set_cons_zero, List.set_cons_succ]
        refine wpAnyH_take (i := 4) (v := ?_) (by simp only [List.getElem?_toArray, List.getElem?_cons_succ, List.getElem?_cons_zero]; rfl) (by kernel_rfl) (by kernel_rfl) (by kernel_rfl) (by exact fun _ _ _ h => h) (Or.inl ⟨by rfl, ?_⟩) (by assumption) ?_
        rotate_left
        · (intro _ hSw; (try dsimp only at hSw); go_simp; (try with_reducible rfl))
        try simp only [Act.put, List.setIfInBounds_toArray, List.set_cons_zero, List.set_cons_succ]
        refine wpAnyH_take (i := 6) (v := ?_) (by simp only [List.getElem?_toArray, List.getElem?_cons_succ, List.getElem?_cons_zero]; rfl) (by kernel_rfl) (by kernel_rfl) (by kernel_rfl) (by exact fun _ _ _ h => h) (Or.inl ⟨by rfl, ?_⟩) (by assumption) ?_
        rotate_left
        · (intro _ hSw; (try dsimp only at hSw); go_simp; (try with_reducible rfl))
        try simp only [Act.put, List.setIfInBounds_toArray, List.set_cons_zero, List.set_cons_succ]
        refine wpAnyH_take (i := 7) (v := ?_) (by simp only [List.getElem?_toArray, List.getElem?_cons_succ, List.getElem?_cons_zero]; rfl) (by kernel_rfl) (by kernel_rfl) (by kernel_rfl) (by exact fun _ _ _ h => h) (Or.inl ⟨by rfl, ?_⟩) (by assumption) ?_
        rotate_left
        · (intro _ hSw; (try dsimp only at hSw); go_simp; (try with_reducible rfl))
        try simp only [Act.put, List.setIfInBounds_toArray, List.set_cons_zero, List.set_cons_succ]
        refine wpAnyH_take (i := 9) (v := ?_) (by simp only [List.getElem?_toArray, List.getElem?_cons_succ, List.getElem?_cons_zero]; rfl) (by kernel_rfl) (by kernel_rfl) (by kernel_rfl) (by exact fun _ _ _ h => h) (Or.inl ⟨by rfl, ?_⟩) (by assumption) ?_
        rotate_left
        · (intro _ hSw; (try dsimp only at hSw); go_simp; (try with_reducible rfl))
        try simp only [Act.put, List.setIfInBounds_toArray, List.set_cons_zero, List.set_cons_succ]
        refine wpAnyH_take (i := 10) (v := ?_) (by simp only [List.getElem?_toArray, List.getElem?_cons_succ, List.getElem?_cons_zero]; rfl) (by kernel_rfl) (by kernel_rfl) (by kernel_rfl) (by exact fun _ _ _ h => h) (Or.inl ⟨by rfl, ?_⟩) (by assumption) ?_
        rotate_left
        · (intro _ hSw; (try dsimp only at hSw); go_simp; (try with_reducible rfl))
        try simp only [Act.put, List.setIfInBounds_toArray, List.set_cons_zero, List.set_cons_succ]
        refine wpAnyH_ready (rs := [5, 8]) (by kernel_rfl) (by simp) ?_
        refine AllReadyH.cons (by simp only [List.getElem?_toArray, List.getElem?_cons_succ, List.getElem?_cons_zero]; rfl) (fun Kq hKq => ?_) (AllReadyH.cons (by simp only [List.getElem?_toArray, List.getElem?_cons_succ, List.getElem?_cons_zero]; rfl) (fun Kq hKq => ?_) AllReadyH.nil)
        · go_simp
          refine hKq.out _ _ ?_ (fun hHeldN => ?_)
          · exact trivial
          clear hKq Kq hHeld
          have hHeld := hHeldN
          clear hHeldN
          refine wpAnyH_ready (rs := [8]) (by kernel_rfl) (by simp) ?_
          refine AllReadyH.cons (by simp only [List.getElem?_toArray, List.getElem?_cons_succ, List.getElem?_cons_zero]; rfl) (fun Kq hKq => ?_) AllReadyH.nil
          (go_simp; refine (commit_q _ M Q HQ.out.1 HQ.out.2).mono ?_; rintro e w3 ⟨rfl, hk3⟩; have K3 : Hid (Keeps no wr w3) := ((Keeps.refl no wr).drew).trans hk3; have c1a := K3.out.cellN c1; clear hk3)
          refine hKq.out _ _ ?_ (fun hHeldN => ?_)
          · exact trivial
          clear hKq Kq hHeld
          have hHeld := hHeldN
          clear hHeldN
          refine wpAnyH_ready (rs := [11]) (by kernel_rfl) (by simp) ?_
          refine AllReadyH.cons (by simp only [List.getElem?_toArray, List.getElem?_cons_succ, List.getElem?_cons_zero]; rfl) (fun Kq hKq => ?_) AllReadyH.nil
          (go_simp; refine (commit_q _ M Q HQ.out.1 HQ.out.2).mono ?_; rintro e w4 ⟨rfl, hk4⟩; have K4 : Hid (Keeps no wr w4) := K3.out.trans hk4; have c1b := K4.out.cellN c1; have c1c := (K4.out.alloc (.cells #[.int .i64 2, .int .u64 (Q : Nat), .slice none 0 0, .slice none 0 0, .int .i64 2, .int .u64 (Q : Nat), .slice none 0 0, .slice none 0 0] 28)).cellN c1; clear hk4)
          refine hKq.out _ _ ?_ (fun hHeldN => ?_)
          · exact trivial
          clear hKq Kq hHeld
          have hHeld := hHeldN
          clear hHeldN
          refine wpAnyH_ready (rs := [12]) (by kernel_rfl) (by simp) ?_
          refine AllReadyH.cons (by simp only [List.getElem?_toArray, List.getElem?_cons_succ, List.getElem?_cons_zero]; rfl) (fun Kq hKq => ?_) AllReadyH.nil
          go_simp
          refine hKq.out _ _ ?_ (fun hHeldN => ?_)
          · exact trivial
          clear hKq Kq hHeld
          have hHeld := hHeldN
          clear hHeldN
          refine wpAnyH_ready (rs := [13]) (by kernel_rfl) (by simp) ?_
          refine AllReadyH.cons (by simp only [List.getElem?_toArray, List.getElem?_cons_succ, List.getElem?_cons_zero]; rfl) (fun Kq hKq => ?_) AllReadyH.nil
          (have HDP : Hid (Duo W0 T gL S x (w4.alloc (.cells #[.int .i64 2, .int .u64 (Q : Nat), .slice none 0 0, .slice none 0 0, .int .i64 2, .int .u64 (Q : Nat), .slice none 0 0, .slice none 0 0] 28))) := HD.out.keepsN (K4.out.alloc _); have HOW : Hid (Own CE (w4.alloc (.cells #[.int .i64 2, .int .u64 (Q : Nat), .slice none 0 0, .slice none 0 0, .int .i64 2, .int .u64 (Q : Nat), .slice none 0 0, .slice none 0 0] 28)) (some ⟨g, 0, none⟩) cI [(x I).v, (x I).v1]) := (by have h := (HDP.out.b I HI2.out).own; rw [HTL.out, HG.out, HCI.out] at h; exact h); refine step_appW okC rfl (.tmp 262) (.tmp 269) rfl (some ⟨g, 0, none⟩) 2 cI [(x I).v, (x I).v1] rfl rfl HOW.out (some ⟨w4.heap.size, 0, none⟩) 2 2 [cqV Q, cqV Q] rfl rfl (fun e => by cases e) (own_twoC w4 (cqV Q) (cqV Q)) (by simp [CE]) (by simp) ?_; intro o2 c2' w5 ho2 hap2; obtain ⟨⟨u3, hq2⟩, hq3, S', hq4⟩ := HDP.out.moreL HI2.out HTL.out ho2 (by rw [HG.out]; exact hap2); have HQ4 : Hid _ := hq4; clear hq4 ho2 hap2)
          refine hKq.out _ _ ?_ (fun hHeldN => ?_)
          · exact trivial
          clear hKq Kq hHeld
          have hHeld := hHeldN
          clear hHeldN
          refine wpAnyH_take (i := 14) (v := ?_) (by simp only [List.getElem?_toArray, List.getElem?_cons_succ, List.getElem?_cons_zero]; rfl) (by kernel_rfl) (by kernel_rfl) (by kernel_rfl) (by exact fun _ _ _ h => h) (Or.inl ⟨by rfl, ?_⟩) (by assumption) ?_
          rotate_left
          · (intro _ hSw; (try dsimp only at hSw); go_simp; (try with_reducible rfl))
          try simp only [Act.put, List.setIfInBounds_toArray, List.set_cons_zero, List.set_cons_succ]
          refine wpAnyH_ready (rs := [15]) (by kernel_rfl) (by simp) ?_
          refine AllReadyH.cons (by simp only [List.getElem?_toArray, List.getElem?_cons_succ, List.getElem?_cons_zero]; rfl) (fun Kq hKq => ?_) AllReadyH.nil
          go_simp
          refine hKq.out _ _ ?_ (fun hHeldN => ?_)
          · exact trivial
          clear hKq Kq hHeld
          have hHeld := hHeldN
          clear hHeldN
          refine wpAnyH_done (by kernel_rfl) ?_ _
          have HF3 : Hid _ := longer_round (o' := o2) (c' := c2') HF.out HI2.out HQI.out
          clear hHeld hq2 hq3
          go_wp2_with fail
          go_roundw
          case rel => go_light; exact ⟨I + 1, S', _, by go_num, by omega, HQ4, HF3⟩
          case measure => go_light; simp [intOf]; omega
        · (go_simp; refine (commit_q _ M Q HQ.out.1 HQ.out.2).mono ?_; rintro e w3 ⟨rfl, hk3⟩; have K3 : Hid (Keeps no wr w3) := ((Keeps.refl no wr).drew).trans hk3; have c1a := K3.out.cellN c1; clear hk3)
          refine hKq.out _ _ ?_ (fun hHeldN => ?_)
          · exact trivial
          clear hKq Kq hHeld
          have hHeld := hHeldN
          clear hHeldN
          refine wpAnyH_ready (rs := [5, 11]) (by kernel_rfl) (by simp) ?_
          refine AllReadyH.cons (by simp only [List.getElem?_toArray, List.getElem?_cons_succ, List.getElem?_cons_zero]; rfl) (fun Kq hKq => ?_) (AllReadyH.cons (by simp only [List.getElem?_toArray, List.getElem?_cons_succ, List.getElem?_cons_zero]; rfl) (fun Kq hKq => ?_) AllReadyH.nil)
          · go_simp
            refine hKq.out _ _ ?_ (fun hHeldN => ?_)
            · exact trivial
            clear hKq Kq hHeld
            have hHeld := hHeldN
            clear hHeldN
            refine wpAnyH_ready (rs := [11]) (by kernel_rfl) (by simp) ?_
            refine AllReadyH.cons (by simp only [List.getElem?_toArray, List.getElem?_cons_succ, List.getElem?_cons_zero]; rfl) (fun Kq hKq => ?_) AllReadyH.nil
            (go_simp; refine (commit_q _ M Q HQ.out.1 HQ.out.2).mono ?_; rintro e w4 ⟨rfl, hk4⟩; have K4 : Hid (Keeps no wr w4) := K3.out.trans hk4; have c1b := K4.out.cellN c1; have c1c := (K4.out.alloc (.cells #[.int .i64 2, .int .u64 (Q : Nat), .slice none 0 0, .slice none 0 0, .int .i64 2, .int .u64 (Q : Nat), .slice none 0 0, .slice none 0 0] 28)).cellN c1; clear hk4)
            refine hKq.out _ _ ?_ (fun hHeldN => ?_)
            · exact trivial
            clear hKq Kq hHeld
            have hHeld := hHeldN
            clear hHeldN
            refine wpAnyH_ready (rs := [12]) (by kernel_rfl) (by simp) ?_
            refine AllReadyH.cons (by simp only [List.getElem?_toArray, List.getElem?_cons_succ, List.getElem?_cons_zero]; rfl) (fun Kq hKq => ?_) AllReadyH.nil
            go_simp
            refine hKq.out _ _ ?_ (fun hHeldN => ?_)
            · exact trivial
            clear hKq Kq hHeld
            have hHeld := hHeldN
            clear hHeldN
            refine wpAnyH_ready (rs := [13]) (by kernel_rfl) (by simp) ?_
            refine AllReadyH.cons (by simp only [List.getElem?_toArray, List.getElem?_cons_succ, List.getElem?_cons_zero]; rfl) (fun Kq hKq => ?_) AllReadyH.nil
            (have HDP : Hid (Duo W0 T gL S x (w4.alloc (.cells #[.int .i64 2, .int .u64 (Q : Nat), .slice none 0 0, .slice none 0 0, .int .i64 2, .int .u64 (Q : Nat), .slice none 0 0, .slice none 0 0] 28))) := HD.out.keepsN (K4.out.alloc _); have HOW : Hid (Own CE (w4.alloc (.cells #[.int .i64 2, .int .u64 (Q : Nat), .slice none 0 0, .slice none 0 0, .int .i64 2, .int .u64 (Q : Nat), .slice none 0 0, .slice none 0 0] 28)) (some ⟨g, 0, none⟩) cI [(x I).v, (x I).v1]) := (by have h := (HDP.out.b I HI2.out).own; rw [HTL.out, HG.out, HCI.out] at h; exact h); refine step_appW okC rfl (.tmp 262) (.tmp 269) rfl (some ⟨g, 0, none⟩) 2 cI [(x I).v, (x I).v1] rfl rfl HOW.out (some ⟨w4.heap.size, 0, none⟩) 2 2 [cqV Q, cqV Q] rfl rfl (fun e => by cases e) (own_twoC w4 (cqV Q) (cqV Q)) (by simp [CE]) (by simp) ?_; intro o2 c2' w5 ho2 hap2; obtain ⟨⟨u3, hq2⟩, hq3, S', hq4⟩ := HDP.out.moreL HI2.out HTL.out ho2 (by rw [HG.out]; exact hap2); have HQ4 : Hid _ := hq4; clear hq4 ho2 hap2)
            refine hKq.out _ _ ?_ (fun hHeldN => ?_)
            · exact trivial
            clear hKq Kq hHeld
            have hHeld := hHeldN
            clear hHeldN
            refine wpAnyH_take (i := 14) (v := ?_) (by simp only [List.getElem?_toArray, List.getElem?_cons_succ, List.getElem?_cons_zero]; rfl) (by kernel_rfl) (by kernel_rfl) (by kernel_rfl) (by exact fun _ _ _ h => h) (Or.inl ⟨by rfl, ?_⟩) (by assumption) ?_
            rotate_left
            · (intro _ hSw; (try dsimp only at hSw); go_simp; (try with_reducible rfl))
            try simp only [Act.put, List.setIfInBounds_toArray, List.set_cons_zero, List.set_cons_succ]
            refine wpAnyH_ready (rs := [15]) (by kernel_rfl) (by simp) ?_
            refine AllReadyH.cons (by simp only [List.getElem?_toArray, List.getElem?_cons_succ, List.getElem?_cons_zero]; rfl) (fun Kq hKq => ?_) AllReadyH.nil
            go_simp
            refine hKq.out _ _ ?_ (fun hHeldN => ?_)
            · exact trivial
            clear hKq Kq hHeld
            have hHeld := hHeldN
            clear hHeldN
            refine wpAnyH_done (by kernel_rfl) ?_ _
            have HF3 : Hid _ := longer_round (o' := o2) (c' := c2') HF.out HI2.out HQI.out
            clear hHeld hq2 hq3
            go_wp2_with fail
            go_roundw
            case rel => go_light; exact ⟨I + 1, S', _, by go_num, by omega, HQ4, HF3⟩
            case measure => go_light; simp [intOf]; omega
          · (go_simp; refine (commit_q _ M Q HQ.out.1 HQ.out.2).mono ?_; rintro e w4 ⟨rfl, hk4⟩; have K4 : Hid (Keeps no wr w4) := K3.out.trans hk4; have c1b := K4.out.cellN c1; have c1c := (K4.out.alloc (.cells #[.int .i64 2, .int .u64 (Q : Nat), .slice none 0 0, .slice none 0 0, .int .i64 2, .int .u64 (Q : Nat), .slice none 0 0, .slice none 0 0] 28)).cellN c1; clear hk4)
            refine hKq.out _ _ ?_ (fun hHeldN => ?_)
            · exact trivial
            clear hKq Kq hHeld
            have hHeld := hHeldN
            clear hHeldN
            refine wpAnyH_ready (rs := [5, 12]) (by kernel_rfl) (by simp) ?_
            refine AllReadyH.cons (by simp only [List.getElem?_toArray, List.getElem?_cons_succ, List.getElem?_cons_zero]; rfl) (fun Kq hKq => ?_) (AllReadyH.cons (by simp only [List.getElem?_toArray, List.getElem?_cons_succ, List.getElem?_cons_zero]; rfl) (fun Kq hKq => ?_) AllReadyH.nil)
            · go_simp
              refine hKq.out _ _ ?_ (fun hHeldN => ?_)
              · exact trivial
              clear hKq Kq hHeld
              have hHeld := hHeldN
              clear hHeldN
              refine wpAnyH_ready (rs := [12]) (by kernel_rfl) (by simp) ?_
              refine AllReadyH.cons (by simp only [List.getElem?_toArray, List.getElem?_cons_succ, List.getElem?_cons_zero]; rfl) (fun Kq hKq => ?_) AllReadyH.nil
              go_simp
              refine hKq.out _ _ ?_ (fun hHeldN => ?_)
              · exact trivial
              clear hKq Kq hHeld
              have hHeld := hHeldN
              clear hHeldN
              refine wpAnyH_ready (rs := [13]) (by kernel_rfl) (by simp) ?_
              refine AllReadyH.cons (by simp only [List.getElem?_toArray, List.getElem?_cons_succ, List.getElem?_cons_zero]; rfl) (fun Kq hKq => ?_) AllReadyH.nil
              (have HDP : Hid (Duo W0 T gL S x (w4.alloc (.cells #[.int .i64 2, .int .u64 (Q : Nat), .slice none 0 0, .slice none 0 0, .int .i64 2, .int .u64 (Q : Nat), .slice none 0 0, .slice none 0 0] 28))) := HD.out.keepsN (K4.out.alloc _); have HOW : Hid (Own CE (w4.alloc (.cells #[.int .i64 2, .int .u64 (Q : Nat), .slice none 0 0, .slice none 0 0, .int .i64 2, .int .u64 (Q : Nat), .slice none 0 0, .slice none 0 0] 28)) (some ⟨g, 0, none⟩) cI [(x I).v, (x I).v1]) := (by have h := (HDP.out.b I HI2.out).own; rw [HTL.out, HG.out, HCI.out] at h; exact h); refine step_appW okC rfl (.tmp 262) (.tmp 269) rfl (some ⟨g, 0, none⟩) 2 cI [(x I).v, (x I).v1] rfl rfl HOW.out (some ⟨w4.heap.size, 0, none⟩) 2 2 [cqV Q, cqV Q] rfl rfl (fun e => by cases e) (own_twoC w4 (cqV Q) (cqV Q)) (by simp [CE]) (by simp) ?_; intro o2 c2' w5 ho2 hap2; obtain ⟨⟨u3, hq2⟩, hq3, S', hq4⟩ := HDP.out.moreL HI2.out HTL.out ho2 (by rw [HG.out]; exact hap2); have HQ4 : Hid _ := hq4; clear hq4 ho2 hap2)
              refine hKq.out _ _ ?_ (fun hHeldN => ?_)
              · exact trivial
              clear hKq Kq hHeld
              have hHeld := hHeldN
              clear hHeldN
              refine wpAnyH_take (i := 14) (v := ?_) (by simp only [List.getElem?_toArray, List.getElem?_cons_succ, List.getElem?_cons_zero]; rfl) (by kernel_rfl) (by kernel_rfl) (by kernel_rfl) (by exact fun _ _ _ h => h) (Or.inl ⟨by rfl, ?_⟩) (by assumption) ?_
              rotate_left
              · (intro _ hSw; (try dsimp only at hSw); go_simp; (try with_reducible rfl))
              try simp only [Act.put, List.setIfInBounds_toArray, List.set_cons_zero, List.set_cons_succ]
              refine wpAnyH_ready (rs := [15]) (by kernel_rfl) (by simp) ?_
              refine AllReadyH.cons (by simp only [List.getElem?_toArray, List.getElem?_cons_succ, List.getElem?_cons_zero]; rfl) (fun Kq hKq => ?_) AllReadyH.nil
              go_simp
              refine hKq.out _ _ ?_ (fun hHeldN => ?_)
              · exact trivial
              clear hKq Kq hHeld
              have hHeld := hHeldN
              clear hHeldN
              refine wpAnyH_done (by kernel_rfl) ?_ _
              have HF3 : Hid _ := longer_round (o' := o2) (c' := c2') HF.out HI2.out HQI.out
              clear hHeld hq2 hq3
              go_wp2_with fail
              go_roundw
              case rel => go_light; exact ⟨I + 1, S', _, by go_num, by omega, HQ4, HF3⟩
              case measure => go_light; simp [intOf]; omega
            · go_simp
              refine hKq.out _ _ ?_ (fun hHeldN => ?_)
              · exact trivial
              clear hKq Kq hHeld
              have hHeld := hHeldN
              clear hHeldN
              refine wpAnyH_ready (rs := [5]) (by kernel_rfl) (by simp) ?_
              refine AllReadyH.cons (by simp only [List.getElem?_toArray, List.getElem?_cons_succ, List.getElem?_cons_zero]; rfl) (fun Kq hKq => ?_) AllReadyH.nil
              go_simp
              refine hKq.out _ _ ?_ (fun hHeldN => ?_)
              · exact trivial
              clear hKq Kq hHeld
              have hHeld := hHeldN
              clear hHeldN
              refine wpAnyH_ready (rs := [13]) (by kernel_rfl) (by simp) ?_
              refine AllReadyH.cons (by simp only [List.getElem?_toArray, List.getElem?_cons_succ, List.getElem?_cons_zero]; rfl) (fun Kq hKq => ?_) AllReadyH.nil
              (have HDP : Hid (Duo W0 T gL S x (w4.alloc (.cells #[.int .i64 2, .int .u64 (Q : Nat), .slice none 0 0, .slice none 0 0, .int .i64 2, .int .u64 (Q : Nat), .slice none 0 0, .slice none 0 0] 28))) := HD.out.keepsN (K4.out.alloc _); have HOW : Hid (Own CE (w4.alloc (.cells #[.int .i64 2, .int .u64 (Q : Nat), .slice none 0 0, .slice none 0 0, .int .i64 2, .int .u64 (Q : Nat), .slice none 0 0, .slice none 0 0] 28)) (some ⟨g, 0, none⟩) cI [(x I).v, (x I).v1]) := (by have h := (HDP.out.b I HI2.out).own; rw [HTL.out, HG.out, HCI.out] at h; exact h); refine step_appW okC rfl (.tmp 262) (.tmp 269) rfl (some ⟨g, 0, none⟩) 2 cI [(x I).v, (x I).v1] rfl rfl HOW.out (some ⟨w4.heap.size, 0, none⟩) 2 2 [cqV Q, cqV Q] rfl rfl (fun e => by cases e) (own_twoC w4 (cqV Q) (cqV Q)) (by simp [CE]) (by simp) ?_; intro o2 c2' w5 ho2 hap2; obtain ⟨⟨u3, hq2⟩, hq3, S', hq4⟩ := HDP.out.moreL HI2.out HTL.out ho2 (by rw [HG.out]; exact hap2); have HQ4 : Hid _ := hq4; clear hq4 ho2 hap2)
              refine hKq.out _ _ ?_ (fun hHeldN => ?_)
              · exact trivial
              clear hKq Kq hHeld
              have hHeld := hHeldN
              clear hHeldN
              refine wpAnyH_take (i := 14) (v := ?_) (by simp only [List.getElem?_toArray, List.getElem?_cons_succ, List.getElem?_cons_zero]; rfl) (by kernel_rfl) (by kernel_rfl) (by kernel_rfl) (by exact fun _ _ _ h => h) (Or.inl ⟨by rfl, ?_⟩) (by assumption) ?_
              rotate_left
              · (intro _ hSw; (try dsimp only at hSw); go_simp; (try with_reducible rfl))
              try simp only [Act.put, List.setIfInBounds_toArray, List.set_cons_zero, List.set_cons_succ]
              refine wpAnyH_ready (rs := [15]) (by kernel_rfl) (by simp) ?_
              refine AllReadyH.cons (by simp only [List.getElem?_toArray, List.getElem?_cons_succ, List.getElem?_cons_zero]; rfl) (fun Kq hKq => ?_) AllReadyH.nil
              go_simp
              refine hKq.out _ _ ?_ (fun hHeldN => ?_)
              · exact trivial
              clear hKq Kq hHeld
              have hHeld := hHeldN
              clear hHeldN
              refine wpAnyH_done (by kernel_rfl) ?_ _
              have HF3 : Hid _ := longer_round (o' := o2) (c' := c2') HF.out HI2.out HQI.out
              clear hHeld hq2 hq3
              go_wp2_with fail
              go_roundw
              case rel => go_light; exact ⟨I + 1, S', _, by go_num, by omega, HQ4, HF3⟩
              case measure => go_light; simp [intOf]; omega
      · have hIe : I = 2 := by omega
        subst hIe
        go_wp2_with fail
        go_meet
        go_light
        exact ⟨S, x, HD, HF⟩
  case rest =>
    rename World => wc3
    obtain ⟨S3, x3, HD3, HF3⟩ := hcut
    rename_i K_j164 a_j165
    revert w x J ID Q_i1 w1 HK1 HT w2 p F0 w3 q0 o3 c3 vs3 V gI gF gP gK w4 v4 w5 gW w6 F1 w7 w8 F2 w9 wA HGD HLN wB qA cA vA wC qB cB vB gA a1 dq osq u1 wE qE oE cE vE wF gB b1 HFR gL W0 T HRS HDUO wc1 u21 u22 u167 u168 u169 u170 u171 u172 u173 u174 u175 u176 u177 u178 u179 u180 u181 u182 u183 u184 u185 u186 u187 u188 u189 u190 u191 u192 u193 u194 u195 u196 u197 u198 u199 u200 u201 u202 u203 S1 x1 HD1 HF1 wc2 u23 u24 u204 u205 u206 u207 u208 u209 u210 u211 u212 u213 u214 u215 u216 u217 u218 u219 u220 u221 u222 u223 u224 u225 u226 u227 u228 u229 u230 u231 u232 u233 u234 u235 u236 u237 u238 u239 u240 u241 u242 u243 u244 u245 u246 u247 u248 u249 u250 u251 u252 S2 x2 HD2 HF2 K_j164 a_j165 wc3 u25 u253 u254 u255 u256 u257 u258 u259 u260 u261 u262 u263 u264 u265 u266 u267 u268 u269 u270 u271 S3 x3 HD3 HF3
    exact hN
end Go.Proofs.YtgamhblkgojapaaDoor
