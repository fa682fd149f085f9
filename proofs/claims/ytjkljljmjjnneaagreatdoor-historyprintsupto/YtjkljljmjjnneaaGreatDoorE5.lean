/- The document's side: Line. -/
import Derived.Test.YtjkljljmjjnneaaGreatDoorE2
import Derived.Test.YtjkljljmjjnneaaGreatDoorE4
namespace Go.Proofs.YtjkljljmjjnneaaGreatDoor
open Go.RowKit Go.Sort Orl
set_option linter.unusedVariables false
set_option linter.unusedSimpArgs false

theorem flat_split {α β : Type} (f : α → List β) (l : List α) (j : Nat) : l.flatMap f = (l.take j).flatMap f ++ (l.drop j).flatMap f := by
  rw [← List.flatMap_append, List.take_append_drop]
theorem word_grown {W : World} (r : Nat) (h1 : 1 ≤ r) (h6 : r ≤ 6) (d : Nat) (os : Array Obj) : Calls Tryz.prog 53 #[.int .i64 (r : Nat)] (Sort.grow (redrawn W d) os) fun e w'' => e = .returned (.string (tx (wordL r))) ∧ ∃ p : Regrown, w'' = Sort.grow (redrawn W p.d) p.os :=
  call_grown (fun X hX => word_any X r h1 h6) d os
set_option maxRecDepth 10000 in
set_option maxHeartbeats 8000000 in
theorem rLine_any (w : World) (r : RE) (e : Ev) (he : EvOf w r e) (hz : SzE e) (ho : WrOk e) (hkd : e.kind = 1 ∨ e.kind = 2 ∨ e.kind = 3) (hwt : wtE e ≤ 1000000000) :
    Calls Tryz.prog 29 #[aggE r] w fun E w' => E = .returned (.string (tx (lineW e))) ∧ Keeps no w w' := by
  obtain ⟨cn, hcn⟩ : ∃ n : Nat, e.client = (n : Int) := ⟨e.client.toNat, by have := ho.cl; omega⟩
  obtain ⟨tn, htn⟩ : ∃ n : Nat, e.txn = (n : Int) := ⟨e.txn.toNat, by have := ho.tx; omega⟩
  have hc64 : cn < 9223372036854775808 := by have := ho.cl; omega
  have ht64 : tn < 9223372036854775808 := by have := ho.tx; omega
  have hll := lineW_wt hz ho
  obtain ⟨rv, hvs⟩ := he.vs
  have HE : Hid (Sl PE w r.po r.pc e.pairs ∧ r.pn = e.pairs.length ∧ Sl TE w r.ko r.kc e.keys ∧ r.kn = e.keys.length ∧ Vers w r.vo r.vc rv e.vers ∧ r.vn = e.vers.length ∧ SzE e) := ⟨he.ps, he.pn, he.ks, he.kn, hvs, he.vn, hz⟩
  have HW : Hid ((e.pairs.map wtP).sum ≤ 1000000000 ∧ (e.keys.map fun k => wtT k + 1).sum ≤ 1000000000 ∧ (e.vers.map fun v => wtV v + 1).sum ≤ 1000000000) := ⟨by unfold wtE at hwt; omega, by unfold wtE at hwt; omega, by unfold wtE at hwt; omega⟩
  have HLL : Hid ((lineW e).length ≤ 1000000000) := by show _ ≤ _; omega
  have HLW : Hid (lineW e = numW cn ++ [32] ++ numW tn ++ [32] ++ evW e ++ [10]) := by show _ = _; unfold lineW; rw [hcn, htn]; rfl
  have HQ : Hid (r.kind = e.kind ∧ r.id = e.id ∧ r.ares = e.ares ∧ r.aid = e.aid ∧ (e.kind = 3 → 1 ≤ e.ares ∧ e.ares ≤ 6)) := ⟨he.kind, he.id, he.ares, he.aid, ho.rs⟩
  have hpb : (r.pn : Int) ≤ 4398046511000 := by rw [he.pn]; have := hz.pl; omega
  have hkb : (r.kn : Int) ≤ 8796093022000 := by rw [he.kn]; have := hz.kl; omega
  have hvb : (r.vn : Int) ≤ 2199023255500 := by rw [he.vn]; have := hz.vl; omega
  have hc1 := he.client
  have ht1 := he.txn
  rw [hcn] at hc1
  rw [htn] at ht1
  have hkd' : r.kind = 1 ∨ r.kind = 2 ∨ r.kind = 3 := by rw [he.kind]; exact hkd
  have hcl := numW_len (n := cn) (by omega)
  have htl := numW_len (n := tn) (by omega)
  have hw1 : IntKind.u64.wrap (cn : Int) = (cn : Int) := wrap_u64_nat cn (by omega)
  have hw2 : IntKind.u64.wrap (tn : Int) = (tn : Int) := wrap_u64_nat tn (by omega)
  have hA1 := add_tx2 (a := numW cn) (b := [32]) (c := numW cn ++ [32]) (by simp only [List.length_singleton]; omega) rfl
  have hA2 := add_tx2 (a := numW cn ++ [32]) (b := numW tn) (c := numW cn ++ [32] ++ numW tn) (by simp only [List.length_append, List.length_singleton]; omega) rfl
  have HP2 : Hid ((numW cn ++ [32] ++ numW tn).length ≤ 50) := by show _ ≤ _; simp only [List.length_append, List.length_singleton]; omega
  have HC1 := fun (W : World) => digits_grown (W := W) cn (by omega)
  have HC2 := fun (W : World) => digits_grown (W := W) tn (by omega)
  have HC : Hid ((∀ W d os, Calls Tryz.prog 51 #[.int .u64 (cn : Nat)] (Sort.grow (redrawn W d) os) fun e w'' => e = .returned (.string (tx (numW cn))) ∧ ∃ p : Regrown, w'' = Sort.grow (redrawn W p.d) p.os) ∧ (∀ W d os, Calls Tryz.prog 51 #[.int .u64 (tn : Nat)] (Sort.grow (redrawn W d) os) fun e w'' => e = .returned (.string (tx (numW tn))) ∧ ∃ p : Regrown, w'' = Sort.grow (redrawn W p.d) p.os)) := ⟨HC1, HC2⟩
  clear HC1 HC2 hcl htl hcn htn hll he hvs hz ho hkd hwt hc64 ht64
  obtain ⟨ek, ecl, et, ei, po, pn, pc, ko, kn, kc, ax, ar, ai, vo, vn, vc⟩ := r
  simp only at HE HQ hpb hkb hvb hc1 ht1 hkd'
  subst hc1 ht1
  unfold aggE cellsE
  simp only
  generalize hX2 : numW cn ++ [32] ++ numW tn = P2 at hA2 HP2 HLW
  generalize hX1 : numW cn ++ [32] = P1 at hA1 hA2
  generalize hX0 : numW cn = P0 at hA1 HC
  generalize hXt : numW tn = Q0 at hA2 HC
  clear hX2 hX1 hX0 hXt
  obtain ⟨B, hB⟩ : ∃ B, B = w.heap.size := ⟨_, rfl⟩
  have H1 : Hid (∀ W, W = w.alloc (.cells #[.int .i64 ek, .int .i64 (cn : Nat), .int .i64 (tn : Nat), .int .u64 (ei : Nat), .slice po pn pc, .slice ko kn kc, .int .i64 ax, .int .i64 ar, .int .u64 (ai : Nat), .slice vo vn vc] 36) → W.heap[B]? = some (.cells #[.int .i64 ek, .int .i64 (cn : Nat), .int .i64 (tn : Nat), .int .u64 (ei : Nat), .slice po pn pc, .slice ko kn kc, .int .i64 ax, .int .i64 ar, .int .u64 (ai : Nat), .slice vo vn vc] 36 (0, 0)) ∧ Keeps no w W) := by
    rintro W rfl
    exact ⟨by rw [hB]; exact blk_new w _, (Keeps.refl _ _).alloc _⟩
  go_enter Tryz.func29, Tryz.ntmps29
  go_upto_region 1 with fail
  have h1 := H1.out _ rfl
  generalize w.alloc (.cells #[.int .i64 ek, .int .i64 (cn : Nat), .int .i64 (tn : Nat), .int .u64 (ei : Nat), .slice po pn pc, .slice ko kn kc, .int .i64 ax, .int .i64 ar, .int .u64 (ai : Nat), .slice vo vn vc] 36) = w1 at h1 ⊢
  rw [← hB]
  have H2 : Hid (w1.heap[B]? = some (.cells #[.int .i64 ek, .int .i64 (cn : Nat), .int .i64 (tn : Nat), .int .u64 (ei : Nat), .slice po pn pc, .slice ko kn kc, .int .i64 ax, .int .i64 ar, .int .u64 (ai : Nat), .slice vo vn vc] 36 (0, 0)) ∧ Keeps no w w1) := h1
  have z1 := cell_of_blk h1.1 1
  have z2 := cell_of_blk h1.1 2
  simp only [List.getElem?_toArray, List.getElem?_cons_succ, List.getElem?_cons_zero] at z1 z2
  clear h1 H1 hB
  have a1 := cell_regrown z1
  have a2 := cell_regrown z2
  clear z1 z2
  refine wp_region_quiet_below (by kernel_rfl) (by kernel_rfl) ?_
  repeat (go_big_quiet_step (first | with_reducible exact HC.out.1 _ _ _ | with_reducible exact HC.out.2 _ _ _))
  refine wpQuiet_nil ?_
  intro _ hw'
  obtain ⟨⟨dq, osq⟩, rfl⟩ := hw'
  have hkq : Keeps no w1 (Sort.grow (redrawn w1 dq) osq) := keeps_grown ..
  generalize Sort.grow (redrawn w1 dq) osq = w2 at hkq ⊢
  have H3 : Hid (w2.heap[B]? = some (.cells #[.int .i64 ek, .int .i64 (cn : Nat), .int .i64 (tn : Nat), .int .u64 (ei : Nat), .slice po pn pc, .slice ko kn kc, .int .i64 ax, .int .i64 ar, .int .u64 (ai : Nat), .slice vo vn vc] 36 (0, 0)) ∧ Keeps no w w2) := ⟨hkq.at H2.out.1 id, H2.out.2.trans hkq⟩
  clear hkq H2 a1 a2 HC hw1 hw2 hA1 hA2
  have z0 := cell_of_blk H3.out.1 0
  have z3 := cell_of_blk H3.out.1 3
  have z7 := cell_of_blk H3.out.1 7
  have z8 := cell_of_blk H3.out.1 8
  simp only [List.getElem?_toArray, List.getElem?_cons_succ, List.getElem?_cons_zero] at z0 z3 z7 z8
  rcases hkd' with rfl | rfl | rfl
  · have HEV : Hid (lineW e = P2 ++ [32, 119, 114, 105, 116, 101, 32] ++ numW ei ++ e.pairs.flatMap pairW ++ [10]) := by
      show _ = _
      rw [HLW.out]; unfold evW; rw [if_pos HQ.out.1.symm]; unfold writeW pairsW; rw [← HQ.out.2.1]; simp
    have hil := numW_len (n := ei) (by have := HE.out.2.2.2.2.2.2.id; rw [← HQ.out.2.1] at this; exact this)
    have hA3 := add_tx2 (a := P2) (b := [32, 119, 114, 105, 116, 101, 32]) (c := P2 ++ [32, 119, 114, 105, 116, 101, 32]) (by have := HP2.out; simp only [List.length_cons, List.length_nil]; omega) rfl
    have hA4 := add_tx2 (a := P2 ++ [32, 119, 114, 105, 116, 101, 32]) (b := numW ei) (c := P2 ++ [32, 119, 114, 105, 116, 101, 32] ++ numW ei) (by have := HP2.out; simp only [List.length_append, List.length_cons, List.length_nil]; omega) rfl
    have HD := fun (W : World) => digits_any ei (by have := HE.out.2.2.2.2.2.2.id; rw [← HQ.out.2.1] at this; exact this) W
    clear hil
    generalize hY2 : P2 ++ [32, 119, 114, 105, 116, 101, 32] ++ numW ei = P4 at hA4 HEV
    generalize hY1 : P2 ++ [32, 119, 114, 105, 116, 101, 32] = P3 at hA3 hA4
    generalize hY0 : numW ei = Q1 at hA4 HD
    clear hY2 hY1 hY0
    have HD2 : Hid (∀ W, Calls Tryz.prog 51 #[.int .u64 (ei : Nat)] W fun e w' => e = .returned (.string (tx Q1)) ∧ Keeps no W w') := HD
    clear HD
    go_wp2_with fail
    refine (HD2.out _).mono ?_
    rintro E w3 ⟨rfl, hk3⟩
    have H4 : Hid (w3.heap[B]? = some (.cells #[.int .i64 1, .int .i64 (cn : Nat), .int .i64 (tn : Nat), .int .u64 (ei : Nat), .slice po pn pc, .slice ko kn kc, .int .i64 ax, .int .i64 ar, .int .u64 (ai : Nat), .slice vo vn vc] 36 (0, 0)) ∧ Keeps no w w3) := ⟨hk3.at H3.out.1 id, H3.out.2.trans hk3⟩
    clear hk3 H3 HD2 z0 z3 z7 z8
    go_wp2_with fail
    go_loopw [3, 4] (fun s3 s4 wr => ∃ (j : Nat) (L : List UInt8), j ≤ pn ∧ s3 = .string (tx L) ∧ s4 = .int .i64 (j : Nat) ∧ Hid (L = P4 ++ (e.pairs.take j).flatMap pairW ∧ wr.heap[B]? = some (.cells #[.int .i64 1, .int .i64 (cn : Nat), .int .i64 (tn : Nat), .int .u64 (ei : Nat), .slice po pn pc, .slice ko kn kc, .int .i64 ax, .int .i64 ar, .int .u64 (ai : Nat), .slice vo vn vc] 36 (0, 0)) ∧ Keeps no w wr)) (fun _ s4 _ => pn - (intOf s4).toNat)
    case atStart => exact ⟨0, P4, by omega, rfl, rfl, by simp, H4.out⟩
    case round =>
      rename World => wr
      clear hA3 hA4 H4
      obtain ⟨j, L, hjn, rfl, rfl, HO⟩ := hrel
      have z4 := cell_of_blk HO.out.2.1 4
      simp only [List.getElem?_toArray, List.getElem?_cons_succ, List.getElem?_cons_zero] at z4
      by_cases hlt : j < pn
      · have hltI : (j : Int) < pn := by omega
        have hjl : j < e.pairs.length := by have := HE.out.2.1; omega
        obtain ⟨g, off, e1, d0, d1⟩ := (HE.out.1.keepsN HO.out.2.2).atP hjl
        have hm := getD_mem_lt p0 hjl
        have hT : (e.pairs.take (j + 1)).flatMap pairW = (e.pairs.take j).flatMap pairW ++ pairW (e.pairs.getD j p0) := by
          rw [take_succ_getD e.pairs j p0 hjl, List.flatMap_append, List.flatMap_singleton]
        have hks : wtP (e.pairs.getD j p0) ≤ 1000000000 := Nat.le_trans (le_sum wtP hm) HW.out.1
        have HEV2 : Hid (lineW e = (L ++ pairW (e.pairs.getD j p0)) ++ ((e.pairs.drop (j + 1)).flatMap pairW ++ [10])) := by
          show _ = _
          rw [HEV.out, flat_split pairW e.pairs (j + 1), hT, HO.out.1]; simp only [List.append_assoc]
        have HL2 : Hid (L ++ pairW (e.pairs.getD j p0) = P4 ++ (e.pairs.take (j + 1)).flatMap pairW) := by show _ = _; rw [hT, HO.out.1, List.append_assoc]
        clear hT
        generalize e.pairs.getD j p0 = p at d0 d1 hks HEV2 HL2
        obtain ⟨p1, p2⟩ := p
        simp only at d0 d1
        have hsz : p1.size ≤ 1000000000 ∧ p2.size ≤ 1000000000 := by unfold wtP wtT at hks; simp only at hks; omega
        have hln : (L ++ pairW (p1, p2)).length ≤ 1000000000 := by
          have h := congrArg List.length HEV2.out
          rw [List.length_append] at h
          have := HLL.out
          omega
        have HPW : pairW (p1, p2) = [32] ++ textW p1.data.toList ++ [61] ++ textW p2.data.toList := by unfold pairW; simp
        rw [HPW] at hln HL2
        simp only [List.length_append, List.length_singleton] at hln
        have hB1 := add_tx2 (a := L) (b := [32]) (c := L ++ [32]) (by simp only [List.length_singleton]; omega) rfl
        have hB2 := add_tx2 (a := L ++ [32]) (b := textW p1.data.toList) (c := L ++ [32] ++ textW p1.data.toList) (by simp only [List.length_append, List.length_singleton]; omega) rfl
        have hB3 := add_tx2 (a := L ++ [32] ++ textW p1.data.toList) (b := [61]) (c := L ++ [32] ++ textW p1.data.toList ++ [61]) (by simp only [List.length_append, List.length_singleton]; omega) rfl
        have hB4 := add_tx2 (a := L ++ [32] ++ textW p1.data.toList ++ [61]) (b := textW p2.data.toList) (c := L ++ ([32] ++ textW p1.data.toList ++ [61] ++ textW p2.data.toList)) (by simp only [List.length_append, List.length_singleton]; omega) (by simp)
        have HT1 := fun (W : World) => text_grown (W := W) p1 hsz.1
        have HT2 := fun (W : World) => text_grown (W := W) p2 hsz.2
        have HT : Hid ((∀ W d os, Calls Tryz.prog 52 #[.string p1] (Sort.grow (redrawn W d) os) fun e w'' => e = .returned (.string (tx (textW p1.data.toList))) ∧ ∃ p : Regrown, w'' = Sort.grow (redrawn W p.d) p.os) ∧ (∀ W d os, Calls Tryz.prog 52 #[.string p2] (Sort.grow (redrawn W d) os) fun e w'' => e = .returned (.string (tx (textW p2.data.toList))) ∧ ∃ p : Regrown, w'' = Sort.grow (redrawn W p.d) p.os)) := ⟨HT1, HT2⟩
        clear HT1 HT2 hsz hks hm hjl hln HPW HEV2
        generalize L ++ ([32] ++ textW p1.data.toList ++ [61] ++ textW p2.data.toList) = L2 at hB4 HL2
        generalize L ++ [32] ++ textW p1.data.toList ++ [61] = M3 at hB3 hB4
        generalize L ++ [32] ++ textW p1.data.toList = M2 at hB2 hB3
        generalize L ++ [32] = M1 at hB1 hB2
        generalize textW p1.data.toList = T1 at hB2 HT
        generalize textW p2.data.toList = T2 at hB4 HT
        have HOK : Hid (wr.heap[B]? = some (.cells #[.int .i64 1, .int .i64 (cn : Nat), .int .i64 (tn : Nat), .int .u64 (ei : Nat), .slice po pn pc, .slice ko kn kc, .int .i64 ax, .int .i64 ar, .int .u64 (ai : Nat), .slice vo vn vc] 36 (0, 0)) ∧ Keeps no w wr) := HO.out.2
        subst e1
        have b4 := cell_regrown z4
        have b0 := cell_regrown d0
        have b1 := cell_regrown d1
        go_upto_region 8 with fail
        clear z4 d0 d1
        refine wp_region_quiet_below (by kernel_rfl) (by kernel_rfl) ?_
        repeat (go_big_quiet_step (first | with_reducible exact HT.out.1 _ _ _ | with_reducible exact HT.out.2 _ _ _))
        refine wpQuiet_nil ?_
        intro _ hw'
        obtain ⟨⟨dq, osq⟩, rfl⟩ := hw'
        have hkq : Keeps no wr (Sort.grow (redrawn wr dq) osq) := keeps_grown ..
        generalize Sort.grow (redrawn wr dq) osq = w4 at hkq ⊢
        have HN : Hid (w4.heap[B]? = some (.cells #[.int .i64 1, .int .i64 (cn : Nat), .int .i64 (tn : Nat), .int .u64 (ei : Nat), .slice (some ⟨g, off, none⟩) pn pc, .slice ko kn kc, .int .i64 ax, .int .i64 ar, .int .u64 (ai : Nat), .slice vo vn vc] 36 (0, 0)) ∧ Keeps no w w4) := ⟨hkq.at HOK.out.1 id, HOK.out.2.trans hkq⟩
        clear hkq b4 b0 b1 HT
        go_wp2_with fail
        go_roundw
        case rel => exact ⟨j + 1, L2, by omega, rfl, by go_num, HL2.out, HN.out⟩
        case measure => first | (simp [intOf]; done) | (simp [intOf]; omega)
      · have hltI : ¬ (j : Int) < pn := by omega
        have HF : Hid (lineW e = L ++ [10]) := by
          show _ = _
          rw [HEV.out, HO.out.1, List.take_of_length_le (by have := HE.out.2.1; omega)]
        have HK : Hid (Keeps no w wr) := HO.out.2.2
        have HLe : Hid (L.length ≤ 1000000000) := by
          have h := congrArg List.length HF.out
          rw [List.length_append] at h
          have := HLL.out
          show _ ≤ _
          omega
        have hA9 := add_tx2 (a := L) (b := [10]) (c := L ++ [10]) (by have := HLe.out; simp only [List.length_singleton]; omega) rfl
        have HLF : Hid (L ++ [10] = lineW e) := HF.out.symm
        generalize L ++ [10] = L9 at hA9 HLF
        go_wp2_with fail
        go_ret
        rw [← HLF.out]
        exact ⟨rfl, HK.out⟩
  · have HEV : Hid (lineW e = P2 ++ [32, 114, 101, 97, 100] ++ e.keys.flatMap (keyW 32) ++ [10]) := by
      show _ = _
      rw [HLW.out]; unfold evW; rw [if_neg (by rw [← HQ.out.1]; decide), if_pos HQ.out.1.symm]; unfold readW keysW; simp
    have hA3 := add_tx2 (a := P2) (b := [32, 114, 101, 97, 100]) (c := P2 ++ [32, 114, 101, 97, 100]) (by have := HP2.out; simp only [List.length_cons, List.length_nil]; omega) rfl
    generalize P2 ++ [32, 114, 101, 97, 100] = P4 at hA3 HEV
    clear z3 z7 z8
    go_wp2_with fail
    go_loopw [3, 5] (fun s3 s4 wr => ∃ (j : Nat) (L : List UInt8), j ≤ kn ∧ s3 = .string (tx L) ∧ s4 = .int .i64 (j : Nat) ∧ Hid (L = P4 ++ (e.keys.take j).flatMap (keyW 32) ∧ wr.heap[B]? = some (.cells #[.int .i64 2, .int .i64 (cn : Nat), .int .i64 (tn : Nat), .int .u64 (ei : Nat), .slice po pn pc, .slice ko kn kc, .int .i64 ax, .int .i64 ar, .int .u64 (ai : Nat), .slice vo vn vc] 36 (0, 0)) ∧ Keeps no w wr)) (fun _ s4 _ => kn - (intOf s4).toNat)
    case atStart => exact ⟨0, P4, by omega, rfl, rfl, by simp, H3.out⟩
    case round =>
      rename World => wr
      clear hA3 H3 z0
      obtain ⟨j, L, hjn, rfl, rfl, HO⟩ := hrel
      have z5 := cell_of_blk HO.out.2.1 5
      simp only [List.getElem?_toArray, List.getElem?_cons_succ, List.getElem?_cons_zero] at z5
      by_cases hlt : j < kn
      · have hltI : (j : Int) < kn := by omega
        have hjl : j < e.keys.length := by have := HE.out.2.2.2.1; omega
        obtain ⟨g, off, e1, d1⟩ := (HE.out.2.2.1.keepsN HO.out.2.2).at hjl
        have hm := getD_mem_lt e0 hjl
        have hT : (e.keys.take (j + 1)).flatMap (keyW 32) = (e.keys.take j).flatMap (keyW 32) ++ keyW 32 (e.keys.getD j e0) := by
          rw [take_succ_getD e.keys j e0 hjl, List.flatMap_append, List.flatMap_singleton]
        have hks : wtT (e.keys.getD j e0) + 1 ≤ 1000000000 := Nat.le_trans (le_sum (fun k => wtT k + 1) hm) HW.out.2.1
        have HEV2 : Hid (lineW e = (L ++ keyW 32 (e.keys.getD j e0)) ++ ((e.keys.drop (j + 1)).flatMap (keyW 32) ++ [10])) := by
          show _ = _
          rw [HEV.out, flat_split (keyW 32) e.keys (j + 1), hT, HO.out.1]; simp only [List.append_assoc]
        have HL2 : Hid (L ++ keyW 32 (e.keys.getD j e0) = P4 ++ (e.keys.take (j + 1)).flatMap (keyW 32)) := by show _ = _; rw [hT, HO.out.1, List.append_assoc]
        clear hT
        generalize e.keys.getD j e0 = key at d1 hks HEV2 HL2
        have hsz : key.size ≤ 1000000000 := by unfold wtT at hks; omega
        have hln : (L ++ keyW 32 key).length ≤ 1000000000 := by
          have h := congrArg List.length HEV2.out
          rw [List.length_append] at h
          have := HLL.out
          omega
        have HPW : keyW 32 key = [32] ++ textW key.data.toList := by unfold keyW; simp
        rw [HPW] at hln HL2
        simp only [List.length_append, List.length_singleton] at hln
        have hB1 := add_tx2 (a := L) (b := [32]) (c := L ++ [32]) (by simp only [List.length_singleton]; omega) rfl
        have hB2 := add_tx2 (a := L ++ [32]) (b := textW key.data.toList) (c := L ++ ([32] ++ textW key.data.toList)) (by simp only [List.length_append, List.length_singleton]; omega) (by simp)
        have HT1 := text_any wr key hsz
        have HT : Hid (Calls Tryz.prog 52 #[.string key] wr fun e w' => e = .returned (.string (tx (textW key.data.toList))) ∧ Keeps no wr w') := HT1
        clear HT1 hsz hks hm hjl hln HPW HEV2
        generalize L ++ ([32] ++ textW key.data.toList) = L2 at hB2 HL2
        generalize L ++ [32] = M1 at hB1 hB2
        generalize textW key.data.toList = T1 at hB2 HT
        have HOK : Hid (wr.heap[B]? = some (.cells #[.int .i64 2, .int .i64 (cn : Nat), .int .i64 (tn : Nat), .int .u64 (ei : Nat), .slice po pn pc, .slice ko kn kc, .int .i64 ax, .int .i64 ar, .int .u64 (ai : Nat), .slice vo vn vc] 36 (0, 0)) ∧ Keeps no w wr) := HO.out.2
        subst e1
        go_wp2_with fail
        refine HT.out.mono ?_
        rintro E w4 ⟨rfl, hk4⟩
        have HN : Hid (w4.heap[B]? = some (.cells #[.int .i64 2, .int .i64 (cn : Nat), .int .i64 (tn : Nat), .int .u64 (ei : Nat), .slice po pn pc, .slice (some ⟨g, off, none⟩) kn kc, .int .i64 ax, .int .i64 ar, .int .u64 (ai : Nat), .slice vo vn vc] 36 (0, 0)) ∧ Keeps no w w4) := ⟨hk4.at HOK.out.1 id, HOK.out.2.trans hk4⟩
        clear hk4 z5 d1 HT
        go_wp2_with fail
        go_roundw
        case rel => exact ⟨j + 1, L2, by omega, rfl, by go_num, HL2.out, HN.out⟩
        case measure => first | (simp [intOf]; done) | (simp [intOf]; omega)
      · have hltI : ¬ (j : Int) < kn := by omega
        have HF : Hid (lineW e = L ++ [10]) := by
          show _ = _
          rw [HEV.out, HO.out.1, List.take_of_length_le (by have := HE.out.2.2.2.1; omega)]
        have HK : Hid (Keeps no w wr) := HO.out.2.2
        have HLe : Hid (L.length ≤ 1000000000) := by
          have h := congrArg List.length HF.out
          rw [List.length_append] at h
          have := HLL.out
          show _ ≤ _
          omega
        have hA9 := add_tx2 (a := L) (b := [10]) (c := L ++ [10]) (by have := HLe.out; simp only [List.length_singleton]; omega) rfl
        have HLF : Hid (L ++ [10] = lineW e) := HF.out.symm
        generalize L ++ [10] = L9 at hA9 HLF
        go_wp2_with fail
        go_ret
        rw [← HLF.out]
        exact ⟨rfl, HK.out⟩
  · obtain ⟨rn, hrn⟩ : ∃ n : Nat, ar = (n : Int) := ⟨ar.toNat, by have := HQ.out.2.2.2.2 HQ.out.1.symm; rw [← HQ.out.2.2.1] at this; omega⟩
    subst hrn
    have hr16 : 1 ≤ rn ∧ rn ≤ 6 := by have := HQ.out.2.2.2.2 HQ.out.1.symm; rw [← HQ.out.2.2.1] at this; omega
    have HEV : Hid (lineW e = P2 ++ [32] ++ wordL rn ++ [32] ++ numW ai ++ e.vers.flatMap (fun v => 32 :: verW v) ++ [10]) := by
      show _ = _
      rw [HLW.out]; unfold evW; rw [if_neg (by rw [← HQ.out.1]; decide), if_neg (by rw [← HQ.out.1]; decide), if_pos HQ.out.1.symm]; unfold ansW versW; rw [← HQ.out.2.2.1, ← HQ.out.2.2.2.1]; simp
    have hid : ai < 18446744073709551616 := by have := HE.out.2.2.2.2.2.2.aid; rw [← HQ.out.2.2.2.1] at this; exact this
    have hil := numW_len hid
    have hwl := wordL_len rn
    have hA3 := add_tx2 (a := P2) (b := [32]) (c := P2 ++ [32]) (by have := HP2.out; simp only [List.length_singleton]; omega) rfl
    have hA4 := add_tx2 (a := P2 ++ [32]) (b := wordL rn) (c := P2 ++ [32] ++ wordL rn) (by have := HP2.out; simp only [List.length_append, List.length_singleton]; omega) rfl
    have hA5 := add_tx2 (a := P2 ++ [32] ++ wordL rn) (b := [32]) (c := P2 ++ [32] ++ wordL rn ++ [32]) (by have := HP2.out; simp only [List.length_append, List.length_singleton]; omega) rfl
    have hA6 := add_tx2 (a := P2 ++ [32] ++ wordL rn ++ [32]) (b := numW ai) (c := P2 ++ [32] ++ wordL rn ++ [32] ++ numW ai) (by have := HP2.out; simp only [List.length_append, List.length_singleton]; omega) rfl
    have HT1 := fun (W : World) => word_grown (W := W) rn hr16.1 hr16.2
    have HT2 := fun (W : World) => digits_grown (W := W) ai hid
    have HT : Hid ((∀ W d os, Calls Tryz.prog 53 #[.int .i64 (rn : Nat)] (Sort.grow (redrawn W d) os) fun e w'' => e = .returned (.string (tx (wordL rn))) ∧ ∃ p : Regrown, w'' = Sort.grow (redrawn W p.d) p.os) ∧ (∀ W d os, Calls Tryz.prog 51 #[.int .u64 (ai : Nat)] (Sort.grow (redrawn W d) os) fun e w'' => e = .returned (.string (tx (numW ai))) ∧ ∃ p : Regrown, w'' = Sort.grow (redrawn W p.d) p.os)) := ⟨HT1, HT2⟩
    clear HT1 HT2 hil hwl hid hr16
    generalize P2 ++ [32] ++ wordL rn ++ [32] ++ numW ai = P4 at hA6 HEV
    generalize P2 ++ [32] ++ wordL rn ++ [32] = M3 at hA5 hA6
    generalize P2 ++ [32] ++ wordL rn = M2 at hA4 hA5
    generalize P2 ++ [32] = M1 at hA3 hA4
    generalize wordL rn = T1 at hA4 HT
    generalize numW ai = T2 at hA6 HT
    go_upto_region 16 with fail
    have b7 := cell_regrown z7
    have b8 := cell_regrown z8
    clear z0 z3 z7 z8
    refine wp_region_quiet_below (by kernel_rfl) (by kernel_rfl) ?_
    repeat (go_big_quiet_step (first | with_reducible exact HT.out.1 _ _ _ | with_reducible exact HT.out.2 _ _ _))
    refine wpQuiet_nil ?_
    intro _ hw'
    obtain ⟨⟨dq, osq⟩, rfl⟩ := hw'
    have hkq : Keeps no w2 (Sort.grow (redrawn w2 dq) osq) := keeps_grown ..
    generalize Sort.grow (redrawn w2 dq) osq = w3 at hkq ⊢
    have H4 : Hid (w3.heap[B]? = some (.cells #[.int .i64 3, .int .i64 (cn : Nat), .int .i64 (tn : Nat), .int .u64 (ei : Nat), .slice po pn pc, .slice ko kn kc, .int .i64 ax, .int .i64 (rn : Nat), .int .u64 (ai : Nat), .slice vo vn vc] 36 (0, 0)) ∧ Keeps no w w3) := ⟨hkq.at H3.out.1 id, H3.out.2.trans hkq⟩
    clear hkq H3 b7 b8 HT hA3 hA4 hA5 hA6
    go_wp2_with fail
    go_loopw [3, 6] (fun s3 s4 wr => ∃ (j : Nat) (L : List UInt8), j ≤ vn ∧ s3 = .string (tx L) ∧ s4 = .int .i64 (j : Nat) ∧ Hid (L = P4 ++ (e.vers.take j).flatMap (fun v => 32 :: verW v) ∧ wr.heap[B]? = some (.cells #[.int .i64 3, .int .i64 (cn : Nat), .int .i64 (tn : Nat), .int .u64 (ei : Nat), .slice po pn pc, .slice ko kn kc, .int .i64 ax, .int .i64 (rn : Nat), .int .u64 (ai : Nat), .slice vo vn vc] 36 (0, 0)) ∧ Keeps no w wr)) (fun _ s4 _ => vn - (intOf s4).toNat)
    case atStart => exact ⟨0, P4, by omega, rfl, rfl, by simp, H4.out⟩
    case round =>
      rename World => wr
      clear H4
      obtain ⟨j, L, hjn, rfl, rfl, HO⟩ := hrel
      have z9 := cell_of_blk HO.out.2.1 9
      simp only [List.getElem?_toArray, List.getElem?_cons_succ, List.getElem?_cons_zero] at z9
      by_cases hlt : j < vn
      · have hltI : (j : Int) < vn := by omega
        have hjl : j < e.vers.length := by have := HE.out.2.2.2.2.2.1; omega
        have hva := HE.out.2.2.2.2.1.keepsN HO.out.2.2
        obtain ⟨g, off, e1, c0, c1, c2, c3⟩ := hva.sl.atV (j := j) (by rw [hva.len]; exact hjl)
        have hvo := hva.each j hjl
        have hm := getD_mem_lt v0 hjl
        have hid := HE.out.2.2.2.2.2.2.vid _ hm
        have hvk := HE.out.2.2.2.2.2.2.vk _ hm
        have hT : (e.vers.take (j + 1)).flatMap (fun v => 32 :: verW v) = (e.vers.take j).flatMap (fun v => 32 :: verW v) ++ (32 :: verW (e.vers.getD j v0)) := by
          rw [take_succ_getD e.vers j v0 hjl, List.flatMap_append, List.flatMap_singleton]
        have hks : wtV (e.vers.getD j v0) + 1 ≤ 1000000000 := Nat.le_trans (le_sum (fun v => wtV v + 1) hm) HW.out.2.2
        have HEV2 : Hid (lineW e = (L ++ (32 :: verW (e.vers.getD j v0))) ++ ((e.vers.drop (j + 1)).flatMap (fun v => 32 :: verW v) ++ [10])) := by
          show _ = _
          rw [HEV.out, flat_split (fun v => 32 :: verW v) e.vers (j + 1), hT, HO.out.1]; simp only [List.append_assoc]
        have HL2 : Hid (L ++ (32 :: verW (e.vers.getD j v0)) = P4 ++ (e.vers.take (j + 1)).flatMap (fun v => 32 :: verW v)) := by show _ = _; rw [hT, HO.out.1, List.append_assoc]
        clear hT
        generalize e.vers.getD j v0 = v at hvo hid hvk hks HEV2 HL2
        generalize rv.getD j r0 = r1 at c0 c1 c2 c3 hvo
        have HT1 := version_any wr r1 v hvo hid (by omega) hvk
        obtain ⟨k1, i1, a1, o1, n1, c1'⟩ := r1
        simp only at c0 c1 c2 c3 HT1
        have hln : (L ++ (32 :: verW v)).length ≤ 1000000000 := by
          have h := congrArg List.length HEV2.out
          rw [List.length_append] at h
          have := HLL.out
          omega
        simp only [List.length_append, List.length_cons] at hln
        have hB1 := add_tx2 (a := L) (b := [32]) (c := L ++ [32]) (by simp only [List.length_singleton]; omega) rfl
        have hB2 := add_tx2 (a := L ++ [32]) (b := verW v) (c := L ++ (32 :: verW v)) (by simp only [List.length_append, List.length_singleton]; omega) (by simp)
        have HT : Hid (Calls Tryz.prog 54 #[.agg #[.string k1, .int .u64 (i1 : Nat), .string a1, .slice o1 n1 c1']] wr fun e w' => e = .returned (.string (tx (verW v))) ∧ Keeps no wr w') := HT1
        clear HT1 hks hm hjl hln HEV2 hid hvk hvo hva
        generalize L ++ (32 :: verW v) = L2 at hB2 HL2
        generalize L ++ [32] = M1 at hB1 hB2
        generalize verW v = T1 at hB2 HT
        have HOK : Hid (wr.heap[B]? = some (.cells #[.int .i64 3, .int .i64 (cn : Nat), .int .i64 (tn : Nat), .int .u64 (ei : Nat), .slice po pn pc, .slice ko kn kc, .int .i64 ax, .int .i64 (rn : Nat), .int .u64 (ai : Nat), .slice vo vn vc] 36 (0, 0)) ∧ Keeps no w wr) := HO.out.2
        subst e1
        go_wp2_with fail
        refine HT.out.mono ?_
        rintro E w4 ⟨rfl, hk4⟩
        have HN : Hid (w4.heap[B]? = some (.cells #[.int .i64 3, .int .i64 (cn : Nat), .int .i64 (tn : Nat), .int .u64 (ei : Nat), .slice po pn pc, .slice ko kn kc, .int .i64 ax, .int .i64 (rn : Nat), .int .u64 (ai : Nat), .slice (some ⟨g, off, none⟩) vn vc] 36 (0, 0)) ∧ Keeps no w w4) := ⟨hk4.at HOK.out.1 id, HOK.out.2.trans hk4⟩
        clear hk4 z9 c0 c1 c2 c3 HT
        go_wp2_with fail
        go_roundw
        case rel => exact ⟨j + 1, L2, by omega, rfl, by go_num, HL2.out, HN.out⟩
        case measure => first | (simp [intOf]; done) | (simp [intOf]; omega)
      · have hltI : ¬ (j : Int) < vn := by omega
        have HF : Hid (lineW e = L ++ [10]) := by
          show _ = _
          rw [HEV.out, HO.out.1, List.take_of_length_le (by have := HE.out.2.2.2.2.2.1; omega)]
        have HK : Hid (Keeps no w wr) := HO.out.2.2
        have HLe : Hid (L.length ≤ 1000000000) := by
          have h := congrArg List.length HF.out
          rw [List.length_append] at h
          have := HLL.out
          show _ ≤ _
          omega
        have hA9 := add_tx2 (a := L) (b := [10]) (c := L ++ [10]) (by have := HLe.out; simp only [List.length_singleton]; omega) rfl
        have HLF : Hid (L ++ [10] = lineW e) := HF.out.symm
        generalize L ++ [10] = L9 at hA9 HLF
        go_wp2_with fail
        go_ret
        rw [← HLF.out]
        exact ⟨rfl, HK.out⟩
end Go.Proofs.YtjkljljmjjnneaaGreatDoor
