/- The document's side: Print. -/
import Derived.Test.YtjkljljmjjnneaaGreatDoorE5
namespace Go.Proofs.YtjkljljmjjnneaaGreatDoor
open Go.RowKit Go.Sort Orl
set_option linter.unusedVariables false
set_option linter.unusedSimpArgs false

theorem may_kind {e : Ev} (h : mayB e = true) : e.kind = 1 ∨ e.kind = 2 ∨ e.kind = 3 := by
  rw [may_eq, Bool.and_eq_true] at h
  have h2 := h.2
  split at h2
  · left; assumption
  · split at h2
    · right; left; assumption
    · split at h2
      · right; right; assumption
      · cases h2
set_option maxRecDepth 10000 in
set_option maxHeartbeats 8000000 in
theorem rPrint_any (w : World) (o : Option Addr) (n c : Nat) (rs : List RE) (es : List Ev) (hn : n = es.length) (he : Evs w o c rs es) (hz : ∀ e ∈ es, SzE e) (hw : (es.map wtE).sum ≤ 1000000000) (hb : n ≤ 1048576) :
    Calls Tryz.prog 17 #[.slice o n c] w fun E w' => E = .returned (printV es) ∧ Keeps no w w' := by
  have HV : Hid (n = es.length ∧ Evs w o c rs es ∧ (∀ e ∈ es, SzE e) ∧ (es.map wtE).sum ≤ 1000000000) := ⟨hn, he, hz, hw⟩
  have hnb : (n : Int) ≤ 1048576 := by omega
  clear hn he hz hw hb
  go_enter Tryz.func17, Tryz.ntmps17
  go_wp2_with fail
  go_loopw [4, 5] (fun s4 s5 wr => ∃ (k : Nat) (L : List UInt8), k ≤ n ∧ s4 = .string (tx L) ∧ s5 = .int .i64 (k : Nat) ∧ Hid (L = (es.take k).flatMap lineW ∧ (es.take k).all mayB = true ∧ L.length ≤ ((es.take k).map wtE).sum ∧ Keeps no w wr)) (fun _ s5 _ => n - (intOf s5).toNat)
  case atStart => exact ⟨0, [], by omega, rfl, rfl, rfl, rfl, by simp, Keeps.refl _ _⟩
  case round =>
    rename World => wr
    obtain ⟨k, L, hkn, rfl, rfl, HO⟩ := hrel
    by_cases hlt : k < n
    · have hltI : (k : Int) < n := by omega
      have hkl : k < es.length := by have := HV.out.1; omega
      have hva := HV.out.2.1.keepsN HO.out.2.2.2
      obtain ⟨g, off, e0', hcl⟩ := hva.sl.atE (j := k) (by rw [hva.len]; exact hkl)
      have hve := HV.out.2.1.each k hkl
      have hm := getD_mem_lt ev0 hkl
      have hsz := HV.out.2.2.1 _ hm
      have hwt : wtE (es.getD k ev0) ≤ 1000000000 := Nat.le_trans (le_sum wtE hm) HV.out.2.2.2
      have HAL : Hid ((es.take (k + 1)).all mayB = mayB (es.getD k ev0)) := by
        show _ = _
        rw [all_take _ ev0 _ _ hkl, HO.out.2.1, Bool.true_and]
      have HFL : Hid ((es.take (k + 1)).flatMap lineW = L ++ lineW (es.getD k ev0) ∧ ((es.take (k + 1)).map wtE).sum = ((es.take k).map wtE).sum + wtE (es.getD k ev0)) := by
        refine ⟨?_, ?_⟩
        · rw [take_succ_getD es k ev0 hkl, List.flatMap_append, List.flatMap_singleton, HO.out.1]
        · rw [take_succ_getD es k ev0 hkl, List.map_append, List.sum_append]; simp
      have hLs : L.length ≤ 1000000000 := by have := HO.out.2.2.1; have := take_sum wtE es k; have := HV.out.2.2.2; omega
      have HMY := fun (W : World) (hW : Keeps no w W) => rMay_any W (rs.getD k re0) (es.getD k ev0) (hve.keepsN hW) hsz
      have HLN := fun (W : World) (hW : Keeps no w W) (ho : WrOk (es.getD k ev0)) (hkd : (es.getD k ev0).kind = 1 ∨ (es.getD k ev0).kind = 2 ∨ (es.getD k ev0).kind = 3) => rLine_any W (rs.getD k re0) (es.getD k ev0) (hve.keepsN hW) hsz ho hkd hwt
      have HWR : Hid (mayB (es.getD k ev0) = true → WrOk (es.getD k ev0) ∧ ((es.getD k ev0).kind = 1 ∨ (es.getD k ev0).kind = 2 ∨ (es.getD k ev0).kind = 3) ∧ (lineW (es.getD k ev0)).length ≤ wtE (es.getD k ev0)) := fun h => ⟨may_wr h hsz, may_kind h, lineW_wt hsz (may_wr h hsz)⟩
      generalize es.getD k ev0 = e at HAL HFL HMY HLN HWR hwt
      generalize rs.getD k re0 = r at hcl HMY HLN
      obtain ⟨ek, ecl, et, ei, po, pn, pc, ko, kn, kc, ax, ar, ai, vo, vn, vc⟩ := r
      obtain ⟨c0, c1, c2, c3, c4, c5, c6, c7, c8, c9⟩ := hcl
      simp only at c0 c1 c2 c3 c4 c5 c6 c7 c8 c9
      unfold aggE cellsE at HMY HLN
      simp only at HMY HLN
      have HM : Hid (∀ W, Keeps no w W → Calls Tryz.prog 28 #[.agg #[.int .i64 ek, .int .i64 ecl, .int .i64 et, .int .u64 (ei : Nat), .slice po pn pc, .slice ko kn kc, .int .i64 ax, .int .i64 ar, .int .u64 (ai : Nat), .slice vo vn vc]] W fun E w' => E = .returned (.bool (mayB e)) ∧ Keeps no W w') := HMY
      clear HMY hve hva hkl hsz hm
      subst e0'
      cases hmb : mayB e with
      | false =>
        rw [hmb] at HM
        have HF : Hid (printV es = .tuple #[.string ⟨#[]⟩, .int .i64 1]) := by
          show _ = _
          unfold printV
          rw [if_neg]
          rw [all_false mayB es (k + 1) (by rw [HAL.out]; exact hmb)]
          decide
        clear HLN HWR HAL HFL hmb
        go_wp2_with fail
        refine (HM.out _ HO.out.2.2.2).mono ?_
        rintro E w2 ⟨rfl, hk2⟩
        have HK : Hid (Keeps no w w2) := HO.out.2.2.2.trans hk2
        go_wp2_with fail
        go_ret2
        rw [HF.out]
        exact ⟨rfl, HK.out⟩
      | true =>
        rw [hmb] at HM
        obtain ⟨ho, hkd, hll⟩ := HWR.out hmb
        have HL : Hid (∀ W, Keeps no w W → Calls Tryz.prog 29 #[.agg #[.int .i64 ek, .int .i64 ecl, .int .i64 et, .int .u64 (ei : Nat), .slice po pn pc, .slice ko kn kc, .int .i64 ax, .int .i64 ar, .int .u64 (ai : Nat), .slice vo vn vc]] W fun E w' => E = .returned (.string (tx (lineW e))) ∧ Keeps no W w') := fun W hW => HLN W hW ho hkd
        have hA := add_tx2 (a := L) (b := lineW e) (c := L ++ lineW e) (by omega) rfl
        have HN : Hid ((es.take (k + 1)).all mayB = true ∧ (L ++ lineW e).length ≤ ((es.take (k + 1)).map wtE).sum) := ⟨by rw [HAL.out]; exact hmb, by rw [List.length_append, HFL.out.2]; have := HO.out.2.2.1; omega⟩
        have HL2 : Hid (L ++ lineW e = (es.take (k + 1)).flatMap lineW) := HFL.out.1.symm
        clear HLN HWR HAL HFL hmb ho hkd hll hLs hwt
        generalize L ++ lineW e = L2 at hA HN HL2
        generalize lineW e = T1 at hA HL
        go_wp2_with fail
        refine (HM.out _ HO.out.2.2.2).mono ?_
        rintro E w2 ⟨rfl, hk2⟩
        have HK : Hid (Keeps no wr w2) := hk2
        have d0 := hk2.cellN c0
        have d1 := hk2.cellN c1
        have d2 := hk2.cellN c2
        have d3 := hk2.cellN c3
        have d4 := hk2.cellN c4
        have d5 := hk2.cellN c5
        have d6 := hk2.cellN c6
        have d7 := hk2.cellN c7
        have d8 := hk2.cellN c8
        have d9 := hk2.cellN c9
        clear hk2 HM c0 c1 c2 c3 c4 c5 c6 c7 c8 c9
        go_wp2_with fail
        refine (HL.out _ (HO.out.2.2.2.trans HK.out)).mono ?_
        rintro E w3 ⟨rfl, hk3⟩
        have HK3 : Hid (Keeps no w w3) := (HO.out.2.2.2.trans HK.out).trans hk3
        clear hk3 HL d0 d1 d2 d3 d4 d5 d6 d7 d8 d9 HK
        go_wp2_with fail
        go_roundw
        case rel => exact ⟨k + 1, L2, by omega, rfl, by go_num, HL2.out, HN.out.1, HN.out.2, HK3.out⟩
        case measure => first | (simp [intOf]; done) | (simp [intOf]; omega)
    · have hltI : ¬ (k : Int) < n := by omega
      have HF : Hid (printV es = .tuple #[.string (tx L), .int .i64 0]) := by
        have h1 := HO.out.1
        have h2 := HO.out.2.1
        rw [List.take_of_length_le (by have := HV.out.1; omega)] at h1 h2
        show _ = _
        unfold printV
        rw [if_pos h2, h1]
      have HK : Hid (Keeps no w wr) := HO.out.2.2.2
      go_wp2_with fail
      go_ret2
      rw [HF.out]
      exact ⟨rfl, HK.out⟩
end Go.Proofs.YtjkljljmjjnneaaGreatDoor
