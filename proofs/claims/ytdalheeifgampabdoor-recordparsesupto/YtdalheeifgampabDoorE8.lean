/- The document's Parse. -/
import Derived.Test.YtdalheeifgampabDoorE7
namespace Go.Proofs.YtdalheeifgampabDoor
open Go.RowKit Go.Sort Orl Pk
set_option linter.unusedVariables false
set_option linter.unusedSimpArgs false

set_option maxRecDepth 10000 in
set_option maxHeartbeats 1000000 in
theorem dParse_any (w : World) (o : Option Addr) (n c : Nat) (b : List Nat) (hn : n = b.length) (hnb : (n : Int) ≤ 1099511627776) (hs : BSl w o c b) :
    Calls Tryd.prog 9 #[.slice o n c] w (ParTo w b) := by
  have HN : Hid (n = b.length) := hn
  have HBY : Hid (∀ c ∈ b, c < 256) := hs.row.1
  have kB : Keeps no w (w.alloc (.cells #[.int .i64 0, .int .u64 0, .slice none 0 0, .slice none 0 0] 30)) := (Keeps.refl _ _).alloc _
  have HKB : Hid (Keeps no w (w.alloc (.cells #[.int .i64 0, .int .u64 0, .slice none 0 0, .slice none 0 0] 30))) := kB
  have HS : Hid (∀ w', Keeps no w w' → BSl w' o c b) := fun w' hk => hs.keeps hk (fun _ _ h => h)
  have hB1 := blk_new w (.cells #[.int .i64 0, .int .u64 0, .slice none 0 0, .slice none 0 0] 30)
  have HB1 : Hid ((w.alloc (.cells #[.int .i64 0, .int .u64 0, .slice none 0 0, .slice none 0 0] 30)).heap[w.heap.size]? = some (.cells #[.int .i64 0, .int .u64 0, .slice none 0 0, .slice none 0 0] 30 (0, 0))) := hB1
  clear hn hs kB hB1
  by_cases h8 : n < 8
  · have h8' : (n : Int) < 8 := by omega
    have HP : Hid (parse b = (c0, 0, 91)) := parse_short (by have := HN.out; omega)
    go_enter Tryd.func9, Tryd.ntmps9
    go_wp2_with fail
    (try simp only [Exit.inBlock, Exit.then])
    refine bodyPost_ret (results_row3 rfl _ _ w.heap.size _ rfl (loadR HB1.out)) rfl ?_
    exact parTo_err 91 HP.out (by omega) HKB.out
  have h8' : ¬ (n : Int) < 8 := by omega
  have HB8 : Hid (8 ≤ b.length) := by show 8 ≤ b.length; have := HN.out; omega
  clear h8
  go_enter Tryd.func9, Tryd.ntmps9
  go_wp2_with fail
  refine (dGet_any _ o n c b 0 4 HN.out (HS.out _ HKB.out).row (by omega) (by omega) (by omega)).mono ?_
  rintro e w1 ⟨rfl, hw1⟩
  subst w1
  have HV4 : Hid (getP b 0 4 < 4294967296) := getP_lt HBY.out 0 4
  obtain ⟨V, hV⟩ : ∃ V, V = getP b 0 4 := ⟨_, rfl⟩
  have HV : Hid (V = Pk.val (b.take 4)) := by show _ = _; rw [hV, getP_val b 0 4 (by have := HB8.out; omega)]; rfl
  rw [← hV] at HV4 ⊢
  have hVI : (V : Int) ≤ 4294967295 := by have := HV4.out; omega
  clear hV HV4
  obtain ⟨y0, y1, y2, y3⟩ := cells4 HB1.out
  have f0 := frozen_of_blk HB1.out 0
  have f1 := frozen_of_blk HB1.out 1
  have f2 := frozen_of_blk HB1.out 2
  have f3 := frozen_of_blk HB1.out 3
  obtain ⟨B, hB⟩ : ∃ B, B = w.heap.size := ⟨_, rfl⟩
  have HB : Hid (B = w.heap.size) := hB
  have HWS : Hid (B < (w.alloc (.cells #[.int .i64 0, .int .u64 0, .slice none 0 0, .slice none 0 0] 30)).heap.size) := lt_of_block (by rw [hB]; exact HB1.out)
  rw [← hB] at HB1 y0 y1 y2 y3 f0 f1 f2 f3 ⊢
  generalize w.alloc (.cells #[.int .i64 0, .int .u64 0, .slice none 0 0, .slice none 0 0] 30) = W at HKB HB1 HWS y0 y1 y2 y3 f0 f1 f2 f3 ⊢
  clear hB
  by_cases hv : 1048576 < V
  · have hv' : (V : Int) > 1048576 := by omega
    have HP : Hid (parse b = (c0, 0, 3)) := parse_long HB8.out (by rw [← HV.out]; exact hv)
    clear hv
    go_wp2_with fail
    (try simp only [Exit.inBlock, Exit.then])
    have hs4 := set4n (g := B) (by have := HB.out; omega) HKB.out HB1.out (.int .i64 0) (.int .u64 0) (.slice none 0 0) (.slice none 0 0)
    refine bodyPost_ret (results_row3 rfl _ _ B _ rfl (loadR hs4.1)) rfl ?_
    exact parTo_err 3 HP.out (by omega) hs4.2
  have hv' : ¬ (V : Int) > 1048576 := by omega
  have hv2 : (V : Int) ≤ 1048576 := by omega
  have HVL : Hid (V ≤ 1048576) := by show V ≤ 1048576; omega
  clear hv
  by_cases hl : n - 8 < V
  · have hl' : (n : Int) - 8 < V := by omega
    have HP : Hid (parse b = (c0, 0, 91)) := parse_torn HB8.out (by rw [← HV.out]; exact HVL.out) (by rw [← HV.out, ← HN.out]; exact hl)
    clear hl
    go_wp2_with fail
    (try simp only [Exit.inBlock, Exit.then])
    have hs4 := set4n (g := B) (by have := HB.out; omega) HKB.out HB1.out (.int .i64 0) (.int .u64 0) (.slice none 0 0) (.slice none 0 0)
    refine bodyPost_ret (results_row3 rfl _ _ B _ rfl (loadR hs4.1)) rfl ?_
    exact parTo_err 91 HP.out (by omega) hs4.2
  have hl' : ¬ (n : Int) - 8 < V := by omega
  have HLL : Hid (Pk.val (b.take 4) ≤ b.length - 8) := by show _ ≤ _; rw [← HV.out, ← HN.out]; omega
  have HPAY : Hid ((b.take (8 + V)).drop 8 = pay b ∧ V = (pay b).length) := by
    have e : (b.take (8 + V)).drop 8 = pay b := by unfold pay; rw [List.drop_take, ← HV.out, Nat.add_sub_cancel_left]
    refine ⟨e, ?_⟩
    unfold pay
    rw [List.length_take, List.length_drop, ← HV.out]
    have := HLL.out; have := HV.out; omega
  obtain ⟨A, d, hcut0, hslA⟩ := cutLH W o c b n 8 (8 + V) HN.out (by omega) (by omega) (HS.out _ HKB.out)
  rw [HPAY.out.1] at hslA
  have HSA : Hid (BSl W A d (pay b)) := hslA
  have hcut : ∀ w, (Instr.slice 22 (.slice o n c) (some (.int .i64 8)) (some (.int .i64 (8 + (V : Int)))) none).run Tryd.prog w = .ok (.slice A V d) w := by
    intro w
    have := hcut0 w
    rw [show 8 + V - 8 = V by omega, show ((8 + V : Nat) : Int) = 8 + (V : Int) by omega] at this
    exact this
  clear hl hslA hcut0
  go_wp2_with fail
  refine (dCrc_any W A V d (pay b) HPAY.out.2 HSA.out.row).mono ?_
  rintro e w' ⟨rfl, hw'⟩
  subst w'
  have HSL : Hid (Crc.sum (pay b) < 4294967296) := Crc.update_lt 0 _ (by decide) HSA.out.row.1
  obtain ⟨S, hS⟩ : ∃ S, S = Crc.sum (pay b) := ⟨_, rfl⟩
  rw [← hS] at HSL ⊢
  have HSS : Hid (S = Crc.sum (pay b)) := hS
  have hSI : (S : Int) ≤ 4294967295 := by have := HSL.out; omega
  clear hS HSL
  go_wp2_with fail
  refine (dGet_any W o n c b 4 4 HN.out (HS.out _ HKB.out).row (by omega) (by omega) (by omega)).mono ?_
  rintro e w1 ⟨rfl, hw1⟩
  subst w1
  have HC4 : Hid (getP b 4 4 < 4294967296) := getP_lt HBY.out 4 4
  obtain ⟨D, hD⟩ : ∃ D, D = getP b 4 4 := ⟨_, rfl⟩
  have HD : Hid (D = chk b) := by show _ = _; rw [hD, getP_val b 4 4 (by have := HB8.out; omega)]; rfl
  rw [← hD] at HC4 ⊢
  have hDI : (D : Int) ≤ 4294967295 := by have := HC4.out; omega
  clear hD HC4
  by_cases hsm : S = D
  case neg =>
    have HP : Hid (parse b = (c0, 0, 90)) := parse_sum HB8.out (by rw [← HV.out]; exact HVL.out) HLL.out (by rw [← HD.out, ← HSS.out]; exact hsm)
    have hsm1 : ((S : Int) == (D : Int)) = false := by simp; omega
    have hsm2 : ¬ (S : Int) = (D : Int) := by omega
    clear hsm
    go_wp2_with fail
    (try simp only [Exit.inBlock, Exit.then])
    have hs4 := set4n (g := B) (by have := HB.out; omega) HKB.out HB1.out (.int .i64 0) (.int .u64 0) (.slice none 0 0) (.slice none 0 0)
    refine bodyPost_ret (results_row3 rfl _ _ B _ rfl (loadR hs4.1)) rfl ?_
    exact parTo_err 90 HP.out (by omega) hs4.2
  have HP : Hid (parse b = if rok (pay b) then ((rrec (pay b)).1, 8 + (pay b).length, 0) else (c0, 0, 2)) := parse_rest HB8.out (by rw [← HV.out]; exact HVL.out) HLL.out (by rw [← HD.out, ← HSS.out]; exact hsm)
  subst hsm
  go_wp2_with fail
  refine (dRead_any W A V d (pay b) HPAY.out.2 (by omega) HSA.out).mono ?_
  rintro e w3 ⟨k, i, op, np, cp, ok, nk, ck, rfl, HG, hk3⟩
  have HK3 : Hid (Keeps no W w3) := hk3
  have HB3 : Hid (w3.heap[B]? = some (.cells #[.int .i64 0, .int .u64 0, .slice none 0 0, .slice none 0 0] 30 (0, 0))) := hk3.at HB1.out (fun h => h)
  have HK4 : Hid (Keeps no w3 (w3.alloc (.cells #[.int .i64 k, .int .u64 (i : Nat), .slice op np cp, .slice ok nk ck] 30))) := (Keeps.refl _ _).alloc _
  clear hk3 y0 y1 y2 y3 f0 f1 f2 f3
  have hB4 := HK4.out.at HB3.out (fun h => h)
  have hM4 := blk_new w3 (.cells #[.int .i64 k, .int .u64 (i : Nat), .slice op np cp, .slice ok nk ck] 30)
  have HB4 : Hid (_ = _) := hB4
  obtain ⟨y0, y1, y2, y3⟩ := cells4 hB4
  have f0 := frozen_of_blk hB4 0
  have f1 := frozen_of_blk hB4 1
  have f2 := frozen_of_blk hB4 2
  have f3 := frozen_of_blk hB4 3
  obtain ⟨x0, x1, x2, x3⟩ := cells4 hM4
  clear hB4 hM4
  have hWs := HWS.out
  have HLT : Hid (B < W.heap.size) := HWS.out
  clear hWs
  cases hrk : rok (pay b)
  · have HP2 : Hid (parse b = (c0, 0, 2)) := by show _ = _; rw [HP.out, if_neg (by rw [hrk]; simp)]
    go_wp2_with fail
    (try simp only [Exit.inBlock, Exit.then])
    have hs4 := set4n (g := B) (by have := HB.out; omega) ((HKB.out.trans HK3.out).trans HK4.out) HB4.out (.int .i64 0) (.int .u64 0) (.slice none 0 0) (.slice none 0 0)
    refine bodyPost_ret (results_row3 rfl _ _ B _ rfl (loadR hs4.1)) rfl ?_
    exact parTo_err 2 HP2.out (by omega) hs4.2
  · have HP2 : Hid (parse b = ((rrec (pay b)).1, 8 + (pay b).length, 0)) := by show _ = _; rw [HP.out, if_pos hrk]
    have HG2 : Hid (Got W w3 ⟨k, i, op, np, cp, ok, nk, ck⟩ (rrec (pay b)).1) := by have := HG.out; rw [hrk, if_pos rfl] at this; exact this
    clear HG
    go_wp2_with fail
    (try simp only [Exit.inBlock, Exit.then])
    have hs4 := set4n (g := B) (by have := HB.out; omega) ((HKB.out.trans HK3.out).trans HK4.out) HB4.out (.int .i64 k) (.int .u64 (i : Nat)) (.slice op np cp) (.slice ok nk ck)
    have hs4' := set4 HB4.out (.int .i64 k) (.int .u64 (i : Nat)) (.slice op np cp) (.slice ok nk ck)
    refine bodyPost_ret (results_row3 rfl _ _ B _ rfl (loadR hs4.1)) rfl ?_
    refine ⟨k, i, op, np, cp, ok, nk, ck, 8 + V, 0, rfl, ?_, by omega, by omega, hs4.2⟩
    rw [HP2.out]
    refine ⟨?_, by rw [HPAY.out.2], rfl⟩
    exact ((HG2.out.keepsN HK4.out).keeps hs4'.2 (fun j hj => by unfold eqA at hj; have := HLT.out; omega)).of_le (by have := HLT.out; have := HB.out; omega)
end Go.Proofs.YtdalheeifgampabDoor
