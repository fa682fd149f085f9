import Derived.Test.YtkoaiibjahlnmaaGreatL2
import Derived.Test.YtkoaiibjahlnmaaGreatLR
import Derived.Deep.RegionHeld3
/- steps. -/
namespace Go.Proofs.YtkoaiibjahlnmaaGreat
open Go.RowKit Go.Maps Go.Sort Orl
set_option linter.unusedVariables false
set_option linter.unusedSimpArgs false

theorem okKy (t i : Nat) (hi : i < 18446744073709551616) : KM.ok (ky t, i) := ⟨by show (ky t).size ≤ maxLen; rw [ky_size]; unfold maxLen; omega, hi⟩
theorem cells4r {w : World} {R : Nat} {a b c d : Value} {t : TypeId} (h : w.heap[R]? = some (.cells #[a, b, c, d] t (0, 0))) : w.cell? ⟨R, 0, none⟩ = some a ∧ w.cell? ⟨R, 1, none⟩ = some b ∧ w.cell? ⟨R, 2, none⟩ = some c ∧ w.cell? ⟨R, 3, none⟩ = some d :=
  ⟨cell_of_blk h 0, cell_of_blk h 1, cell_of_blk h 2, cell_of_blk h 3⟩
theorem miss_len (s : St) (i : Nat) (mk : Int) (v : Tx) : (miss s i (pk mk v)).length ≤ 3 := by
  refine Nat.le_trans (List.length_filter_le _ _) ?_
  rw [pk_len]
  exact (setM_len mk).2
/-- a step -/
def stepS (s : St) (r : RV) (now : Int) : St :=
  if rst r.kd 3 = 0 ∨ rst r.kd 3 = 1 then putAll (idw r.wr) (setM r.ma) now s (miss s (idw r.wr) (pk r.ma r.v))
  else if rst r.kd 3 = 2 then commitS s (idw r.wr) now
  else dropR s (ky (rst r.ma 2), idw r.wr)
/-- the first k steps -/
def stepsS (s : St) (xs : List RV) (now : Int) : Nat → St
  | 0 => s
  | k + 1 => stepS (stepsS s xs now k) (xs.getD k rv0) (now + k)
structure SI (w0 w : World) (p : Nat) (s : St) (N : Nat) (P : Nat → Prop) (xs : List RV) (now : Int) (k : Nat) (wr : World) : Prop where
  ow : ∃ N', N' ≤ N + 3 * k ∧ Ow w0 wr p (stepsS s xs now k) N' P
  kp : Keeps (fun b => ¬ P b) w wr
set_option maxRecDepth 10000 in
set_option maxHeartbeats 4000000 in
theorem steps_any {w0 w : World} {p : Nat} {s : St} {N : Nat} {P : Nat → Prop} (h : Ow w0 w p s N P) (hN : N ≤ 800000000) (a : Option Addr) (n c : Nat) (xs : List RV) (hn : n = xs.length) (hl : xs.length ≤ 140737488355328) (hs : ∀ X, Keeps no w0 X → Sl RE X a c xs) (hr : ∀ r ∈ xs, OkR r) (now : Int) (h0 : 0 ≤ now) (h1 : now ≤ 1000000) :
    Calls Tryz.prog 17 #[.pointer (some ⟨p, 0, none⟩), .slice a n c, .int .i64 now] w fun e w' => e = .returned (.tuple #[]) ∧ Hid (SI w0 w p s N P xs now (min n 100) w') := by
  have HA : Hid (n = xs.length ∧ N ≤ 800000000) := ⟨hn, hN⟩
  have hA : (n : Int) ≤ 140737488355328 := by omega
  have HS : Hid ((∀ X, Keeps no w0 X → Sl RE X a c xs) ∧ ∀ r ∈ xs, OkR r) := ⟨hs, hr⟩
  have H0 : Hid (SI w0 w p s N P xs now 0 w) := ⟨⟨N, by omega, h⟩, Keeps.refl _ _⟩
  clear hn hl hs hr h hN
  go_enter Tryz.func17, Tryz.ntmps17
  go_wp2_with fail
  go_loopw [6] (fun i wr => ∃ k : Nat, k ≤ n ∧ k ≤ 100 ∧ i = .int .i64 k ∧ Hid (SI w0 w p s N P xs now k wr)) (fun i _ => n - (intOf i).toNat)
  case atStart => exact ⟨0, by omega, by omega, rfl, H0⟩
  case round =>
    obtain ⟨k, hk, hk2, rfl, HG⟩ := hrel
    clear H0
    by_cases hlt : k < n ∧ k < 100
    · obtain ⟨hlt, hlt2⟩ := hlt
      have h3 : (k : Int) < n := by omega
      have h4 : (k : Int) < 100 := by omega
      have hka : k < xs.length := by have := HA.out.1; omega
      obtain ⟨N', hN', ho⟩ := HG.out.ow
      obtain ⟨b1, off1, e1, d1, d2, d3, d4⟩ := (HS.out.1 _ ho.keep).atR hka
      obtain ⟨r, hr⟩ : ∃ r, r = xs.getD k rv0 := ⟨_, rfl⟩
      rw [← hr] at d1 d2 d3 d4
      have HR : Hid (OkR r) := (show OkR r by rw [hr]; exact HS.out.2 _ (getD_mem_lt _ hka))
      have HSS : Hid (stepsS s xs now (k + 1) = stepS (stepsS s xs now k) r (now + k)) := (show _ = _ by rw [hr]; rfl)
      obtain ⟨sk, hsk⟩ : ∃ sk, sk = stepsS s xs now k := ⟨_, rfl⟩
      rw [← hsk] at HSS ho
      obtain ⟨rk, rn, rm, rt⟩ := r
      simp only at d1 d2 d3 d4
      obtain ⟨R, hR⟩ : ∃ R, R = wr.heap.size := ⟨_, rfl⟩
      have HRR : Hid (R = wr.heap.size) := hR
      have hkA : Keeps no wr (wr.alloc (.cells #[.int .i64 rk, .int .i64 rn, .int .i64 rm, .string rt] 31)) := (Keeps.refl no wr).alloc _
      have H4 : Hid (Ow w0 (wr.alloc (.cells #[.int .i64 rk, .int .i64 rn, .int .i64 rm, .string rt] 31)) p sk N' (fun b => P b ∨ b = R) ∧ (wr.alloc (.cells #[.int .i64 rk, .int .i64 rn, .int .i64 rm, .string rt] 31)).heap[R]? = some (.cells #[.int .i64 rk, .int .i64 rn, .int .i64 rm, .string rt] 31 (0, 0)) ∧ Keeps (fun b => ¬ P b) w (wr.alloc (.cells #[.int .i64 rk, .int .i64 rn, .int .i64 rm, .string rt] 31)) ∧ N' ≤ N + 3 * k) :=
        ⟨(ho.grow hkA).sub (fun b hb => hb.elim .inl (fun e => .inr (by rw [e, hR]; exact ⟨Nat.le_refl _, by simp⟩))), by rw [hR]; exact blk_new wr _, HG.out.kp.trans hkA.of_no, hN'⟩
      clear hka hr HG ho hN' hR hkA hsk
      subst e1
      go_wp2_with fail
      refine (rest_any rk 3 _ HR.out.kd (by omega)).mono ?_
      rintro e w4 ⟨rfl, hw4⟩
      subst w4
      rw [← HRR.out]
      generalize wr.alloc (.cells #[.int .i64 rk, .int .i64 rn, .int .i64 rm, .string rt] 31) = w4 at H4 ⊢
      clear d1 d2 d3 d4 HRR
      have hr3 := rst_le rk 3
      have hq4 : ∃ q : Nat, q = rst rk 3 := ⟨_, rfl⟩
      obtain ⟨q0, hq0⟩ := hq4
      have HQ0 : Hid (q0 = rst rk 3 ∧ q0 ≤ 3) := ⟨hq0, by omega⟩
      rw [← hq0]
      obtain ⟨q, hq⟩ : ∃ q : Int, q = ((q0 : Nat) : Int) := ⟨_, rfl⟩
      rw [← hq]
      have HQ : Hid (q = ((q0 : Nat) : Int)) := hq
      clear hq hq0 hr3
      obtain ⟨d1, d2, d3, d4⟩ := cells4r H4.out.2.1
      have hwn : IntKind.i64.wrap (now + (k : Int)) = now + (k : Int) := by rw [IntKind.wrap_i64]; omega
      by_cases c01 : q = 0 ∨ q = 1
      · have HL := H4.out.1.lput rk rn rm rt (now + (k : Int)) HR.out.wr HR.out.ma (tick_iff.2 ⟨by omega, by omega⟩) (by have := H4.out.2.2.2; have := HA.out.2; omega)
        have HLH : Hid (Calls Tryz.prog 10 #[.pointer (some ⟨p, 0, none⟩), .agg #[.int .i64 rk, .int .i64 rn, .int .i64 rm, .string rt], .int .i64 (now + (k : Int))] w4 fun e w' => e = .returned (.tuple #[.bool (decide (0 < (miss sk (idw rn) (pk rm rt)).length)), .int .i64 0]) ∧ Hid (Ow w0 w' p (putAll (idw rn) (setM rm) (now + (k : Int)) sk (miss sk (idw rn) (pk rm rt))) (N' + (miss sk (idw rn) (pk rm rt)).length) (fun b => P b ∨ b = R) ∧ Keeps (fun b => ¬ (P b ∨ b = R)) w4 w')) := HL
        have HE : Hid (stepsS s xs now (k + 1) = putAll (idw rn) (setM rm) (now + (k : Int)) sk (miss sk (idw rn) (pk rm rt))) := (show _ = _ by
          rw [HSS.out, stepS, if_pos]
          have h1 := HQ.out; have h2 := HQ0.out.1
          simp only
          omega)
        clear HL
        rcases c01 with hq0 | hq0
        all_goals
          clear HQ
          subst hq0
          go_wp2_with fail
          refine Calls.mono HLH.out ?_
          rintro e w6 ⟨rfl, h6⟩
          have H6 : Hid (SI w0 w p s N P xs now (k + 1) w6) :=
            ⟨⟨N' + (miss sk (idw rn) (pk rm rt)).length, by have := H4.out.2.2.2; have := miss_len sk (idw rn) rm rt; omega, by rw [HE.out]; exact h6.out.1.sub (fun b hb => .inl hb)⟩, H4.out.2.2.1.trans (h6.out.2.mono (fun b hb hc => hb (.inl hc)))⟩
          clear h6 HLH
          go_wp2_with fail
          go_roundw
          case rel => exact ⟨k + 1, by omega, by omega, by go_num, H6⟩
          case measure => simp [intOf]; omega
      · by_cases c2 : q = 2
        · have HE : Hid (stepsS s xs now (k + 1) = commitS sk (idw rn) (now + (k : Int))) := (show _ = _ by
            have h1 := HQ.out; have h2 := HQ0.out.1
            rw [HSS.out, stepS, if_neg (by simp only; omega), if_pos (by simp only; omega)])
          clear HQ c01
          subst c2
          go_wp2_with fail
          refine (id_any rn _ HR.out.wr).mono ?_
          rintro e w5 ⟨rfl, hw5⟩
          subst w5
          have hiw := idw_lt rn
          obtain ⟨i, hi⟩ : ∃ i, i = idw rn := ⟨_, rfl⟩
          rw [← hi] at HE hiw ⊢
          clear hi
          go_wp2_with fail
          refine (H4.out.1.commit i (now + (k : Int)) (by omega) hiw.1 (tick_iff.2 ⟨by omega, by omega⟩) (by have := H4.out.2.2.2; have := HA.out.2; omega)).mono ?_
          rintro e w6 ⟨nn, rfl, hc6, h6⟩
          have H6 : Hid (SI w0 w p s N P xs now (k + 1) w6) :=
            ⟨⟨N', by have := H4.out.2.2.2; omega, by rw [HE.out]; exact h6.out.1.sub (fun b hb => .inl hb)⟩, H4.out.2.2.1.trans (h6.out.2.mono (fun b hb hc => hb (.inl hc)))⟩
          clear h6 hc6
          go_wp2_with fail
          go_roundw
          case rel => exact ⟨k + 1, by omega, by omega, by go_num, H6⟩
          case measure => simp [intOf]; omega
        · have c3 : q = 3 := by have := HQ.out; have := HQ0.out.2; omega
          have HE : Hid (stepsS s xs now (k + 1) = dropR sk (ky (rst rm 2), idw rn)) := (show _ = _ by
            have h1 := HQ.out; have h2 := HQ0.out.1
            rw [HSS.out, stepS, if_neg (by simp only; omega), if_neg (by simp only; omega)])
          clear HQ c01 c2
          subst c3
          have ht2 := rst_le rm 2
          have hrs := fun W => rest_any rm 2 W HR.out.ma (by omega)
          obtain ⟨t, ht⟩ : ∃ t, t = rst rm 2 := ⟨_, rfl⟩
          rw [← ht] at ht2 hrs HE
          have hiw := idw_lt rn
          have hid := fun W => id_any rn W HR.out.wr
          obtain ⟨i, hi⟩ : ∃ i, i = idw rn := ⟨_, rfl⟩
          rw [← hi] at HE hiw hid
          have HRS : Hid (∀ W, Calls Tryz.prog 11 #[.int .i64 rm, .int .i64 2] W fun e w' => e = .returned (.int .i64 ((t : Nat) : Int)) ∧ w' = W) := hrs
          have HID : Hid (∀ W, Calls Tryz.prog 9 #[.int .i64 rn] W fun e w' => e = .returned (.int .u64 ((i : Nat) : Int)) ∧ w' = W) := hid
          have HKY : Hid (∀ W, Calls Tryz.prog 43 #[.int .i64 ((t : Nat) : Int)] W fun e w' => e = .returned (.string (ky t)) ∧ Keeps no W w') := fun W => key_any t W (by omega)
          have HDR : Hid (∀ X, Keeps no w4 X → Calls Tryz.prog 30 #[.pointer (some ⟨p, 0, none⟩), .string (ky t), .int .u64 ((i : Nat) : Int)] X fun e w' => ∃ z, e = .returned (.int .i64 z) ∧ Ow w0 w' p (dropR sk (ky t, i)) N' (fun b => P b ∨ b = R) ∧ Keeps (fun b => ¬ (P b ∨ b = R)) X w') := fun X hX => ((H4.out.1.go hX).drop (ky t) i (okKy t i (by omega))).mono (fun e w' h => ⟨_, h.1, h.2.out.1, h.2.out.2⟩)
          have HST : Hid (∀ X, Keeps (fun b => ¬ (P b ∨ b = R)) w4 X → X.cell? ⟨R, 1, none⟩ = some (.int .i64 rn) ∧ X.cell? ⟨R, 2, none⟩ = some (.int .i64 rm)) := fun X hX => ⟨cell_of_blk (hX.at H4.out.2.1 (fun hc => hc (.inr rfl))) 1, cell_of_blk (hX.at H4.out.2.1 (fun hc => hc (.inr rfl))) 2⟩
          clear ht hi hrs hid
          go_upto_region 11 with fail
          go_region_held3 (fun X => X.cell? ⟨R, 1, none⟩ = some (.int .i64 rn) ∧ X.cell? ⟨R, 2, none⟩ = some (.int .i64 rm)) (first | exact HST.out _ (Keeps.refl _ _) | exact HST.out _ ((Keeps.refl _ _).drew) | exact HST.out _ KD.out.1 | exact HST.out _ KK.out.of_no) ((first | (go_at_call 30; refine (HDR.out _ KK.out).mono ?_; rintro e wd ⟨zz, rfl, hod, hkd⟩; have KD : Hid (Keeps (fun b => ¬ (P b ∨ b = R)) w4 wd ∧ Ow w0 wd p (dropR sk (ky t, i)) N' (fun b => P b ∨ b = R)) := ⟨KK.out.of_no.trans hkd, hod⟩; clear hod hkd) | (go_at_call 43; refine (HKY.out _).mono ?_; rintro e wk ⟨rfl, hkk⟩; have KK : Hid (Keeps no w4 wk) := (Keeps.refl no w4).drew.trans hkk; clear hkk) | (go_at_call 11; refine (HRS.out _).mono ?_; rintro e wI ⟨rfl, hwI⟩; subst wI) | (go_at_call 9; refine (HID.out _).mono ?_; rintro e wI ⟨rfl, hwI⟩; subst wI)))
          all_goals (rename _ ∧ _ => hh; clear hh)
          all_goals
            have H6 : Hid (SI w0 w p s N P xs now (k + 1) wd) :=
              ⟨⟨N', by have := H4.out.2.2.2; omega, by rw [HE.out]; exact KD.out.2.sub (fun b hb => .inl hb)⟩, H4.out.2.2.1.trans (KD.out.1.mono (fun b hb hc => hb (.inl hc)))⟩
            clear KD HDR HKY HRS HID HST
            go_wp2_with fail
            go_roundw
            case rel => exact ⟨k + 1, by omega, by omega, by go_num, H6⟩
            case measure => simp [intOf]; omega
    · have HMN : Hid (k = min n 100) := (show _ = _ by omega)
      have hcc : (k : Int) < n ∨ ¬ (k : Int) < n := by omega
      rcases hcc with h3 | h3
      · have h4 : ¬ (k : Int) < 100 := by omega
        go_wp2_with fail
        go_end0
        rw [← HMN.out]
        exact ⟨rfl, HG⟩
      · go_wp2_with fail
        go_end0
        rw [← HMN.out]
        exact ⟨rfl, HG⟩
end Go.Proofs.YtkoaiibjahlnmaaGreat
