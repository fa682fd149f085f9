import Derived.Test.YtileipnoiocdlaaRR
/- The law's comparison of posts. -/
namespace Go.Proofs.Ytileipnoiocdlaa
open Go.RowKit Go.Sort Orl
set_option linter.unusedVariables false
set_option linter.unusedSimpArgs false

structure Qs (w : World) (o : Option Addr) (c : Nat) (rs : List RQ) (qs : List Qn) : Prop where
  sl : Sl QE w o c rs
  len : rs.length = qs.length
  each : ∀ j, j < qs.length → QOf w (rs.getD j rq0) (qs.getD j q0)
theorem Tq.qs {w : World} {o : Option Addr} {c : Nat} {rs : List RQ} {qs : List Qn} (h : Tq w o c rs qs) : Qs w o c rs qs := ⟨h.own.sl, h.len, fun j hj => (h.each j hj).of⟩
theorem Qs.keepsN {w w' : World} {o : Option Addr} {c : Nat} {rs : List RQ} {qs : List Qn} (h : Qs w o c rs qs) (k : Keeps no w w') : Qs w' o c rs qs := ⟨h.sl.keepsN k, h.len, fun j hj => (h.each j hj).keepsN k⟩
theorem Qs.at {w : World} {o : Option Addr} {c : Nat} {rs : List RQ} {qs : List Qn} (h : Qs w o c rs qs) {j : Nat} (hj : j < qs.length) : ∃ b off r, o = some ⟨b, off, none⟩ ∧ At9 w b off j 9 r ∧ QOf w r (qs.getD j q0) := by
  obtain ⟨b, off, e, ha⟩ := h.sl.atQ (j := j) (by rw [h.len]; exact hj)
  exact ⟨b, off, _, e, ha, h.each j hj⟩
def FitQs (qs : List Qn) : Prop := qs.length ≤ 200 ∧ ∀ q ∈ qs, FitQ q
theorem FitQs.at {qs : List Qn} (h : FitQs qs) {j : Nat} (hj : j < qs.length) : FitQ (qs.getD j q0) := h.2 _ (getD_mem_lt q0 hj)
theorem sameM_grown {W : World} (ra rb : RQ) (a b : Qn) (ha : QOf W ra a) (hb : QOf W rb b) (fa : FitQ a) (fb : FitQ b) (d : Nat) (os : Array Obj) :
    Calls Try.prog 28 #[aggN ra, aggN rb] (Sort.grow (redrawn W d) os) fun e w'' => e = .returned (.bool (decide (sameMsg a b))) ∧ ∃ p : Regrown, w'' = Sort.grow (redrawn W p.d) p.os :=
  call_grown (fun X hX => sameM_any X ra rb a b (ha.keepsN hX) (hb.keepsN hX) fa fb) d os
set_option maxRecDepth 10000 in
set_option maxHeartbeats 2000000 in
theorem samePosts_any (w : World) (oa : Option Addr) (na ca : Nat) (ob : Option Addr) (nb cb : Nat) (ra rb : List RQ) (qa qb : List Qn) (hna : na = qa.length) (hnb : nb = qb.length) (hfa : FitQs qa) (hfb : FitQs qb) (ha : Qs w oa ca ra qa) (hb : Qs w ob cb rb qb) :
    Calls Try.prog 12 #[.slice oa na ca, .slice ob nb cb] w fun e w' => e = .returned (.bool (decide (qa = qb))) ∧ Keeps no w w' := by
  have HA : Hid (na = qa.length) := hna
  have HB : Hid (nb = qb.length) := hnb
  have hA : (na : Int) ≤ 200 := by have := hfa.1; omega
  have hB : (nb : Int) ≤ 200 := by have := hfb.1; omega
  have HFA : Hid (FitQs qa) := hfa
  have HFB : Hid (FitQs qb) := hfb
  have HVA : Hid (Qs w oa ca ra qa) := ha
  have HVB : Hid (Qs w ob cb rb qb) := hb
  obtain ⟨R, hR⟩ : ∃ R, R = decide (qa = qb) := ⟨_, rfl⟩
  have HR : Hid (R = true ↔ qa = qb) := by show _ ↔ _; rw [hR, decide_eq_true_eq]
  rw [← hR]
  clear hna hnb hfa hfb ha hb hR
  by_cases hne : na = nb
  rotate_left
  · have hne' : ¬ ((na : Nat) : Int) = (nb : Nat) := by omega
    have HF : Hid (R = false) := by show _ = _; rw [← Bool.not_eq_true, HR.out]; exact fun e => hne (by rw [HA.out, HB.out, e])
    clear HR
    go_enter Try.func12, Try.ntmps12
    go_wp2
    go_ret
    exact ⟨by rw [HF.out]; rfl, Keeps.refl _ _⟩
  subst hne
  go_enter Try.func12, Try.ntmps12
  go_wp2_with fail
  go_loopw [5] (fun i wr => ∃ k : Nat, k ≤ na ∧ i = .int .i64 k ∧ Hid (qa.take k = qb.take k) ∧ Hid (Keeps no w wr)) (fun i _ => na - (intOf i).toNat)
  case atStart => exact ⟨0, by omega, rfl, show qa.take 0 = qb.take 0 by simp, Keeps.refl _ _⟩
  case round =>
    rename World => wr
    obtain ⟨k, hk, rfl, HT, HK⟩ := hrel
    by_cases h2 : k < na
    · have hka : k < qa.length := by have := HA.out; omega
      have hkb : k < qb.length := by have := HB.out; omega
      have h2' : (k : Int) < na := by omega
      obtain ⟨b1, off1, x, ho1, A1, q1⟩ := (HVA.out.keepsN HK.out).at hka
      obtain ⟨b2, off2, y, ho2, A2, q2⟩ := (HVB.out.keepsN HK.out).at hkb
      subst ho1
      subst ho2
      have cS := sameM_grown x y _ _ q1 q2 (HFA.out.at hka) (HFB.out.at hkb)
      have HE : Hid ((x.part = y.part ∧ sameMsg (qa.getD k q0) (qb.getD k q0)) ↔ qa.getD k q0 = qb.getD k q0) := by
        show _ ↔ _
        rw [q_eq, q1.part, q2.part]
      have HTS : Hid ((qa.getD k q0 = qb.getD k q0 → qa.take (k + 1) = qb.take (k + 1)) ∧ (¬ qa.getD k q0 = qb.getD k q0 → R = false)) := by
        refine ⟨fun e => ?_, fun e => ?_⟩
        · rw [take_succ_getD qa k q0 hka, take_succ_getD qb k q0 hkb, HT.out, e]
        · rw [← Bool.not_eq_true, HR.out]; exact fun h => e (by rw [h])
      have HPB : Hid (0 ≤ x.part ∧ x.part ≤ 64 ∧ 0 ≤ y.part ∧ y.part ≤ 64) := ⟨by rw [q1.part]; exact (HFA.out.at hka).part.1, by rw [q1.part]; exact (HFA.out.at hka).part.2, by rw [q2.part]; exact (HFB.out.at hkb).part.1, by rw [q2.part]; exact (HFB.out.at hkb).part.2⟩
      obtain ⟨x0, x1, x2, x3, xko, xkn, xkc, xwo, xwn, xwc⟩ := x
      obtain ⟨y0, y1, y2, y3, yko, ykn, ykc, ywo, ywn, ywc⟩ := y
      obtain ⟨s0, s1, s2, s3, s4, s5, s6, s7, s8⟩ := A1
      obtain ⟨t0, t1, t2, t3, t4, t5, t6, t7, t8⟩ := A2
      simp only at s0 s1 s2 s3 s4 s5 s6 s7 s8 t0 t1 t2 t3 t4 t5 t6 t7 t8 HE HPB
      unfold aggN at cS
      simp only at cS
      obtain ⟨Bq, hBq⟩ : ∃ B, B = decide (sameMsg (qa.getD k q0) (qb.getD k q0)) := ⟨_, rfl⟩
      rw [← hBq] at cS
      have HBq : Hid (Bq = true ↔ sameMsg (qa.getD k q0) (qb.getD k q0)) := by show _ ↔ _; rw [hBq, decide_eq_true_eq]
      clear hBq q1 q2 hka hkb
      have HC : Hid (∀ d os, Calls Try.prog 28 #[.agg #[.int .i64 x1, .int .i64 x2, .int .u64 (x3 : Nat), .int .u64 0, .slice none 0 0, .slice xko xkn xkc, .slice xwo xwn xwc, .slice none 0 0], .agg #[.int .i64 y1, .int .i64 y2, .int .u64 (y3 : Nat), .int .u64 0, .slice none 0 0, .slice yko ykn ykc, .slice ywo ywn ywc, .slice none 0 0]] (Sort.grow (redrawn wr d) os) fun e w'' => e = .returned (.bool Bq) ∧ ∃ p : Regrown, w'' = Sort.grow (redrawn wr p.d) p.os) := cS
      clear cS
      have a0 := cell_regrown s0
      have a1 := cell_regrown s1
      have a2 := cell_regrown s2
      have a3 := cell_regrown s3
      have a4 := cell_regrown s4
      have a5 := cell_regrown s5
      have a6 := cell_regrown s6
      have a7 := cell_regrown s7
      have a8 := cell_regrown s8
      have c0 := cell_regrown t0
      have c1 := cell_regrown t1
      have c2 := cell_regrown t2
      have c3 := cell_regrown t3
      have c4 := cell_regrown t4
      have c5 := cell_regrown t5
      have c6 := cell_regrown t6
      have c7 := cell_regrown t7
      have c8 := cell_regrown t8
      clear s0 s1 s2 s3 s4 s5 s6 s7 s8 t0 t1 t2 t3 t4 t5 t6 t7 t8
      by_cases h3 : x0 = y0
      · subst h3
        have HS1 : Hid (sameMsg (qa.getD k q0) (qb.getD k q0) → qa.take (k + 1) = qb.take (k + 1)) := fun h => HTS.out.1 (HE.out.1 ⟨rfl, h⟩)
        have HS0 : Hid (¬ sameMsg (qa.getD k q0) (qb.getD k q0) → R = false) := fun h => HTS.out.2 (fun e => h (HE.out.2 e).2)
        clear HTS HE
        go_wp2_with fail
        refine wp_region_quiet_below (by kernel_rfl) (by kernel_rfl) ?_
        repeat (go_big_quiet_step (exact HC.out _ _))
        refine wpQuiet_nil ?_
        intro _ hw'
        obtain ⟨⟨dq, osq⟩, rfl⟩ := hw'
        have K1 : Hid (Keeps no w (Sort.grow (redrawn wr dq) osq)) := HK.out.trans (keeps_grown ..)
        generalize Sort.grow (redrawn wr dq) osq = u1 at K1 ⊢
        clear a0 a1 a2 a3 a4 a5 a6 a7 a8 c0 c1 c2 c3 c4 c5 c6 c7 c8 HC
        cases Bq with
        | true =>
          have HN : Hid (qa.take (k + 1) = qb.take (k + 1)) := HS1.out (by simpa using HBq.out)
          clear HS1 HS0 HBq
          go_wp2_with fail
          go_roundw
          case rel => exact ⟨k + 1, by omega, by go_num, HN, K1⟩
          case measure => simp [intOf]; omega
        | false =>
          have HN : Hid (R = false) := HS0.out (by simpa using HBq.out)
          clear HS1 HS0 HBq
          go_wp2_with fail
          go_ret
          exact ⟨by rw [HN.out]; rfl, K1.out⟩
      · have h3' : (x0 == y0) = false := by simpa using h3
        have h3'' : (x0 != y0) = true := by simpa using h3
        have HN : Hid (R = false) := HTS.out.2 (fun e => h3 (HE.out.2 e).1)
        clear HTS HE HBq
        go_wp2_with fail
        refine wp_region_quiet_below (by kernel_rfl) (by kernel_rfl) ?_
        repeat (go_big_quiet_step (fail))
        refine wpQuiet_nil ?_
        intro _ hw'
        obtain ⟨⟨dq, osq⟩, rfl⟩ := hw'
        have K1 : Hid (Keeps no w (Sort.grow (redrawn wr dq) osq)) := HK.out.trans (keeps_grown ..)
        generalize Sort.grow (redrawn wr dq) osq = u1 at K1 ⊢
        clear a0 a1 a2 a3 a4 a5 a6 a7 a8 c0 c1 c2 c3 c4 c5 c6 c7 c8 HC
        go_wp2_with fail
        go_ret
        exact ⟨by rw [HN.out]; rfl, K1.out⟩
    · have h2' : ¬ (k : Int) < na := by omega
      have HF : Hid (R = true) := by
        have h := HT.out
        rw [List.take_of_length_le (by have := HA.out; omega), List.take_of_length_le (by have := HB.out; omega)] at h
        exact HR.out.2 h
      go_wp2
      go_ret
      exact ⟨by rw [HF.out]; rfl, HK.out⟩
end Go.Proofs.Ytileipnoiocdlaa
/- What the law hands in. -/
namespace Go.Proofs.Ytileipnoiocdlaa
open Go.RowKit Go.Sort Orl
set_option linter.unusedVariables false
set_option linter.unusedSimpArgs false

set_option maxRecDepth 10000 in
set_option maxHeartbeats 1000000 in
theorem answer_any (w : World) (req : Nat) (r : RV) :
    Calls Try.prog 14 #[.int .u64 (req : Nat), aggV r] w fun e w' => ∃ B, e = .returned (aggC 7 3 req 0 none none none (some ⟨B, 0, none⟩) 0 0 0 1 0 0 0 1) ∧ Sl VE w' (some ⟨B, 0, none⟩) 1 [r] ∧ w.heap.size ≤ B ∧ Keeps no w w' := by
  obtain ⟨x0, x1, x2, xo, xn, xc⟩ := r
  unfold aggV aggC
  simp only
  go_enter Try.func14, Try.ntmps14
  go_wp2_with fail
  (try simp only [Exit.inBlock, Exit.then])
  have hb := blk_alloc (blk_new (w.alloc (.cells #[.string x0, .int .u64 (x1 : Nat), .string x2, .slice xo xn xc] 46)) (.cells #[.int .i64 7, .int .i64 3, .int .u64 (req : Nat), .int .u64 0, .slice none 0 0, .slice none 0 0, .slice none 0 0, .slice (some ⟨w.heap.size + 1 + 1, 0, none⟩) 1 1] 42)) (.cells #[.string x0, .int .u64 (x1 : Nat), .string x2, .slice xo xn xc] 46)
  have hs : (w.alloc (.cells #[.string x0, .int .u64 (x1 : Nat), .string x2, .slice xo xn xc] 46)).heap.size = w.heap.size + 1 := by simp
  rw [hs] at hb
  refine bodyPost_ret (results_row1 rfl _ _ (w.heap.size + 1) _ rfl (run_loadVar_row _ _ _ _ _ _ _ hb Try.underlying42 rfl (msg_size _ _ _ _ _ _ _ _))) rfl ?_
  refine ⟨w.heap.size + 1 + 1, rfl, ?_, by omega, (((Keeps.refl _ _).alloc _).alloc _).alloc _⟩
  have h := lit_one (E := VE) ((w.alloc (.cells #[.string x0, .int .u64 (x1 : Nat), .string x2, .slice xo xn xc] 46)).alloc (.cells #[.int .i64 7, .int .i64 3, .int .u64 (req : Nat), .int .u64 0, .slice none 0 0, .slice none 0 0, .slice none 0 0, .slice (some ⟨w.heap.size + 1 + 1, 0, none⟩) 1 1] 42)) ⟨x0, x1, x2, xo, xn, xc⟩ #[.string x0, .int .u64 (x1 : Nat), .string x2, .slice xo xn xc] rfl
  simp at h
  exact h
end Go.Proofs.Ytileipnoiocdlaa
/- Versions copied by the law. -/
namespace Go.Proofs.Ytileipnoiocdlaa
open Go.RowKit Go.Sort Orl
set_option linter.unusedVariables false
set_option linter.unusedSimpArgs false

set_option maxRecDepth 10000 in
set_option maxHeartbeats 1000000 in
theorem copies_any (w : World) (vo : Option Addr) (n vc : Nat) (vs : List RV) (vl : List Ver) (hn : n = vl.length) (hb : n ≤ 1000000) (hv : Vers w vo vc vs vl) (hf : FitL vl) :
    Calls Try.prog 57 #[.slice vo n vc] w (VersTo w vl) := by
  have HV : Hid (Vers w vo vc vs vl ∧ FitL vl) := ⟨hv, hf⟩
  have HN : Hid (n = vl.length) := hn
  have hnb : (n : Int) ≤ 1000000 := by omega
  clear hn hb hv hf
  go_enter Try.func57, Try.ntmps57
  go_wp2_with fail
  go_loopw [3, 4] (fun s3 s4 wr => ∃ (k : Nat) (o : Option Addr) (m c : Nat), k ≤ n ∧ s4 = .int .i64 k ∧ s3 = .slice o m c ∧ Hid (∃ rs, m = k ∧ NewVo w o c rs (vl.take k) wr)) (fun _ s4 _ => n - (intOf s4).toNat)
  case atStart => exact ⟨0, _, 0, _, by omega, rfl, rfl, [], rfl, NewVo.nil w⟩
  case round =>
    rename World => wr
    obtain ⟨k, o, m, c, hk, rfl, rfl, HR⟩ := hrel
    by_cases hlt : k < n
    · have hlt' : (k : Int) < n := by omega
      have hkl : k < vl.length := by rw [← HN.out]; exact hlt
      obtain ⟨rs, hm, hnv⟩ := HR.out
      obtain ⟨b, off, eo, d0, d1, d2, d3⟩ := (HV.out.1.sl.keepsN hnv.kp).atV (j := k) (by rw [HV.out.1.len]; exact hkl)
      have hver := (HV.out.1.each k hkl).keepsN hnv.kp
      have hfv := HV.out.2.at hkl
      have HX : Hid (vl.take (k + 1) = vl.take k ++ [vl.getD k v0]) := take_succ_getD vl k v0 hkl
      have HRN : Hid (m = k ∧ NewVo w o c rs (vl.take k) wr ∧ rs.length = k) := ⟨hm, hnv, by rw [hnv.len, List.length_take]; omega⟩
      generalize vl.getD k v0 = v at hver hfv HX
      generalize vs.getD k r0 = r at d0 d1 d2 d3 hver
      obtain ⟨rk, ri, rv, rro, rn, rcc⟩ := r
      obtain ⟨q0, q1, q2, q3, q4⟩ := hver
      simp only at d0 d1 d2 d3 q0 q1 q2 q3 q4
      have HVV : Hid (rk = v.key ∧ ri = v.id ∧ rv = v.val ∧ rn = v.keys.length ∧ Sl TE wr rro rcc v.keys ∧ FitV v) := ⟨q0, q1, q2, q3, q4, hfv⟩
      have hkB : (k : Int) ≤ 1000000 := by omega
      subst eo
      clear q0 q1 q2 q3 q4 hfv hm hnv HR hkl
      obtain ⟨B, hB⟩ : ∃ B, B = wr.heap.size := ⟨_, rfl⟩
      have HWA : Hid (∀ wa, wa = wr.alloc (.cells #[.string rk, .int .u64 (ri : Nat), .string rv, .slice rro rn rcc] 46) → wa.heap[B]? = some (.cells #[.string rk, .int .u64 (ri : Nat), .string rv, .slice rro rn rcc] 46 (0, 0)) ∧ Keeps no wr wa) := by
        rintro wa rfl
        exact ⟨by rw [hB]; exact blk_new wr _, (Keeps.refl _ _).alloc _⟩
      go_upto_region 6 with fail
      have hwa := HWA.out _ rfl
      rw [← hB]
      generalize wr.alloc (.cells #[.string rk, .int .u64 (ri : Nat), .string rv, .slice rro rn rcc] 46) = wa at hwa ⊢
      have HBA : Hid (wa.heap[B]? = some (.cells #[.string rk, .int .u64 (ri : Nat), .string rv, .slice rro rn rcc] 46 (0, 0)) ∧ Keeps no wr wa ∧ B = wr.heap.size) := ⟨hwa.1, hwa.2, hB⟩
      have a3 := cell_of_blk hwa.1 3
      simp only [List.getElem?_toArray, List.getElem?_cons_succ, List.getElem?_cons_zero] at a3
      clear hwa HWA hB d0 d1 d2 d3
      have a3' : ∀ o, (wa.alloc o).cell? ⟨B, 3, none⟩ = some (.slice rro rn rcc) := fun o => ((Keeps.refl no wa).alloc o).cellN a3
      have HO0 : Hid (Own TE (wa.alloc (.cells #[] 9)) (some ⟨wa.heap.size, 0, none⟩) 0 [] ∧ New wa (some ⟨wa.heap.size, 0, none⟩)) := ⟨own_of_shape okT (blk_new wa _) (Nat.le_refl _) (by unfold maxLen; omega) rfl rfl, new_fresh _ _ (Nat.le_refl _) _⟩
      have HSR : Hid ((rro = none → rcc = 0) ∧ Row TE (wa.alloc (.cells #[] 9)) rro v.keys ∧ ((([] : List Tx).length + v.keys.length) * TE.nb ≤ 140737488355328 ∧ ([] : List Tx).length + v.keys.length ≤ 140737488355328)) := by
        have h1 := HVV.out.2.2.2.2.1
        have h2 := HVV.out.2.2.2.2.2.len
        exact ⟨h1.nil, ((h1.keepsN HBA.out.2.1).keepsN ((Keeps.refl _ _).alloc _)).row, by simp [TE]; omega, by simp; omega⟩
      have HW5 : Hid (∀ W o5 c5, Own TE W o5 c5 ([] ++ v.keys) → Ap (wa.alloc (.cells #[] 9)) (some ⟨wa.heap.size, 0, none⟩) o5 W → W.heap[B]? = some (.cells #[.string rk, .int .u64 (ri : Nat), .string rv, .slice rro rn rcc] 46 (0, 0)) ∧ Hid (Own TE W o5 c5 v.keys ∧ New wr o5 ∧ Keeps no wr W)) := by
        intro W o5 c5 h1 h2
        have hB1 : B < wa.heap.size := lt_of_block HBA.out.1
        have h3 := h2.new (w0 := wa) HO0.out.2 ((Keeps.refl _ _).alloc _)
        exact ⟨h3.2.at HBA.out.1 (fun h => h), h1, h3.1.of_le HBA.out.2.1.size, HBA.out.2.1.trans h3.2⟩
      go_upto_region 7 with (at_builtin; refine wpList_app okT rfl _ _ rfl (some ⟨wa.heap.size, 0, none⟩) 0 0 [] rfl rfl HO0.out.1 rro rn rcc v.keys rfl HVV.out.2.2.2.1 HSR.out.1 HSR.out.2.1 HSR.out.2.2.1 HSR.out.2.2.2 ?_; intro o5 c5 w5 ho5 hap5; obtain ⟨hb5, H5⟩ := HW5.out w5 o5 c5 ho5 hap5; have e3 := cell_of_blk hb5 3; have f3 := frozen_of_blk hb5 3; simp only [List.getElem?_toArray, List.getElem?_cons_succ, List.getElem?_cons_zero] at e3; clear ho5 hap5)
      have HBB : Hid (∀ W, W = w5.setCell ⟨B, 3, none⟩ (.slice o5 rn c5) → W.heap[B]? = some (.cells #[.string rk, .int .u64 (ri : Nat), .string rv, .slice o5 rn c5] 46 (0, 0)) ∧ Own TE W o5 c5 v.keys ∧ Keeps no wr W) := by
        rintro W rfl
        refine ⟨blk_set hb5 3 _, H5.out.1.keeps (keeps_one w5 B 3 _) (fun i hi e => ?_), H5.out.2.2.then (keeps_one w5 B 3 _) (fun i e => .inr (by rw [e]; have := HBA.out.2.2; omega))⟩
        obtain ⟨cur, hc⟩ := H5.out.1.tag i hi
        rw [e, hb5] at hc
        injection hc with e1
        injection e1 with _ e1 _
        exact absurd e1 (by decide)
      have hW := HBB.out _ rfl
      generalize w5.setCell ⟨B, 3, none⟩ (.slice o5 rn c5) = w4 at hW ⊢
      have H4 : Hid (Own TE w4 o5 c5 v.keys ∧ Keeps no wr w4) := hW.2
      have e0' := cell_of_blk hW.1 0
      have e1' := cell_of_blk hW.1 1
      have e2' := cell_of_blk hW.1 2
      have e3' := cell_of_blk hW.1 3
      simp only [List.getElem?_toArray, List.getElem?_cons_succ, List.getElem?_cons_zero] at e0' e1' e2' e3'
      have HRO : Hid (Row VE (w4.alloc (.cells #[.string rk, .int .u64 (ri : Nat), .string rv, .slice o5 rn c5] 46)) (some ⟨w4.heap.size, 0, none⟩) [⟨rk, ri, rv, o5, rn, c5⟩]) := (lit_one (E := VE) w4 ⟨rk, ri, rv, o5, rn, c5⟩ #[.string rk, .int .u64 (ri : Nat), .string rv, .slice o5 rn c5] rfl).row
      have HOA : Hid (Own VE (w4.alloc (.cells #[.string rk, .int .u64 (ri : Nat), .string rv, .slice o5 rn c5] 46)) o c rs ∧ m = rs.length) := ⟨(HRN.out.2.1.own.keepsN H4.out.2).keepsN ((Keeps.refl _ _).alloc _), by rw [HRN.out.1, HRN.out.2.2]⟩
      have HBD : Hid ((rs.length + [(⟨rk, ri, rv, o5, rn, c5⟩ : RV)].length) * VE.nb ≤ 140737488355328 ∧ rs.length + [(⟨rk, ri, rv, o5, rn, c5⟩ : RV)].length ≤ 140737488355328) := by rw [HRN.out.2.2]; exact ⟨by simp [VE]; omega, by simp; omega⟩
      clear hW HBB hb5 e3 f3 a3 a3'
      go_wp2_with (at_builtin; refine wpList_app okV rfl _ _ rfl _ _ _ rs rfl HOA.out.2 HOA.out.1 _ _ _ [⟨rk, ri, rv, o5, rn, c5⟩] rfl rfl (fun h => by cases h) HRO.out HBD.out.1 HBD.out.2 ?_; intro o1 c1 w6 ho6 hap6)
      go_roundw
      case rel =>
        refine ⟨k + 1, o1, m + 1, c1, by omega, by go_num, rfl, rs ++ [⟨rk, ri, rv, o5, rn, c5⟩], by rw [HRN.out.1], ?_⟩
        rw [HX.out]
        exact HRN.out.2.1.push (H4.out.2.trans ((Keeps.refl _ _).alloc _)) ⟨HVV.out.1, HVV.out.2.1, HVV.out.2.2.1, HVV.out.2.2.2.1, H4.out.1.keepsN ((Keeps.refl _ _).alloc _)⟩ H5.out.2.1 ho6 hap6
      case measure => simp [intOf]; omega
    · have hlt' : ¬ (k : Int) < n := by omega
      have HE : Hid (∃ rs, m = vl.length ∧ NewVo w o c rs vl wr) := by
        obtain ⟨rs, h1, h2⟩ := HR.out
        have e : k = vl.length := by have := HN.out; omega
        rw [e, List.take_length] at h2
        exact ⟨rs, by rw [h1, e], h2⟩
      clear HR
      go_wp2_with fail
      go_ret
      obtain ⟨rs, h1, h2⟩ := HE.out
      exact ⟨o, m, c, rs, rfl, h1, h2⟩
end Go.Proofs.Ytileipnoiocdlaa
