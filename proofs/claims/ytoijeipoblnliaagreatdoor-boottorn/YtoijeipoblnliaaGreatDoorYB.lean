import Derived.Test.YtoijeipoblnliaaGreatDoorYA
/- rec. -/
namespace Go.Proofs.YtoijeipoblnliaaGreatDoor
open Go.RowKit Go.Maps Go.Sort Orl Pk
set_option linter.unusedVariables false
set_option linter.unusedSimpArgs false

def RecTo (w : World) (r : Rec) (e : Ending) (w' : World) : Prop :=
  ∃ v : CV, e = .returned (.agg #[.int .i64 v.k, .int .u64 (v.i : Nat), .slice v.op v.np v.cp, .slice v.ok v.nk v.ck]) ∧ Hid (Got w w' v r) ∧ Hid (Keeps no w w')
theorem recS_fit (x : RW) : FitR (recS x) := by
  have h := recS_may x
  obtain ⟨_, hc⟩ := may_parts h
  rcases hc with ⟨h1, hk, hp⟩ | ⟨h2, hp, hk⟩
  · have a := mayK_all hk
    have b := mayP_all hk hp
    exact ⟨by omega, fun s hs => by have := a.2.2.1 s hs; omega, by omega, fun p hp => by have := b.2.2 p hp; omega, by rw [h1]; omega, by rw [h1]; omega, recS_id x⟩
  · exact ⟨by rw [hk]; simp, (fun s hs => by rw [hk] at hs; cases hs), by rw [hp]; simp, (fun p hq => by rw [hp] at hq; cases hq), by rw [h2]; omega, by rw [h2]; omega, recS_id x⟩
/-- rec's blocks: the raw record, the answer, the record that is built -/
structure RecI (w : World) (R : Nat) (x : RW) (X : Nat) (iw : Nat) (op : Option Addr) (np cp : Nat) (ps : List Pr) (ok : Option Addr) (nk ck : Nat) (ks : List Tx) (W : World) : Prop where
  kp : Keeps no w W
  r : W.heap[R]? = some (.cells #[.int .i64 x.kd, .int .i64 x.wr, .int .i64 x.msk, .string x.val] 57 (0, 0))
  a : W.heap[R + 1]? = some (.cells #[.int .i64 0, .int .u64 0, .slice none 0 0, .slice none 0 0] 54 (0, 0))
  x : W.heap[X]? = some (.cells #[.int .i64 1, .int .u64 (iw : Nat), .slice op np cp, .slice ok nk ck] 54 (0, 0))
  hR : w.heap.size ≤ R
  hX : R + 1 < X
  nps : np = ps.length
  nks : nk = ks.length
  ps : Own PE W op cp ps
  ks : Own TE W ok ck ks
  pn : New w op
  kn : New w ok
theorem RecI.step {w : World} {R : Nat} {x : RW} {X iw : Nat} {op : Option Addr} {np cp : Nat} {ps : List Pr} {ok : Option Addr} {nk ck : Nat} {ks : List Tx} {W W' : World} (h : RecI w R x X iw op np cp ps ok nk ck ks W) (hk : Keeps no W W') : RecI w R x X iw op np cp ps ok nk ck ks W' :=
  ⟨h.kp.trans hk, hk.at h.r id, hk.at h.a id, hk.at h.x id, h.hR, h.hX, h.nps, h.nks, h.ps.keepsN hk, h.ks.keepsN hk, h.pn, h.kn⟩
theorem Ap.atB {w w' : World} {oa o' : Option Addr} (h : Ap w oa o' w') {b : Nat} {o : Obj} (hb : w.heap[b]? = some o) (hn : ¬ inO oa b) : w'.heap[b]? = some o := by
  rcases h with ⟨_, hk⟩ | ⟨_, hk⟩
  · exact hk.at hb hn
  · exact hk.at hb id
theorem Own.not_at {α : Type} {E : El α} {w : World} {o : Option Addr} {c : Nat} {xs : List α} (h : Own E w o c xs) {b : Nat} {cs : Array Value} {t : TypeId} (hb : w.heap[b]? = some (.cells cs t (0, 0))) (ht : t ≠ E.e) : ¬ inO o b := by
  intro hi
  obtain ⟨cur, hc⟩ := h.tag b hi
  rw [hb] at hc
  cases hc
  exact ht rfl
theorem RecI.keys {w : World} {R : Nat} {x : RW} {X iw : Nat} {op : Option Addr} {np cp : Nat} {ps : List Pr} {ok : Option Addr} {nk ck : Nat} {ks : List Tx} {W W' : World} (h : RecI w R x X iw op np cp ps ok nk ck ks W) {ok' : Option Addr} {ck' n : Nat} {ks' : List Tx} (ho : Own TE W' ok' ck' ks') (hap : Ap W ok ok' W') (hn : n = ks'.length) : RecI w R x X iw op np cp ps ok' n ck' ks' (W'.setCell ⟨X, 3, none⟩ (.slice ok' n ck')) := by
  have hr := hap.atB h.r (h.ks.not_at h.r (by decide))
  have ha := hap.atB h.a (h.ks.not_at h.a (by decide))
  have hx := hap.atB h.x (h.ks.not_at h.x (by decide))
  have hnew := hap.new (w0 := w) h.kn h.kp
  have hps : Own PE W' op cp ps := by
    rcases hap with ⟨_, hk⟩ | ⟨_, hk⟩
    · exact h.ps.keeps hk (fun b hb hc => tags_ne h.ps h.ks (by decide) b hb hc)
    · exact h.ps.keepsN hk
  have kX : Keeps (eqA X) W' (W'.setCell ⟨X, 3, none⟩ (.slice ok' n ck')) := (Keeps.refl (eqA X) W').setA _ _
  have hXr := h.hX
  refine ⟨hnew.2.then kX (fun b hb => .inr (by have : b = X := hb; have := h.hR; omega)), kX.at hr (fun e => by have : R = X := e; omega), kX.at ha (fun e => by have : R + 1 = X := e; omega), by rw [blk_set hx 3]; rfl, h.hR, h.hX, h.nps, hn, hps.keeps kX (fun b hb e => hps.not_at hx (by decide) (by have : b = X := e; rw [← this]; exact hb)), ho.keeps kX (fun b hb e => ho.not_at hx (by decide) (by have : b = X := e; rw [← this]; exact hb)), h.pn, hnew.1⟩
theorem RecI.pairs {w : World} {R : Nat} {x : RW} {X iw : Nat} {op : Option Addr} {np cp : Nat} {ps : List Pr} {ok : Option Addr} {nk ck : Nat} {ks : List Tx} {W W' : World} (h : RecI w R x X iw op np cp ps ok nk ck ks W) {op' : Option Addr} {cp' n : Nat} {ps' : List Pr} (ho : Own PE W' op' cp' ps') (hap : Ap W op op' W') (hn : n = ps'.length) : RecI w R x X iw op' n cp' ps' ok nk ck ks (W'.setCell ⟨X, 2, none⟩ (.slice op' n cp')) := by
  have hr := hap.atB h.r (h.ps.not_at h.r (by decide))
  have ha := hap.atB h.a (h.ps.not_at h.a (by decide))
  have hx := hap.atB h.x (h.ps.not_at h.x (by decide))
  have hnew := hap.new (w0 := w) h.pn h.kp
  have hks : Own TE W' ok ck ks := by
    rcases hap with ⟨_, hk⟩ | ⟨_, hk⟩
    · exact h.ks.keeps hk (fun b hb hc => tags_ne h.ps h.ks (by decide) b hc hb)
    · exact h.ks.keepsN hk
  have kX : Keeps (eqA X) W' (W'.setCell ⟨X, 2, none⟩ (.slice op' n cp')) := (Keeps.refl (eqA X) W').setA _ _
  have hXr := h.hX
  refine ⟨hnew.2.then kX (fun b hb => .inr (by have : b = X := hb; have := h.hR; omega)), kX.at hr (fun e => by have : R = X := e; omega), kX.at ha (fun e => by have : R + 1 = X := e; omega), by rw [blk_set hx 2]; rfl, h.hR, h.hX, hn, h.nks, ho.keeps kX (fun b hb e => ho.not_at hx (by decide) (by have : b = X := e; rw [← this]; exact hb)), hks.keeps kX (fun b hb e => hks.not_at hx (by decide) (by have : b = X := e; rw [← this]; exact hb)), hnew.1, h.kn⟩

set_option maxRecDepth 10000 in
theorem rec_any (w : World) (x : RW) (hx : RWok x) :
    Calls Tryz.prog 23 #[.agg #[.int .i64 x.kd, .int .i64 x.wr, .int .i64 x.msk, .string x.val]] w (RecTo w (recS x)) := by
  obtain ⟨xk, xw, xm, xv⟩ := x
  obtain ⟨hk, hwr, hmk⟩ := hx
  simp only at hk hwr hmk ⊢
  obtain ⟨w1, hw1⟩ : ∃ w1, w1 = (w.alloc (.cells #[.int .i64 xk, .int .i64 xw, .int .i64 xm, .string xv] 57)).alloc (.cells #[.int .i64 0, .int .u64 0, .slice none 0 0, .slice none 0 0] 54) := ⟨_, rfl⟩
  have HW1 : Hid (Keeps no w w1 ∧ w1.heap[w.heap.size]? = some (.cells #[.int .i64 xk, .int .i64 xw, .int .i64 xm, .string xv] 57 (0, 0)) ∧ w1.heap[w.heap.size + 1]? = some (.cells #[.int .i64 0, .int .u64 0, .slice none 0 0, .slice none 0 0] 54 (0, 0))) := by
    rw [hw1]
    exact ⟨((Keeps.refl no w).alloc _).alloc _, (two_new w _ _).1, (two_new w _ _).2⟩
  have HE : Hid (w1 = (w.alloc (.cells #[.int .i64 xk, .int .i64 xw, .int .i64 xm, .string xv] 57)).alloc (.cells #[.int .i64 0, .int .u64 0, .slice none 0 0, .slice none 0 0] 54)) := hw1
  have hl := rst_le xw 11
  have HI : Hid (idw xw = 65536 * (1 + rst xw 11) + rst xw 11 % 3) := rfl
  have hr1 := fun W => rest_any xw 11 W hwr (by omega)
  obtain ⟨r, hr⟩ : ∃ r, r = rst xw 11 := ⟨_, rfl⟩
  rw [← hr] at HI hr1 hl
  change ∀ W, Calls Tryz.prog 17 #[.int .i64 xw, .int .i64 11] W _ at hr1
  have hl' : (r : Int) ≤ 11 := by omega
  have e3 : Int.tmod (r : Int) 3 = (r : Int) % 3 := Int.tmod_eq_emod_of_nonneg (by omega)
  have hl3 : (r : Int) % 3 ≤ 2 := by omega
  have hl4 : 0 ≤ (r : Int) % 3 := by omega
  have cR := call_grown (W := w1) (f := 17) (args := #[.int .i64 xw, .int .i64 11]) (v := .int .i64 ((r : Nat) : Int)) (fun X hX => (hr1 X).mono fun e w' ⟨he, hw'⟩ => ⟨he, by rw [hw']; exact Keeps.refl no X⟩)
  have z1 := cell_regrown (show w1.cell? ⟨w.heap.size, 1, none⟩ = some (.int .i64 xw) from cell_of_blk HW1.out.2.1 1)
  clear hr hl hw1
  go_enter Tryz.func23, Tryz.ntmps23
  go_wp2_with fail
  rw [← HE.out]
  refine wp_region_quiet_below (by kernel_rfl) (by kernel_rfl) ?_
  repeat (go_big_quiet_step (exact cR _ _))
  refine wpQuiet_nil ?_
  intro _ hw'
  obtain ⟨⟨dq, osq⟩, rfl⟩ := hw'
  have K2' : Keeps no w1 (Sort.grow (redrawn w1 dq) osq) := keeps_grownQ ..
  generalize Sort.grow (redrawn w1 dq) osq = w2 at K2' ⊢
  obtain ⟨iw, hiw⟩ : ∃ iw, iw = idw xw := ⟨_, rfl⟩
  have HIW : Hid (iw = idw xw) := hiw
  have hid : (65536 * (1 + (r : Int)) + (r : Int) % 3) = ((iw : Nat) : Int) := by rw [hiw]; have := HI.out; omega
  rw [hid]
  have B2 : Hid (Keeps no w w2 ∧ w2.heap[w.heap.size]? = some (.cells #[.int .i64 xk, .int .i64 xw, .int .i64 xm, .string xv] 57 (0, 0)) ∧ w2.heap[w.heap.size + 1]? = some (.cells #[.int .i64 0, .int .u64 0, .slice none 0 0, .slice none 0 0] 54 (0, 0))) := ⟨HW1.out.1.trans K2', K2'.at HW1.out.2.1 id, K2'.at HW1.out.2.2 id⟩
  have c0 := cell_of_blk B2.out.2.1 0
  clear hid hiw cR z1 hr1 hl' e3 hl3 hl4 HI K2' HW1 HE hwr
  have hr2 := fun W => rest_any xk 2 W hk (by omega)
  change ∀ W, Calls Tryz.prog 17 #[.int .i64 xk, .int .i64 2] W _ at hr2
  by_cases h2 : rst xk 2 = 2
  · have HR : Hid (recS ⟨xk, xw, xm, xv⟩ = ⟨2, iw, [], []⟩) := by show _ = _; unfold recS; rw [if_pos h2, HIW.out]
    rw [h2] at hr2
    have f0 := frozen_of_blk B2.out.2.2 0
    have f1 := frozen_of_blk B2.out.2.2 1
    have f2 := frozen_of_blk B2.out.2.2 2
    have f3 := frozen_of_blk B2.out.2.2 3
    have d0 := cell_of_blk B2.out.2.2 0
    have d1 := cell_of_blk B2.out.2.2 1
    have d2 := cell_of_blk B2.out.2.2 2
    have d3 := cell_of_blk B2.out.2.2 3
    clear h2
    go_wp2_with fail
    refine (hr2 _).mono ?_
    rintro e w3 ⟨rfl, hw⟩
    subst w3
    go_wp2_with fail
    have hs4 := set4n (Nat.le_succ _) B2.out.1 B2.out.2.2 (.int .i64 2) (.int .u64 (iw : Nat)) (.slice none 0 0) (.slice none 0 0)
    refine bodyPost_ret (results_row1 rfl _ _ (w.heap.size + 1) _ rfl (loadR hs4.1)) rfl ?_
    have hfit := recS_fit ⟨xk, xw, xm, xv⟩
    rw [HR.out] at hfit ⊢
    exact ⟨⟨2, iw, none, 0, 0, none, 0, 0⟩, rfl, ⟨rfl, rfl, rfl, rfl, own_nil _, own_nil _, new_none _, new_none _, hfit⟩, hs4.2⟩
  · have HR : Hid (recS ⟨xk, xw, xm, xv⟩ = ⟨1, iw, (keysM xm).map (fun k => (k, shortT xv)), keysM xm⟩) := by show _ = _; unfold recS; rw [if_neg h2, HIW.out]
    have hR2 := rst_le xk 2
    generalize rst xk 2 = R at h2 hR2 hr2
    have h2' : ((R : Int) == 2) = false := by rw [beq_eq_false_iff_ne]; omega
    obtain ⟨m1, m2⟩ := hmk
    clear h2 hR2 HIW
    go_wp2_with fail
    refine (hr2 _).mono ?_
    rintro e w3 ⟨rfl, hw⟩
    subst w3
    clear hr2 hk
    obtain ⟨x, hx⟩ : ∃ x : RW, x = ⟨xk, xw, xm, xv⟩ := ⟨_, rfl⟩
    obtain ⟨X, hX⟩ : ∃ X, X = w2.heap.size := ⟨_, rfl⟩
    have HRI : Hid (RecI w w.heap.size x X iw none 0 0 [] none 0 0 [] (w2.alloc (.cells #[.int .i64 1, .int .u64 (iw : Nat), .slice none 0 0, .slice none 0 0] 54))) := by
      have hlt := lt_of_block B2.out.2.2
      rw [hx, hX]
      exact ⟨B2.out.1.alloc _, blk_alloc B2.out.2.1 _, blk_alloc B2.out.2.2 _, blk_new w2 _, Nat.le_refl _, hlt, rfl, rfl, own_nil _, own_nil _, new_none _, new_none _⟩
    have HX : Hid (x = ⟨xk, xw, xm, xv⟩) := hx
    have HXX : Hid (X = w2.heap.size) := hX
    clear hx c0 B2
    go_upto_region 5 with fail
    rw [← hX]
    clear hX h2'
    have c2 := cell_of_blk HRI.out.r 2
    go_wp2_with fail
    go_loopw [5] (fun v wr => ∃ (k : Nat) (ok : Option Addr) (nk ck : Nat), k ≤ 3 ∧ v = .int .i64 k ∧ Hid (RecI w w.heap.size x X iw none 0 0 [] ok nk ck (setK xm k) wr)) (fun v _ => 3 - (intOf v).toNat)
    case atStart => exact ⟨0, none, 0, 0, by omega, rfl, by simpa [setK] using HRI⟩
    case round =>
      obtain ⟨k, ok, nk, ck, hk, rfl, HI⟩ := hrel
      rename World => wq
      have e2 := cell_of_blk HI.out.r 2
      have e3 : wq.cell? ⟨X, 3, none⟩ = some (.slice ok nk ck) := cell_of_blk HI.out.x 3
      rw [HX.out] at e2
      simp only at e2
      by_cases hlt : k < 3
      · have hk' : (k : Int) < 3 := by omega
        have HS' : Hid (setK xm (k + 1) = if bitM xm k = true then setK xm k ++ [ky k] else setK xm k) := setK_succ xm k
        have HSL' : Hid ((setK xm k).length ≤ k) := setK_len xm k
        have hb : bitM xm k = (bits BinOp.and IntKind.i64 (xm / 2 ^ k) 1 == 1) := rfl
        obtain ⟨B, hB0⟩ : ∃ B, bits BinOp.and IntKind.i64 (xm / 2 ^ k) 1 = B := ⟨_, rfl⟩
        rw [hB0] at hb
        by_cases hB : B = 1
        · subst hB
          have hb' : Hid (bitM xm k = true) := hb
          have hcv := conv1 (wq.alloc (.cells #[.int .u8 (97 + (k : Int))] 5)) wq.heap.size (97 + (k : Int)) (blk_new wq _)
          rw [show mkL [97 + (k : Int)] = ky k from rfl] at hcv
          have HIa : Hid (RecI w w.heap.size x X iw none 0 0 [] ok nk ck (setK xm k) ((wq.alloc (.cells #[.int .u8 (97 + (k : Int))] 5)).alloc (.cells #[.string (ky k)] 9))) := HI.out.step (((Keeps.refl no _).alloc _).alloc _)
          have hrow := (own_one (wq.alloc (.cells #[.int .u8 (97 + (k : Int))] 5)) (ky k)).row
          rw [World.size_alloc] at hrow
          have HRW : Hid (Row TE ((wq.alloc (.cells #[.int .u8 (97 + (k : Int))] 5)).alloc (.cells #[.string (ky k)] 9)) (some ⟨wq.heap.size + 1, 0, none⟩) [ky k]) := hrow
          clear hb hrow
          go_wp2_with (at_builtin; refine wpList_app okT rfl _ _ rfl _ _ _ (setK xm k) rfl HIa.out.nks HIa.out.ks _ _ _ [ky k] rfl rfl (fun h => by cases h) HRW.out (by have := HSL'.out; simp [TE]; omega) (by have := HSL'.out; simp; omega) ?_; intro o1 c1 w4 ho4 hap4; have fz : w4.frozen? ⟨X, 3, none⟩ = false := frozen_of_blk (hap4.at HIa.out.x (HIa.out.ks.not_at HIa.out.x (by decide))) 3; have cz : w4.cell? ⟨X, 3, none⟩ = some (.slice ok nk ck) := cell_of_blk (hap4.at HIa.out.x (HIa.out.ks.not_at HIa.out.x (by decide))) 3)
          go_roundw
          case rel =>
            refine ⟨k + 1, o1, nk + 1, c1, by omega, by go_num, ?_⟩
            have := HIa.out.keys ho4 hap4 (n := nk + 1) (by rw [List.length_append, ← HIa.out.nks]; rfl)
            rw [HS'.out, if_pos hb'.out]
            exact this
          case measure => simp [intOf] <;> omega
        · have hb' : Hid (bitM xm k = false) := (show _ = _ by rw [hb]; simpa using hB)
          clear hb
          go_wp2_with fail
          go_roundw
          case rel =>
            refine ⟨k + 1, ok, nk, ck, by omega, by go_num, ?_⟩
            rw [HS'.out, if_neg (by rw [hb'.out]; simp)]
            exact HI
          case measure => simp [intOf] <;> omega
      · have hk3 : k = 3 := by omega
        have hk3' : ((k : Nat) : Int) = 3 := by omega
        rw [hk3']
        clear hk3'
        subst hk3
        have HM : Hid (keysM xm = if setK xm 3 = [] then [e0] else setK xm 3) := rfl
        have hx3 := cell_of_blk HI.out.x 3
        have fx3 := frozen_of_blk HI.out.x 3
        clear hx3 fx3 c2
        obtain ⟨bz, hbz⟩ : ∃ bz : Bool, ((nk : Int) == 0) = bz := ⟨_, rfl⟩
        go_upto_if 49 with fail
        have HBZ : Hid (((nk : Int) == 0) = bz) := hbz
        clear hbz
        go_cut [] from 50 to 51 (fun U => ∃ (ok : Option Addr) (nk ck : Nat), Hid (RecI w w.heap.size x X iw none 0 0 [] ok nk ck (keysM xm) U))
        case first =>
          by_cases hn0 : nk = 0
          · have HE : Hid (setK xm 3 = []) := List.eq_nil_of_length_eq_zero (by rw [← HI.out.nks]; exact hn0)
            have hb1 : bz = true := by rw [← HBZ.out]; simp [hn0]
            clear HBZ
            subst hb1 hn0
            have fa := frozen_of_blk (blk_alloc HI.out.x (.cells #[.string ⟨#[]⟩] 9)) 3
            have ca := cell_of_blk (blk_alloc HI.out.x (.cells #[.string ⟨#[]⟩] 9)) 3
            have HF : Hid (RecI w w.heap.size x X iw none 0 0 [] (some ⟨wq.heap.size, 0, none⟩) 1 1 [e0] ((wq.alloc (.cells #[.string ⟨#[]⟩] 9)).setCell ⟨X, 3, none⟩ (.slice (some ⟨wq.heap.size, 0, none⟩) 1 1))) := (HI.out.keys (W' := wq.alloc (.cells #[.string ⟨#[]⟩] 9)) (ok' := some ⟨wq.heap.size, 0, none⟩) (ck' := 1) (n := 1) (ks' := [e0]) (own_of_shape okT (blk_new wq _) (by simp) (by unfold maxLen; omega) (by simp [TE]) (by simp [El.cells, TE, e0])) (.inr ⟨⟨wq.heap.size, rfl, Nat.le_refl _⟩, (Keeps.refl no wq).alloc _⟩) rfl)
            go_wp2_with fail
            go_meet
            case rel =>
              refine ⟨some ⟨wq.heap.size, 0, none⟩, 1, 1, ?_⟩
              rw [HM.out, if_pos HE.out]
              exact HF
          · have HE : Hid (¬ setK xm 3 = []) := fun e => hn0 (by rw [HI.out.nks, e]; rfl)
            have hb1 : bz = false := by rw [← HBZ.out, beq_eq_false_iff_ne]; omega
            clear HBZ
            subst hb1
            go_wp2_with fail
            go_meet
            case rel =>
              refine ⟨ok, nk, ck, ?_⟩
              rw [HM.out, if_neg HE.out]
              exact HI
        case rest =>
        obtain ⟨ok, nk, ck, HJ⟩ := hcut
        rename World => wu
        obtain ⟨ks, hks⟩ : ∃ ks, ks = keysM xm := ⟨_, rfl⟩
        rw [← hks] at HJ
        have HKS : Hid (ks = keysM xm ∧ ks.length ≤ 3) := ⟨hks, by rw [hks]; exact (keysM_len xm).2⟩
        obtain ⟨sv, hsv⟩ : ∃ sv, sv = shortT xv := ⟨_, rfl⟩
        have HSV : Hid (sv = shortT xv) := hsv
        rw [← hsv, ← hks] at HR
        have hn3 : (nk : Int) ≤ 3 := by have := HJ.out.nks; have := HKS.out.2; omega
        clear hks e2 e3 HI HRI HM HBZ
        go_wp2_with fail
        go_loopw [6] (fun v wr => ∃ (j : Nat) (op : Option Addr) (np cp : Nat), j ≤ nk ∧ v = .int .i64 j ∧ Hid (RecI w w.heap.size x X iw op np cp ((ks.take j).map fun k => (k, sv)) ok nk ck ks wr)) (fun v _ => nk - (intOf v).toNat)
        case atStart => exact ⟨0, none, 0, 0, by omega, rfl, by simpa using HJ⟩
        case round =>
          obtain ⟨j, op, np, cp, hj, rfl, HI2⟩ := hrel
          rename World => wz
          have g3 : wz.cell? ⟨X, 3, none⟩ = some (.slice ok nk ck) := cell_of_blk HI2.out.x 3
          by_cases hlt : j < nk
          · have hlt' : (j : Int) < nk := by omega
            have hj1 : j < ks.length := by have := HI2.out.nks; omega
            obtain ⟨b1, off1, rfl, d1⟩ := HI2.out.ks.sl.at hj1
            obtain ⟨kx, hkx⟩ : ∃ kx, kx = ks.getD j e0 := ⟨_, rfl⟩
            rw [← hkx] at d1
            have HKX : Hid (kx = ks.getD j e0) := hkx
            obtain ⟨qs, hqs⟩ : ∃ qs, qs = (ks.take j).map fun k => (k, sv) := ⟨_, rfl⟩
            rw [← hqs] at HI2
            have HQ2 : Hid ((ks.take (j + 1)).map (fun k => (k, sv)) = qs ++ [(kx, sv)]) := by show _ = _; rw [pk_take ks sv j hj1, ← hqs, ← hkx]
            have hql : Hid (qs.length ≤ 3) := by show _ ≤ _; rw [hqs, List.length_map, List.length_take]; have := HKS.out.2; omega
            have HBD : Hid ((qs.length + [(kx, sv)].length) * PE.nb ≤ 140737488355328 ∧ qs.length + [(kx, sv)].length ≤ 140737488355328) := ⟨by have := hql.out; simp [PE]; omega, by have := hql.out; simp; omega⟩
            have hv3 : wz.cell? ⟨w.heap.size, 3, none⟩ = some (.string xv) := by have := cell_of_blk HI2.out.r 3; rw [HX.out] at this; exact this
            have HKC : Hid (∀ Y {o1 : Option Addr} {n1 c1 : Nat} {q1 : List Pr}, RecI w w.heap.size x X iw o1 n1 c1 q1 (some ⟨b1, off1, none⟩) nk ck ks Y → Y.cell? ⟨b1, off1 + j, none⟩ = some (.string kx)) := fun Y o1 n1 c1 q1 hY => by
              obtain ⟨b2, off2, e, d⟩ := hY.ks.sl.at hj1
              cases e
              rw [← hkx] at d
              exact d
            have HSX : Hid (∀ Y, Keeps (inO op) wz Y → Y.cell? ⟨X, 3, none⟩ = some (.slice (some ⟨b1, off1, none⟩) nk ck) ∧ Y.cell? ⟨b1, off1 + j, none⟩ = some (.string kx) ∧ Y.cell? ⟨w.heap.size, 3, none⟩ = some (.string xv)) := fun Y hY => ⟨hY.cell g3 (HI2.out.ps.not_at HI2.out.x (by decide)), hY.cell d1 (fun h => tags_ne HI2.out.ps HI2.out.ks (by decide) b1 h ⟨_, rfl, rfl⟩), hY.cell hv3 (HI2.out.ps.not_at HI2.out.r (by decide))⟩
            have HMN : Hid ((0 ≤ min ((ByteArray.size xv : Nat) : Int) 1000 ∧ min ((ByteArray.size xv : Nat) : Int) 1000 ≤ ((ByteArray.size xv : Nat) : Int)) ∧ ByteArray.extract xv 0 (min ((ByteArray.size xv : Nat) : Int) 1000).toNat = sv) := ⟨⟨by omega, by omega⟩, by rw [HSV.out]; rfl⟩
            clear hqs hkx hj1 hsv
            go_upto_region 15 with fail
            refine wp_region_held_drew (S := (fun Y => Y.cell? ⟨X, 3, none⟩ = some (.slice (some ⟨b1, off1, none⟩) nk ck) ∧ Y.cell? ⟨b1, off1 + j, none⟩ = some (.string kx) ∧ Y.cell? ⟨w.heap.size, 3, none⟩ = some (.string xv))) (by kernel_rfl) ?_ (fun hHeld => ?_)
            · exact HSX.out _ ((Keeps.refl _ _).drew)
            refine wpAnyH_take (i := 0) (v := ?_) (by simp only [List.getElem?_toArray, List.getElem?_cons_succ, List.getElem?_cons_zero]; rfl) (by kernel_rfl) (by kernel_rfl) (by kernel_rfl) (by exact fun _ _ _ h => h) (Or.inl ⟨by rfl, ?_⟩) (by assumption) ?_
            rotate_left
            · (intro _ hSw; (try dsimp only at hSw); go_simp; (try with_reducible rfl))
            try simp only [Act.put, List.setIfInBounds_toArray, List.set_cons_zero, List.set_cons_succ]
            refine wpAnyH_take (i := 2) (v := ?_) (by simp only [List.getElem?_toArray, List.getElem?_cons_succ, List.getElem?_cons_zero]; rfl) (by kernel_rfl) (by kernel_rfl) (by kernel_rfl) (by exact fun _ _ _ h => h) (Or.inl ⟨by rfl, ?_⟩) (by assumption) ?_
            rotate_left
            · (intro _ hSw; (try dsimp only at hSw); go_simp; (try with_reducible rfl))
            try simp only [Act.put, List.setIfInBounds_toArray, List.set_cons_zero, List.set_cons_succ]
            refine wpAnyH_take (i := 3) (v := ?_) (by simp only [List.getElem?_toArray, List.getElem?_cons_succ, List.getElem?_cons_zero]; rfl) (by kernel_rfl) (by kernel_rfl) (by kernel_rfl) (by exact fun _ _ _ h => h) (Or.inl ⟨by rfl, ?_⟩) (by assumption) ?_
            rotate_left
            · (intro _ hSw; (try dsimp only at hSw); go_simp; (try with_reducible rfl))
            try simp only [Act.put, List.setIfInBounds_toArray, List.set_cons_zero, List.set_cons_succ]
            refine wpAnyH_take (i := 4) (v := ?_) (by simp only [List.getElem?_toArray, List.getElem?_cons_succ, List.getElem?_cons_zero]; rfl) (by kernel_rfl) (by kernel_rfl) (by kernel_rfl) (by exact fun _ _ _ h => h) (Or.inl ⟨by rfl, ?_⟩) (by assumption) ?_
            rotate_left
            · (intro _ hSw; (try dsimp only at hSw); go_simp; (try with_reducible rfl))
            try simp only [Act.put, List.setIfInBounds_toArray, List.set_cons_zero, List.set_cons_succ]
            refine wpAnyH_take (i := 5) (v := ?_) (by simp only [List.getElem?_toArray, List.getElem?_cons_succ, List.getElem?_cons_zero]; rfl) (by kernel_rfl) (by kernel_rfl) (by kernel_rfl) (by exact fun _ _ _ h => h) (Or.inl ⟨by rfl, ?_⟩) (by assumption) ?_
            rotate_left
            · (intro _ hSw; (try dsimp only at hSw); go_simp; (try with_reducible rfl))
            try simp only [Act.put, List.setIfInBounds_toArray, List.set_cons_zero, List.set_cons_succ]
            refine wpAnyH_take (i := 6) (v := ?_) (by simp only [List.getElem?_toArray, List.getElem?_cons_succ, List.getElem?_cons_zero]; rfl) (by kernel_rfl) (by kernel_rfl) (by kernel_rfl) (by exact fun _ _ _ h => h) (Or.inl ⟨by rfl, ?_⟩) (by assumption) ?_
            rotate_left
            · (intro _ hSw; (try dsimp only at hSw); go_simp; (try with_reducible rfl))
            try simp only [Act.put, List.setIfInBounds_toArray, List.set_cons_zero, List.set_cons_succ]
            refine wpAnyH_take (i := 7) (v := ?_) (by simp only [List.getElem?_toArray, List.getElem?_cons_succ, List.getElem?_cons_zero]; rfl) (by kernel_rfl) (by kernel_rfl) (by kernel_rfl) (by exact fun _ _ _ h => h) (Or.inl ⟨by rfl, ?_⟩) (by assumption) ?_
            rotate_left
            · (intro _ hSw; (try dsimp only at hSw); go_simp; (try with_reducible rfl))
            try simp only [Act.put, List.setIfInBounds_toArray, List.set_cons_zero, List.set_cons_succ]
            refine wpAnyH_take (i := 8) (v := ?_) (by simp only [List.getElem?_toArray, List.getElem?_cons_succ, List.getElem?_cons_zero]; rfl) (by kernel_rfl) (by kernel_rfl) (by kernel_rfl) (by exact fun _ _ _ h => h) (Or.inl ⟨by rfl, ?_⟩) (by assumption) ?_
            rotate_left
            · (intro _ hSw; (try dsimp only at hSw); go_simp; (try with_reducible rfl))
            try simp only [Act.put, List.setIfInBounds_toArray, List.set_cons_zero, List.set_cons_succ]
            refine wpAnyH_take (i := 9) (v := ?_) (by simp only [List.getElem?_toArray, List.getElem?_cons_succ, List.getElem?_cons_zero]; rfl) (by kernel_rfl) (by kernel_rfl) (by kernel_rfl) (by exact fun _ _ _ h => h) (Or.inl ⟨by rfl, ?_⟩) (by assumption) ?_
            rotate_left
            · (intro _ hSw; (try dsimp only at hSw); go_simp; (try with_reducible rfl))
            try simp only [Act.put, List.setIfInBounds_toArray, List.set_cons_zero, List.set_cons_succ]
            refine wpAnyH_take (i := 10) (v := ?_) (by simp only [List.getElem?_toArray, List.getElem?_cons_succ, List.getElem?_cons_zero]; rfl) (by kernel_rfl) (by kernel_rfl) (by kernel_rfl) (by exact fun _ _ _ h => h) (Or.inl ⟨by rfl, ?_⟩) (by assumption) ?_
            rotate_left
            · (intro _ hSw; (try dsimp only at hSw); go_simp; (try with_reducible rfl))
            try simp only [Act.put, List.setIfInBounds_toArray, List.set_cons_zero, List.set_cons_succ]
            refine wpAnyH_take (i := 11) (v := ?_) (by simp only [List.getElem?_toArray, List.getElem?_cons_succ, List.getElem?_cons_zero]; rfl) (by kernel_rfl) (by kernel_rfl) (by kernel_rfl) (by exact fun _ _ _ h => h) (Or.inl ⟨by rfl, ?_⟩) (by assumption) ?_
            rotate_left
            · (intro _ hSw; (try dsimp only at hSw); go_simp; (try with_reducible rfl))
            try simp only [Act.put, List.setIfInBounds_toArray, List.set_cons_zero, List.set_cons_succ]
            refine wpAnyH_take (i := 12) (v := ?_) (by simp only [List.getElem?_toArray, List.getElem?_cons_succ, List.getElem?_cons_zero]; rfl) (by kernel_rfl) (by kernel_rfl) (by kernel_rfl) (by exact fun _ _ _ h => h) (Or.inl ⟨by rfl, ?_⟩) (by assumption) ?_
            rotate_left
            · (intro _ hSw; (try dsimp only at hSw); go_simp; (try with_reducible rfl))
            try simp only [Act.put, List.setIfInBounds_toArray, List.set_cons_zero, List.set_cons_succ]
            refine wpAnyH_take (i := 13) (v := .string sv) (by simp only [List.getElem?_toArray, List.getElem?_cons_succ, List.getElem?_cons_zero]; rfl) (by kernel_rfl) (by kernel_rfl) (by kernel_rfl) (by exact fun _ _ _ h => h) (Or.inl ⟨by rfl, ?_⟩) (by assumption) ?_
            · (intro _ hSw; (try dsimp only at hSw); go_simp; rw [if_pos HMN.out.1, HMN.out.2])
            try simp only [Act.put, List.setIfInBounds_toArray, List.set_cons_zero, List.set_cons_succ]
            refine wpAnyH_take (i := 14) (v := ?_) (by simp only [List.getElem?_toArray, List.getElem?_cons_succ, List.getElem?_cons_zero]; rfl) (by kernel_rfl) (by kernel_rfl) (by kernel_rfl) (by exact fun _ _ _ h => h) (Or.inl ⟨by rfl, ?_⟩) (by assumption) ?_
            rotate_left
            · (intro _ hSw; (try dsimp only at hSw); go_simp; (try with_reducible rfl))
            try simp only [Act.put, List.setIfInBounds_toArray, List.set_cons_zero, List.set_cons_succ]
            have HC : Hid (Keeps no wz wz.drew) := (Keeps.refl no _).drew
            generalize wz.drew = z0 at HC ⊢
            have cx0 : z0.cell? ⟨X, 2, none⟩ = some (.slice op np cp) := HC.out.cellN (cell_of_blk HI2.out.x 2)
            refine wpAnyH_ready (rs := [1, 15]) (by kernel_rfl) (by simp) ?_
            refine AllReadyH.cons (by simp only [List.getElem?_toArray, List.getElem?_cons_succ, List.getElem?_cons_zero]; rfl) (fun Kq hKq => ?_) (AllReadyH.cons (by simp only [List.getElem?_toArray, List.getElem?_cons_succ, List.getElem?_cons_zero]; rfl) (fun Kq hKq => ?_) AllReadyH.nil)
            · go_simp
              refine hKq.out _ _ ?_ (fun hHeldN => ?_)
              · exact HSX.out _ HC.out.of_no
              clear hKq Kq hHeld
              have hHeld := hHeldN
              clear hHeldN
              refine wpAnyH_ready (rs := [15]) (by kernel_rfl) (by simp) ?_
              refine AllReadyH.cons (by simp only [List.getElem?_toArray, List.getElem?_cons_succ, List.getElem?_cons_zero]; rfl) (fun Kq hKq => ?_) AllReadyH.nil
              (go_simp; have HIz : Hid (RecI w w.heap.size x X iw op np cp qs (some ⟨b1, off1, none⟩) nk ck ks (z0.alloc (.cells #[.string kx, .string sv] 80))) := HI2.out.step (HC.out.alloc _); have HRz : Hid (Row PE (z0.alloc (.cells #[.string kx, .string sv] 80)) (some ⟨z0.heap.size, 0, none⟩) [(kx, sv)]) := (own_oneP z0 kx sv).row; have HC2 : Hid (Keeps no wz (z0.alloc (.cells #[.string kx, .string sv] 80))) := HC.out.alloc _; clear HC; have HC : Hid (Keeps no wz (z0.alloc (.cells #[.string kx, .string sv] 80))) := HC2.out; clear HC2; generalize z0.alloc (.cells #[.string kx, .string sv] 80) = z1 at HIz HRz HC ⊢; generalize z0.heap.size = zs at HRz ⊢; have cx1 : z1.cell? ⟨X, 2, none⟩ = some (.slice op np cp) := cell_of_blk HIz.out.x 2)
              refine hKq.out _ _ ?_ (fun hHeldN => ?_)
              · exact HSX.out _ HC.out.of_no
              clear hKq Kq hHeld
              have hHeld := hHeldN
              clear hHeldN
              refine wpAnyH_ready (rs := [16]) (by kernel_rfl) (by simp) ?_
              refine AllReadyH.cons (by simp only [List.getElem?_toArray, List.getElem?_cons_succ, List.getElem?_cons_zero]; rfl) (fun Kq hKq => ?_) AllReadyH.nil
              (refine step_app1 okP rfl (.tmp 60) (.tmp 74) rfl op np cp qs rfl HIz.out.nps HIz.out.ps (some (Addr.mk zs 0 none)) 1 1 [(kx, sv)] rfl rfl (fun e => by cases e) HRz.out HBD.out.1 HBD.out.2 ?_; intro o1 c1 z2 ho1 hap1; have HF : Hid (RecI w w.heap.size x X iw o1 (np + 1) c1 (qs ++ [(kx, sv)]) (some ⟨b1, off1, none⟩) nk ck ks (z2.setCell ⟨X, 2, none⟩ (.slice o1 (np + 1) c1))) := HIz.out.pairs ho1 hap1 (by rw [List.length_append, ← HIz.out.nps]; rfl); have fz : z2.frozen? ⟨X, 2, none⟩ = false := frozen_of_blk (hap1.at HIz.out.x (HIz.out.ps.not_at HIz.out.x (by decide))) 2; have cz : z2.cell? ⟨X, 2, none⟩ = some (.slice op np cp) := cell_of_blk (hap1.at HIz.out.x (HIz.out.ps.not_at HIz.out.x (by decide))) 2; have KZ2 : Hid (Keeps (inO op) wz z2) := HC.out.of_no.trans hap1.keeps.1; clear ho1 hap1)
              refine hKq.out _ _ ?_ (fun hHeldN => ?_)
              · exact HSX.out _ KZ2.out
              clear hKq Kq hHeld
              have hHeld := hHeldN
              clear hHeldN
              refine wpAnyH_ready (rs := [17]) (by kernel_rfl) (by simp) ?_
              refine AllReadyH.cons (by simp only [List.getElem?_toArray, List.getElem?_cons_succ, List.getElem?_cons_zero]; rfl) (fun Kq hKq => ?_) AllReadyH.nil
              go_simp
              refine hKq.out _ _ ?_ (fun hHeldN => ?_)
              · exact HSX.out _ KZ2.out
              clear hKq Kq hHeld
              have hHeld := hHeldN
              clear hHeldN
              refine wpAnyH_ready (rs := [18]) (by kernel_rfl) (by simp) ?_
              refine AllReadyH.cons (by simp only [List.getElem?_toArray, List.getElem?_cons_succ, List.getElem?_cons_zero]; rfl) (fun Kq hKq => ?_) AllReadyH.nil
              go_simp
              refine hKq.out _ _ ?_ (fun hHeldN => ?_)
              · exact ⟨cell_of_blk HF.out.x 3, HKC.out _ HF.out, by have := cell_of_blk HF.out.r 3; rw [HX.out] at this; exact this⟩
              clear hKq Kq hHeld
              have hHeld := hHeldN
              clear hHeldN
              refine wpAnyH_done (by kernel_rfl) ?_ _
              clear hHeld
              go_wp2_with fail
              go_roundw
              case rel =>
                refine ⟨j + 1, o1, np + 1, c1, by omega, by go_num, ?_⟩
                rw [HQ2.out]
                exact HF.out
              case measure => simp [intOf] <;> omega
            · (go_simp; have HIz : Hid (RecI w w.heap.size x X iw op np cp qs (some ⟨b1, off1, none⟩) nk ck ks (z0.alloc (.cells #[.string kx, .string sv] 80))) := HI2.out.step (HC.out.alloc _); have HRz : Hid (Row PE (z0.alloc (.cells #[.string kx, .string sv] 80)) (some ⟨z0.heap.size, 0, none⟩) [(kx, sv)]) := (own_oneP z0 kx sv).row; have HC2 : Hid (Keeps no wz (z0.alloc (.cells #[.string kx, .string sv] 80))) := HC.out.alloc _; clear HC; have HC : Hid (Keeps no wz (z0.alloc (.cells #[.string kx, .string sv] 80))) := HC2.out; clear HC2; generalize z0.alloc (.cells #[.string kx, .string sv] 80) = z1 at HIz HRz HC ⊢; generalize z0.heap.size = zs at HRz ⊢; have cx1 : z1.cell? ⟨X, 2, none⟩ = some (.slice op np cp) := cell_of_blk HIz.out.x 2)
              refine hKq.out _ _ ?_ (fun hHeldN => ?_)
              · exact HSX.out _ HC.out.of_no
              clear hKq Kq hHeld
              have hHeld := hHeldN
              clear hHeldN
              refine wpAnyH_ready (rs := [1]) (by kernel_rfl) (by simp) ?_
              refine AllReadyH.cons (by simp only [List.getElem?_toArray, List.getElem?_cons_succ, List.getElem?_cons_zero]; rfl) (fun Kq hKq => ?_) AllReadyH.nil
              go_simp
              refine hKq.out _ _ ?_ (fun hHeldN => ?_)
              · exact HSX.out _ HC.out.of_no
              clear hKq Kq hHeld
              have hHeld := hHeldN
              clear hHeldN
              refine wpAnyH_ready (rs := [16]) (by kernel_rfl) (by simp) ?_
              refine AllReadyH.cons (by simp only [List.getElem?_toArray, List.getElem?_cons_succ, List.getElem?_cons_zero]; rfl) (fun Kq hKq => ?_) AllReadyH.nil
              (refine step_app1 okP rfl (.tmp 60) (.tmp 74) rfl op np cp qs rfl HIz.out.nps HIz.out.ps (some (Addr.mk zs 0 none)) 1 1 [(kx, sv)] rfl rfl (fun e => by cases e) HRz.out HBD.out.1 HBD.out.2 ?_; intro o1 c1 z2 ho1 hap1; have HF : Hid (RecI w w.heap.size x X iw o1 (np + 1) c1 (qs ++ [(kx, sv)]) (some ⟨b1, off1, none⟩) nk ck ks (z2.setCell ⟨X, 2, none⟩ (.slice o1 (np + 1) c1))) := HIz.out.pairs ho1 hap1 (by rw [List.length_append, ← HIz.out.nps]; rfl); have fz : z2.frozen? ⟨X, 2, none⟩ = false := frozen_of_blk (hap1.at HIz.out.x (HIz.out.ps.not_at HIz.out.x (by decide))) 2; have cz : z2.cell? ⟨X, 2, none⟩ = some (.slice op np cp) := cell_of_blk (hap1.at HIz.out.x (HIz.out.ps.not_at HIz.out.x (by decide))) 2; have KZ2 : Hid (Keeps (inO op) wz z2) := HC.out.of_no.trans hap1.keeps.1; clear ho1 hap1)
              refine hKq.out _ _ ?_ (fun hHeldN => ?_)
              · exact HSX.out _ KZ2.out
              clear hKq Kq hHeld
              have hHeld := hHeldN
              clear hHeldN
              refine wpAnyH_ready (rs := [17]) (by kernel_rfl) (by simp) ?_
              refine AllReadyH.cons (by simp only [List.getElem?_toArray, List.getElem?_cons_succ, List.getElem?_cons_zero]; rfl) (fun Kq hKq => ?_) AllReadyH.nil
              go_simp
              refine hKq.out _ _ ?_ (fun hHeldN => ?_)
              · exact HSX.out _ KZ2.out
              clear hKq Kq hHeld
              have hHeld := hHeldN
              clear hHeldN
              refine wpAnyH_ready (rs := [18]) (by kernel_rfl) (by simp) ?_
              refine AllReadyH.cons (by simp only [List.getElem?_toArray, List.getElem?_cons_succ, List.getElem?_cons_zero]; rfl) (fun Kq hKq => ?_) AllReadyH.nil
              go_simp
              refine hKq.out _ _ ?_ (fun hHeldN => ?_)
              · exact ⟨cell_of_blk HF.out.x 3, HKC.out _ HF.out, by have := cell_of_blk HF.out.r 3; rw [HX.out] at this; exact this⟩
              clear hKq Kq hHeld
              have hHeld := hHeldN
              clear hHeldN
              refine wpAnyH_done (by kernel_rfl) ?_ _
              clear hHeld
              go_wp2_with fail
              go_roundw
              case rel =>
                refine ⟨j + 1, o1, np + 1, c1, by omega, by go_num, ?_⟩
                rw [HQ2.out]
                exact HF.out
              case measure => simp [intOf] <;> omega
          · have hjn : j = nk := by omega
            have e1 : Hid (ks.take j = ks) := List.take_of_length_le (by have := HI2.out.nks; omega)
            have HIe : Hid (RecI w w.heap.size x X iw op np cp (ks.map fun k => (k, sv)) ok nk ck ks wz) := by have := HI2.out; rw [e1.out] at this; exact this
            have hlt' : ¬ (j : Int) < nk := by omega
            have x0 := cell_of_blk HIe.out.x 0
            have x1 := cell_of_blk HIe.out.x 1
            have x2 := cell_of_blk HIe.out.x 2
            have x3 := cell_of_blk HIe.out.x 3
            have a0 := cell_of_blk HIe.out.a 0
            have a1 := cell_of_blk HIe.out.a 1
            have a2 := cell_of_blk HIe.out.a 2
            have a3 := cell_of_blk HIe.out.a 3
            have f0 := frozen_of_blk HIe.out.a 0
            have f1 := frozen_of_blk HIe.out.a 1
            have f2 := frozen_of_blk HIe.out.a 2
            have f3 := frozen_of_blk HIe.out.a 3
            clear HI2 hjn
            go_wp2_with fail
            have hs4 := set4W HIe.out.a (.int .i64 1) (.int .u64 (iw : Nat)) (.slice op np cp) (.slice ok nk ck)
            refine bodyPost_ret (results_row1 rfl _ _ (w.heap.size + 1) _ rfl (loadR hs4.1)) rfl ?_
            have hfit := recS_fit ⟨xk, xw, xm, xv⟩
            rw [HR.out] at hfit ⊢
            refine ⟨⟨1, iw, op, np, cp, ok, nk, ck⟩, rfl, ⟨rfl, rfl, HIe.out.nps, HIe.out.nks, HIe.out.ps.keeps hs4.2 (fun b hb e => HIe.out.ps.not_at HIe.out.a (by decide) (by have : b = w.heap.size + 1 := e; rw [← this]; exact hb)), HIe.out.ks.keeps hs4.2 (fun b hb e => HIe.out.ks.not_at HIe.out.a (by decide) (by have : b = w.heap.size + 1 := e; rw [← this]; exact hb)), HIe.out.pn, HIe.out.kn, hfit⟩, HIe.out.kp.then hs4.2 (fun b hb => .inr (by have : b = w.heap.size + 1 := hb; omega))⟩
end Go.Proofs.YtoijeipoblnliaaGreatDoor
