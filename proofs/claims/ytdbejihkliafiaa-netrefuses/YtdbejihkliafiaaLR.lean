/- NetRefuses. -/
import Derived.Test.YtdbejihkliafiaaL0
namespace Go.Proofs.Ytdbejihkliafiaa
open Go.RowKit Go.Sort
set_option linter.unusedVariables false
set_option linter.unusedSimpArgs false

def r0S : NS := newS 3 2
def r1S (b : List UInt8) : NS := sendS r0S (-1) 2 b
def r2S (b : List UInt8) : NS := sendS (r1S b) 0 (-2) b
theorem r0_wf : NWf r0S 0 := newS_wf (by decide) (by decide) (by decide) (by decide)
theorem r1_eq (b : List UInt8) : r1S b = ⟨3, 2, 1, [⟨1, -1, 2, b⟩]⟩ := rfl
theorem r2_eq (b : List UInt8) : r2S b = ⟨3, 2, 2, [⟨1, -1, 2, b⟩, ⟨2, 0, -2, b⟩]⟩ := rfl
def canB (f t : Int) : Bool := decide (-2 ≤ f) && decide (f < 3) && decide (-2 ≤ t) && decide (t < 3) && (decide (f < 0) != decide (t < 0))
theorem canR_eq (b : List UInt8) (f t : Int) : canS (r2S b) f t = canB f t := by
  unfold canS nodeS canB
  rw [r2_eq]
  simp only
  rw [← Bool.and_assoc]
set_option maxRecDepth 10000 in
set_option maxHeartbeats 4000000 in
theorem netRefuses_any (w : World) (f t pl : Int) (o : Option Addr) (n c : Nat) (b : List UInt8) (hn : n = b.length) (hl : b.length ≤ 140737488355328) (hs : Sl BE w o c b) (hf : -9223372036854775808 ≤ f ∧ f ≤ 9223372036854775807) (ht : -9223372036854775808 ≤ t ∧ t ≤ 9223372036854775807) (hp : -9223372036854775808 ≤ pl ∧ pl ≤ 9223372036854775807) :
    Calls Try.prog 3 #[.int .i64 f, .int .i64 t, .int .i64 pl, .slice o n c] w fun e w' => e = .returned (.bool true) ∧ Keeps no w w' := by
  have HO : Hid (∀ X, Keeps no w X → Calls Try.prog 10 #[.slice o n c] X fun e w' => ∃ v, e = .returned v ∧ Gives BE X b v w') := fun X hX => own_any X o n c b hn (hs.keepsN hX) hl
  have HL : Hid (b.length ≤ 140737488355328) := hl
  clear hn hl hs
  go_enter Try.func3, Try.ntmps3
  go_wp2_with fail
  refine (alive_any w).mono ?_
  rintro e w0 ⟨rfl, hk0⟩
  have HK0 : Hid (Keeps no w w0) := hk0
  clear hk0
  go_wp2_with fail
  refine (new_ok w0 3 2 (by decide)).mono ?_
  rintro e w1 ⟨p, rfl, hx⟩
  have H1 : Hid (Nx IsN w0 w1 p r0S no) := hx
  clear hx
  go_wp2_with fail
  refine (HO.out w1 (HK0.out.trans H1.out.kp)).mono ?_
  rintro e w2 ⟨v, rfl, o2, n2, c2, rfl, hn2, ho2, hw2, hk2⟩
  have H2 : Hid (Own BE w2 o2 c2 b ∧ New w1 o2 ∧ Keeps no w1 w2) := ⟨ho2, hw2, hk2⟩
  clear ho2 hw2 hk2
  go_wp2_with fail
  refine (Nx.send H1.out r0_wf (by decide) H2.out.2.2 H2.out.1.sl hn2.out HL.out H2.out.2.1 (-1) 2).mono ?_
  rintro e w3 ⟨rfl, hx, -⟩
  have H3 : Hid (Nx IsN w0 w3 p (r1S b) no ∧ NWf (r1S b) 1) := ⟨hx, r0_wf.send _ _ HL.out⟩
  clear hx H1 H2 hn2
  go_wp2_with fail
  refine (HO.out w3 (HK0.out.trans H3.out.1.kp)).mono ?_
  rintro e w4 ⟨v, rfl, o2, n2, c2, rfl, hn2, ho2, hw2, hk2⟩
  have H2 : Hid (Own BE w4 o2 c2 b ∧ New w3 o2 ∧ Keeps no w3 w4) := ⟨ho2, hw2, hk2⟩
  clear ho2 hw2 hk2
  go_wp2_with fail
  refine (Nx.send H3.out.1 H3.out.2 (by decide) H2.out.2.2 H2.out.1.sl hn2.out HL.out H2.out.2.1 0 (-2)).mono ?_
  rintro e w5 ⟨rfl, hx, -⟩
  have H5 : Hid (Nx IsN w0 w5 p (r2S b) no ∧ NWf (r2S b) 2) := ⟨hx, H3.out.2.send _ _ HL.out⟩
  clear hx H3 H2 hn2
  go_upto_region 8 with fail
  obtain ⟨cb, hcb⟩ : ∃ cb, cb = canB f t := ⟨_, rfl⟩
  have HCB : Hid (canS (r2S b) f t = cb) := by show _ = _; rw [canR_eq, hcb]
  go_cut [11] from 41 to 61 (fun t11 wx => t11 = .bool cb ∧ wx = w5)
  case first =>
    as_aux_lemma =>
    clear HCB HO HL H5
    unfold canB at hcb
    by_cases h1 : -2 ≤ f
    · by_cases h2 : f < 3
      · by_cases h3 : -2 ≤ t
        · by_cases h4 : t < 3
          · by_cases h5 : f < 0
            · by_cases h6 : t < 0
              all_goals
                simp [h1, h2, h3, h4, h5, h6] at hcb
                subst hcb
                go_wp2_with fail
                go_meet
                exact ⟨rfl, rfl⟩
            · by_cases h6 : t < 0
              all_goals
                simp [h1, h2, h3, h4, h5, h6] at hcb
                subst hcb
                go_wp2_with fail
                go_meet
                exact ⟨rfl, rfl⟩
          · simp [h1, h2, h3, h4] at hcb
            subst hcb
            go_wp2_with fail
            go_meet
            exact ⟨rfl, rfl⟩
        · simp [h1, h2, h3] at hcb
          subst hcb
          go_wp2_with fail
          go_meet
          exact ⟨rfl, rfl⟩
      · simp [h1, h2] at hcb
        subst hcb
        go_wp2_with fail
        go_meet
        exact ⟨rfl, rfl⟩
    · simp [h1] at hcb
      subst hcb
      go_wp2_with fail
      go_meet
      exact ⟨rfl, rfl⟩
  case rest =>
    obtain ⟨rfl, rfl⟩ := hcut
    clear hcb
    go_wp2_with fail
    refine (HO.out wc (HK0.out.trans H5.out.1.kp)).mono ?_
    rintro e w6 ⟨v, rfl, o2, n2, c2, rfl, hn2, ho2, hw2, hk2⟩
    have H2 : Hid (Own BE w6 o2 c2 b ∧ New wc o2 ∧ Keeps no wc w6) := ⟨ho2, hw2, hk2⟩
    clear ho2 hw2 hk2
    go_wp2_with fail
    refine (Nx.send H5.out.1 H5.out.2 (by decide) H2.out.2.2 H2.out.1.sl hn2.out HL.out H2.out.2.1 f t).mono ?_
    rintro e w7 ⟨rfl, hx, -⟩
    have HX : Hid (Nx IsN w0 w7 p (sendS (r2S b) f t b) no) := hx
    clear hx H2 hn2
    cases cb with
    | true =>
      have e1 : ((sendN (r2S b) f t : Nat) : Int) = 3 := by unfold sendN; rw [if_pos HCB.out]; rfl
      have e2 : sendE (r2S b) f t = 0 := by unfold sendE; rw [if_pos HCB.out]
      have HX3 : Hid (Nx IsN w0 w7 p (sendS (r2S b) f t b) no ∧ (sendS (r2S b) f t b).fl.length = 3) := ⟨HX.out, by unfold sendS; rw [if_pos HCB.out]; rfl⟩
      rw [e1, e2]
      clear HX H5
      go_wp2_with fail
      refine (Nx.leng HX3.out.1).mono ?_
      rintro e w8 ⟨rfl, hx, -⟩
      rw [HX3.out.2]
      have HK : Hid (Keeps no w w8) := HK0.out.trans hx.kp
      clear hx HX3
      go_wp2_with fail
      go_ret
      exact ⟨rfl, HK.out⟩
    | false =>
      have hff : ¬ canS (r2S b) f t = true := by rw [HCB.out]; simp
      have e1 : ((sendN (r2S b) f t : Nat) : Int) = 0 := by unfold sendN; rw [if_neg hff]; rfl
      have e2 : sendE (r2S b) f t = 210 := by unfold sendE; rw [if_neg hff]
      have HX3 : Hid (Nx IsN w0 w7 p (r2S b) no ∧ NWf (r2S b) 2) := ⟨by have h := HX.out; unfold sendS at h; rw [if_neg hff] at h; exact h, H5.out.2⟩
      rw [e1, e2]
      clear HX H5 hff
      go_upto_region 14 with fail
      obtain ⟨c2, hc2⟩ : ∃ c2, c2 = (decide (0 ≤ pl) && decide (pl < 2)) := ⟨_, rfl⟩
      have HC2 : Hid ((c2 = true → hasS (r2S b) 2 = false) ∧ (c2 = false → hasS (r2S b) pl = false)) := by
        refine ⟨fun _ => rfl, fun h => ?_⟩
        rw [h] at hc2
        unfold hasS; rw [r2_eq]; exact hc2.symm
      go_cut [94] from 89 to 93 (fun t94 wx => t94 = .bool c2 ∧ wx = w7)
      case first =>
        as_aux_lemma =>
        clear HX3 HO HL HCB HC2
        by_cases h1 : 0 ≤ pl
        · by_cases h2 : pl < 2
          · simp [h1, h2] at hc2
            subst hc2
            go_wp2_with fail
            go_meet
            exact ⟨rfl, rfl⟩
          · simp [h1, h2] at hc2
            subst hc2
            go_wp2_with fail
            go_meet
            exact ⟨rfl, rfl⟩
        · simp [h1] at hc2
          subst hc2
          go_wp2_with fail
          go_meet
          exact ⟨rfl, rfl⟩
      case rest =>
        obtain ⟨rfl, rfl⟩ := hcut
        clear hc2
        cases c2 with
        | true =>
          have HE : Hid (errS (r2S b) 2 = 210 ∧ delF (r2S b) 2 = fr0 ∧ delS (r2S b) 2 = r2S b ∧ twinS (r2S b) 2 = r2S b ∧ twinN (r2S b) 2 = 0) := by
            have hh : ¬ hasS (r2S b) 2 = true := by rw [HC2.out.1 rfl]; simp
            refine ⟨?_, ?_, ?_, ?_, ?_⟩
            · unfold errS; rw [if_neg hh]
            · unfold delF; rw [if_neg hh]
            · unfold delS; rw [if_neg hh]
            · unfold twinS; rw [if_neg hh]
            · unfold twinN; rw [if_neg hh]
          clear HC2
          go_wp2_with fail
          refine (Nx.del HX3.out.1 HX3.out.2 (by decide) 2).mono ?_
          rintro e w8 ⟨r, rfl, hr, hx, -, -⟩
          rw [HE.out.2.1] at hr
          rw [HE.out.2.2.1] at hx
          rw [HE.out.1]
          obtain ⟨x0, x1, x2, ro, rn, rc⟩ := r
          obtain ⟨q0, q1, q2, q3, q4⟩ := hr
          simp only [fr0, List.length_nil] at q0 q1 q2 q3
          subst q0 q1 q2 q3
          unfold aggF
          simp only
          have H8 : Hid (Nx IsN w0 w8 p (r2S b) no ∧ NWf (r2S b) 2) := ⟨hx.fewer (fun i hi => hi.elim), HX3.out.2⟩
          clear hx q4 HX3
          go_upto_region 17 with fail
          obtain ⟨B8, hB8⟩ : ∃ B8, B8 = w8.heap.size := ⟨_, rfl⟩
          have hwd : (w8.alloc (.cells #[.int .i64 ((0 : Nat) : Int), .int .i64 0, .int .i64 0, .slice ro 0 rc] 33)).heap[B8]? = some (.cells #[.int .i64 ((0 : Nat) : Int), .int .i64 0, .int .i64 0, .slice ro 0 rc] 33 (0, 0)) ∧ Nx IsN w0 (w8.alloc (.cells #[.int .i64 ((0 : Nat) : Int), .int .i64 0, .int .i64 0, .slice ro 0 rc] 33)) p (r2S b) (fun i => i = B8) := ⟨by rw [hB8]; exact blk_new w8 _, (H8.out.1.mark ((Keeps.refl _ _).alloc _)).fewer (fun i hi => .inr (by rw [hi, hB8]; simp))⟩
          rw [← hB8]
          generalize w8.alloc (.cells #[.int .i64 ((0 : Nat) : Int), .int .i64 0, .int .i64 0, .slice ro 0 rc] 33) = wd at hwd ⊢
          have HD : Hid (wd.heap[B8]? = some (.cells #[.int .i64 ((0 : Nat) : Int), .int .i64 0, .int .i64 0, .slice ro 0 rc] 33 (0, 0)) ∧ Nx IsN w0 wd p (r2S b) (fun i => i = B8) ∧ NWf (r2S b) 2) := ⟨hwd.1, hwd.2, H8.out.2⟩
          clear hwd hB8 H8
          go_wp2_with fail
          refine (Nx.lose HD.out.2.1 HD.out.2.2 (by decide) 2).mono ?_
          rintro e w9 ⟨rfl, hx, hk⟩
          rw [HE.out.2.2.1] at hx
          rw [HE.out.1]
          have H9 : Hid (w9.heap[B8]? = some (.cells #[.int .i64 ((0 : Nat) : Int), .int .i64 0, .int .i64 0, .slice ro 0 rc] 33 (0, 0)) ∧ Nx IsN w0 w9 p (r2S b) (fun i => i = B8) ∧ NWf (r2S b) 2) := ⟨hk.at HD.out.1 (fun h => h rfl), hx, HD.out.2.2⟩
          clear hx hk HD
          go_wp2_with fail
          refine (Nx.twin H9.out.2.1 H9.out.2.2 (by decide) 2).mono ?_
          rintro e w10 ⟨rfl, hx, hk⟩
          rw [HE.out.2.2.2.1] at hx
          rw [HE.out.1, HE.out.2.2.2.2]
          have H10 : Hid (w10.heap[B8]? = some (.cells #[.int .i64 ((0 : Nat) : Int), .int .i64 0, .int .i64 0, .slice ro 0 rc] 33 (0, 0)) ∧ Nx IsN w0 w10 p (r2S b) (fun i => i = B8) ∧ NWf (r2S b) 2) := ⟨hk.at H9.out.1 (fun h => h rfl), hx, H9.out.2.2⟩
          clear hx hk H9 HE
          go_wp2_with fail
          refine (Nx.send H10.out.2.1 H10.out.2.2 (by decide) (Keeps.refl _ _) (own_nil (E := BE) w10).sl rfl (by decide) (new_none w10) (-2) 1).mono ?_
          rintro e w11 ⟨rfl, hx, hk⟩
          have e3 : ((sendN (r2S b) (-2) 1 : Nat) : Int) = 3 := rfl
          have e4 : sendE (r2S b) (-2) 1 = 0 := rfl
          rw [e3, e4]
          have hb := hk.at H10.out.1 (fun h => h rfl)
          have d0 := cell_of_blk hb 0
          have d3 := cell_of_blk hb 3
          simp only [List.getElem?_toArray, List.getElem?_cons_succ, List.getElem?_cons_zero] at d0 d3
          have H11 : Hid (Nx IsN w0 w11 p (sendS (r2S b) (-2) 1 []) no) := hx.fewer (fun i hi => hi.elim)
          clear hx hk hb H10
          go_wp2_with fail
          refine (Nx.leng H11.out).mono ?_
          rintro e w12 ⟨rfl, hx, -⟩
          have e5 : (((sendS (r2S b) (-2) 1 []).fl.length : Nat) : Int) = 3 := rfl
          rw [e5]
          have HK : Hid (Keeps no w w12) := HK0.out.trans hx.kp
          clear hx H11 d0 d3
          go_wp2_with fail
          go_ret
          exact ⟨rfl, HK.out⟩
        | false =>
          have HE : Hid (errS (r2S b) pl = 210 ∧ delF (r2S b) pl = fr0 ∧ delS (r2S b) pl = r2S b ∧ twinS (r2S b) pl = r2S b ∧ twinN (r2S b) pl = 0) := by
            have hh : ¬ hasS (r2S b) pl = true := by rw [HC2.out.2 rfl]; simp
            refine ⟨?_, ?_, ?_, ?_, ?_⟩
            · unfold errS; rw [if_neg hh]
            · unfold delF; rw [if_neg hh]
            · unfold delS; rw [if_neg hh]
            · unfold twinS; rw [if_neg hh]
            · unfold twinN; rw [if_neg hh]
          clear HC2
          go_wp2_with fail
          refine (Nx.del HX3.out.1 HX3.out.2 (by decide) pl).mono ?_
          rintro e w8 ⟨r, rfl, hr, hx, -, -⟩
          rw [HE.out.2.1] at hr
          rw [HE.out.2.2.1] at hx
          rw [HE.out.1]
          obtain ⟨x0, x1, x2, ro, rn, rc⟩ := r
          obtain ⟨q0, q1, q2, q3, q4⟩ := hr
          simp only [fr0, List.length_nil] at q0 q1 q2 q3
          subst q0 q1 q2 q3
          unfold aggF
          simp only
          have H8 : Hid (Nx IsN w0 w8 p (r2S b) no ∧ NWf (r2S b) 2) := ⟨hx.fewer (fun i hi => hi.elim), HX3.out.2⟩
          clear hx q4 HX3
          go_upto_region 17 with fail
          obtain ⟨B8, hB8⟩ : ∃ B8, B8 = w8.heap.size := ⟨_, rfl⟩
          have hwd : (w8.alloc (.cells #[.int .i64 ((0 : Nat) : Int), .int .i64 0, .int .i64 0, .slice ro 0 rc] 33)).heap[B8]? = some (.cells #[.int .i64 ((0 : Nat) : Int), .int .i64 0, .int .i64 0, .slice ro 0 rc] 33 (0, 0)) ∧ Nx IsN w0 (w8.alloc (.cells #[.int .i64 ((0 : Nat) : Int), .int .i64 0, .int .i64 0, .slice ro 0 rc] 33)) p (r2S b) (fun i => i = B8) := ⟨by rw [hB8]; exact blk_new w8 _, (H8.out.1.mark ((Keeps.refl _ _).alloc _)).fewer (fun i hi => .inr (by rw [hi, hB8]; simp))⟩
          rw [← hB8]
          generalize w8.alloc (.cells #[.int .i64 ((0 : Nat) : Int), .int .i64 0, .int .i64 0, .slice ro 0 rc] 33) = wd at hwd ⊢
          have HD : Hid (wd.heap[B8]? = some (.cells #[.int .i64 ((0 : Nat) : Int), .int .i64 0, .int .i64 0, .slice ro 0 rc] 33 (0, 0)) ∧ Nx IsN w0 wd p (r2S b) (fun i => i = B8) ∧ NWf (r2S b) 2) := ⟨hwd.1, hwd.2, H8.out.2⟩
          clear hwd hB8 H8
          go_wp2_with fail
          refine (Nx.lose HD.out.2.1 HD.out.2.2 (by decide) pl).mono ?_
          rintro e w9 ⟨rfl, hx, hk⟩
          rw [HE.out.2.2.1] at hx
          rw [HE.out.1]
          have H9 : Hid (w9.heap[B8]? = some (.cells #[.int .i64 ((0 : Nat) : Int), .int .i64 0, .int .i64 0, .slice ro 0 rc] 33 (0, 0)) ∧ Nx IsN w0 w9 p (r2S b) (fun i => i = B8) ∧ NWf (r2S b) 2) := ⟨hk.at HD.out.1 (fun h => h rfl), hx, HD.out.2.2⟩
          clear hx hk HD
          go_wp2_with fail
          refine (Nx.twin H9.out.2.1 H9.out.2.2 (by decide) pl).mono ?_
          rintro e w10 ⟨rfl, hx, hk⟩
          rw [HE.out.2.2.2.1] at hx
          rw [HE.out.1, HE.out.2.2.2.2]
          have H10 : Hid (w10.heap[B8]? = some (.cells #[.int .i64 ((0 : Nat) : Int), .int .i64 0, .int .i64 0, .slice ro 0 rc] 33 (0, 0)) ∧ Nx IsN w0 w10 p (r2S b) (fun i => i = B8) ∧ NWf (r2S b) 2) := ⟨hk.at H9.out.1 (fun h => h rfl), hx, H9.out.2.2⟩
          clear hx hk H9 HE
          go_wp2_with fail
          refine (Nx.send H10.out.2.1 H10.out.2.2 (by decide) (Keeps.refl _ _) (own_nil (E := BE) w10).sl rfl (by decide) (new_none w10) (-2) 1).mono ?_
          rintro e w11 ⟨rfl, hx, hk⟩
          have e3 : ((sendN (r2S b) (-2) 1 : Nat) : Int) = 3 := rfl
          have e4 : sendE (r2S b) (-2) 1 = 0 := rfl
          rw [e3, e4]
          have hb := hk.at H10.out.1 (fun h => h rfl)
          have d0 := cell_of_blk hb 0
          have d3 := cell_of_blk hb 3
          simp only [List.getElem?_toArray, List.getElem?_cons_succ, List.getElem?_cons_zero] at d0 d3
          have H11 : Hid (Nx IsN w0 w11 p (sendS (r2S b) (-2) 1 []) no) := hx.fewer (fun i hi => hi.elim)
          clear hx hk hb H10
          go_wp2_with fail
          refine (Nx.leng H11.out).mono ?_
          rintro e w12 ⟨rfl, hx, -⟩
          have e5 : (((sendS (r2S b) (-2) 1 []).fl.length : Nat) : Int) = 3 := rfl
          rw [e5]
          have HK : Hid (Keeps no w w12) := HK0.out.trans hx.kp
          clear hx H11 d0 d3
          go_wp2_with fail
          go_ret
          exact ⟨rfl, HK.out⟩
end Go.Proofs.Ytdbejihkliafiaa
