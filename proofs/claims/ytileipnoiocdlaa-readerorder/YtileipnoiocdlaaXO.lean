import Derived.Test.YtileipnoiocdlaaXR
import Derived.Test.YtileipnoiocdlaaX8
import Derived.Deep.CutBlock
import Derived.Deep.CutRange
/- ReaderOrder. -/
namespace Go.Proofs.Ytileipnoiocdlaa
open Go.RowKit Go.Sort Orl
set_option linter.unusedVariables false
set_option linter.unusedSimpArgs false
set_option maxRecDepth 10000 in
set_option maxHeartbeats 16000000 in
theorem readerOrder_any (w : World) (P : Int) (o : Option Addr) (n c : Nat) (rs : List RWr) (ws : List Wr) (hn : n = ws.length) (hw : Wrs w o c rs ws) (hf : FitWs ws) (hP : -9223372036854775808 ≤ P ∧ P < 9223372036854775808)
    (ro : Option Addr) (rn rcp : Nat) (rd : List Tx) (hrn : rn = rd.length) (hrd : FitT rd) (hrs : Sl TE w ro rcp rd) (po : Option Addr) (pn pc : Nat) (pk : List Int) (hpn : pn = pk.length) (hpk : ∀ z ∈ pk, I64 z) (hpl : pk.length ≤ 17592186044416) (hps : Sl ZE w po pc pk) (qo : Option Addr) (qn qc : Nat) (qk : List Int) (hqn : qn = qk.length) (hqk : ∀ z ∈ qk, I64 z) (hql : qk.length ≤ 17592186044416) (hqs : Sl ZE w qo qc qk) (X : Int) (hX : -9223372036854775808 ≤ X ∧ X < 9223372036854775808) :
    Calls Try.prog 5 #[aggWd P o n c, .slice ro rn rcp, .slice po pn pc, .slice qo qn qc, .int .i64 X] w fun e w' => e = .returned (.bool true) ∧ Keeps no w w' := by
  have HPP : Hid (pn = pk.length ∧ (∀ z ∈ pk, I64 z) ∧ pk.length ≤ 17592186044416 ∧ Sl ZE w po pc pk) := ⟨hpn, hpk, hpl, hps⟩
  have HQQ : Hid (qn = qk.length ∧ (∀ z ∈ qk, I64 z) ∧ qk.length ≤ 17592186044416 ∧ Sl ZE w qo qc qk) := ⟨hqn, hqk, hql, hqs⟩
  clear hpn hpk hpl hps hqn hqk hql hqs
  have HAL : Hid (∀ Y, Calls Try.prog 6 #[] Y fun e w' => e = .returned (.bool true) ∧ Keeps no Y w') := fun Y => alive_any Y
  have HFT : Hid (∀ Y, Keeps no w Y → Calls Try.prog 18 #[.agg #[.int .i64 P, .slice o n c]] Y (FitTo Y (fitP P) (Go.Proofs.Ytileipnoiocdlaa.fitL ws))) := fun Y hY => fit_any Y P o n c rs ws hn (hw.keepsN hY) hf hP
  have HGW : Hid (GoodW (Go.Proofs.Ytileipnoiocdlaa.fitL ws) ∧ 1 ≤ fitP P ∧ fitP P ≤ 64) := ⟨fitL_good hf, fitP_b P⟩
  have HRD : Hid (rn = rd.length ∧ FitT rd ∧ Sl TE w ro rcp rd) := ⟨hrn, hrd, hrs⟩
  have hrnb : (rn : Int) ≤ 8796093021952 := by have := hrd.1; omega
  have HX : Hid (-9223372036854775808 ≤ X ∧ X < 9223372036854775808) := hX
  generalize Go.Proofs.Ytileipnoiocdlaa.fitL ws = wf at HFT HGW
  generalize fitP P = Pf at HFT HGW
  obtain ⟨A, hA⟩ : ∃ A, A = w.heap.size := ⟨_, rfl⟩
  have HA : Hid (w.heap.size = A) := hA.symm
  have HK : Hid (∀ W, W = w.alloc (.cells #[.int .i64 P, .slice o n c] 59) → W.heap[A]? = some (.cells #[.int .i64 P, .slice o n c] 59 (0, 0)) ∧ Keeps no w W) := by
    rintro W rfl
    exact ⟨by rw [hA]; exact blk_new w _, (Keeps.refl _ _).alloc _⟩
  clear hn hw hf hP hrn hrd hrs hX
  unfold aggWd
  go_enter Try.func5, Try.ntmps5
  go_upto_region 1 with fail
  have h1 := HK.out _ rfl
  rw [← hA]
  clear hA
  generalize w.alloc (.cells #[.int .i64 P, .slice o n c] 59) = w1 at h1 ⊢
  have HB1 : Hid (w1.heap[A]? = some (.cells #[.int .i64 P, .slice o n c] 59 (0, 0)) ∧ Keeps no w w1) := h1
  clear h1 HK
  go_wp2_with fail
  refine (HAL.out _).mono ?_
  rintro e w2 ⟨rfl, hk2⟩
  have HB2 : Hid (w2.heap[A]? = some (.cells #[.int .i64 P, .slice o n c] 59 (0, 0)) ∧ Keeps no w w2) := ⟨hk2.at HB1.out.1 id, HB1.out.2.trans hk2⟩
  have a0 := cell_of_blk HB2.out.1 0
  have a1 := cell_of_blk HB2.out.1 1
  simp only [List.getElem?_toArray, List.getElem?_cons_succ, List.getElem?_cons_zero] at a0 a1
  clear hk2 HB1 HAL
  go_wp2_with fail
  refine (HFT.out _ HB2.out.2).mono ?_
  rintro e w3 ⟨wo, wn, wc, rw3, rfl, hwn, ⟨hwo, hwr⟩, hk3⟩
  have HWN : Hid (wn = wf.length) := hwn
  clear hwn
  have hz0 := hk3.at HB2.out.1 id
  have a0b := cell_of_blk hz0 0
  have a1b := cell_of_blk hz0 1
  simp only [List.getElem?_toArray, List.getElem?_cons_succ, List.getElem?_cons_zero] at a0b a1b
  have f0 := frozen_of_blk hz0 0
  have f1 := frozen_of_blk hz0 1
  have HS4 : Hid (∀ W, W = (w3.setCell ⟨A, 0, none⟩ (.int .i64 (Pf : Nat))).setCell ⟨A, 1, none⟩ (.slice wo wn wc) → Wd w W A Pf wo wn wc rw3 wf) := by
    rintro W rfl
    have k9 := (keeps_one w3 A 0 (.int .i64 (Pf : Nat))).trans (keeps_one (w3.setCell ⟨A, 0, none⟩ (.int .i64 (Pf : Nat))) A 1 (.slice wo wn wc))
    have hkw : Keeps no w _ := (HB2.out.2.trans hk3).then k9 (fun q e => .inr (by have := HA.out; omega))
    refine ⟨blk_set (blk_set hz0 0 _) 1 _, ?_, HGW.out.1, HWN.out, HGW.out.2.1, HGW.out.2.2, hkw⟩
    refine ⟨(hwo.keeps k9 (fun q hq e => ?_)).sl, hwr.len, fun j hj => ?_⟩
    · obtain ⟨cur, hc⟩ := hwo.tag q hq
      have e' : q = A := by rcases e with rfl <;> rfl
      rw [e', hz0] at hc
      injection hc with e1
      injection e1 with _ e1 _
      exact absurd e1 (by decide)
    · refine (hwr.each j hj).keepsB ?_ hz0 k9
      have h1 := ((valK_iff _).1 (HGW.out.1.val j hj)).1.1
      intro e
      rw [e] at h1
      simp at h1
  clear hz0 hk3 hwr hwo a0 a1 HFT HB2
  unfold aggWd
  go_upto_region 5 with fail
  have h5 := HS4.out _ rfl
  generalize (w3.setCell ⟨A, 0, none⟩ (.int .i64 (Pf : Nat))).setCell ⟨A, 1, none⟩ (.slice wo wn wc) = w4 at h5 ⊢
  have HD4 : Hid (Wd w w4 A Pf wo wn wc rw3 wf) := h5
  clear h5 HS4 a0b a1b f0 f1 HGW HWN
  have P2 : Hid (Own TE (w4.alloc (.cells #[] TE.e)) (some ⟨w4.heap.size, 0, none⟩) 0 [] ∧ (ro = none → rcp = 0) ∧ Row TE (w4.alloc (.cells #[] TE.e)) ro rd ∧ (([] : List Tx).length + rd.length) * TE.nb ≤ 140737488355328 ∧ ([] : List Tx).length + rd.length ≤ 140737488355328 ∧ rn = rd.length) := by
    have h2 := HRD.out.2.1.1
    exact ⟨own0 okT w4, HRD.out.2.2.nil, ((HRD.out.2.2.keepsN HD4.out.kp).keepsN ((Keeps.refl _ _).alloc _)).row, by simp [TE]; omega, by simp; omega, HRD.out.1⟩
  have Q2 : Hid (∀ W ou cu, Own TE W ou cu rd → Ap (w4.alloc (.cells #[] TE.e)) (some ⟨w4.heap.size, 0, none⟩) ou W → Keeps no w4 W ∧ Calls Try.prog 19 #[.slice ou rn cu] W fun e w' => e = .returned (.bool (valK rd)) ∧ Keeps no W w') := fun W ou cu ho ha => by
    have h3 := ha.new (w0 := w4) (new_fresh _ _ (Nat.le_refl _) _) ((Keeps.refl _ _).alloc _)
    exact ⟨h3.2, valid_any W ou rn cu rd HRD.out.1 (by have := HRD.out.2.1.1; omega) (fun x hx => by have := HRD.out.2.1.2 x hx; unfold maxLen; omega) ho.sl⟩
  go_wp2_with (at_builtin; refine wpList_app okT rfl _ _ rfl (some ⟨w4.heap.size, 0, none⟩) 0 0 [] rfl rfl P2.out.1 ro rn rcp rd rfl P2.out.2.2.2.2.2 P2.out.2.1 P2.out.2.2.1 P2.out.2.2.2.1 P2.out.2.2.2.2.1 ?_; intro o4 c4 v4 ho hap; have G4 : Hid _ := Q2.out v4 o4 c4 ho hap; clear ho hap)
  refine G4.out.2.mono ?_
  rintro e w5 ⟨rfl, hk5⟩
  have HD5 : Hid (Wd w w5 A Pf wo wn wc rw3 wf) := (HD4.out.keepsN G4.out.1).keepsN hk5
  have HVL : Hid (valK rd = valK rd) := rfl
  clear hk5 G4 P2 Q2 HD4
  cases hv : valK rd with
  | false =>
    clear hv
    go_wp2_with fail
    go_ret
    exact ⟨rfl, HD5.out.kp⟩
  | true =>
    have HV : Hid (valK rd = true) := hv
    clear hv
    by_cases h60 : rn > 60
    · have h60' : (rn : Int) > 60 := by omega
      go_wp2_with fail
      go_ret
      exact ⟨rfl, HD5.out.kp⟩
    · have h60' : ¬ (rn : Int) > 60 := by omega
      have h60n : (rn : Int) ≤ 60 := by omega
      clear h60 h60' hrnb
      obtain ⟨g, hgx, hgb⟩ : ∃ g : Nat, wrap64 ((IntKind.u64.wrap X).tmod 14) = (g : Int) ∧ g ≤ 13 := by
        obtain ⟨U, hU⟩ : ∃ U, U = X % 18446744073709551616 := ⟨_, rfl⟩
        have e1 : IntKind.u64.wrap X = U := by rw [IntKind.wrap_u64, hU]
        have e2 : Int.tmod U 14 = U % 14 := Int.tmod_eq_emod_of_nonneg (by omega)
        refine ⟨(U % 14).toNat, ?_, by omega⟩
        rw [e1, e2]
        have e3 : wrap64 (U % 14) = U % 14 := IntWalk.wrap64_in _ ⟨by omega, by omega⟩
        omega
      go_upto_region 8 with fail
      rw [hgx]
      clear hgx
      obtain ⟨s1, hs1⟩ : ∃ s1, s1 = begS (newR rd Pf 3) 1 1 0 := ⟨_, rfl⟩
      obtain ⟨t1, ht1⟩ : ∃ t1, t1 = 0 + (psR (begS (newR rd Pf 3) 1 1 0)).length := ⟨_, rfl⟩
      have HS1 : Hid (begS (newR rd Pf 3) 1 1 0 = s1 ∧ 0 + (psR (begS (newR rd Pf 3) 1 1 0)).length = t1) := ⟨hs1.symm, ht1.symm⟩
      have HNW0 : Hid (WfR (newR rd Pf 3)) := newR_wf ⟨by have := HD5.out.p1; omega, by have := HD5.out.p2; omega, by decide, by decide⟩ HV.out
      have HPE : Hid (Pend s1 1 ∧ s1.parts ≤ 64) := by
        rw [hs1]
        exact ⟨beg_pend HNW0.out rfl 1 0, HNW0.out.p2⟩
      clear hs1 ht1
      obtain ⟨E, hE⟩ : ∃ E, E = w5.heap.size := ⟨_, rfl⟩
      obtain ⟨E1, hE1⟩ : ∃ E1, E1 = E + 1 := ⟨_, rfl⟩
      obtain ⟨E2, hE2⟩ : ∃ E2, E2 = E1 + 1 := ⟨_, rfl⟩
      have HE : Hid (E = w5.heap.size ∧ E1 = E + 1 ∧ E2 = E + 2) := ⟨hE, hE1, by omega⟩
      have HA0 : Hid (∀ W, W = ((w5.alloc (.cells #[.int .i64 0, .int .i64 0, .int .i64 0] 70)).alloc (.cells #[.slice none 0 0, .slice none 0 0, .slice none 0 0] 71)).alloc (.cells #[.slice none 0 0, .slice none 0 0, .slice none 0 0] 72) → ∃ ev gv av, St w5 W E Pf wf s1 t1 g ev gv av 0) := by
        rintro W rfl
        have k1 := (Keeps.refl no w5).alloc (.cells #[.int .i64 0, .int .i64 0, .int .i64 0] 70)
        have k2 := (Keeps.refl no (w5.alloc (.cells #[.int .i64 0, .int .i64 0, .int .i64 0] 70))).alloc (.cells #[.slice none 0 0, .slice none 0 0, .slice none 0 0] 71)
        have b0 := blk_new w5 (.cells #[.int .i64 0, .int .i64 0, .int .i64 0] 70)
        have b1 := blk_new (w5.alloc (.cells #[.int .i64 0, .int .i64 0, .int .i64 0] 70)) (.cells #[.slice none 0 0, .slice none 0 0, .slice none 0 0] 71)
        have b2 := blk_new ((w5.alloc (.cells #[.int .i64 0, .int .i64 0, .int .i64 0] 70)).alloc (.cells #[.slice none 0 0, .slice none 0 0, .slice none 0 0] 71)) (.cells #[.slice none 0 0, .slice none 0 0, .slice none 0 0] 72)
        have e1 : (w5.alloc (.cells #[.int .i64 0, .int .i64 0, .int .i64 0] 70)).heap.size = E + 1 := by rw [hE]; exact Array.size_push _
        have e2 : ((w5.alloc (.cells #[.int .i64 0, .int .i64 0, .int .i64 0] 70)).alloc (.cells #[.slice none 0 0, .slice none 0 0, .slice none 0 0] 71)).heap.size = E + 2 := by
          have : ((w5.alloc (.cells #[.int .i64 0, .int .i64 0, .int .i64 0] 70)).alloc (.cells #[.slice none 0 0, .slice none 0 0, .slice none 0 0] 71)).heap.size = (w5.alloc (.cells #[.int .i64 0, .int .i64 0, .int .i64 0] 70)).heap.size + 1 := Array.size_push _
          omega
        rw [e1] at b1
        rw [e2] at b2
        rw [← hE] at b0
        refine ⟨fun _ => 0, fun _ => .slice none 0 0, fun _ => .slice none 0 0, (k1.alloc _).alloc _, Nat.le_of_eq hE.symm, ⟨blk_alloc (blk_alloc b0 _) _, blk_alloc b1 _, b2⟩, fun j hj => by omega⟩
      go_wp2_with fail
      have hA0 := HA0.out _ rfl
      rw [← hE]
      generalize hwl : ((w5.alloc (.cells #[.int .i64 0, .int .i64 0, .int .i64 0] 70)).alloc (.cells #[.slice none 0 0, .slice none 0 0, .slice none 0 0] 71)).alloc (.cells #[.slice none 0 0, .slice none 0 0, .slice none 0 0] 72) = wl at hA0 ⊢
      clear hwl HA0
      rw [← hE1, ← hE2]
      have HST0 : Hid (∃ ev gv av, St w5 wl E Pf wf s1 t1 g ev gv av 0) := hA0
      clear hA0 hE hE1 hE2
      go_loopw [15] (fun s15 wr => ∃ i : Int, (i = 0 ∨ i = 1 ∨ i = 2 ∨ i = 3) ∧ s15 = .int .i64 i ∧ Hid (∃ ev gv av, St w5 wr E Pf wf s1 t1 g ev gv av i.toNat)) (fun s15 _ => (3 - intOf s15).toNat)
      case atStart => exact ⟨0, .inl rfl, rfl, HST0.out⟩
      case round =>
        rename World => wr
        clear HST0
        obtain ⟨i, hi, rfl, HF⟩ := hrel
        rcases hi with rfl | rfl | rfl | rfl
        · obtain ⟨ev, gv, av, hst⟩ := HF.out
          have HST : Hid (St w5 wr E Pf wf s1 t1 g ev gv av 0) := hst
          clear hst HF
          go_upto_region 15 with fail
          obtain ⟨cp, hcp⟩ : ∃ cp, cp = wr.heap.size := ⟨_, rfl⟩
          have HDR : Hid (Wd w wr A Pf wo wn wc rw3 wf) := HD5.out.keepsN HST.out.kp
          have HC6 : Hid (∀ W, W = wr.alloc (.cells #[.int .u64 1, .int .u64 1, .int .i64 0] 27) → Wd w W A Pf wo wn wc rw3 wf ∧ IsCt W cp 1 1 0 ∧ Keeps no wr W) := by
            rintro W rfl
            exact ⟨HDR.out.keepsN ((Keeps.refl _ _).alloc _), by rw [hcp]; exact blk_new wr _, (Keeps.refl _ _).alloc _⟩
          have h6 := HC6.out _ rfl
          rw [← hcp]
          have HCP : Hid (cp = wr.heap.size) := hcp
          clear hcp HC6
          generalize wr.alloc (.cells #[.int .u64 1, .int .u64 1, .int .i64 0] 27) = w6 at h6 ⊢
          have HD6 : Hid (Wd w w6 A Pf wo wn wc rw3 wf ∧ IsCt w6 cp 1 1 0 ∧ Keeps no wr w6) := h6
          have y0 : w6.cell? ⟨A, 0, none⟩ = some (.int .i64 (Pf : Nat)) := by rw [cell_of_blk h6.1.box]; rfl
          clear h6
          refine wp_region_held_drew (S := fun X => X.cell? ⟨A, 0, none⟩ = some (.int .i64 (Pf : Nat))) (by kernel_rfl) ?_ (fun hHeld => ?_)
          · exact y0
          refine wpAnyH_take (i := 1) (v := ?_) (by simp only [List.getElem?_toArray, List.getElem?_cons_succ, List.getElem?_cons_zero]; rfl) (by kernel_rfl) (by kernel_rfl) (by kernel_rfl) (by exact fun _ _ _ h => h) (Or.inl ⟨by rfl, ?_⟩) (by assumption) ?_
          rotate_left
          · (intro _ hSw; (try dsimp only at hSw); go_simp; (try with_reducible rfl))
          try simp only [Act.put, List.setIfInBounds_toArray, List.set_cons_zero, List.set_cons_succ]
          refine wpAnyH_take (i := 3) (v := ?_) (by simp only [List.getElem?_toArray, List.getElem?_cons_succ, List.getElem?_cons_zero]; rfl) (by kernel_rfl) (by kernel_rfl) (by kernel_rfl) (by exact fun _ _ _ h => h) (Or.inl ⟨by rfl, ?_⟩) (by assumption) ?_
          rotate_left
          · (intro _ hSw; (try dsimp only at hSw); go_simp; (try with_reducible rfl))
          try simp only [Act.put, List.setIfInBounds_toArray, List.set_cons_zero, List.set_cons_succ]
          refine wpAnyH_take (i := 4) (v := ?_) (by simp only [List.getElem?_toArray, List.getElem?_cons_succ, List.getElem?_cons_zero]; rfl) (by kernel_rfl) (by kernel_rfl) (by kernel_rfl) (by exact fun _ _ _ h => h) (Or.inl ⟨by rfl, ?_⟩) (by assumption) ?_
          rotate_left
          · (intro _ hSw; (try dsimp only at hSw); have z1 := hSw; go_simp; (try with_reducible rfl))
          try simp only [Act.put, List.setIfInBounds_toArray, List.set_cons_zero, List.set_cons_succ]
          refine wpAnyH_take (i := 5) (v := ?_) (by simp only [List.getElem?_toArray, List.getElem?_cons_succ, List.getElem?_cons_zero]; rfl) (by kernel_rfl) (by kernel_rfl) (by kernel_rfl) (by exact fun _ _ _ h => h) (Or.inl ⟨by rfl, ?_⟩) (by assumption) ?_
          rotate_left
          · (intro _ hSw; (try dsimp only at hSw); go_simp; (try with_reducible rfl))
          try simp only [Act.put, List.setIfInBounds_toArray, List.set_cons_zero, List.set_cons_succ]
          refine wpAnyH_take (i := 6) (v := ?_) (by simp only [List.getElem?_toArray, List.getElem?_cons_succ, List.getElem?_cons_zero]; rfl) (by kernel_rfl) (by kernel_rfl) (by kernel_rfl) (by exact fun _ _ _ h => h) (Or.inl ⟨by rfl, ?_⟩) (by assumption) ?_
          rotate_left
          · (intro _ hSw; (try dsimp only at hSw); go_simp; (try with_reducible rfl))
          try simp only [Act.put, List.setIfInBounds_toArray, List.set_cons_zero, List.set_cons_succ]
          refine wpAnyH_ready (rs := [0]) (by kernel_rfl) (by simp) ?_
          refine (AllReadyH.cons (by simp only [List.getElem?_toArray, List.getElem?_cons_succ, List.getElem?_cons_zero]; rfl) (fun Kq hKq => ?_) AllReadyH.nil)
          have P2 : Hid (Own TE (w6.alloc (.cells #[] TE.e)).drew (some ⟨w6.heap.size, 0, none⟩) 0 [] ∧ Keeps no w6 (w6.alloc (.cells #[] TE.e)).drew) := ⟨(own0 okT w6).keepsN ((Keeps.refl no _).drew), ((Keeps.refl no w6).alloc _).drew⟩
          go_simp
          have hz9 : Hid (w6.heap.size ≤ w6.heap.size) := Nat.le_refl _
          generalize hZ9 : w6.heap.size = Z9 at P2 ⊢
          have HZ9 : Hid (w6.heap.size = Z9) := hZ9
          clear hZ9 hz9
          generalize hw7 : (w6.alloc (.cells #[] 9)).drew = w7
          have HW7 : Hid (Own TE w7 (some ⟨Z9, 0, none⟩) 0 [] ∧ Keeps no w6 w7) := by rw [← hw7]; exact P2.out
          clear hw7 P2
          refine hKq.out _ _ ?_ (fun hHeldN => ?_)
          · exact HW7.out.2.cellN y0
          clear hKq Kq hHeld
          have hHeld := hHeldN
          clear hHeldN
          refine wpAnyH_ready (rs := [2]) (by kernel_rfl) (by simp) ?_
          refine (AllReadyH.cons (by simp only [List.getElem?_toArray, List.getElem?_cons_succ, List.getElem?_cons_zero]; rfl) (fun Kq hKq => ?_) AllReadyH.nil)
          refine step_app1 okT rfl (.tmp 49) (.tmp 50) rfl (some ⟨Z9, 0, none⟩) 0 0 [] rfl rfl HW7.out.1 ro rn rcp rd rfl HRD.out.1 HRD.out.2.2.nil ((HRD.out.2.2.keepsN HD6.out.1.kp).keepsN HW7.out.2).row (by have := HRD.out.2.1.1; simp [TE]; omega) (by have := HRD.out.2.1.1; simp; omega) ?_
          intro o8 c8 w8 ho8 hap8
          have hn8 := hap8.new (w0 := w6) (fun k hk => by obtain ⟨x, e, rfl⟩ := hk; cases e; exact Nat.le_of_eq HZ9.out) HW7.out.2
          have HW8 : Hid (Own TE w8 o8 c8 rd ∧ Keeps no w6 w8) := ⟨by simpa using ho8, hn8.2⟩
          clear ho8 hap8 hn8 HW7
          refine hKq.out _ _ ?_ (fun hHeldN => ?_)
          · exact HW8.out.2.cellN y0
          clear hKq Kq hHeld
          have hHeld := hHeldN
          clear hHeldN
          refine wpAnyH_ready (rs := [7]) (by kernel_rfl) (by simp) ?_
          refine (AllReadyH.cons (by simp only [List.getElem?_toArray, List.getElem?_cons_succ, List.getElem?_cons_zero]; rfl) (fun Kq hKq => ?_) AllReadyH.nil)
          have HNW : Hid (Calls Try.prog 7 #[.slice o8 rn c8, .int .i64 (Pf : Nat), .int .i64 3, .func (.func 8) #[.pointer (some ⟨cp, 0, none⟩)] #[]] w8 (NewOk w8 rd Pf 3 cp)) := rNew_yes w8 o8 rn c8 rd Pf 3 cp HRD.out.1 (by have := HRD.out.2.1.1; omega) (fun x hx => HRD.out.2.1.2 x hx) HW8.out.1.sl ⟨by have := HD6.out.1.p1; omega, by have := HD6.out.1.p2; omega, by decide, by decide⟩ HV.out
          go_simp
          refine Calls.mono HNW.out ?_
          rintro e w9 ⟨p, F, rfl, hi, hF, hk9⟩
          have HR9 : Hid (Rc wr w9 p cp 1 1 (newR rd Pf 3) 0 F) := by
            have hk69 := HW8.out.2.trans hk9
            have hcl := lt_of_block HD6.out.2.1
            refine ⟨hi, HNW0.out, HD6.out.2.1.keeps hk69 id, fun h => ?_, ?_, HD6.out.2.2.trans hk69⟩
            · have := hF cp h; have := HW8.out.2.size; omega
            · rintro i (h | rfl)
              · have := hF i h; have := HW8.out.2.size; have := HD6.out.2.2.size; omega
              · exact Nat.le_of_eq HCP.out.symm
          have y9 := hk9.cellN (HW8.out.2.cellN y0)
          clear hi hF hk9 HNW HW8
          refine hKq.out _ _ ?_ (fun hHeldN => ?_)
          · exact y9
          clear hKq Kq hHeld
          have hHeld := hHeldN
          clear hHeldN
          refine wpAnyH_take (i := 8) (v := ?_) (by simp only [List.getElem?_toArray, List.getElem?_cons_succ, List.getElem?_cons_zero]; rfl) (by kernel_rfl) (by kernel_rfl) (by kernel_rfl) (by exact fun _ _ _ h => h) (Or.inl ⟨by rfl, ?_⟩) (by assumption) ?_
          rotate_left
          · (intro _ hSw; (try dsimp only at hSw); go_simp; (try with_reducible rfl))
          try simp only [Act.put, List.setIfInBounds_toArray, List.set_cons_zero, List.set_cons_succ]
          refine wpAnyH_take (i := 9) (v := ?_) (by simp only [List.getElem?_toArray, List.getElem?_cons_succ, List.getElem?_cons_zero]; rfl) (by kernel_rfl) (by kernel_rfl) (by kernel_rfl) (by exact fun _ _ _ h => h) (Or.inl ⟨by rfl, ?_⟩) (by assumption) ?_
          rotate_left
          · (intro _ hSw; (try dsimp only at hSw); go_simp; (try with_reducible rfl))
          try simp only [Act.put, List.setIfInBounds_toArray, List.set_cons_zero, List.set_cons_succ]
          refine wpAnyH_take (i := 10) (v := ?_) (by simp only [List.getElem?_toArray, List.getElem?_cons_succ, List.getElem?_cons_zero]; rfl) (by kernel_rfl) (by kernel_rfl) (by kernel_rfl) (by exact fun _ _ _ h => h) (Or.inl ⟨by rfl, ?_⟩) (by assumption) ?_
          rotate_left
          · (intro _ hSw; (try dsimp only at hSw); go_simp; (try with_reducible rfl))
          try simp only [Act.put, List.setIfInBounds_toArray, List.set_cons_zero, List.set_cons_succ]
          refine wpAnyH_take (i := 11) (v := ?_) (by simp only [List.getElem?_toArray, List.getElem?_cons_succ, List.getElem?_cons_zero]; rfl) (by kernel_rfl) (by kernel_rfl) (by kernel_rfl) (by exact fun _ _ _ h => h) (Or.inl ⟨by rfl, ?_⟩) (by assumption) ?_
          rotate_left
          · (intro _ hSw; (try dsimp only at hSw); go_simp; (try with_reducible rfl))
          try simp only [Act.put, List.setIfInBounds_toArray, List.set_cons_zero, List.set_cons_succ]
          refine wpAnyH_take (i := 12) (v := ?_) (by simp only [List.getElem?_toArray, List.getElem?_cons_succ, List.getElem?_cons_zero]; rfl) (by kernel_rfl) (by kernel_rfl) (by kernel_rfl) (by exact fun _ _ _ h => h) (Or.inl ⟨by rfl, ?_⟩) (by assumption) ?_
          rotate_left
          · (intro _ hSw; (try dsimp only at hSw); go_simp; (try with_reducible rfl))
          try simp only [Act.put, List.setIfInBounds_toArray, List.set_cons_zero, List.set_cons_succ]
          refine wpAnyH_done (by kernel_rfl) ?_ _
          clear hHeld y0 y9 HCP HD6
          have HDX : Hid (Wd w w9 A Pf wo wn wc rw3 wf) := HDR.out.keepsN HR9.out.kp
          have y0 : w9.cell? ⟨A, 0, none⟩ = some (.int .i64 (Pf : Nat)) := by rw [cell_of_blk HDX.out.box]; rfl
          have y1 : w9.cell? ⟨A, 1, none⟩ = some (.slice wo wn wc) := by rw [cell_of_blk HDX.out.box]; rfl
          have HRN : Hid (Calls Try.prog 22 #[.pointer (some ⟨p, 0, none⟩), .agg #[.int .i64 (Pf : Nat), .slice wo wn wc], .int .i64 (g : Nat), .slice po pn pc] w9 (RunTo wr p cp 1 Pf wf g s1 t1)) := by
            have h := run_any wr w9 p cp 1 0 F (newR rd Pf 3) HR9.out rfl rfl Pf wo wn wc rw3 wf HDR.out.wrs HDR.out.good HDR.out.len HDR.out.p1 HDR.out.p2 g (by omega) po pn pc pk HPP.out.1 HPP.out.2.1 HPP.out.2.2.1 (HPP.out.2.2.2.keepsN HDR.out.kp) (by decide) (by decide)
            rw [HS1.out.2, HS1.out.1] at h
            exact h
          clear HR9 HDX
          go_wp2_with fail
          refine HRN.out.mono ?_
          rintro e wa ⟨oa, na, ca, arq, G, kk, s, tt, all, rfl, hna, hra, hrc, hout⟩
          have HRX : Hid (Rc wr wa p cp 1 1 s tt G ∧ na = all.length ∧ RunAt Pf wf g 1 s1 t1 kk s tt [] all ∧ OutS wa (fun i => E + 3 ≤ i) oa ca arq all) := ⟨hrc, hna, hra, hout.mono (fun i hi _ => Nat.le_trans HST.out.ar.lt hi.2)⟩
          obtain ⟨ee, hee⟩ : ∃ ee : Int, ee = ((s.ended : Nat) : Int) := ⟨_, rfl⟩
          have HRS : Hid (Calls Try.prog 16 #[.pointer (some ⟨p, 0, none⟩)] wa fun e w' => e = .returned (.int .i64 ee) ∧ Keeps (fun _ => False) wa w') := by rw [hee]; exact rResult_any wa p cp G s hrc.is
          have HEE : Hid (ee = ((s.ended : Nat) : Int)) := hee
          clear hee hna hra hrc hout y0 y1 HRN
          go_wp2_with fail
          refine HRS.out.mono ?_
          rintro e wb ⟨rfl, hkb⟩
          have HKB : Hid (Keeps no wa wb) := hkb
          have hAB := (HST.out.ar.keepsN HRX.out.1.kp).keepsN hkb
          have c0 := cell_of_blk hAB.b0 0
          have f0 := frozen_of_blk hAB.b0 0
          simp only [List.getElem?_toArray, List.getElem?_cons_succ, List.getElem?_cons_zero] at c0
          have HVS : Hid (∀ W, W = wb.setCell ⟨E, 0, none⟩ (.int .i64 ee) → Calls Try.prog 15 #[.pointer (some ⟨p, 0, none⟩)] W (VersTo W (readR s)) ∧ Ar W E (upd ev 0 ee) gv av ∧ Keeps (arS E) wb W) := by
            rintro W rfl
            have k1 := keeps_one wb E 0 (.int .i64 ee)
            have k2 : Keeps (arS E) wb (wb.setCell ⟨E, 0, none⟩ (.int .i64 ee)) := k1.mono (fun i hi => .inl hi)
            have hlt := HST.out.ar.lt
            have hnF : ∀ i, G i → ¬ arS E i := fun i hi hs => by
              have h1 := HRX.out.1.new i (.inl hi)
              rcases hs with rfl | rfl | rfl <;> omega
            refine ⟨rVersions_any _ p cp G s ((HRX.out.1.keepsN HKB.out).is.keeps k2 hnF) HRX.out.1.wf, ⟨?_, ?_, ?_⟩, k2⟩
            · have h1 := blk_set hAB.b0 0 (.int .i64 ee)
              exact h1
            · exact blk_set_ne hAB.b1 (by show E + 1 ≠ E; omega) _
            · exact blk_set_ne hAB.b2 (by show E + 2 ≠ E; omega) _
          clear hkb hAB
          go_wp2_with fail
          refine (HVS.out _ rfl).1.mono ?_
          have hvs2 := (HVS.out _ rfl).2
          generalize wb.setCell ⟨E, 0, none⟩ (.int .i64 ee) = wc' at hvs2 ⊢
          rintro e wd ⟨go, gn, gc, rv, rfl, hgn, hnv⟩
          have hAD := hvs2.1.keepsN hnv.kp
          have kbd : Keeps (arS E) wb wd := hvs2.2.trans hnv.kp.of_no
          have c1 := cell_of_blk hAD.b1 0
          have f1 := frozen_of_blk hAD.b1 0
          have hb2 := blk_set_ne (p := ⟨E + 1, 0, none⟩) hAD.b2 (by show E + 2 ≠ E + 1; omega) (.slice go gn gc)
          have c2 := cell_of_blk hb2 0
          have f2 := frozen_of_blk hb2 0
          simp only [List.getElem?_toArray, List.getElem?_cons_succ, List.getElem?_cons_zero] at c1 c2
          have hlt0 := HST.out.ar.lt
          have hwcs : E + 3 ≤ wc'.heap.size := Nat.le_trans hlt0 (Nat.le_trans HRX.out.1.kp.size (Nat.le_trans HKB.out.size hvs2.2.size))
          have HFN : Hid (∀ W, W = (wd.setCell ⟨E + 1, 0, none⟩ (.slice go gn gc)).setCell ⟨E + 2, 0, none⟩ (.slice oa na ca) → ∃ ev gv av, St w5 W E Pf wf s1 t1 g ev gv av 1) := by
            rintro W rfl
            have k1 : Keeps (arS E) wd (wd.setCell ⟨E + 1, 0, none⟩ (.slice go gn gc)) := (keeps_one wd (E + 1) 0 (.slice go gn gc)).mono (fun i hi => .inr (.inl hi))
            have k2 : Keeps (arS E) (wd.setCell ⟨E + 1, 0, none⟩ (.slice go gn gc)) _ := (keeps_one (wd.setCell ⟨E + 1, 0, none⟩ (.slice go gn gc)) (E + 2) 0 (.slice oa na ca)).mono (fun i hi => .inr (.inr hi))
            have kad := (HKB.out.of_no (T := arS E)).trans kbd
            have kall := kad.trans (k1.trans k2)
            have hfq := all_fit HDR.out.good HPE.out.1 HPE.out.2 HRX.out.2.2.1 HRX.out.2.2.2.fit
            have hfl : FitL (readR s) := by
              unfold readR
              split
              · exact HRX.out.1.wf.of
              · exact fitL_nil
            refine ⟨_, _, _, HST.out.next ((HRX.out.1.kp.of_no (T := arS E)).trans kall) (e := ee) (x := .slice go gn gc) (y := .slice oa na ca) ⟨?_, ?_, ?_⟩ ⟨kk, s, tt, all, go, gn, gc, oa, na, ca, HRX.out.2.2.1, HEE.out, rfl, rfl, ⟨hgn, hfl, ⟨rv, ?_, ?_⟩, HRX.out.2.1, ⟨arq, ?_⟩, hfq⟩⟩⟩
            · exact blk_set_ne (blk_set_ne hAD.b0 (by show E ≠ E + 1; omega) _) (by show E ≠ E + 2; omega) _
            · exact blk_set_ne (blk_set hAD.b1 0 _) (by show E + 1 ≠ E + 2; omega) _
            · exact blk_set (blk_set_ne hAD.b2 (by show E + 2 ≠ E + 1; omega) _) 0 _
            · refine hnv.vers.keeps (k1.trans k2) (fun i hi hs => ?_)
              have h1 := (hnv.vb i hi).1
              rcases hs with rfl | rfl | rfl <;> omega
            · intro i hi
              have h1 := (hnv.vb i hi).1
              exact Nat.le_trans hwcs h1
            · refine HRX.out.2.2.2.keeps (kad.trans (k1.trans k2)) (fun i hi _ hs => ?_)
              rcases hs with rfl | rfl | rfl <;> omega
          rw [← HE.out.2.1] at c1 f1 HFN
          rw [← HE.out.2.2, ← HE.out.2.1] at c2 f2
          rw [← HE.out.2.2] at HFN
          clear hb2 hvs2 hnv hgn hAD kbd hlt0 hwcs HVS HKB HRX HEE HST HDR c0 f0
          go_wp2_with fail
          go_roundw
          case rel => exact ⟨1, by decide, by go_num, HFN.out _ rfl⟩
          case measure => first | (simp [intOf]; done) | (simp [intOf]; omega)
        · obtain ⟨ev, gv, av, hst⟩ := HF.out
          have HST : Hid (St w5 wr E Pf wf s1 t1 g ev gv av 1) := hst
          clear hst HF
          go_upto_region 15 with fail
          obtain ⟨cp, hcp⟩ : ∃ cp, cp = wr.heap.size := ⟨_, rfl⟩
          have HDR : Hid (Wd w wr A Pf wo wn wc rw3 wf) := HD5.out.keepsN HST.out.kp
          have HC6 : Hid (∀ W, W = wr.alloc (.cells #[.int .u64 1, .int .u64 1, .int .i64 0] 27) → Wd w W A Pf wo wn wc rw3 wf ∧ IsCt W cp 1 1 0 ∧ Keeps no wr W) := by
            rintro W rfl
            exact ⟨HDR.out.keepsN ((Keeps.refl _ _).alloc _), by rw [hcp]; exact blk_new wr _, (Keeps.refl _ _).alloc _⟩
          have h6 := HC6.out _ rfl
          rw [← hcp]
          have HCP : Hid (cp = wr.heap.size) := hcp
          clear hcp HC6
          generalize wr.alloc (.cells #[.int .u64 1, .int .u64 1, .int .i64 0] 27) = w6 at h6 ⊢
          have HD6 : Hid (Wd w w6 A Pf wo wn wc rw3 wf ∧ IsCt w6 cp 1 1 0 ∧ Keeps no wr w6) := h6
          have y0 : w6.cell? ⟨A, 0, none⟩ = some (.int .i64 (Pf : Nat)) := by rw [cell_of_blk h6.1.box]; rfl
          clear h6
          refine wp_region_held_drew (S := fun X => X.cell? ⟨A, 0, none⟩ = some (.int .i64 (Pf : Nat))) (by kernel_rfl) ?_ (fun hHeld => ?_)
          · exact y0
          refine wpAnyH_take (i := 1) (v := ?_) (by simp only [List.getElem?_toArray, List.getElem?_cons_succ, List.getElem?_cons_zero]; rfl) (by kernel_rfl) (by kernel_rfl) (by kernel_rfl) (by exact fun _ _ _ h => h) (Or.inl ⟨by rfl, ?_⟩) (by assumption) ?_
          rotate_left
          · (intro _ hSw; (try dsimp only at hSw); go_simp; (try with_reducible rfl))
          try simp only [Act.put, List.setIfInBounds_toArray, List.set_cons_zero, List.set_cons_succ]
          refine wpAnyH_take (i := 3) (v := ?_) (by simp only [List.getElem?_toArray, List.getElem?_cons_succ, List.getElem?_cons_zero]; rfl) (by kernel_rfl) (by kernel_rfl) (by kernel_rfl) (by exact fun _ _ _ h => h) (Or.inl ⟨by rfl, ?_⟩) (by assumption) ?_
          rotate_left
          · (intro _ hSw; (try dsimp only at hSw); go_simp; (try with_reducible rfl))
          try simp only [Act.put, List.setIfInBounds_toArray, List.set_cons_zero, List.set_cons_succ]
          refine wpAnyH_take (i := 4) (v := ?_) (by simp only [List.getElem?_toArray, List.getElem?_cons_succ, List.getElem?_cons_zero]; rfl) (by kernel_rfl) (by kernel_rfl) (by kernel_rfl) (by exact fun _ _ _ h => h) (Or.inl ⟨by rfl, ?_⟩) (by assumption) ?_
          rotate_left
          · (intro _ hSw; (try dsimp only at hSw); have z1 := hSw; go_simp; (try with_reducible rfl))
          try simp only [Act.put, List.setIfInBounds_toArray, List.set_cons_zero, List.set_cons_succ]
          refine wpAnyH_take (i := 5) (v := ?_) (by simp only [List.getElem?_toArray, List.getElem?_cons_succ, List.getElem?_cons_zero]; rfl) (by kernel_rfl) (by kernel_rfl) (by kernel_rfl) (by exact fun _ _ _ h => h) (Or.inl ⟨by rfl, ?_⟩) (by assumption) ?_
          rotate_left
          · (intro _ hSw; (try dsimp only at hSw); go_simp; (try with_reducible rfl))
          try simp only [Act.put, List.setIfInBounds_toArray, List.set_cons_zero, List.set_cons_succ]
          refine wpAnyH_take (i := 6) (v := ?_) (by simp only [List.getElem?_toArray, List.getElem?_cons_succ, List.getElem?_cons_zero]; rfl) (by kernel_rfl) (by kernel_rfl) (by kernel_rfl) (by exact fun _ _ _ h => h) (Or.inl ⟨by rfl, ?_⟩) (by assumption) ?_
          rotate_left
          · (intro _ hSw; (try dsimp only at hSw); go_simp; (try with_reducible rfl))
          try simp only [Act.put, List.setIfInBounds_toArray, List.set_cons_zero, List.set_cons_succ]
          refine wpAnyH_ready (rs := [0]) (by kernel_rfl) (by simp) ?_
          refine (AllReadyH.cons (by simp only [List.getElem?_toArray, List.getElem?_cons_succ, List.getElem?_cons_zero]; rfl) (fun Kq hKq => ?_) AllReadyH.nil)
          have P2 : Hid (Own TE (w6.alloc (.cells #[] TE.e)).drew (some ⟨w6.heap.size, 0, none⟩) 0 [] ∧ Keeps no w6 (w6.alloc (.cells #[] TE.e)).drew) := ⟨(own0 okT w6).keepsN ((Keeps.refl no _).drew), ((Keeps.refl no w6).alloc _).drew⟩
          go_simp
          have hz9 : Hid (w6.heap.size ≤ w6.heap.size) := Nat.le_refl _
          generalize hZ9 : w6.heap.size = Z9 at P2 ⊢
          have HZ9 : Hid (w6.heap.size = Z9) := hZ9
          clear hZ9 hz9
          generalize hw7 : (w6.alloc (.cells #[] 9)).drew = w7
          have HW7 : Hid (Own TE w7 (some ⟨Z9, 0, none⟩) 0 [] ∧ Keeps no w6 w7) := by rw [← hw7]; exact P2.out
          clear hw7 P2
          refine hKq.out _ _ ?_ (fun hHeldN => ?_)
          · exact HW7.out.2.cellN y0
          clear hKq Kq hHeld
          have hHeld := hHeldN
          clear hHeldN
          refine wpAnyH_ready (rs := [2]) (by kernel_rfl) (by simp) ?_
          refine (AllReadyH.cons (by simp only [List.getElem?_toArray, List.getElem?_cons_succ, List.getElem?_cons_zero]; rfl) (fun Kq hKq => ?_) AllReadyH.nil)
          refine step_app1 okT rfl (.tmp 49) (.tmp 50) rfl (some ⟨Z9, 0, none⟩) 0 0 [] rfl rfl HW7.out.1 ro rn rcp rd rfl HRD.out.1 HRD.out.2.2.nil ((HRD.out.2.2.keepsN HD6.out.1.kp).keepsN HW7.out.2).row (by have := HRD.out.2.1.1; simp [TE]; omega) (by have := HRD.out.2.1.1; simp; omega) ?_
          intro o8 c8 w8 ho8 hap8
          have hn8 := hap8.new (w0 := w6) (fun k hk => by obtain ⟨x, e, rfl⟩ := hk; cases e; exact Nat.le_of_eq HZ9.out) HW7.out.2
          have HW8 : Hid (Own TE w8 o8 c8 rd ∧ Keeps no w6 w8) := ⟨by simpa using ho8, hn8.2⟩
          clear ho8 hap8 hn8 HW7
          refine hKq.out _ _ ?_ (fun hHeldN => ?_)
          · exact HW8.out.2.cellN y0
          clear hKq Kq hHeld
          have hHeld := hHeldN
          clear hHeldN
          refine wpAnyH_ready (rs := [7]) (by kernel_rfl) (by simp) ?_
          refine (AllReadyH.cons (by simp only [List.getElem?_toArray, List.getElem?_cons_succ, List.getElem?_cons_zero]; rfl) (fun Kq hKq => ?_) AllReadyH.nil)
          have HNW : Hid (Calls Try.prog 7 #[.slice o8 rn c8, .int .i64 (Pf : Nat), .int .i64 3, .func (.func 8) #[.pointer (some ⟨cp, 0, none⟩)] #[]] w8 (NewOk w8 rd Pf 3 cp)) := rNew_yes w8 o8 rn c8 rd Pf 3 cp HRD.out.1 (by have := HRD.out.2.1.1; omega) (fun x hx => HRD.out.2.1.2 x hx) HW8.out.1.sl ⟨by have := HD6.out.1.p1; omega, by have := HD6.out.1.p2; omega, by decide, by decide⟩ HV.out
          go_simp
          refine Calls.mono HNW.out ?_
          rintro e w9 ⟨p, F, rfl, hi, hF, hk9⟩
          have HR9 : Hid (Rc wr w9 p cp 1 1 (newR rd Pf 3) 0 F) := by
            have hk69 := HW8.out.2.trans hk9
            have hcl := lt_of_block HD6.out.2.1
            refine ⟨hi, HNW0.out, HD6.out.2.1.keeps hk69 id, fun h => ?_, ?_, HD6.out.2.2.trans hk69⟩
            · have := hF cp h; have := HW8.out.2.size; omega
            · rintro i (h | rfl)
              · have := hF i h; have := HW8.out.2.size; have := HD6.out.2.2.size; omega
              · exact Nat.le_of_eq HCP.out.symm
          have y9 := hk9.cellN (HW8.out.2.cellN y0)
          clear hi hF hk9 HNW HW8
          refine hKq.out _ _ ?_ (fun hHeldN => ?_)
          · exact y9
          clear hKq Kq hHeld
          have hHeld := hHeldN
          clear hHeldN
          refine wpAnyH_take (i := 8) (v := ?_) (by simp only [List.getElem?_toArray, List.getElem?_cons_succ, List.getElem?_cons_zero]; rfl) (by kernel_rfl) (by kernel_rfl) (by kernel_rfl) (by exact fun _ _ _ h => h) (Or.inl ⟨by rfl, ?_⟩) (by assumption) ?_
          rotate_left
          · (intro _ hSw; (try dsimp only at hSw); go_simp; (try with_reducible rfl))
          try simp only [Act.put, List.setIfInBounds_toArray, List.set_cons_zero, List.set_cons_succ]
          refine wpAnyH_take (i := 9) (v := ?_) (by simp only [List.getElem?_toArray, List.getElem?_cons_succ, List.getElem?_cons_zero]; rfl) (by kernel_rfl) (by kernel_rfl) (by kernel_rfl) (by exact fun _ _ _ h => h) (Or.inl ⟨by rfl, ?_⟩) (by assumption) ?_
          rotate_left
          · (intro _ hSw; (try dsimp only at hSw); go_simp; (try with_reducible rfl))
          try simp only [Act.put, List.setIfInBounds_toArray, List.set_cons_zero, List.set_cons_succ]
          refine wpAnyH_take (i := 10) (v := ?_) (by simp only [List.getElem?_toArray, List.getElem?_cons_succ, List.getElem?_cons_zero]; rfl) (by kernel_rfl) (by kernel_rfl) (by kernel_rfl) (by exact fun _ _ _ h => h) (Or.inl ⟨by rfl, ?_⟩) (by assumption) ?_
          rotate_left
          · (intro _ hSw; (try dsimp only at hSw); go_simp; (try with_reducible rfl))
          try simp only [Act.put, List.setIfInBounds_toArray, List.set_cons_zero, List.set_cons_succ]
          refine wpAnyH_take (i := 11) (v := ?_) (by simp only [List.getElem?_toArray, List.getElem?_cons_succ, List.getElem?_cons_zero]; rfl) (by kernel_rfl) (by kernel_rfl) (by kernel_rfl) (by exact fun _ _ _ h => h) (Or.inl ⟨by rfl, ?_⟩) (by assumption) ?_
          rotate_left
          · (intro _ hSw; (try dsimp only at hSw); go_simp; (try with_reducible rfl))
          try simp only [Act.put, List.setIfInBounds_toArray, List.set_cons_zero, List.set_cons_succ]
          refine wpAnyH_take (i := 12) (v := ?_) (by simp only [List.getElem?_toArray, List.getElem?_cons_succ, List.getElem?_cons_zero]; rfl) (by kernel_rfl) (by kernel_rfl) (by kernel_rfl) (by exact fun _ _ _ h => h) (Or.inl ⟨by rfl, ?_⟩) (by assumption) ?_
          rotate_left
          · (intro _ hSw; (try dsimp only at hSw); go_simp; (try with_reducible rfl))
          try simp only [Act.put, List.setIfInBounds_toArray, List.set_cons_zero, List.set_cons_succ]
          refine wpAnyH_done (by kernel_rfl) ?_ _
          clear hHeld y0 y9 HCP HD6
          have HDX : Hid (Wd w w9 A Pf wo wn wc rw3 wf) := HDR.out.keepsN HR9.out.kp
          have y0 : w9.cell? ⟨A, 0, none⟩ = some (.int .i64 (Pf : Nat)) := by rw [cell_of_blk HDX.out.box]; rfl
          have y1 : w9.cell? ⟨A, 1, none⟩ = some (.slice wo wn wc) := by rw [cell_of_blk HDX.out.box]; rfl
          have HRN : Hid (Calls Try.prog 22 #[.pointer (some ⟨p, 0, none⟩), .agg #[.int .i64 (Pf : Nat), .slice wo wn wc], .int .i64 (g : Nat), .slice qo qn qc] w9 (RunTo wr p cp 1 Pf wf g s1 t1)) := by
            have h := run_any wr w9 p cp 1 0 F (newR rd Pf 3) HR9.out rfl rfl Pf wo wn wc rw3 wf HDR.out.wrs HDR.out.good HDR.out.len HDR.out.p1 HDR.out.p2 g (by omega) qo qn qc qk HQQ.out.1 HQQ.out.2.1 HQQ.out.2.2.1 (HQQ.out.2.2.2.keepsN HDR.out.kp) (by decide) (by decide)
            rw [HS1.out.2, HS1.out.1] at h
            exact h
          clear HR9 HDX
          go_wp2_with fail
          refine HRN.out.mono ?_
          rintro e wa ⟨oa, na, ca, arq, G, kk, s, tt, all, rfl, hna, hra, hrc, hout⟩
          have HRX : Hid (Rc wr wa p cp 1 1 s tt G ∧ na = all.length ∧ RunAt Pf wf g 1 s1 t1 kk s tt [] all ∧ OutS wa (fun i => E + 3 ≤ i) oa ca arq all) := ⟨hrc, hna, hra, hout.mono (fun i hi _ => Nat.le_trans HST.out.ar.lt hi.2)⟩
          obtain ⟨ee, hee⟩ : ∃ ee : Int, ee = ((s.ended : Nat) : Int) := ⟨_, rfl⟩
          have HRS : Hid (Calls Try.prog 16 #[.pointer (some ⟨p, 0, none⟩)] wa fun e w' => e = .returned (.int .i64 ee) ∧ Keeps (fun _ => False) wa w') := by rw [hee]; exact rResult_any wa p cp G s hrc.is
          have HEE : Hid (ee = ((s.ended : Nat) : Int)) := hee
          clear hee hna hra hrc hout y0 y1 HRN
          go_wp2_with fail
          refine HRS.out.mono ?_
          rintro e wb ⟨rfl, hkb⟩
          have HKB : Hid (Keeps no wa wb) := hkb
          have hAB := (HST.out.ar.keepsN HRX.out.1.kp).keepsN hkb
          have c0 := cell_of_blk hAB.b0 1
          have f0 := frozen_of_blk hAB.b0 1
          simp only [List.getElem?_toArray, List.getElem?_cons_succ, List.getElem?_cons_zero] at c0
          have HVS : Hid (∀ W, W = wb.setCell ⟨E, 1, none⟩ (.int .i64 ee) → Calls Try.prog 15 #[.pointer (some ⟨p, 0, none⟩)] W (VersTo W (readR s)) ∧ Ar W E (upd ev 1 ee) gv av ∧ Keeps (arS E) wb W) := by
            rintro W rfl
            have k1 := keeps_one wb E 1 (.int .i64 ee)
            have k2 : Keeps (arS E) wb (wb.setCell ⟨E, 1, none⟩ (.int .i64 ee)) := k1.mono (fun i hi => .inl hi)
            have hlt := HST.out.ar.lt
            have hnF : ∀ i, G i → ¬ arS E i := fun i hi hs => by
              have h1 := HRX.out.1.new i (.inl hi)
              rcases hs with rfl | rfl | rfl <;> omega
            refine ⟨rVersions_any _ p cp G s ((HRX.out.1.keepsN HKB.out).is.keeps k2 hnF) HRX.out.1.wf, ⟨?_, ?_, ?_⟩, k2⟩
            · have h1 := blk_set hAB.b0 1 (.int .i64 ee)
              exact h1
            · exact blk_set_ne hAB.b1 (by show E + 1 ≠ E; omega) _
            · exact blk_set_ne hAB.b2 (by show E + 2 ≠ E; omega) _
          clear hkb hAB
          go_wp2_with fail
          refine (HVS.out _ rfl).1.mono ?_
          have hvs2 := (HVS.out _ rfl).2
          generalize wb.setCell ⟨E, 1, none⟩ (.int .i64 ee) = wc' at hvs2 ⊢
          rintro e wd ⟨go, gn, gc, rv, rfl, hgn, hnv⟩
          have hAD := hvs2.1.keepsN hnv.kp
          have kbd : Keeps (arS E) wb wd := hvs2.2.trans hnv.kp.of_no
          have c1 := cell_of_blk hAD.b1 1
          have f1 := frozen_of_blk hAD.b1 1
          have hb2 := blk_set_ne (p := ⟨E + 1, 1, none⟩) hAD.b2 (by show E + 2 ≠ E + 1; omega) (.slice go gn gc)
          have c2 := cell_of_blk hb2 1
          have f2 := frozen_of_blk hb2 1
          simp only [List.getElem?_toArray, List.getElem?_cons_succ, List.getElem?_cons_zero] at c1 c2
          have hlt0 := HST.out.ar.lt
          have hwcs : E + 3 ≤ wc'.heap.size := Nat.le_trans hlt0 (Nat.le_trans HRX.out.1.kp.size (Nat.le_trans HKB.out.size hvs2.2.size))
          have HFN : Hid (∀ W, W = (wd.setCell ⟨E + 1, 1, none⟩ (.slice go gn gc)).setCell ⟨E + 2, 1, none⟩ (.slice oa na ca) → ∃ ev gv av, St w5 W E Pf wf s1 t1 g ev gv av 2) := by
            rintro W rfl
            have k1 : Keeps (arS E) wd (wd.setCell ⟨E + 1, 1, none⟩ (.slice go gn gc)) := (keeps_one wd (E + 1) 1 (.slice go gn gc)).mono (fun i hi => .inr (.inl hi))
            have k2 : Keeps (arS E) (wd.setCell ⟨E + 1, 1, none⟩ (.slice go gn gc)) _ := (keeps_one (wd.setCell ⟨E + 1, 1, none⟩ (.slice go gn gc)) (E + 2) 1 (.slice oa na ca)).mono (fun i hi => .inr (.inr hi))
            have kad := (HKB.out.of_no (T := arS E)).trans kbd
            have kall := kad.trans (k1.trans k2)
            have hfq := all_fit HDR.out.good HPE.out.1 HPE.out.2 HRX.out.2.2.1 HRX.out.2.2.2.fit
            have hfl : FitL (readR s) := by
              unfold readR
              split
              · exact HRX.out.1.wf.of
              · exact fitL_nil
            refine ⟨_, _, _, HST.out.next ((HRX.out.1.kp.of_no (T := arS E)).trans kall) (e := ee) (x := .slice go gn gc) (y := .slice oa na ca) ⟨?_, ?_, ?_⟩ ⟨kk, s, tt, all, go, gn, gc, oa, na, ca, HRX.out.2.2.1, HEE.out, rfl, rfl, ⟨hgn, hfl, ⟨rv, ?_, ?_⟩, HRX.out.2.1, ⟨arq, ?_⟩, hfq⟩⟩⟩
            · exact blk_set_ne (blk_set_ne hAD.b0 (by show E ≠ E + 1; omega) _) (by show E ≠ E + 2; omega) _
            · exact blk_set_ne (blk_set hAD.b1 1 _) (by show E + 1 ≠ E + 2; omega) _
            · exact blk_set (blk_set_ne hAD.b2 (by show E + 2 ≠ E + 1; omega) _) 1 _
            · refine hnv.vers.keeps (k1.trans k2) (fun i hi hs => ?_)
              have h1 := (hnv.vb i hi).1
              rcases hs with rfl | rfl | rfl <;> omega
            · intro i hi
              have h1 := (hnv.vb i hi).1
              exact Nat.le_trans hwcs h1
            · refine HRX.out.2.2.2.keeps (kad.trans (k1.trans k2)) (fun i hi _ hs => ?_)
              rcases hs with rfl | rfl | rfl <;> omega
          rw [← HE.out.2.1] at c1 f1 HFN
          rw [← HE.out.2.2, ← HE.out.2.1] at c2 f2
          rw [← HE.out.2.2] at HFN
          clear hb2 hvs2 hnv hgn hAD kbd hlt0 hwcs HVS HKB HRX HEE HST HDR c0 f0
          go_wp2_with fail
          go_roundw
          case rel => exact ⟨2, by decide, by go_num, HFN.out _ rfl⟩
          case measure => first | (simp [intOf]; done) | (simp [intOf]; omega)
        · obtain ⟨ev, gv, av, hst⟩ := HF.out
          have HST : Hid (St w5 wr E Pf wf s1 t1 g ev gv av 2) := hst
          clear hst HF
          go_upto_region 15 with fail
          obtain ⟨cp, hcp⟩ : ∃ cp, cp = wr.heap.size := ⟨_, rfl⟩
          have HDR : Hid (Wd w wr A Pf wo wn wc rw3 wf) := HD5.out.keepsN HST.out.kp
          have HC6 : Hid (∀ W, W = wr.alloc (.cells #[.int .u64 1, .int .u64 1, .int .i64 0] 27) → Wd w W A Pf wo wn wc rw3 wf ∧ IsCt W cp 1 1 0 ∧ Keeps no wr W) := by
            rintro W rfl
            exact ⟨HDR.out.keepsN ((Keeps.refl _ _).alloc _), by rw [hcp]; exact blk_new wr _, (Keeps.refl _ _).alloc _⟩
          have h6 := HC6.out _ rfl
          rw [← hcp]
          have HCP : Hid (cp = wr.heap.size) := hcp
          clear hcp HC6
          generalize wr.alloc (.cells #[.int .u64 1, .int .u64 1, .int .i64 0] 27) = w6 at h6 ⊢
          have HD6 : Hid (Wd w w6 A Pf wo wn wc rw3 wf ∧ IsCt w6 cp 1 1 0 ∧ Keeps no wr w6) := h6
          have y0 : w6.cell? ⟨A, 0, none⟩ = some (.int .i64 (Pf : Nat)) := by rw [cell_of_blk h6.1.box]; rfl
          clear h6
          refine wp_region_held_drew (S := fun X => X.cell? ⟨A, 0, none⟩ = some (.int .i64 (Pf : Nat))) (by kernel_rfl) ?_ (fun hHeld => ?_)
          · exact y0
          refine wpAnyH_take (i := 1) (v := ?_) (by simp only [List.getElem?_toArray, List.getElem?_cons_succ, List.getElem?_cons_zero]; rfl) (by kernel_rfl) (by kernel_rfl) (by kernel_rfl) (by exact fun _ _ _ h => h) (Or.inl ⟨by rfl, ?_⟩) (by assumption) ?_
          rotate_left
          · (intro _ hSw; (try dsimp only at hSw); go_simp; (try with_reducible rfl))
          try simp only [Act.put, List.setIfInBounds_toArray, List.set_cons_zero, List.set_cons_succ]
          refine wpAnyH_take (i := 3) (v := ?_) (by simp only [List.getElem?_toArray, List.getElem?_cons_succ, List.getElem?_cons_zero]; rfl) (by kernel_rfl) (by kernel_rfl) (by kernel_rfl) (by exact fun _ _ _ h => h) (Or.inl ⟨by rfl, ?_⟩) (by assumption) ?_
          rotate_left
          · (intro _ hSw; (try dsimp only at hSw); go_simp; (try with_reducible rfl))
          try simp only [Act.put, List.setIfInBounds_toArray, List.set_cons_zero, List.set_cons_succ]
          refine wpAnyH_take (i := 4) (v := ?_) (by simp only [List.getElem?_toArray, List.getElem?_cons_succ, List.getElem?_cons_zero]; rfl) (by kernel_rfl) (by kernel_rfl) (by kernel_rfl) (by exact fun _ _ _ h => h) (Or.inl ⟨by rfl, ?_⟩) (by assumption) ?_
          rotate_left
          · (intro _ hSw; (try dsimp only at hSw); have z1 := hSw; go_simp; (try with_reducible rfl))
          try simp only [Act.put, List.setIfInBounds_toArray, List.set_cons_zero, List.set_cons_succ]
          refine wpAnyH_take (i := 5) (v := ?_) (by simp only [List.getElem?_toArray, List.getElem?_cons_succ, List.getElem?_cons_zero]; rfl) (by kernel_rfl) (by kernel_rfl) (by kernel_rfl) (by exact fun _ _ _ h => h) (Or.inl ⟨by rfl, ?_⟩) (by assumption) ?_
          rotate_left
          · (intro _ hSw; (try dsimp only at hSw); go_simp; (try with_reducible rfl))
          try simp only [Act.put, List.setIfInBounds_toArray, List.set_cons_zero, List.set_cons_succ]
          refine wpAnyH_take (i := 6) (v := ?_) (by simp only [List.getElem?_toArray, List.getElem?_cons_succ, List.getElem?_cons_zero]; rfl) (by kernel_rfl) (by kernel_rfl) (by kernel_rfl) (by exact fun _ _ _ h => h) (Or.inl ⟨by rfl, ?_⟩) (by assumption) ?_
          rotate_left
          · (intro _ hSw; (try dsimp only at hSw); go_simp; (try with_reducible rfl))
          try simp only [Act.put, List.setIfInBounds_toArray, List.set_cons_zero, List.set_cons_succ]
          refine wpAnyH_ready (rs := [0]) (by kernel_rfl) (by simp) ?_
          refine (AllReadyH.cons (by simp only [List.getElem?_toArray, List.getElem?_cons_succ, List.getElem?_cons_zero]; rfl) (fun Kq hKq => ?_) AllReadyH.nil)
          have P2 : Hid (Own TE (w6.alloc (.cells #[] TE.e)).drew (some ⟨w6.heap.size, 0, none⟩) 0 [] ∧ Keeps no w6 (w6.alloc (.cells #[] TE.e)).drew) := ⟨(own0 okT w6).keepsN ((Keeps.refl no _).drew), ((Keeps.refl no w6).alloc _).drew⟩
          go_simp
          have hz9 : Hid (w6.heap.size ≤ w6.heap.size) := Nat.le_refl _
          generalize hZ9 : w6.heap.size = Z9 at P2 ⊢
          have HZ9 : Hid (w6.heap.size = Z9) := hZ9
          clear hZ9 hz9
          generalize hw7 : (w6.alloc (.cells #[] 9)).drew = w7
          have HW7 : Hid (Own TE w7 (some ⟨Z9, 0, none⟩) 0 [] ∧ Keeps no w6 w7) := by rw [← hw7]; exact P2.out
          clear hw7 P2
          refine hKq.out _ _ ?_ (fun hHeldN => ?_)
          · exact HW7.out.2.cellN y0
          clear hKq Kq hHeld
          have hHeld := hHeldN
          clear hHeldN
          refine wpAnyH_ready (rs := [2]) (by kernel_rfl) (by simp) ?_
          refine (AllReadyH.cons (by simp only [List.getElem?_toArray, List.getElem?_cons_succ, List.getElem?_cons_zero]; rfl) (fun Kq hKq => ?_) AllReadyH.nil)
          refine step_app1 okT rfl (.tmp 49) (.tmp 50) rfl (some ⟨Z9, 0, none⟩) 0 0 [] rfl rfl HW7.out.1 ro rn rcp rd rfl HRD.out.1 HRD.out.2.2.nil ((HRD.out.2.2.keepsN HD6.out.1.kp).keepsN HW7.out.2).row (by have := HRD.out.2.1.1; simp [TE]; omega) (by have := HRD.out.2.1.1; simp; omega) ?_
          intro o8 c8 w8 ho8 hap8
          have hn8 := hap8.new (w0 := w6) (fun k hk => by obtain ⟨x, e, rfl⟩ := hk; cases e; exact Nat.le_of_eq HZ9.out) HW7.out.2
          have HW8 : Hid (Own TE w8 o8 c8 rd ∧ Keeps no w6 w8) := ⟨by simpa using ho8, hn8.2⟩
          clear ho8 hap8 hn8 HW7
          refine hKq.out _ _ ?_ (fun hHeldN => ?_)
          · exact HW8.out.2.cellN y0
          clear hKq Kq hHeld
          have hHeld := hHeldN
          clear hHeldN
          refine wpAnyH_ready (rs := [7]) (by kernel_rfl) (by simp) ?_
          refine (AllReadyH.cons (by simp only [List.getElem?_toArray, List.getElem?_cons_succ, List.getElem?_cons_zero]; rfl) (fun Kq hKq => ?_) AllReadyH.nil)
          have HNW : Hid (Calls Try.prog 7 #[.slice o8 rn c8, .int .i64 (Pf : Nat), .int .i64 3, .func (.func 8) #[.pointer (some ⟨cp, 0, none⟩)] #[]] w8 (NewOk w8 rd Pf 3 cp)) := rNew_yes w8 o8 rn c8 rd Pf 3 cp HRD.out.1 (by have := HRD.out.2.1.1; omega) (fun x hx => HRD.out.2.1.2 x hx) HW8.out.1.sl ⟨by have := HD6.out.1.p1; omega, by have := HD6.out.1.p2; omega, by decide, by decide⟩ HV.out
          go_simp
          refine Calls.mono HNW.out ?_
          rintro e w9 ⟨p, F, rfl, hi, hF, hk9⟩
          have HR9 : Hid (Rc wr w9 p cp 1 1 (newR rd Pf 3) 0 F) := by
            have hk69 := HW8.out.2.trans hk9
            have hcl := lt_of_block HD6.out.2.1
            refine ⟨hi, HNW0.out, HD6.out.2.1.keeps hk69 id, fun h => ?_, ?_, HD6.out.2.2.trans hk69⟩
            · have := hF cp h; have := HW8.out.2.size; omega
            · rintro i (h | rfl)
              · have := hF i h; have := HW8.out.2.size; have := HD6.out.2.2.size; omega
              · exact Nat.le_of_eq HCP.out.symm
          have y9 := hk9.cellN (HW8.out.2.cellN y0)
          clear hi hF hk9 HNW HW8
          refine hKq.out _ _ ?_ (fun hHeldN => ?_)
          · exact y9
          clear hKq Kq hHeld
          have hHeld := hHeldN
          clear hHeldN
          refine wpAnyH_take (i := 8) (v := ?_) (by simp only [List.getElem?_toArray, List.getElem?_cons_succ, List.getElem?_cons_zero]; rfl) (by kernel_rfl) (by kernel_rfl) (by kernel_rfl) (by exact fun _ _ _ h => h) (Or.inl ⟨by rfl, ?_⟩) (by assumption) ?_
          rotate_left
          · (intro _ hSw; (try dsimp only at hSw); go_simp; (try with_reducible rfl))
          try simp only [Act.put, List.setIfInBounds_toArray, List.set_cons_zero, List.set_cons_succ]
          refine wpAnyH_take (i := 9) (v := ?_) (by simp only [List.getElem?_toArray, List.getElem?_cons_succ, List.getElem?_cons_zero]; rfl) (by kernel_rfl) (by kernel_rfl) (by kernel_rfl) (by exact fun _ _ _ h => h) (Or.inl ⟨by rfl, ?_⟩) (by assumption) ?_
          rotate_left
          · (intro _ hSw; (try dsimp only at hSw); go_simp; (try with_reducible rfl))
          try simp only [Act.put, List.setIfInBounds_toArray, List.set_cons_zero, List.set_cons_succ]
          refine wpAnyH_take (i := 10) (v := ?_) (by simp only [List.getElem?_toArray, List.getElem?_cons_succ, List.getElem?_cons_zero]; rfl) (by kernel_rfl) (by kernel_rfl) (by kernel_rfl) (by exact fun _ _ _ h => h) (Or.inl ⟨by rfl, ?_⟩) (by assumption) ?_
          rotate_left
          · (intro _ hSw; (try dsimp only at hSw); go_simp; (try with_reducible rfl))
          try simp only [Act.put, List.setIfInBounds_toArray, List.set_cons_zero, List.set_cons_succ]
          refine wpAnyH_take (i := 11) (v := ?_) (by simp only [List.getElem?_toArray, List.getElem?_cons_succ, List.getElem?_cons_zero]; rfl) (by kernel_rfl) (by kernel_rfl) (by kernel_rfl) (by exact fun _ _ _ h => h) (Or.inl ⟨by rfl, ?_⟩) (by assumption) ?_
          rotate_left
          · (intro _ hSw; (try dsimp only at hSw); go_simp; (try with_reducible rfl))
          try simp only [Act.put, List.setIfInBounds_toArray, List.set_cons_zero, List.set_cons_succ]
          refine wpAnyH_take (i := 12) (v := ?_) (by simp only [List.getElem?_toArray, List.getElem?_cons_succ, List.getElem?_cons_zero]; rfl) (by kernel_rfl) (by kernel_rfl) (by kernel_rfl) (by exact fun _ _ _ h => h) (Or.inl ⟨by rfl, ?_⟩) (by assumption) ?_
          rotate_left
          · (intro _ hSw; (try dsimp only at hSw); go_simp; (try with_reducible rfl))
          try simp only [Act.put, List.setIfInBounds_toArray, List.set_cons_zero, List.set_cons_succ]
          refine wpAnyH_done (by kernel_rfl) ?_ _
          clear hHeld y0 y9 HCP HD6
          have HDX : Hid (Wd w w9 A Pf wo wn wc rw3 wf) := HDR.out.keepsN HR9.out.kp
          have y0 : w9.cell? ⟨A, 0, none⟩ = some (.int .i64 (Pf : Nat)) := by rw [cell_of_blk HDX.out.box]; rfl
          have y1 : w9.cell? ⟨A, 1, none⟩ = some (.slice wo wn wc) := by rw [cell_of_blk HDX.out.box]; rfl
          have HRN : Hid (Calls Try.prog 22 #[.pointer (some ⟨p, 0, none⟩), .agg #[.int .i64 (Pf : Nat), .slice wo wn wc], .int .i64 0, .slice po pn pc] w9 (RunTo wr p cp 1 Pf wf 0 s1 t1)) := by
            have h := run_any wr w9 p cp 1 0 F (newR rd Pf 3) HR9.out rfl rfl Pf wo wn wc rw3 wf HDR.out.wrs HDR.out.good HDR.out.len HDR.out.p1 HDR.out.p2 0 (by omega) po pn pc pk HPP.out.1 HPP.out.2.1 HPP.out.2.2.1 (HPP.out.2.2.2.keepsN HDR.out.kp) (by decide) (by decide)
            rw [HS1.out.2, HS1.out.1] at h
            exact h
          clear HR9 HDX
          go_wp2_with fail
          refine HRN.out.mono ?_
          rintro e wa ⟨oa, na, ca, arq, G, kk, s, tt, all, rfl, hna, hra, hrc, hout⟩
          have HRX : Hid (Rc wr wa p cp 1 1 s tt G ∧ na = all.length ∧ RunAt Pf wf 0 1 s1 t1 kk s tt [] all ∧ OutS wa (fun i => E + 3 ≤ i) oa ca arq all) := ⟨hrc, hna, hra, hout.mono (fun i hi _ => Nat.le_trans HST.out.ar.lt hi.2)⟩
          obtain ⟨ee, hee⟩ : ∃ ee : Int, ee = ((s.ended : Nat) : Int) := ⟨_, rfl⟩
          have HRS : Hid (Calls Try.prog 16 #[.pointer (some ⟨p, 0, none⟩)] wa fun e w' => e = .returned (.int .i64 ee) ∧ Keeps (fun _ => False) wa w') := by rw [hee]; exact rResult_any wa p cp G s hrc.is
          have HEE : Hid (ee = ((s.ended : Nat) : Int)) := hee
          clear hee hna hra hrc hout y0 y1 HRN
          go_wp2_with fail
          refine HRS.out.mono ?_
          rintro e wb ⟨rfl, hkb⟩
          have HKB : Hid (Keeps no wa wb) := hkb
          have hAB := (HST.out.ar.keepsN HRX.out.1.kp).keepsN hkb
          have c0 := cell_of_blk hAB.b0 2
          have f0 := frozen_of_blk hAB.b0 2
          simp only [List.getElem?_toArray, List.getElem?_cons_succ, List.getElem?_cons_zero] at c0
          have HVS : Hid (∀ W, W = wb.setCell ⟨E, 2, none⟩ (.int .i64 ee) → Calls Try.prog 15 #[.pointer (some ⟨p, 0, none⟩)] W (VersTo W (readR s)) ∧ Ar W E (upd ev 2 ee) gv av ∧ Keeps (arS E) wb W) := by
            rintro W rfl
            have k1 := keeps_one wb E 2 (.int .i64 ee)
            have k2 : Keeps (arS E) wb (wb.setCell ⟨E, 2, none⟩ (.int .i64 ee)) := k1.mono (fun i hi => .inl hi)
            have hlt := HST.out.ar.lt
            have hnF : ∀ i, G i → ¬ arS E i := fun i hi hs => by
              have h1 := HRX.out.1.new i (.inl hi)
              rcases hs with rfl | rfl | rfl <;> omega
            refine ⟨rVersions_any _ p cp G s ((HRX.out.1.keepsN HKB.out).is.keeps k2 hnF) HRX.out.1.wf, ⟨?_, ?_, ?_⟩, k2⟩
            · have h1 := blk_set hAB.b0 2 (.int .i64 ee)
              exact h1
            · exact blk_set_ne hAB.b1 (by show E + 1 ≠ E; omega) _
            · exact blk_set_ne hAB.b2 (by show E + 2 ≠ E; omega) _
          clear hkb hAB
          go_wp2_with fail
          refine (HVS.out _ rfl).1.mono ?_
          have hvs2 := (HVS.out _ rfl).2
          generalize wb.setCell ⟨E, 2, none⟩ (.int .i64 ee) = wc' at hvs2 ⊢
          rintro e wd ⟨go, gn, gc, rv, rfl, hgn, hnv⟩
          have hAD := hvs2.1.keepsN hnv.kp
          have kbd : Keeps (arS E) wb wd := hvs2.2.trans hnv.kp.of_no
          have c1 := cell_of_blk hAD.b1 2
          have f1 := frozen_of_blk hAD.b1 2
          have hb2 := blk_set_ne (p := ⟨E + 1, 2, none⟩) hAD.b2 (by show E + 2 ≠ E + 1; omega) (.slice go gn gc)
          have c2 := cell_of_blk hb2 2
          have f2 := frozen_of_blk hb2 2
          simp only [List.getElem?_toArray, List.getElem?_cons_succ, List.getElem?_cons_zero] at c1 c2
          have hlt0 := HST.out.ar.lt
          have hwcs : E + 3 ≤ wc'.heap.size := Nat.le_trans hlt0 (Nat.le_trans HRX.out.1.kp.size (Nat.le_trans HKB.out.size hvs2.2.size))
          have HFN : Hid (∀ W, W = (wd.setCell ⟨E + 1, 2, none⟩ (.slice go gn gc)).setCell ⟨E + 2, 2, none⟩ (.slice oa na ca) → ∃ ev gv av, St w5 W E Pf wf s1 t1 g ev gv av 3) := by
            rintro W rfl
            have k1 : Keeps (arS E) wd (wd.setCell ⟨E + 1, 2, none⟩ (.slice go gn gc)) := (keeps_one wd (E + 1) 2 (.slice go gn gc)).mono (fun i hi => .inr (.inl hi))
            have k2 : Keeps (arS E) (wd.setCell ⟨E + 1, 2, none⟩ (.slice go gn gc)) _ := (keeps_one (wd.setCell ⟨E + 1, 2, none⟩ (.slice go gn gc)) (E + 2) 2 (.slice oa na ca)).mono (fun i hi => .inr (.inr hi))
            have kad := (HKB.out.of_no (T := arS E)).trans kbd
            have kall := kad.trans (k1.trans k2)
            have hfq := all_fit HDR.out.good HPE.out.1 HPE.out.2 HRX.out.2.2.1 HRX.out.2.2.2.fit
            have hfl : FitL (readR s) := by
              unfold readR
              split
              · exact HRX.out.1.wf.of
              · exact fitL_nil
            refine ⟨_, _, _, HST.out.next ((HRX.out.1.kp.of_no (T := arS E)).trans kall) (e := ee) (x := .slice go gn gc) (y := .slice oa na ca) ⟨?_, ?_, ?_⟩ ⟨kk, s, tt, all, go, gn, gc, oa, na, ca, HRX.out.2.2.1, HEE.out, rfl, rfl, ⟨hgn, hfl, ⟨rv, ?_, ?_⟩, HRX.out.2.1, ⟨arq, ?_⟩, hfq⟩⟩⟩
            · exact blk_set_ne (blk_set_ne hAD.b0 (by show E ≠ E + 1; omega) _) (by show E ≠ E + 2; omega) _
            · exact blk_set_ne (blk_set hAD.b1 2 _) (by show E + 1 ≠ E + 2; omega) _
            · exact blk_set (blk_set_ne hAD.b2 (by show E + 2 ≠ E + 1; omega) _) 2 _
            · refine hnv.vers.keeps (k1.trans k2) (fun i hi hs => ?_)
              have h1 := (hnv.vb i hi).1
              rcases hs with rfl | rfl | rfl <;> omega
            · intro i hi
              have h1 := (hnv.vb i hi).1
              exact Nat.le_trans hwcs h1
            · refine HRX.out.2.2.2.keeps (kad.trans (k1.trans k2)) (fun i hi _ hs => ?_)
              rcases hs with rfl | rfl | rfl <;> omega
          rw [← HE.out.2.1] at c1 f1 HFN
          rw [← HE.out.2.2, ← HE.out.2.1] at c2 f2
          rw [← HE.out.2.2] at HFN
          clear hb2 hvs2 hnv hgn hAD kbd hlt0 hwcs HVS HKB HRX HEE HST HDR c0 f0
          go_wp2_with fail
          go_roundw
          case rel => exact ⟨3, by decide, by go_num, HFN.out _ rfl⟩
          case measure => first | (simp [intOf]; done) | (simp [intOf]; omega)
        · obtain ⟨ev, gv, av, hst⟩ := HF.out
          have hst3 : St w5 wr E Pf wf s1 t1 g ev gv av 3 := hst
          obtain ⟨e, go, gn, gc, g1, g1n, g1c, g2, g2n, g2c, ao, an, ac, a1, a1n, a1c, a2, a2n, a2c, hend⟩ := hst3.end3 HD5.out.good HPE.out.1
          have HEN : Hid (End3 wr g ev gv av e go gn gc g1 g1n g1c g2 g2n g2c ao an ac a1 a1n a1c a2 a2n a2c) := hend
          have HKE : Hid (Keeps no w wr) := HD5.out.kp.trans hst3.kp
          have HAR : Hid (∀ Y, Keeps no wr Y → Y.cell? ⟨E, 0, none⟩ = some (.int .i64 e) ∧ Y.cell? ⟨E, 1, none⟩ = some (.int .i64 e) ∧ Y.cell? ⟨E, 2, none⟩ = some (.int .i64 1) ∧ Y.cell? ⟨E1, 0, none⟩ = some (.slice go gn gc) ∧ Y.cell? ⟨E1, 1, none⟩ = some (.slice g1 g1n g1c) ∧ Y.cell? ⟨E1, 2, none⟩ = some (.slice g2 g2n g2c) ∧ Y.cell? ⟨E2, 0, none⟩ = some (.slice ao an ac) ∧ Y.cell? ⟨E2, 1, none⟩ = some (.slice a1 a1n a1c) ∧ Y.cell? ⟨E2, 2, none⟩ = some (.slice a2 a2n a2c)) := fun Y hY => by
            have ha := hst3.ar.keepsN hY
            rw [HE.out.2.1, HE.out.2.2]
            rw [cell_of_blk ha.b0, cell_of_blk ha.b0, cell_of_blk ha.b0, cell_of_blk ha.b1, cell_of_blk ha.b1, cell_of_blk ha.b1, cell_of_blk ha.b2, cell_of_blk ha.b2, cell_of_blk ha.b2]
            refine ⟨?_, ?_, ?_, ?_, ?_, ?_, ?_, ?_, ?_⟩
            · show some (Value.int .i64 (ev 0)) = _; rw [hend.e0]
            · show some (Value.int .i64 (ev 1)) = _; rw [hend.e1]
            · show some (Value.int .i64 (ev 2)) = _; rw [hend.e2]
            · show some (gv 0) = _; rw [hend.y0]
            · show some (gv 1) = _; rw [hend.y1]
            · show some (gv 2) = _; rw [hend.y2]
            · show some (av 0) = _; rw [hend.z0]
            · show some (av 1) = _; rw [hend.z1]
            · show some (av 2) = _; rw [hend.z2]
          have hor := hend.or
          clear hst hst3 hend HF
          rcases hor with ⟨rfl, hv02⟩ | ⟨rfl, rfl, hg0⟩
          · have HV02 : Hid (∀ Y, Keeps no wr Y → Calls Try.prog 17 #[.slice go gn gc, .slice g2 g2n g2c] Y fun e w' => e = .returned (.bool true) ∧ Keeps no Y w') := hv02
            clear hv02
            obtain ⟨z00, z01, z02, z10, z11, z12, z20, z21, z22⟩ := HAR.out wr (Keeps.refl _ _)
            go_wp2_with fail
            refine (HEN.out.v01 _ (Keeps.refl _ _)).mono ?_
            rintro e u1 ⟨rfl, hu1⟩
            have HU1 : Hid (Keeps no wr u1) := hu1
            clear hu1 z00 z01 z02 z10 z11 z12 z20 z21 z22
            obtain ⟨z00, z01, z02, z10, z11, z12, z20, z21, z22⟩ := HAR.out u1 HU1.out
            go_wp2_with fail
            refine (HEN.out.q01 _ HU1.out).mono ?_
            rintro e u2 ⟨rfl, hu2⟩
            have HU2 : Hid (Keeps no wr u2) := HU1.out.trans hu2
            clear hu2 z00 z01 z02 z10 z11 z12 z20 z21 z22 HU1
            obtain ⟨z00, z01, z02, z10, z11, z12, z20, z21, z22⟩ := HAR.out u2 HU2.out
            go_wp2_with fail
            refine (HEN.out.q02 _ HU2.out).mono ?_
            rintro e u3 ⟨rfl, hu3⟩
            have HU3 : Hid (Keeps no wr u3) := HU2.out.trans hu3
            clear hu3 z00 z01 z02 z10 z11 z12 z20 z21 z22 HU2
            obtain ⟨z00, z01, z02, z10, z11, z12, z20, z21, z22⟩ := HAR.out u3 HU3.out
            go_wp2_with fail
            refine (HV02.out _ HU3.out).mono ?_
            rintro e u4 ⟨rfl, hu4⟩
            have HU4 : Hid (Keeps no wr u4) := HU3.out.trans hu4
            clear hu4 z00 z01 z02 z10 z11 z12 z20 z21 z22 HU3
            go_wp2_with fail
            go_ret
            exact ⟨rfl, HKE.out.trans HU4.out⟩
          · have hg1 : (g : Int) > 0 := by omega
            obtain ⟨z00, z01, z02, z10, z11, z12, z20, z21, z22⟩ := HAR.out wr (Keeps.refl _ _)
            go_wp2_with fail
            refine (HEN.out.v01 _ (Keeps.refl _ _)).mono ?_
            rintro e u1 ⟨rfl, hu1⟩
            have HU1 : Hid (Keeps no wr u1) := hu1
            clear hu1 z00 z01 z02 z10 z11 z12 z20 z21 z22
            obtain ⟨z00, z01, z02, z10, z11, z12, z20, z21, z22⟩ := HAR.out u1 HU1.out
            go_wp2_with fail
            refine (HEN.out.q01 _ HU1.out).mono ?_
            rintro e u2 ⟨rfl, hu2⟩
            have HU2 : Hid (Keeps no wr u2) := HU1.out.trans hu2
            clear hu2 z00 z01 z02 z10 z11 z12 z20 z21 z22 HU1
            obtain ⟨z00, z01, z02, z10, z11, z12, z20, z21, z22⟩ := HAR.out u2 HU2.out
            go_wp2_with fail
            refine (HEN.out.q02 _ HU2.out).mono ?_
            rintro e u3 ⟨rfl, hu3⟩
            have HU3 : Hid (Keeps no wr u3) := HU2.out.trans hu3
            clear hu3 z00 z01 z02 z10 z11 z12 z20 z21 z22 HU2
            obtain ⟨z00, z01, z02, z10, z11, z12, z20, z21, z22⟩ := HAR.out u3 HU3.out
            go_wp2_with fail
            go_ret
            exact ⟨rfl, HKE.out.trans HU3.out⟩
end Go.Proofs.Ytileipnoiocdlaa
