import Derived.Test.YtileipnoiocdlaaX2
import Derived.Deep.CutBlock
import Derived.Deep.CutRange
/- ReaderGives. -/
namespace Go.Proofs.Ytileipnoiocdlaa
open Go.RowKit Go.Sort Orl
set_option linter.unusedVariables false
set_option linter.unusedSimpArgs false

def Both (b : Bool) (x y : Nat) : Prop := b = true ↔ (0 < x ∧ 0 < y)
theorem both_t {x y : Nat} (h1 : 0 < x) (h2 : 0 < y) : Both true x y := Iff.intro (fun _ => ⟨h1, h2⟩) (fun _ => rfl)
theorem both_f {x y : Nat} (h : ¬ (0 < x ∧ 0 < y)) : Both false x y := Iff.intro (fun e => by cases e) (fun e => absurd e h)
def lenB : Value → Nat
  | .slice _ n _ => if n = 0 then 0 else 1
  | _ => 0
def GvE (w5 wr : World) (p cp N : Nat) (ol : Option Addr) (nl cl : Nat) (oo : Option Addr) (no co : Nat) : Prop := ∃ s t F rs ts rq qs, Gv w5 wr p cp s t F ol cl rs ts oo co rq qs N ∧ nl = ts.length ∧ no = qs.length ∧ (nl = 0 ∨ N = 0)
/-- while the answers to one question are laid on their way -/
structure Gk (w5 wa wb wk : World) (p cp : Nat) (s : RS) (t : Nat) (F : Nat → Prop) (ol : Option Addr) (cl : Nat) (rs : List RT) (ts : List Tl) (oo : Option Addr) (co : Nat) (rq : List RQ) (qs : List Qn) (N : Nat) (om : Option Addr) (cm : Nat) (rms : List RM) (vs : List Ver) (req : Nat) : Prop where
  gv : Gv w5 wk p cp s t F ol cl rs ts oo co rq qs N
  ms : Msgs wk (fun x => wa.heap.size ≤ x ∧ x < wb.heap.size) om cm rms vs req
  far : ∀ x, inO ol x → x < wa.heap.size ∨ wb.heap.size ≤ x
  ge : wb.heap.size ≤ wk.heap.size
theorem Gk.push {w5 wa wb wk w2 w' : World} {p cp : Nat} {s : RS} {t : Nat} {F : Nat → Prop} {ol o' : Option Addr} {cl c' : Nat} {rs : List RT} {ts : List Tl} {oo : Option Addr} {co : Nat} {rq : List RQ} {qs : List Qn} {N : Nat} {om : Option Addr} {cm : Nat} {rms : List RM} {vs : List Ver} {req : Nat} (h : Gk w5 wa wb wk p cp s t F ol cl rs ts oo co rq qs N om cm rms vs req) (hz : ∀ i, wa.heap.size ≤ i → Zr w5 F cp i) (k : Keeps no wk w2) {j : Nat} (hj : j < vs.length) {pt : Int} (hf : FitV (vs.getD j v0)) (ho : OwnT LE w' o' c' (rs ++ [⟨pt, (rms.getD j rm0).req, (rms.getD j rm0).B⟩])) (ha : Ap w2 ol o' w') :
    Gk w5 wa wb w' p cp s t F o' c' (rs ++ [⟨pt, (rms.getD j rm0).req, (rms.getD j rm0).B⟩]) (ts ++ [⟨pt, (rms.getD j rm0).req, vs.getD j v0⟩]) oo co rq qs N om cm rms vs req := by
  have hm := ((h.ms.each j hj).2.keepsN k).mono (Y := fun i => Zr w5 F cp i ∧ ¬ inO ol i) (fun i h1 _ => ⟨hz i h1.1.1, fun h2 => by have := h.far i h2; have := h1.1; omega⟩)
  have hp := h.gv.push k (r := ⟨pt, (rms.getD j rm0).req, (rms.getD j rm0).B⟩) (x := ⟨pt, (rms.getD j rm0).req, vs.getD j v0⟩) rfl rfl hm hf ho ha
  refine ⟨hp.1, h.ms.keeps hp.2 (fun i h1 h2 => by have := h.far i h2; omega), fun x hx => ?_, Nat.le_trans h.ge hp.2.size⟩
  rcases ha with ⟨rfl, _⟩ | ⟨⟨g, rfl, hg⟩, _⟩
  · exact h.far x hx
  · obtain ⟨y, e, rfl⟩ := hx; cases e; exact .inr (Nat.le_trans (Nat.le_trans h.ge k.size) hg)
theorem OwnT.small {α : Type} {E : El α} {w : World} {o : Option Addr} {c : Nat} {xs : List α} (h : OwnT E w o c xs) : xs.length ≤ maxLen := by
  rcases h.ex with ⟨_, _, h3⟩ | ⟨g, off, cur, _, _, h1, h2, _⟩
  · rw [h3]; exact Nat.zero_le _
  · omega
theorem Gv.part {w5 wr : World} {p cp : Nat} {s : RS} {t : Nat} {F : Nat → Prop} {ol : Option Addr} {cl : Nat} {rs : List RT} {ts : List Tl} {b off co : Nat} {rq : List RQ} {qs : List Qn} {N : Nat} (h : Gv w5 wr p cp s t F ol cl rs ts (some ⟨b, off, none⟩) co rq qs N) {i : Nat} (hi : i < qs.length) : At9 wr b off i 9 (rq.getD i rq0) := by
  obtain ⟨b', off', e, h9⟩ := h.out.own.sl.atQ (j := i) (by rw [h.out.len]; exact hi)
  cases e
  exact h9
set_option maxRecDepth 10000 in
set_option maxHeartbeats 16000000 in
theorem readerGives_any (w : World) (P : Int) (o : Option Addr) (n c : Nat) (rs : List RWr) (ws : List Wr) (hn : n = ws.length) (hw : Wrs w o c rs ws) (hf : FitWs ws) (hP : -9223372036854775808 ≤ P ∧ P < 9223372036854775808)
    (ro : Option Addr) (rn rcp : Nat) (rd : List Tx) (hrn : rn = rd.length) (hrd : FitT rd) (hrs : Sl TE w ro rcp rd) (X : Int) (hX : -9223372036854775808 ≤ X ∧ X < 9223372036854775808) :
    Calls Try.prog 4 #[aggWd P o n c, .slice ro rn rcp, .int .i64 X] w fun e w' => e = .returned (.bool true) ∧ Keeps no w w' := by
  have HAL : Hid (∀ Y, Calls Try.prog 6 #[] Y fun e w' => e = .returned (.bool true) ∧ Keeps no Y w') := fun Y => alive_any Y
  have HFT : Hid (∀ Y, Keeps no w Y → Calls Try.prog 18 #[.agg #[.int .i64 P, .slice o n c]] Y (FitTo Y (fitP P) (Go.Proofs.Ytileipnoiocdlaa.fitL ws))) := fun Y hY => fit_any Y P o n c rs ws hn (hw.keepsN hY) hf hP
  have HGW : Hid (GoodW (Go.Proofs.Ytileipnoiocdlaa.fitL ws) ∧ 1 ≤ fitP P ∧ fitP P ≤ 64) := ⟨fitL_good hf, fitP_b P⟩
  have HRD : Hid (rn = rd.length ∧ FitT rd ∧ Sl TE w ro rcp rd) := ⟨hrn, hrd, hrs⟩
  have hrnb : (rn : Int) ≤ 8796093021952 := by have := hrd.1; omega
  have HX : Hid (-9223372036854775808 ≤ X ∧ X < 9223372036854775808) := hX
  generalize Go.Proofs.Ytileipnoiocdlaa.fitL ws = wf at HFT HGW
  generalize fitP P = Pf at HFT HGW
  obtain ⟨A, hA⟩ : ∃ A, A = w.heap.size := ⟨_, rfl⟩
  have HA : Hid (w.heap.size = A) := hA.symm
  have HK : Hid (∀ W, W = w.alloc (.cells #[.int .i64 P, .slice o n c] 59) → W.heap[A]? = some (.cells #[.int .i64 P, .slice o n c] 59 (0, 0)) ∧ Keeps no w W) := by
    rintro W rfl
    exact ⟨by rw [hA]; exact blk_new w _, (Keeps.refl _ _).alloc _⟩
  clear hn hw hf hP hrn hrd hrs hX
  unfold aggWd
  go_enter Try.func4, Try.ntmps4
  go_upto_region 1 with fail
  have h1 := HK.out _ rfl
  rw [← hA]
  clear hA
  generalize w.alloc (.cells #[.int .i64 P, .slice o n c] 59) = w1 at h1 ⊢
  have HB1 : Hid (w1.heap[A]? = some (.cells #[.int .i64 P, .slice o n c] 59 (0, 0)) ∧ Keeps no w w1) := h1
  clear h1 HK
  go_wp2_with fail
  refine (HAL.out _).mono ?_
  rintro e w2 ⟨rfl, hk2⟩
  have HB2 : Hid (w2.heap[A]? = some (.cells #[.int .i64 P, .slice o n c] 59 (0, 0)) ∧ Keeps no w w2) := ⟨hk2.at HB1.out.1 id, HB1.out.2.trans hk2⟩
  have a0 := cell_of_blk HB2.out.1 0
  have a1 := cell_of_blk HB2.out.1 1
  simp only [List.getElem?_toArray, List.getElem?_cons_succ, List.getElem?_cons_zero] at a0 a1
  clear hk2 HB1 HAL
  go_wp2_with fail
  refine (HFT.out _ HB2.out.2).mono ?_
  rintro e w3 ⟨wo, wn, wc, rw3, rfl, hwn, ⟨hwo, hwr⟩, hk3⟩
  have HWN : Hid (wn = wf.length) := hwn
  clear hwn
  have hz0 := hk3.at HB2.out.1 id
  have a0b := cell_of_blk hz0 0
  have a1b := cell_of_blk hz0 1
  simp only [List.getElem?_toArray, List.getElem?_cons_succ, List.getElem?_cons_zero] at a0b a1b
  have f0 := frozen_of_blk hz0 0
  have f1 := frozen_of_blk hz0 1
  have HS4 : Hid (∀ W, W = (w3.setCell ⟨A, 0, none⟩ (.int .i64 (Pf : Nat))).setCell ⟨A, 1, none⟩ (.slice wo wn wc) → Wd w W A Pf wo wn wc rw3 wf) := by
    rintro W rfl
    have k9 := (keeps_one w3 A 0 (.int .i64 (Pf : Nat))).trans (keeps_one (w3.setCell ⟨A, 0, none⟩ (.int .i64 (Pf : Nat))) A 1 (.slice wo wn wc))
    have hkw : Keeps no w _ := (HB2.out.2.trans hk3).then k9 (fun q e => .inr (by have := HA.out; omega))
    refine ⟨blk_set (blk_set hz0 0 _) 1 _, ?_, HGW.out.1, HWN.out, HGW.out.2.1, HGW.out.2.2, hkw⟩
    refine ⟨(hwo.keeps k9 (fun q hq e => ?_)).sl, hwr.len, fun j hj => ?_⟩
    · obtain ⟨cur, hc⟩ := hwo.tag q hq
      have e' : q = A := by rcases e with rfl <;> rfl
      rw [e', hz0] at hc
      injection hc with e1
      injection e1 with _ e1 _
      exact absurd e1 (by decide)
    · refine (hwr.each j hj).keepsB ?_ hz0 k9
      have h1 := ((valK_iff _).1 (HGW.out.1.val j hj)).1.1
      intro e
      rw [e] at h1
      simp at h1
  clear hz0 hk3 hwr hwo a0 a1 HFT HB2
  unfold aggWd
  go_upto_region 5 with fail
  have h5 := HS4.out _ rfl
  generalize (w3.setCell ⟨A, 0, none⟩ (.int .i64 (Pf : Nat))).setCell ⟨A, 1, none⟩ (.slice wo wn wc) = w4 at h5 ⊢
  have HD4 : Hid (Wd w w4 A Pf wo wn wc rw3 wf) := h5
  clear h5 HS4 a0b a1b f0 f1 HGW HWN
  have P2 : Hid (Own TE (w4.alloc (.cells #[] TE.e)) (some ⟨w4.heap.size, 0, none⟩) 0 [] ∧ (ro = none → rcp = 0) ∧ Row TE (w4.alloc (.cells #[] TE.e)) ro rd ∧ (([] : List Tx).length + rd.length) * TE.nb ≤ 140737488355328 ∧ ([] : List Tx).length + rd.length ≤ 140737488355328 ∧ rn = rd.length) := by
    have h2 := HRD.out.2.1.1
    exact ⟨own0 okT w4, HRD.out.2.2.nil, ((HRD.out.2.2.keepsN HD4.out.kp).keepsN ((Keeps.refl _ _).alloc _)).row, by simp [TE]; omega, by simp; omega, HRD.out.1⟩
  have Q2 : Hid (∀ W ou cu, Own TE W ou cu rd → Ap (w4.alloc (.cells #[] TE.e)) (some ⟨w4.heap.size, 0, none⟩) ou W → Keeps no w4 W ∧ Calls Try.prog 19 #[.slice ou rn cu] W fun e w' => e = .returned (.bool (valK rd)) ∧ Keeps no W w') := fun W ou cu ho ha => by
    have h3 := ha.new (w0 := w4) (new_fresh _ _ (Nat.le_refl _) _) ((Keeps.refl _ _).alloc _)
    exact ⟨h3.2, valid_any W ou rn cu rd HRD.out.1 (by have := HRD.out.2.1.1; omega) (fun x hx => by have := HRD.out.2.1.2 x hx; unfold maxLen; omega) ho.sl⟩
  go_wp2_with (at_builtin; refine wpList_app okT rfl _ _ rfl (some ⟨w4.heap.size, 0, none⟩) 0 0 [] rfl rfl P2.out.1 ro rn rcp rd rfl P2.out.2.2.2.2.2 P2.out.2.1 P2.out.2.2.1 P2.out.2.2.2.1 P2.out.2.2.2.2.1 ?_; intro o4 c4 v4 ho hap; have G4 : Hid _ := Q2.out v4 o4 c4 ho hap; clear ho hap)
  refine G4.out.2.mono ?_
  rintro e w5 ⟨rfl, hk5⟩
  have HD5 : Hid (Wd w w5 A Pf wo wn wc rw3 wf) := (HD4.out.keepsN G4.out.1).keepsN hk5
  have HVL : Hid (valK rd = valK rd) := rfl
  clear hk5 G4 P2 Q2 HD4
  cases hv : valK rd with
  | false =>
    clear hv
    go_wp2_with fail
    go_ret
    exact ⟨rfl, HD5.out.kp⟩
  | true =>
    have HV : Hid (valK rd = true) := hv
    clear hv
    by_cases h60 : rn > 60
    · have h60' : (rn : Int) > 60 := by omega
      go_wp2_with fail
      go_ret
      exact ⟨rfl, HD5.out.kp⟩
    · have h60' : ¬ (rn : Int) > 60 := by omega
      have h60n : (rn : Int) ≤ 60 := by omega
      clear h60 h60' hrnb
      go_upto_region 8 with fail
      obtain ⟨cp, hcp⟩ : ∃ cp, cp = w5.heap.size := ⟨_, rfl⟩
      have HC6 : Hid (∀ W, W = w5.alloc (.cells #[.int .u64 1, .int .u64 1, .int .i64 0] 27) → Wd w W A Pf wo wn wc rw3 wf ∧ IsCt W cp 1 1 0 ∧ Keeps no w5 W) := by
        rintro W rfl
        exact ⟨HD5.out.keepsN ((Keeps.refl _ _).alloc _), by rw [hcp]; exact blk_new w5 _, (Keeps.refl _ _).alloc _⟩
      have h6 := HC6.out _ rfl
      rw [← hcp]
      have HCP : Hid (cp = w5.heap.size) := hcp
      clear hcp HC6
      generalize w5.alloc (.cells #[.int .u64 1, .int .u64 1, .int .i64 0] 27) = w6 at h6 ⊢
      have HD6 : Hid (Wd w w6 A Pf wo wn wc rw3 wf ∧ IsCt w6 cp 1 1 0 ∧ Keeps no w5 w6) := h6
      have y0 : w6.cell? ⟨A, 0, none⟩ = some (.int .i64 (Pf : Nat)) := by rw [cell_of_blk h6.1.box]; rfl
      clear h6
      refine wp_region_held_drew (S := fun X => X.cell? ⟨A, 0, none⟩ = some (.int .i64 (Pf : Nat))) (by kernel_rfl) ?_ (fun hHeld => ?_)
      · exact y0
      refine wpAnyH_take (i := 1) (v := ?_) (by simp only [List.getElem?_toArray, List.getElem?_cons_succ, List.getElem?_cons_zero]; rfl) (by kernel_rfl) (by kernel_rfl) (by kernel_rfl) (by exact fun _ _ _ h => h) (Or.inl ⟨by rfl, ?_⟩) (by assumption) ?_
      rotate_left
      · (intro _ hSw; (try dsimp only at hSw); go_simp; (try with_reducible rfl))
      try simp only [Act.put, List.setIfInBounds_toArray, List.set_cons_zero, List.set_cons_succ]
      refine wpAnyH_take (i := 3) (v := ?_) (by simp only [List.getElem?_toArray, List.getElem?_cons_succ, List.getElem?_cons_zero]; rfl) (by kernel_rfl) (by kernel_rfl) (by kernel_rfl) (by exact fun _ _ _ h => h) (Or.inl ⟨by rfl, ?_⟩) (by assumption) ?_
      rotate_left
      · (intro _ hSw; (try dsimp only at hSw); go_simp; (try with_reducible rfl))
      try simp only [Act.put, List.setIfInBounds_toArray, List.set_cons_zero, List.set_cons_succ]
      refine wpAnyH_take (i := 4) (v := ?_) (by simp only [List.getElem?_toArray, List.getElem?_cons_succ, List.getElem?_cons_zero]; rfl) (by kernel_rfl) (by kernel_rfl) (by kernel_rfl) (by exact fun _ _ _ h => h) (Or.inl ⟨by rfl, ?_⟩) (by assumption) ?_
      rotate_left
      · (intro _ hSw; (try dsimp only at hSw); have z1 := hSw; go_simp; (try with_reducible rfl))
      try simp only [Act.put, List.setIfInBounds_toArray, List.set_cons_zero, List.set_cons_succ]
      refine wpAnyH_take (i := 5) (v := ?_) (by simp only [List.getElem?_toArray, List.getElem?_cons_succ, List.getElem?_cons_zero]; rfl) (by kernel_rfl) (by kernel_rfl) (by kernel_rfl) (by exact fun _ _ _ h => h) (Or.inl ⟨by rfl, ?_⟩) (by assumption) ?_
      rotate_left
      · (intro _ hSw; (try dsimp only at hSw); go_simp; (try with_reducible rfl))
      try simp only [Act.put, List.setIfInBounds_toArray, List.set_cons_zero, List.set_cons_succ]
      refine wpAnyH_take (i := 6) (v := ?_) (by simp only [List.getElem?_toArray, List.getElem?_cons_succ, List.getElem?_cons_zero]; rfl) (by kernel_rfl) (by kernel_rfl) (by kernel_rfl) (by exact fun _ _ _ h => h) (Or.inl ⟨by rfl, ?_⟩) (by assumption) ?_
      rotate_left
      · (intro _ hSw; (try dsimp only at hSw); go_simp; (try with_reducible rfl))
      try simp only [Act.put, List.setIfInBounds_toArray, List.set_cons_zero, List.set_cons_succ]
      refine wpAnyH_ready (rs := [0]) (by kernel_rfl) (by simp) ?_
      refine (AllReadyH.cons (by simp only [List.getElem?_toArray, List.getElem?_cons_succ, List.getElem?_cons_zero]; rfl) (fun Kq hKq => ?_) AllReadyH.nil)
      have P2 : Hid (Own TE (w6.alloc (.cells #[] TE.e)).drew (some ⟨w6.heap.size, 0, none⟩) 0 [] ∧ Keeps no w6 (w6.alloc (.cells #[] TE.e)).drew) := ⟨(own0 okT w6).keepsN ((Keeps.refl no _).drew), ((Keeps.refl no w6).alloc _).drew⟩
      go_simp
      have hz9 : Hid (w6.heap.size ≤ w6.heap.size) := Nat.le_refl _
      generalize hZ9 : w6.heap.size = Z9 at P2 ⊢
      have HZ9 : Hid (w6.heap.size = Z9) := hZ9
      clear hZ9 hz9
      generalize hw7 : (w6.alloc (.cells #[] 9)).drew = w7
      have HW7 : Hid (Own TE w7 (some ⟨Z9, 0, none⟩) 0 [] ∧ Keeps no w6 w7) := by rw [← hw7]; exact P2.out
      clear hw7 P2
      refine hKq.out _ _ ?_ (fun hHeldN => ?_)
      · exact HW7.out.2.cellN y0
      clear hKq Kq hHeld
      have hHeld := hHeldN
      clear hHeldN
      refine wpAnyH_ready (rs := [2]) (by kernel_rfl) (by simp) ?_
      refine (AllReadyH.cons (by simp only [List.getElem?_toArray, List.getElem?_cons_succ, List.getElem?_cons_zero]; rfl) (fun Kq hKq => ?_) AllReadyH.nil)
      refine step_app1 okT rfl (.tmp 41) (.tmp 42) rfl (some ⟨Z9, 0, none⟩) 0 0 [] rfl rfl HW7.out.1 ro rn rcp rd rfl HRD.out.1 HRD.out.2.2.nil ((HRD.out.2.2.keepsN HD6.out.1.kp).keepsN HW7.out.2).row (by have := HRD.out.2.1.1; simp [TE]; omega) (by have := HRD.out.2.1.1; simp; omega) ?_
      intro o8 c8 w8 ho8 hap8
      have hn8 := hap8.new (w0 := w6) (fun k hk => by obtain ⟨x, e, rfl⟩ := hk; cases e; exact Nat.le_of_eq HZ9.out) HW7.out.2
      have HW8 : Hid (Own TE w8 o8 c8 rd ∧ Keeps no w6 w8) := ⟨by simpa using ho8, hn8.2⟩
      clear ho8 hap8 hn8 HW7
      refine hKq.out _ _ ?_ (fun hHeldN => ?_)
      · exact HW8.out.2.cellN y0
      clear hKq Kq hHeld
      have hHeld := hHeldN
      clear hHeldN
      refine wpAnyH_ready (rs := [7]) (by kernel_rfl) (by simp) ?_
      refine (AllReadyH.cons (by simp only [List.getElem?_toArray, List.getElem?_cons_succ, List.getElem?_cons_zero]; rfl) (fun Kq hKq => ?_) AllReadyH.nil)
      have HNW : Hid (Calls Try.prog 7 #[.slice o8 rn c8, .int .i64 (Pf : Nat), .int .i64 3, .func (.func 8) #[.pointer (some ⟨cp, 0, none⟩)] #[]] w8 (NewOk w8 rd Pf 3 cp)) := rNew_yes w8 o8 rn c8 rd Pf 3 cp HRD.out.1 (by have := HRD.out.2.1.1; omega) (fun x hx => HRD.out.2.1.2 x hx) HW8.out.1.sl ⟨by have := HD6.out.1.p1; omega, by have := HD6.out.1.p2; omega, by decide, by decide⟩ HV.out
      go_simp
      refine Calls.mono HNW.out ?_
      rintro e w9 ⟨p, F, rfl, hi, hF, hk9⟩
      have HR9 : Hid (Rc w5 w9 p cp 1 1 (newR rd Pf 3) 0 F) := by
        have hk69 := HW8.out.2.trans hk9
        have hcl := lt_of_block HD6.out.2.1
        refine ⟨hi, newR_wf ⟨by have := HD6.out.1.p1; omega, by have := HD6.out.1.p2; omega, by decide, by decide⟩ HV.out, HD6.out.2.1.keeps hk69 id, fun h => ?_, ?_, HD6.out.2.2.trans hk69⟩
        · have := hF cp h; have := HW8.out.2.size; omega
        · rintro i (h | rfl)
          · have := hF i h; have := HW8.out.2.size; have := HD6.out.2.2.size; omega
          · exact Nat.le_of_eq HCP.out.symm
      have y9 := hk9.cellN (HW8.out.2.cellN y0)
      clear hi hF hk9 HNW HW8
      refine hKq.out _ _ ?_ (fun hHeldN => ?_)
      · exact y9
      clear hKq Kq hHeld
      have hHeld := hHeldN
      clear hHeldN
      refine wpAnyH_take (i := 8) (v := ?_) (by simp only [List.getElem?_toArray, List.getElem?_cons_succ, List.getElem?_cons_zero]; rfl) (by kernel_rfl) (by kernel_rfl) (by kernel_rfl) (by exact fun _ _ _ h => h) (Or.inl ⟨by rfl, ?_⟩) (by assumption) ?_
      rotate_left
      · (intro _ hSw; (try dsimp only at hSw); go_simp; (try with_reducible rfl))
      try simp only [Act.put, List.setIfInBounds_toArray, List.set_cons_zero, List.set_cons_succ]
      refine wpAnyH_take (i := 9) (v := ?_) (by simp only [List.getElem?_toArray, List.getElem?_cons_succ, List.getElem?_cons_zero]; rfl) (by kernel_rfl) (by kernel_rfl) (by kernel_rfl) (by exact fun _ _ _ h => h) (Or.inl ⟨by rfl, ?_⟩) (by assumption) ?_
      rotate_left
      · (intro _ hSw; (try dsimp only at hSw); go_simp; (try with_reducible rfl))
      try simp only [Act.put, List.setIfInBounds_toArray, List.set_cons_zero, List.set_cons_succ]
      refine wpAnyH_take (i := 10) (v := ?_) (by simp only [List.getElem?_toArray, List.getElem?_cons_succ, List.getElem?_cons_zero]; rfl) (by kernel_rfl) (by kernel_rfl) (by kernel_rfl) (by exact fun _ _ _ h => h) (Or.inl ⟨by rfl, ?_⟩) (by assumption) ?_
      rotate_left
      · (intro _ hSw; (try dsimp only at hSw); go_simp; (try with_reducible rfl))
      try simp only [Act.put, List.setIfInBounds_toArray, List.set_cons_zero, List.set_cons_succ]
      refine wpAnyH_take (i := 11) (v := ?_) (by simp only [List.getElem?_toArray, List.getElem?_cons_succ, List.getElem?_cons_zero]; rfl) (by kernel_rfl) (by kernel_rfl) (by kernel_rfl) (by exact fun _ _ _ h => h) (Or.inl ⟨by rfl, ?_⟩) (by assumption) ?_
      rotate_left
      · (intro _ hSw; (try dsimp only at hSw); go_simp; (try with_reducible rfl))
      try simp only [Act.put, List.setIfInBounds_toArray, List.set_cons_zero, List.set_cons_succ]
      refine wpAnyH_take (i := 12) (v := ?_) (by simp only [List.getElem?_toArray, List.getElem?_cons_succ, List.getElem?_cons_zero]; rfl) (by kernel_rfl) (by kernel_rfl) (by kernel_rfl) (by exact fun _ _ _ h => h) (Or.inl ⟨by rfl, ?_⟩) (by assumption) ?_
      rotate_left
      · (intro _ hSw; (try dsimp only at hSw); go_simp; (try with_reducible rfl))
      try simp only [Act.put, List.setIfInBounds_toArray, List.set_cons_zero, List.set_cons_succ]
      refine wpAnyH_done (by kernel_rfl) ?_ _
      clear hHeld y0 HCP HD6
      have c2 : w9.cell? ⟨cp, 2, none⟩ = some (.int .i64 0) := by rw [cell_of_blk HR9.out.ct]; rfl
      clear c2
      obtain ⟨Q, hQ⟩ : ∃ Q : Int, Q = X % 18446744073709551616 := ⟨_, rfl⟩
      have e1 : IntKind.u64.wrap X = Q := by rw [IntKind.wrap_u64, hQ]
      obtain ⟨N, hN⟩ : ∃ N : Nat, N = (Q % (2 * (rn : Int) + 2)).toNat := ⟨_, rfl⟩
      have e2 : Int.tmod Q (2 * (rn : Int) + 2) = (N : Int) := by rw [Int.tmod_eq_emod_of_nonneg (by omega), hN, Int.toNat_of_nonneg (Int.emod_nonneg _ (by omega))]
      have e2' : Q % (2 * (rn : Int) + 2) = (N : Int) := by rw [hN, Int.toNat_of_nonneg (Int.emod_nonneg _ (by omega))]
      have hNb : (N : Int) ≤ 121 := by
        have := Int.emod_lt_of_pos Q (show (0 : Int) < 2 * (rn : Int) + 2 by omega)
        omega
      have e3 : ¬ (2 * (rn : Int) + 2) = 0 := by omega
      clear hN hQ
      go_upto_region 14 with fail
      clear e1 e2 e2' e3 HX HRD h60n HV
      obtain ⟨Bo, hBo⟩ : ∃ Bo, Bo = w9.heap.size := ⟨_, rfl⟩
      have H10 : Hid (∀ W, W = w9.alloc (.cells #[] 44) → Rc w5 W p cp 1 1 (newR rd Pf 3) 0 F ∧ Own QE W (some ⟨Bo, 0, none⟩) 0 [] ∧ Zr w5 F cp Bo) := by
        rintro W rfl
        exact ⟨HR9.out.keepsN ((Keeps.refl _ _).alloc _), by rw [hBo]; exact own0 okQ w9, HR9.out.zr_new Bo (Nat.le_of_eq hBo.symm)⟩
      have h10 := H10.out _ rfl
      rw [← hBo]
      clear hBo H10 HR9
      generalize w9.alloc (.cells #[] 44) = w10 at h10 ⊢
      have HR10 : Hid (Rc w5 w10 p cp 1 1 (newR rd Pf 3) 0 F) := h10.1
      have HE10 : Hid (GvE w5 w10 p cp N none 0 0 (some ⟨Bo, 0, none⟩) 0 0) := by
        refine ⟨_, _, _, [], [], [], [], ⟨h10.1, tls_nil _ _, ⟨h10.2.1, rfl, fun j hj => by simp at hj, fun j hj => by simp at hj, ?_⟩, by omega, by simp; omega⟩, rfl, rfl, .inl rfl⟩
        rintro i (⟨x, e, rfl⟩ | ⟨j, hj, _⟩)
        · cases e; exact h10.2.2
        · simp at hj
      clear h10
      obtain ⟨k1, hk1⟩ : ∃ k1, k1 = decide (0 < N) := ⟨_, rfl⟩
      have hkN : decide (0 < N) = k1 := hk1.symm
      have hkI : decide ((0 : Int) < (N : Int)) = k1 := by rw [hk1]; simp
      clear hk1
      go_upto_if 68 with fail
      go_cut [12] from 69 to 70 (fun t12 wx => ∃ (oo : Option Addr) (nq co : Nat), t12 = .slice oo nq co ∧ Hid (GvE w5 wx p cp N none 0 0 oo nq co))
      case first =>
        as_aux_lemma =>
        clear hkN hkI
        cases k1 with
        | true =>
          clear HE10
          have HBG : Hid (Calls Try.prog 10 #[.pointer (some ⟨p, 0, none⟩)] w10 (TellTo w10 p cp 1 1 F (beginO (newR rd Pf 3) 1 1 0))) := rBegin_any w10 p cp 1 1 F _ 0 HR10.out.is HR10.out.wf HR10.out.ct (by decide) HR10.out.cF
          go_wp2_with fail
          refine HBG.out.mono ?_
          rintro e w11 ⟨o11, n11, c11, r11, G, rfl, ht⟩
          have HN : Hid (GvE w5 w11 p cp N none 0 0 o11 n11 c11) := by
            have hb := begin_tb HR10.out.wf 1 1 0
            refine ⟨_, _, _, [], [], r11, _, ⟨HR10.out.tell ht (HR10.out.wf.begin 1 1 0), tls_nil _ _, ht.tq.outS hb.f _ (fun i hi => ⟨ht.far (lt_of_block HR10.out.ct) i hi, Nat.le_trans HR10.out.kp.size (ht.new i hi)⟩), ?_, ?_⟩, rfl, ht.n, .inl rfl⟩
            · have := hb.t; omega
            · have := hb.n; omega
          clear ht HBG HR10
          go_wp2_with fail
          go_meet
          exact ⟨o11, n11, c11, rfl, HN⟩
        | false =>
          go_wp2_with fail
          go_meet
          exact ⟨_, _, _, rfl, HE10⟩
      case rest =>
        obtain ⟨oo, nq, co, rfl, HG⟩ := hcut
        rename World => w12
        clear hkN hkI HE10 HR10
        go_wp2_with fail
        go_loopw [2, 11, 12] (fun s2 s11 s12 wr => ∃ (N : Nat) (ol : Option Addr) (nl cl : Nat) (oo : Option Addr) (nq co : Nat), (N : Int) ≤ 121 ∧ s2 = .int .i64 (N : Nat) ∧ s11 = .slice ol nl cl ∧ s12 = .slice oo nq co ∧ Hid (GvE w5 wr p cp N ol nl cl oo nq co)) (fun s2 _ s12 _ => 2 * (intOf s2).toNat + lenB s12)
        case atStart => exact ⟨N, none, 0, 0, oo, nq, co, hNb, rfl, rfl, rfl, HG⟩
        case round =>
          clear HG hNb
          rename World => wr
          obtain ⟨N, ol, nl, cl, oo, nq, co, hNb, rfl, rfl, rfl, HG⟩ := hrel
          go_upto_region 16 with fail
          go_cut [77] from 71 to 76 (fun t77 wx => ∃ b : Bool, t77 = .bool b ∧ Hid (Both b nq N) ∧ wx = wr)
          case first =>
            as_aux_lemma =>
            by_cases h1 : 0 < nq
            · have h1' : (0 : Int) < (nq : Int) := by omega
              by_cases h2 : 0 < N
              · have h2' : (0 : Int) < (N : Int) := by omega
                have HH : Hid (Both true nq N) := both_t h1 h2
                clear HG
                go_wp2_with fail
                go_meet
                exact ⟨true, rfl, HH, rfl⟩
              · have h2' : ¬ (0 : Int) < (N : Int) := by omega
                have HH : Hid (Both false nq N) := both_f (fun h => h2 h.2)
                clear HG
                go_wp2_with fail
                go_meet
                exact ⟨false, rfl, HH, rfl⟩
            · have h1' : ¬ (0 : Int) < (nq : Int) := by omega
              have HH : Hid (Both false nq N) := both_f (fun h => h1 h.1)
              clear HG
              go_wp2_with fail
              go_meet
              exact ⟨false, rfl, HH, rfl⟩
          case rest =>
            obtain ⟨b, rfl, HBC, hwx⟩ := hcut
            subst wc
            cases b with
            | true =>
              obtain ⟨s, t, F, rs, ts, rq, qs, hg, hnl, hno, hz⟩ := HG.out
              have hb2 : 0 < nq ∧ 0 < N := HBC.out.1 rfl
              have hnl0 : nl = 0 := by rcases hz with h | h <;> omega
              have HG0 : Hid (Gv w5 wr p cp s t F ol cl rs ts oo co rq qs N ∧ ts.length = 0 ∧ nq = qs.length ∧ 0 < N ∧ 0 < nq) := ⟨hg, by omega, hno, hb2.2, hb2.1⟩
              have hnob : (nq : Int) ≤ 20000 := by have := hg.qb; omega
              subst hnl0
              clear HG HBC hg hnl hno hz hb2
              go_wp2_with fail
              go_loopw [11, 13] (fun s11 s13 wf => ∃ (i : Nat) (ol : Option Addr) (nl cl : Nat), i ≤ nq ∧ s13 = .int .i64 (i : Nat) ∧ s11 = .slice ol nl cl ∧ Hid (∃ rs ts, Gv w5 wf p cp s t F ol cl rs ts oo co rq qs N ∧ nl = ts.length ∧ ts.length ≤ i * 4000)) (fun _ s13 _ => nq - (intOf s13).toNat)
              case atStart => exact ⟨0, ol, 0, cl, by omega, rfl, rfl, rs, ts, HG0.out.1, HG0.out.2.1.symm, by rw [HG0.out.2.1]; omega⟩
              case round =>
                rename World => wa
                obtain ⟨i, ol, nl, cl, hi, rfl, rfl, HF⟩ := hrel
                by_cases hlt : i < nq
                · have hlt' : (i : Int) < nq := by omega
                  obtain ⟨rs, ts, hg, hnl, hlb⟩ := HF.out
                  have hiq : i < qs.length := by rw [← HG0.out.2.2.1]; exact hlt
                  obtain ⟨b, off, rfl, h9⟩ := hg.out.own.sl.atQ (j := i) (by rw [hg.out.len]; exact hiq)
                  have hqn := hg.out.each i hiq
                  have hqf := hg.out.fit i hiq
                  have hwd := HD5.out.keepsN hg.rc.kp
                  have y0 : wa.cell? ⟨A, 0, none⟩ = some (.int .i64 (Pf : Nat)) := by rw [cell_of_blk hwd.box]; rfl
                  have y1 : wa.cell? ⟨A, 1, none⟩ = some (.slice wo wn wc) := by rw [cell_of_blk hwd.box]; rfl
                  obtain ⟨vs, hvs⟩ : ∃ vs, vs = askV Pf wf 0 (qs.getD i q0) := ⟨_, rfl⟩
                  have HVS : Hid (vs.length ≤ 4000 ∧ ∀ v ∈ vs, FitV v) := by rw [hvs]; exact ⟨ask_len hqf, ask_fit HD5.out.good hqf⟩
                  obtain ⟨r, hr⟩ : ∃ r, r = rq.getD i rq0 := ⟨_, rfl⟩
                  obtain ⟨req, hreq⟩ : ∃ req, req = (qs.getD i q0).req := ⟨_, rfl⟩
                  rw [← hr] at h9 hqn
                  have HAS : Hid (∀ Y, Keeps no wa Y → Calls Try.prog 20 #[.agg #[.int .i64 (Pf : Nat), .slice wo wn wc], .agg #[.int .i64 r.part, .int .i64 r.kind, .int .i64 r.client, .int .u64 (r.req : Nat), .int .u64 0, .slice none 0 0, .slice r.ko r.kn r.kc, .slice r.wo r.wn r.wc, .slice none 0 0], .int .i64 0] Y (AskTo Y req vs)) := fun Y hY => by
                    rw [hvs, hreq]
                    exact asked_any Y Pf wo wn wc rw3 wf HD5.out.len (hwd.wrs.keepsN hY) HD5.out.good HD5.out.p1 HD5.out.p2 r _ (hqn.keepsN hY).of hqf 0 (by omega)
                  have HGA : Hid (Gv w5 wa p cp s t F ol cl rs ts (some ⟨b, off, none⟩) co rq qs N ∧ nl = ts.length ∧ ts.length ≤ i * 4000 ∧ r = rq.getD i rq0 ∧ i < qs.length) := ⟨hg, hnl, hlb, hr, hiq⟩
                  obtain ⟨x0, x1, x2, x3, xko, xkn, xkc, xwo, xwn, xwc⟩ := r
                  have HS9 : Hid (At9 wa b off i 9 ⟨x0, x1, x2, x3, xko, xkn, xkc, xwo, xwn, xwc⟩ ∧ wa.cell? ⟨A, 0, none⟩ = some (.int .i64 (Pf : Nat)) ∧ wa.cell? ⟨A, 1, none⟩ = some (.slice wo wn wc)) := ⟨h9, y0, y1⟩
                  have hib : (i : Int) ≤ 20000 := by omega
                  simp only at HAS
                  clear hg hnl hlb hiq h9 hqn hqf hwd y0 y1 hvs hr hreq HF
                  go_wp2_with fail
                  refine wp_region_held_drew (S := fun X => At9 X b off i 9 ⟨x0, x1, x2, x3, xko, xkn, xkc, xwo, xwn, xwc⟩ ∧ X.cell? ⟨A, 0, none⟩ = some (.int .i64 (Pf : Nat)) ∧ X.cell? ⟨A, 1, none⟩ = some (.slice wo wn wc)) (by kernel_rfl) ?_ (fun hHeld => ?_)
                  · exact ⟨HS9.out.1.keepsN ((Keeps.refl no _).drew), HS9.out.2.1, HS9.out.2.2⟩
                  refine wpAnyH_take (i := 0) (v := ?_) (by simp only [List.getElem?_toArray, List.getElem?_cons_succ, List.getElem?_cons_zero]; rfl) (by kernel_rfl) (by kernel_rfl) (by kernel_rfl) (by exact fun _ _ _ h => h) (Or.inl ⟨by rfl, ?_⟩) (by assumption) ?_
                  rotate_left
                  · (intro _ hSw; (try dsimp only at hSw); have z0 := hSw.2.1; have z1 := hSw.2.2; go_simp; (try with_reducible rfl))
                  try simp only [Act.put, List.setIfInBounds_toArray, List.set_cons_zero, List.set_cons_succ]
                  refine wpAnyH_take (i := 1) (v := ?_) (by simp only [List.getElem?_toArray, List.getElem?_cons_succ, List.getElem?_cons_zero]; rfl) (by kernel_rfl) (by kernel_rfl) (by kernel_rfl) (by exact fun _ _ _ h => h) (Or.inl ⟨by rfl, ?_⟩) (by assumption) ?_
                  rotate_left
                  · (intro _ hSw; (try dsimp only at hSw); go_simp; (try with_reducible rfl))
                  try simp only [Act.put, List.setIfInBounds_toArray, List.set_cons_zero, List.set_cons_succ]
                  refine wpAnyH_take (i := 2) (v := ?_) (by simp only [List.getElem?_toArray, List.getElem?_cons_succ, List.getElem?_cons_zero]; rfl) (by kernel_rfl) (by kernel_rfl) (by kernel_rfl) (by exact fun _ _ _ h => h) (Or.inl ⟨by rfl, ?_⟩) (by assumption) ?_
                  rotate_left
                  · (intro _ hSw; (try dsimp only at hSw); go_simp; (try with_reducible rfl))
                  try simp only [Act.put, List.setIfInBounds_toArray, List.set_cons_zero, List.set_cons_succ]
                  refine wpAnyH_take (i := 3) (v := ?_) (by simp only [List.getElem?_toArray, List.getElem?_cons_succ, List.getElem?_cons_zero]; rfl) (by kernel_rfl) (by kernel_rfl) (by kernel_rfl) (by exact fun _ _ _ h => h) (Or.inl ⟨by rfl, ?_⟩) (by assumption) ?_
                  rotate_left
                  · (intro _ hSw; (try dsimp only at hSw); go_simp; (try with_reducible rfl))
                  try simp only [Act.put, List.setIfInBounds_toArray, List.set_cons_zero, List.set_cons_succ]
                  refine wpAnyH_take (i := 4) (v := ?_) (by simp only [List.getElem?_toArray, List.getElem?_cons_succ, List.getElem?_cons_zero]; rfl) (by kernel_rfl) (by kernel_rfl) (by kernel_rfl) (by exact fun _ _ _ h => h) (Or.inl ⟨by rfl, ?_⟩) (by assumption) ?_
                  rotate_left
                  · (intro _ hSw; (try dsimp only at hSw); have z0 := hSw.1.c0; have z1 := hSw.1.c1; have z2 := hSw.1.c2; have z3 := hSw.1.c3; have z4 := hSw.1.c4; have z5 := hSw.1.c5; have z6 := hSw.1.c6; have z7 := hSw.1.c7; have z8 := hSw.1.c8; go_simp; (try with_reducible rfl))
                  try simp only [Act.put, List.setIfInBounds_toArray, List.set_cons_zero, List.set_cons_succ]
                  refine wpAnyH_ready (rs := [5]) (by kernel_rfl) (by simp) ?_
                  refine (AllReadyH.cons (by simp only [List.getElem?_toArray, List.getElem?_cons_succ, List.getElem?_cons_zero]; rfl) (fun Kq hKq => ?_) AllReadyH.nil)
                  go_simp
                  refine Calls.mono (HAS.out _ ((Keeps.refl no wa).drew)) ?_
                  rintro e wb ⟨om, nm, cm, rms, rfl, hnm, hms, hkb⟩
                  have hkab : Keeps no wa wb := ((Keeps.refl no wa).drew).trans hkb
                  have HKB : Hid (Gk w5 wa wb wb p cp s t F ol cl rs ts (some ⟨b, off, none⟩) co rq qs N om cm rms vs req ∧ nm = vs.length) := ⟨⟨HGA.out.1.keepsN hkab, hms.mono (fun i h1 h2 => ⟨h1, h2⟩), fun x hx => .inl (HGA.out.1.tls.own.lt x hx), Nat.le_refl _⟩, hnm⟩
                  have hS2 : At9 wb b off i 9 ⟨x0, x1, x2, x3, xko, xkn, xkc, xwo, xwn, xwc⟩ ∧ wb.cell? ⟨A, 0, none⟩ = some (.int .i64 (Pf : Nat)) ∧ wb.cell? ⟨A, 1, none⟩ = some (.slice wo wn wc) := ⟨HS9.out.1.keepsN hkab, hkab.cellN HS9.out.2.1, hkab.cellN HS9.out.2.2⟩
                  clear hms hkb hkab hnm
                  refine hKq.out _ _ ?_ (fun hHeldN => ?_)
                  · exact hS2
                  clear hKq Kq hHeld
                  have hHeld := hHeldN
                  clear hHeldN
                  refine wpAnyH_take (i := 6) (v := ?_) (by simp only [List.getElem?_toArray, List.getElem?_cons_succ, List.getElem?_cons_zero]; rfl) (by kernel_rfl) (by kernel_rfl) (by kernel_rfl) (by exact fun _ _ _ h => h) (Or.inl ⟨by rfl, ?_⟩) (by assumption) ?_
                  rotate_left
                  · (intro _ hSw; (try dsimp only at hSw); go_simp; (try with_reducible rfl))
                  try simp only [Act.put, List.setIfInBounds_toArray, List.set_cons_zero, List.set_cons_succ]
                  refine wpAnyH_done (by kernel_rfl) ?_ _
                  clear hHeld hS2 HAS HS9
                  go_wp2_with fail
                  go_loopw [11, 15] (fun s11 s15 wk => ∃ (k : Nat) (ol : Option Addr) (nl cl : Nat), k ≤ nm ∧ s15 = .int .i64 (k : Nat) ∧ s11 = .slice ol nl cl ∧ Hid (∃ rs ts, Gk w5 wa wb wk p cp s t F ol cl rs ts (some ⟨b, off, none⟩) co rq qs N om cm rms vs req ∧ nl = ts.length ∧ ts.length ≤ i * 4000 + k)) (fun _ s15 _ => nm - (intOf s15).toNat)
                  case atStart => exact ⟨0, ol, nl, cl, by omega, rfl, rfl, rs, ts, HKB.out.1, HGA.out.2.1, by have := HGA.out.2.2.1; omega⟩
                  case round =>
                    rename World => wk
                    obtain ⟨k, ol, nl, cl, hk, rfl, rfl, HF⟩ := hrel
                    by_cases hltk : k < nm
                    · have hltk' : (k : Int) < nm := by omega
                      obtain ⟨rs, ts, hgk, hnl, hlb⟩ := HF.out
                      have hkv : k < vs.length := by rw [← HKB.out.2]; exact hltk
                      obtain ⟨bm, rfl, h8⟩ := hgk.ms.at hkv
                      have hp9 := hgk.gv.part HGA.out.2.2.2.2
                      rw [← HGA.out.2.2.2.1] at hp9
                      have HKK : Hid (Gk w5 wa wb wk p cp s t F ol cl rs ts (some ⟨b, off, none⟩) co rq qs N (some ⟨bm, 0, none⟩) cm rms vs req ∧ nl = ts.length ∧ ts.length ≤ i * 4000 + k ∧ k < vs.length ∧ rs.length = ts.length) := ⟨hgk, hnl, hlb, hkv, hgk.gv.tls.len⟩
                      obtain ⟨rm, hrm⟩ : ∃ rm, rm = rms.getD k rm0 := ⟨_, rfl⟩
                      rw [← hrm] at h8
                      have HRM : Hid (rms.getD k rm0 = rm) := hrm.symm
                      obtain ⟨rreq, rB⟩ := rm
                      have HS8 : Hid (At8m wk bm (k * 8) ⟨rreq, rB⟩ ∧ wk.cell? ⟨b, off + i * 9, none⟩ = some (.int .i64 x0)) := ⟨h8, hp9.c0⟩
                      have hkb4 : (k : Int) ≤ 4000 := by have := HVS.out.1; omega
                      clear hgk hnl hlb hkv h8 hp9 hrm HF
                      go_wp2_with fail
                      refine wp_region_held_drew (S := fun X => At8m X bm (k * 8) ⟨rreq, rB⟩ ∧ X.cell? ⟨b, off + i * 9, none⟩ = some (.int .i64 x0)) (by kernel_rfl) ?_ (fun hHeld => ?_)
                      · exact ⟨HS8.out.1.keepsN ((Keeps.refl _ _).drew), HS8.out.2⟩
                      refine wpAnyH_take (i := 0) (v := ?_) (by simp only [List.getElem?_toArray, List.getElem?_cons_succ, List.getElem?_cons_zero]; rfl) (by kernel_rfl) (by kernel_rfl) (by kernel_rfl) (by exact fun _ _ _ h => h) (Or.inl ⟨by rfl, ?_⟩) (by assumption) ?_
                      rotate_left
                      · (intro _ hSw; (try dsimp only at hSw); go_simp; (try with_reducible rfl))
                      try simp only [Act.put, List.setIfInBounds_toArray, List.set_cons_zero, List.set_cons_succ]
                      refine wpAnyH_take (i := 1) (v := ?_) (by simp only [List.getElem?_toArray, List.getElem?_cons_succ, List.getElem?_cons_zero]; rfl) (by kernel_rfl) (by kernel_rfl) (by kernel_rfl) (by exact fun _ _ _ h => h) (Or.inl ⟨by rfl, ?_⟩) (by assumption) ?_
                      rotate_left
                      · (intro _ hSw; (try dsimp only at hSw); go_simp; (try with_reducible rfl))
                      try simp only [Act.put, List.setIfInBounds_toArray, List.set_cons_zero, List.set_cons_succ]
                      refine wpAnyH_take (i := 2) (v := ?_) (by simp only [List.getElem?_toArray, List.getElem?_cons_succ, List.getElem?_cons_zero]; rfl) (by kernel_rfl) (by kernel_rfl) (by kernel_rfl) (by exact fun _ _ _ h => h) (Or.inl ⟨by rfl, ?_⟩) (by assumption) ?_
                      rotate_left
                      · (intro _ hSw; (try dsimp only at hSw); go_simp; (try with_reducible rfl))
                      try simp only [Act.put, List.setIfInBounds_toArray, List.set_cons_zero, List.set_cons_succ]
                      refine wpAnyH_take (i := 3) (v := ?_) (by simp only [List.getElem?_toArray, List.getElem?_cons_succ, List.getElem?_cons_zero]; rfl) (by kernel_rfl) (by kernel_rfl) (by kernel_rfl) (by exact fun _ _ _ h => h) (Or.inl ⟨by rfl, ?_⟩) (by assumption) ?_
                      rotate_left
                      · (intro _ hSw; (try dsimp only at hSw); go_simp; (try with_reducible rfl))
                      try simp only [Act.put, List.setIfInBounds_toArray, List.set_cons_zero, List.set_cons_succ]
                      refine wpAnyH_take (i := 4) (v := ?_) (by simp only [List.getElem?_toArray, List.getElem?_cons_succ, List.getElem?_cons_zero]; rfl) (by kernel_rfl) (by kernel_rfl) (by kernel_rfl) (by exact fun _ _ _ h => h) (Or.inl ⟨by rfl, ?_⟩) (by assumption) ?_
                      rotate_left
                      · (intro _ hSw; (try dsimp only at hSw); go_simp; (try with_reducible rfl))
                      try simp only [Act.put, List.setIfInBounds_toArray, List.set_cons_zero, List.set_cons_succ]
                      refine wpAnyH_take (i := 5) (v := ?_) (by simp only [List.getElem?_toArray, List.getElem?_cons_succ, List.getElem?_cons_zero]; rfl) (by kernel_rfl) (by kernel_rfl) (by kernel_rfl) (by exact fun _ _ _ h => h) (Or.inl ⟨by rfl, ?_⟩) (by assumption) ?_
                      rotate_left
                      · (intro _ hSw; (try dsimp only at hSw); have z9 := hSw.2; go_simp; (try with_reducible rfl))
                      try simp only [Act.put, List.setIfInBounds_toArray, List.set_cons_zero, List.set_cons_succ]
                      refine wpAnyH_take (i := 6) (v := ?_) (by simp only [List.getElem?_toArray, List.getElem?_cons_succ, List.getElem?_cons_zero]; rfl) (by kernel_rfl) (by kernel_rfl) (by kernel_rfl) (by exact fun _ _ _ h => h) (Or.inl ⟨by rfl, ?_⟩) (by assumption) ?_
                      rotate_left
                      · (intro _ hSw; (try dsimp only at hSw); go_simp; (try with_reducible rfl))
                      try simp only [Act.put, List.setIfInBounds_toArray, List.set_cons_zero, List.set_cons_succ]
                      refine wpAnyH_take (i := 7) (v := ?_) (by simp only [List.getElem?_toArray, List.getElem?_cons_succ, List.getElem?_cons_zero]; rfl) (by kernel_rfl) (by kernel_rfl) (by kernel_rfl) (by exact fun _ _ _ h => h) (Or.inl ⟨by rfl, ?_⟩) (by assumption) ?_
                      rotate_left
                      · (intro _ hSw; (try dsimp only at hSw); go_simp; (try with_reducible rfl))
                      try simp only [Act.put, List.setIfInBounds_toArray, List.set_cons_zero, List.set_cons_succ]
                      refine wpAnyH_take (i := 8) (v := ?_) (by simp only [List.getElem?_toArray, List.getElem?_cons_succ, List.getElem?_cons_zero]; rfl) (by kernel_rfl) (by kernel_rfl) (by kernel_rfl) (by exact fun _ _ _ h => h) (Or.inl ⟨by rfl, ?_⟩) (by assumption) ?_
                      rotate_left
                      · (intro _ hSw; (try dsimp only at hSw); go_simp; (try with_reducible rfl))
                      try simp only [Act.put, List.setIfInBounds_toArray, List.set_cons_zero, List.set_cons_succ]
                      refine wpAnyH_take (i := 9) (v := ?_) (by simp only [List.getElem?_toArray, List.getElem?_cons_succ, List.getElem?_cons_zero]; rfl) (by kernel_rfl) (by kernel_rfl) (by kernel_rfl) (by exact fun _ _ _ h => h) (Or.inl ⟨by rfl, ?_⟩) (by assumption) ?_
                      rotate_left
                      · (intro _ hSw; (try dsimp only at hSw); have z0 := hSw.1.c0; have z1 := hSw.1.c1; have z2 := hSw.1.c2; have z3 := hSw.1.c3; have z4 := hSw.1.c4; have z5 := hSw.1.c5; have z6 := hSw.1.c6; have z7 := hSw.1.c7; go_simp; (try with_reducible rfl))
                      try simp only [Act.put, List.setIfInBounds_toArray, List.set_cons_zero, List.set_cons_succ]
                      refine wpAnyH_take (i := 10) (v := ?_) (by simp only [List.getElem?_toArray, List.getElem?_cons_succ, List.getElem?_cons_zero]; rfl) (by kernel_rfl) (by kernel_rfl) (by kernel_rfl) (by exact fun _ _ _ h => h) (Or.inl ⟨by rfl, ?_⟩) (by assumption) ?_
                      rotate_left
                      · (intro _ hSw; (try dsimp only at hSw); go_simp; (try with_reducible rfl))
                      try simp only [Act.put, List.setIfInBounds_toArray, List.set_cons_zero, List.set_cons_succ]
                      refine wpAnyH_ready (rs := [11]) (by kernel_rfl) (by simp) ?_
                      refine (AllReadyH.cons (by simp only [List.getElem?_toArray, List.getElem?_cons_succ, List.getElem?_cons_zero]; rfl) (fun Kq hKq => ?_) AllReadyH.nil)
                      have hxc : Keeps (fun _ => False) wk ((wk.alloc (.cells #[.int .i64 x0, .int .i64 7, .int .i64 3, .int .u64 (rreq : Nat), .int .u64 0, .slice none 0 0, .slice none 0 0, .slice none 0 0, .slice (some ⟨rB, 0, none⟩) 1 1] 67)).drew) := ((Keeps.refl _ _).alloc _).drew
                      have HRX : Hid (Row LE ((wk.alloc (.cells #[.int .i64 x0, .int .i64 7, .int .i64 3, .int .u64 (rreq : Nat), .int .u64 0, .slice none 0 0, .slice none 0 0, .slice none 0 0, .slice (some ⟨rB, 0, none⟩) 1 1] 67)).drew) (some ⟨wk.heap.size, 0, none⟩) [⟨x0, rreq, rB⟩] ∧ Keeps (fun _ => False) wk ((wk.alloc (.cells #[.int .i64 x0, .int .i64 7, .int .i64 3, .int .u64 (rreq : Nat), .int .u64 0, .slice none 0 0, .slice none 0 0, .slice none 0 0, .slice (some ⟨rB, 0, none⟩) 1 1] 67)).drew)) := ⟨((lit_one (E := LE) wk ⟨x0, rreq, rB⟩ #[.int .i64 x0, .int .i64 7, .int .i64 3, .int .u64 (rreq : Nat), .int .u64 0, .slice none 0 0, .slice none 0 0, .slice none 0 0, .slice (some ⟨rB, 0, none⟩) 1 1] rfl).row).keepsN ((Keeps.refl (fun _ => False) _).drew), hxc⟩
                      go_simp
                      generalize wk.heap.size = Z at HRX ⊢
                      generalize (wk.alloc (.cells #[.int .i64 x0, .int .i64 7, .int .i64 3, .int .u64 (rreq : Nat), .int .u64 0, .slice none 0 0, .slice none 0 0, .slice none 0 0, .slice (some ⟨rB, 0, none⟩) 1 1] 67)).drew = w4x at hxc HRX ⊢
                      have hS4 : At8m w4x bm (k * 8) ⟨rreq, rB⟩ ∧ w4x.cell? ⟨b, off + i * 9, none⟩ = some (.int .i64 x0) := ⟨⟨hxc.cellN HS8.out.1.c0, hxc.cellN HS8.out.1.c1, hxc.cellN HS8.out.1.c2, hxc.cellN HS8.out.1.c3, hxc.cellN HS8.out.1.c4, hxc.cellN HS8.out.1.c5, hxc.cellN HS8.out.1.c6, hxc.cellN HS8.out.1.c7⟩, hxc.cellN HS8.out.2⟩
                      refine hKq.out _ _ ?_ (fun hHeldN => ?_)
                      · exact hS4
                      clear hKq Kq hHeld
                      have hHeld := hHeldN
                      clear hHeldN
                      refine wpAnyH_ready (rs := [12]) (by kernel_rfl) (by simp) ?_
                      refine (AllReadyH.cons (by simp only [List.getElem?_toArray, List.getElem?_cons_succ, List.getElem?_cons_zero]; rfl) (fun Kq hKq => ?_) AllReadyH.nil)
                      refine oper_appT okLE rfl (.tmp 96) (.tmp 107) rfl ol nl cl rs rfl (by have := HKK.out.2.1; have := HKK.out.2.2.2.2; omega) (HKK.out.1.gv.tls.own.keepsN HRX.out.2) (Addr.mk Z 0 none) 1 1 [⟨x0, rreq, rB⟩] rfl rfl HRX.out.1 (by have := HKK.out.2.2; have := HVS.out.1; simp [LE]; omega) (by have := HKK.out.2.2; simp; omega) ?_
                      intro o5 c5 w6 ho5 hap5
                      have HP : Hid (Gk w5 wa wb w6 p cp s t F o5 c5 (rs ++ [⟨x0, rreq, rB⟩]) (ts ++ [⟨x0, rreq, vs.getD k v0⟩]) (some ⟨b, off, none⟩) co rq qs N (some ⟨bm, 0, none⟩) cm rms vs req) := by
                        have hrm := HRM.out
                        have hp := HKK.out.1.push (fun i hi => HGA.out.1.rc.zr_new i hi) HRX.out.2 HKK.out.2.2.2.1 (pt := x0) (w' := w6) (o' := o5) (c' := c5) (HVS.out.2 _ (getD_mem_lt v0 HKK.out.2.2.2.1)) (by rw [hrm]; exact ho5) hap5
                        rw [hrm] at hp
                        exact hp
                      have hS6 : At8m w6 bm (k * 8) ⟨rreq, rB⟩ ∧ w6.cell? ⟨b, off + i * 9, none⟩ = some (.int .i64 x0) := by
                        obtain ⟨b6, e6, h6⟩ := HP.out.ms.at HKK.out.2.2.2.1
                        cases e6
                        rw [HRM.out] at h6
                        have hp9 := HP.out.gv.part HGA.out.2.2.2.2
                        rw [← HGA.out.2.2.2.1] at hp9
                        exact ⟨h6, hp9.c0⟩
                      clear ho5 hap5
                      refine hKq.out _ _ ?_ (fun hHeldN => ?_)
                      · exact hS6
                      clear hKq Kq hHeld
                      have hHeld := hHeldN
                      clear hHeldN
                      refine wpAnyH_take (i := 13) (v := ?_) (by simp only [List.getElem?_toArray, List.getElem?_cons_succ, List.getElem?_cons_zero]; rfl) (by kernel_rfl) (by kernel_rfl) (by kernel_rfl) (by exact fun _ _ _ h => h) (Or.inl ⟨by rfl, ?_⟩) (by assumption) ?_
                      rotate_left
                      · (intro _ hSw; (try dsimp only at hSw); go_simp; (try with_reducible rfl))
                      try simp only [Act.put, List.setIfInBounds_toArray, List.set_cons_zero, List.set_cons_succ]
                      refine wpAnyH_done (by kernel_rfl) ?_ _
                      clear hHeld hS4 hS6 hxc
                      go_wp2_with fail
                      go_roundw
                      case rel =>
                        refine ⟨k + 1, o5, nl + 1, c5, by omega, by go_num, rfl, _, _, HP.out, ?_, ?_⟩
                        · rw [List.length_append, ← HKK.out.2.1]; rfl
                        · rw [List.length_append]; have := HKK.out.2.2.1; simp; omega
                      case measure => first | (simp [intOf]; done) | (simp [intOf]; omega)
                    · have hltk' : ¬ (k : Int) < nm := by omega
                      have HE : Hid (∃ rs ts, Gv w5 wk p cp s t F ol cl rs ts (some ⟨b, off, none⟩) co rq qs N ∧ nl = ts.length ∧ ts.length ≤ (i + 1) * 4000) := by
                        obtain ⟨rs, ts, hgk, hnl, hlb⟩ := HF.out
                        refine ⟨rs, ts, hgk.gv, hnl, ?_⟩
                        have := HVS.out.1
                        have := HKB.out.2
                        omega
                      clear HF HKB
                      go_wp2_with fail
                      go_roundw
                      case rel => exact ⟨i + 1, ol, nl, cl, by omega, by go_num, rfl, HE.out⟩
                      case measure => first | (simp [intOf]; done) | (simp [intOf]; omega)
                · have hlt' : ¬ (i : Int) < nq := by omega
                  have HGI : Hid (∃ rs ts, Gv w5 wa p cp s t F ol cl rs ts oo co rq qs N ∧ nl = ts.length ∧ ts.length ≤ 80000000) := by
                    obtain ⟨rs, ts, h1, h2, h3⟩ := HF.out
                    exact ⟨rs, ts, h1, h2, by have := HG0.out.1.qb; have := HG0.out.2.2.1; omega⟩
                  have HNP : Hid (0 < N ∧ 0 < nq) := HG0.out.2.2.2
                  clear HF HG0
                  obtain ⟨hI, hhI⟩ : ∃ hI, hI = wa.heap.size := ⟨_, rfl⟩
                  have HG : Hid (∃ s t F rs ts rq qs, Gi w5 wa hI p cp s t F ol cl rs ts none 0 rq qs N ∧ nl = ts.length ∧ 0 = qs.length) := by
                    obtain ⟨rs, ts, h1, h2, _⟩ := HGI.out
                    rw [hhI]
                    exact ⟨s, t, F, rs, ts, [], [], h1.gi, h2, rfl⟩
                  have hnlb : (nl : Int) ≤ 80000000 := by obtain ⟨rs, ts, h1, h2, h3⟩ := HGI.out; omega
                  clear HGI hhI
                  go_wp2_with fail
                  go_loopw [2, 11, 12] (fun s2 s11 s12 wi => ∃ (M : Nat) (ol : Option Addr) (nl cl : Nat) (oo : Option Addr) (nz co : Nat), M ≤ N ∧ (nl : Int) ≤ 80000000 ∧ s2 = .int .i64 (M : Nat) ∧ s11 = .slice ol nl cl ∧ s12 = .slice oo nz co ∧ Hid (∃ s t F rs ts rq qs, Gi w5 wi hI p cp s t F ol cl rs ts oo co rq qs M ∧ nl = ts.length ∧ nz = qs.length) ∧ Hid (M < N ∨ nz = 0)) (fun s2 _ _ _ => (intOf s2).toNat)
                  case atStart => exact ⟨N, ol, nl, cl, none, 0, 0, by omega, hnlb, rfl, rfl, rfl, HG.out, .inr rfl⟩
                  case round =>
                    clear HG hnlb
                    rename World => wi
                    obtain ⟨M, ol, nl, cl, oo, nz, co, hM, hnlb, rfl, rfl, rfl, HG, HMN⟩ := hrel
                    have hMb : (M : Int) ≤ 121 := by omega
                    go_upto_region 26 with fail
                    go_cut [115] from 109 to 114 (fun t77 wx => ∃ b : Bool, t77 = .bool b ∧ Hid (Both b nl M) ∧ wx = wi)
                    case first =>
                      as_aux_lemma =>
                      clear HG
                      by_cases h1 : 0 < nl
                      · have h1' : (0 : Int) < (nl : Int) := by omega
                        by_cases h2 : 0 < M
                        · have h2' : (0 : Int) < (M : Int) := by omega
                          have HH : Hid (Both true nl M) := both_t h1 h2
                          go_wp2_with fail
                          go_meet
                          exact ⟨true, rfl, HH, rfl⟩
                        · have h2' : ¬ (0 : Int) < (M : Int) := by omega
                          have HH : Hid (Both false nl M) := both_f (fun h => h2 h.2)
                          go_wp2_with fail
                          go_meet
                          exact ⟨false, rfl, HH, rfl⟩
                      · have h1' : ¬ (0 : Int) < (nl : Int) := by omega
                        have HH : Hid (Both false nl M) := both_f (fun h => h1 h.1)
                        go_wp2_with fail
                        go_meet
                        exact ⟨false, rfl, HH, rfl⟩
                    case rest =>
                      obtain ⟨b, rfl, HBC, hwx⟩ := hcut
                      subst wc
                      cases b with
                      | true =>
                        have hb2 : 0 < nl ∧ 0 < M := HBC.out.1 rfl
                        obtain ⟨M1, rfl⟩ : ∃ M1, M = M1 + 1 := ⟨M - 1, by omega⟩
                        obtain ⟨s, t, F, rs, ts, rq, qs, hg, hnl, hnz⟩ := HG.out
                        have hl0 : 0 < ts.length := by omega
                        obtain ⟨g, o2, rfl, h9⟩ := hg.tls.at (j := 0) hl0
                        rw [Nat.zero_mul, Nat.add_zero] at h9
                        have he := hg.tls.each 0 hl0
                        obtain ⟨xp, hxp⟩ : ∃ xp, xp = (ts.getD 0 tl0).part := ⟨_, rfl⟩
                        obtain ⟨xr, hxr⟩ : ∃ xr, xr = (ts.getD 0 tl0).req := ⟨_, rfl⟩
                        obtain ⟨xv, hxv⟩ : ∃ xv, xv = (ts.getD 0 tl0).v := ⟨_, rfl⟩
                        rw [← hxp, ← hxr, ← hxv] at he
                        obtain ⟨rt, hrt⟩ : ∃ rt, rt = rs.getD 0 rt0 := ⟨_, rfl⟩
                        rw [← hrt] at he h9
                        obtain ⟨rp, rr, rB⟩ := rt
                        obtain ⟨he1, he2, he3, he4⟩ := he
                        simp only at he1 he2 he3
                        subst he1 he2
                        have HGI : Hid (Gi w5 wi hI p cp s t F (some ⟨g, o2, none⟩) cl rs ts oo co rq qs (M1 + 1) ∧ nl = ts.length ∧ nz = qs.length ∧ 0 < ts.length ∧ rq.length = qs.length) := ⟨hg, hnl, hnz, hl0, hg.out.len⟩
                        have hfl : FitL [xv] := ⟨by simp, fun u hu => by rcases List.mem_cons.1 hu with rfl | hu; exact he4; cases hu⟩
                        obtain ⟨O, hO⟩ : ∃ O, O = recvO s rp 7 rr [xv] 1 1 t := ⟨_, rfl⟩
                        have HO : Hid (WfR O.s ∧ TB2 O t) := by rw [hO]; exact ⟨hg.rc.wf.recv hfl, recv_tb hg.rc.wf hfl⟩
                        have HRV : Hid (∀ Y, Keeps (fun _ => False) wi Y → Calls Try.prog 13 #[.pointer (some ⟨p, 0, none⟩), .int .i64 rp, .agg #[.int .i64 7, .int .i64 3, .int .u64 (rr : Nat), .int .u64 0, .slice none 0 0, .slice none 0 0, .slice none 0 0, .slice (some ⟨rB, 0, none⟩) 1 1]] Y (TellTo Y p cp 1 1 F O)) := fun Y hY => by
                          have hgy := hg.keepsN hY
                          obtain ⟨rv, h1, h2, h3⟩ := (he3.keepsN hY).ex
                          rw [hO]
                          exact rReceive_any Y p cp 1 1 F s t hgy.rc.is hgy.rc.wf hgy.rc.ct (by have := hg.tb; omega) hgy.rc.cF rp 7 3 rr 0 none none none (some ⟨rB, 0, none⟩) 0 0 0 1 0 0 0 1 [rv] [xv] rfl (vers_one h1 h2) hfl
                        have HS9 : Hid (At9t wi g o2 ⟨rp, rr, rB⟩) := h9
                        have hnl1 : (0 : Int) < (nl : Int) := by omega
                        have hnl2 : 0 < nl := by omega
                        have hM2 : M1 + 1 ≤ N := hM
                        have hMi : (M1 : Int) ≤ 121 := by omega
                        have HRT : Hid (rs.getD 0 rt0 = ⟨rp, rr, rB⟩) := hrt.symm
                        clear hg hnl hnz hl0 h9 he3 he4 hxp hxr hxv hrt hfl hO hb2 HBC HG HMN hM hMb
                        go_wp2_with fail
                        refine wp_region_held_drew (S := fun X => At9t X g o2 ⟨rp, rr, rB⟩) (by kernel_rfl) ?_ (fun hHeld => ?_)
                        · exact HS9.out.keepsN ((Keeps.refl _ _).drew)
                        refine wpAnyH_take (i := 0) (v := ?_) (by simp only [List.getElem?_toArray, List.getElem?_cons_succ, List.getElem?_cons_zero]; rfl) (by kernel_rfl) (by kernel_rfl) (by kernel_rfl) (by exact fun _ _ _ h => h) (Or.inl ⟨by rfl, ?_⟩) (by assumption) ?_
                        rotate_left
                        · (intro _ hSw; (try dsimp only at hSw); go_simp; (try with_reducible rfl))
                        try simp only [Act.put, List.setIfInBounds_toArray, List.set_cons_zero, List.set_cons_succ]
                        refine wpAnyH_take (i := 1) (v := ?_) (by simp only [List.getElem?_toArray, List.getElem?_cons_succ, List.getElem?_cons_zero]; rfl) (by kernel_rfl) (by kernel_rfl) (by kernel_rfl) (by exact fun _ _ _ h => h) (Or.inl ⟨by rfl, ?_⟩) (by assumption) ?_
                        rotate_left
                        · (intro _ hSw; (try dsimp only at hSw); go_simp; (try with_reducible rfl))
                        try simp only [Act.put, List.setIfInBounds_toArray, List.set_cons_zero, List.set_cons_succ]
                        refine wpAnyH_take (i := 2) (v := ?_) (by simp only [List.getElem?_toArray, List.getElem?_cons_succ, List.getElem?_cons_zero]; rfl) (by kernel_rfl) (by kernel_rfl) (by kernel_rfl) (by exact fun _ _ _ h => h) (Or.inl ⟨by rfl, ?_⟩) (by assumption) ?_
                        rotate_left
                        · (intro _ hSw; (try dsimp only at hSw); go_simp; (try with_reducible rfl))
                        try simp only [Act.put, List.setIfInBounds_toArray, List.set_cons_zero, List.set_cons_succ]
                        refine wpAnyH_take (i := 3) (v := ?_) (by simp only [List.getElem?_toArray, List.getElem?_cons_succ, List.getElem?_cons_zero]; rfl) (by kernel_rfl) (by kernel_rfl) (by kernel_rfl) (by exact fun _ _ _ h => h) (Or.inl ⟨by rfl, ?_⟩) (by assumption) ?_
                        rotate_left
                        · (intro _ hSw; (try dsimp only at hSw); go_simp; (try with_reducible rfl))
                        try simp only [Act.put, List.setIfInBounds_toArray, List.set_cons_zero, List.set_cons_succ]
                        refine wpAnyH_take (i := 4) (v := ?_) (by simp only [List.getElem?_toArray, List.getElem?_cons_succ, List.getElem?_cons_zero]; rfl) (by kernel_rfl) (by kernel_rfl) (by kernel_rfl) (by exact fun _ _ _ h => h) (Or.inl ⟨by rfl, ?_⟩) (by assumption) ?_
                        rotate_left
                        · (intro _ hSw; (try dsimp only at hSw); go_simp; (try with_reducible rfl))
                        try simp only [Act.put, List.setIfInBounds_toArray, List.set_cons_zero, List.set_cons_succ]
                        refine wpAnyH_take (i := 5) (v := ?_) (by simp only [List.getElem?_toArray, List.getElem?_cons_succ, List.getElem?_cons_zero]; rfl) (by kernel_rfl) (by kernel_rfl) (by kernel_rfl) (by exact fun _ _ _ h => h) (Or.inl ⟨by rfl, ?_⟩) (by assumption) ?_
                        rotate_left
                        · (intro _ hSw; (try dsimp only at hSw); have z0 := hSw.c0; go_simp; (try with_reducible rfl))
                        try simp only [Act.put, List.setIfInBounds_toArray, List.set_cons_zero, List.set_cons_succ]
                        refine wpAnyH_take (i := 6) (v := ?_) (by simp only [List.getElem?_toArray, List.getElem?_cons_succ, List.getElem?_cons_zero]; rfl) (by kernel_rfl) (by kernel_rfl) (by kernel_rfl) (by exact fun _ _ _ h => h) (Or.inl ⟨by rfl, ?_⟩) (by assumption) ?_
                        rotate_left
                        · (intro _ hSw; (try dsimp only at hSw); go_simp; (try with_reducible rfl))
                        try simp only [Act.put, List.setIfInBounds_toArray, List.set_cons_zero, List.set_cons_succ]
                        refine wpAnyH_take (i := 7) (v := ?_) (by simp only [List.getElem?_toArray, List.getElem?_cons_succ, List.getElem?_cons_zero]; rfl) (by kernel_rfl) (by kernel_rfl) (by kernel_rfl) (by exact fun _ _ _ h => h) (Or.inl ⟨by rfl, ?_⟩) (by assumption) ?_
                        rotate_left
                        · (intro _ hSw; (try dsimp only at hSw); go_simp; (try with_reducible rfl))
                        try simp only [Act.put, List.setIfInBounds_toArray, List.set_cons_zero, List.set_cons_succ]
                        refine wpAnyH_take (i := 8) (v := ?_) (by simp only [List.getElem?_toArray, List.getElem?_cons_succ, List.getElem?_cons_zero]; rfl) (by kernel_rfl) (by kernel_rfl) (by kernel_rfl) (by exact fun _ _ _ h => h) (Or.inl ⟨by rfl, ?_⟩) (by assumption) ?_
                        rotate_left
                        · (intro _ hSw; (try dsimp only at hSw); go_simp; (try with_reducible rfl))
                        try simp only [Act.put, List.setIfInBounds_toArray, List.set_cons_zero, List.set_cons_succ]
                        refine wpAnyH_take (i := 9) (v := ?_) (by simp only [List.getElem?_toArray, List.getElem?_cons_succ, List.getElem?_cons_zero]; rfl) (by kernel_rfl) (by kernel_rfl) (by kernel_rfl) (by exact fun _ _ _ h => h) (Or.inl ⟨by rfl, ?_⟩) (by assumption) ?_
                        rotate_left
                        · (intro _ hSw; (try dsimp only at hSw); have z1 := hSw.c1; have z2 := hSw.c2; have z3 := hSw.c3; have z4 := hSw.c4; have z5 := hSw.c5; have z6 := hSw.c6; have z7 := hSw.c7; have z8 := hSw.c8; go_simp; (try with_reducible rfl))
                        try simp only [Act.put, List.setIfInBounds_toArray, List.set_cons_zero, List.set_cons_succ]
                        refine wpAnyH_ready (rs := [10]) (by kernel_rfl) (by simp) ?_
                        refine (AllReadyH.cons (by simp only [List.getElem?_toArray, List.getElem?_cons_succ, List.getElem?_cons_zero]; rfl) (fun Kq hKq => ?_) AllReadyH.nil)
                        go_simp
                        refine Calls.mono (HRV.out _ ((Keeps.refl _ wi).drew)) ?_
                        rintro e wb2 ⟨o9, n9, c9, r9, G, rfl, ht⟩
                        have HGX : Hid (Gx w5 wi.drew wb2 hI p cp O G (some ⟨g, o2, none⟩) cl rs ts oo co rq qs o9 c9 r9 ∧ n9 = O.told.length ∧ r9.length = O.told.length ∧ (o9 = none → c9 = 0)) := ⟨(HGI.out.1.keepsN ((Keeps.refl _ wi).drew)).tell ht HO.out.1 HO.out.2, ht.n, ht.tq.len, ht.tq.own.cap.2⟩
                        have hSb : At9t wb2 g o2 ⟨rp, rr, rB⟩ := by
                          obtain ⟨b6, o6, e6, h6⟩ := HGX.out.1.tls.at (j := 0) HGI.out.2.2.2.1
                          cases e6
                          rw [HRT.out, Nat.zero_mul, Nat.add_zero] at h6
                          exact h6
                        clear ht HRV
                        refine hKq.out _ _ ?_ (fun hHeldN => ?_)
                        · exact hSb
                        clear hKq Kq hHeld
                        have hHeld := hHeldN
                        clear hHeldN
                        refine wpAnyH_ready (rs := [11]) (by kernel_rfl) (by simp) ?_
                        refine (AllReadyH.cons (by simp only [List.getElem?_toArray, List.getElem?_cons_succ, List.getElem?_cons_zero]; rfl) (fun Kq hKq => ?_) AllReadyH.nil)
                        refine step_app1 okQ rfl (.tmp 116) (.tmp 126) rfl oo nz co rq rfl (by have := HGI.out.2.2.1; have := HGI.out.2.2.2.2; omega) HGX.out.1.out.own o9 n9 c9 r9 rfl (by have := HGX.out.2; omega) HGX.out.2.2.2 HGX.out.1.told.own.row (by have := HGI.out.1.qb; have := HGI.out.2.2.2.2; have := HO.out.2.n; have := HGX.out.2.2.1; simp [QE]; omega) (by have := HGI.out.1.qb; have := HGI.out.2.2.2.2; have := HO.out.2.n; have := HGX.out.2.2.1; omega) ?_
                        intro o5 c5 w6 ho5 hap5
                        have HP : Hid (Gi w5 w6 hI p cp O.s O.t G (some ⟨g, o2, none⟩) cl rs ts o5 c5 (rq ++ r9) (qs ++ O.told) M1) := HGX.out.1.app ho5 hap5 (by have := HGI.out.1.tb; have := HO.out.2.t; omega) (by have := HGI.out.1.qb; have := HO.out.2.n; omega)
                        have hS6 : At9t w6 g o2 ⟨rp, rr, rB⟩ := by
                          obtain ⟨b6, o6, e6, h6⟩ := HP.out.tls.at (j := 0) HGI.out.2.2.2.1
                          cases e6
                          rw [HRT.out, Nat.zero_mul, Nat.add_zero] at h6
                          exact h6
                        have HN9 : Hid (nz + n9 = (qs ++ O.told).length) := by show _ = _; rw [List.length_append, HGI.out.2.2.1, HGX.out.2.1]
                        clear ho5 hap5
                        refine hKq.out _ _ ?_ (fun hHeldN => ?_)
                        · exact hS6
                        clear hKq Kq hHeld
                        have hHeld := hHeldN
                        clear hHeldN
                        refine wpAnyH_take (i := 12) (v := ?_) (by simp only [List.getElem?_toArray, List.getElem?_cons_succ, List.getElem?_cons_zero]; rfl) (by kernel_rfl) (by kernel_rfl) (by kernel_rfl) (by exact fun _ _ _ h => h) (Or.inl ⟨by rfl, ?_⟩) (by assumption) ?_
                        rotate_left
                        · (intro _ hSw; (try dsimp only at hSw); go_simp; (try with_reducible rfl))
                        try simp only [Act.put, List.setIfInBounds_toArray, List.set_cons_zero, List.set_cons_succ]
                        refine wpAnyH_done (by kernel_rfl) ?_ _
                        clear hHeld hSb hS6 HGX HO HS9
                        go_upto_region 28 with fail
                        have htl := HP.out.tail HGI.out.2.2.2.1
                        have hcl1 : (1 : Int) ≤ (cl : Int) := by have := htl.2.1; omega
                        have hnlc : (nl : Int) ≤ (cl : Int) := by have := htl.2.2.1; have := HGI.out.2.1; omega
                        have hnl3 : (1 : Int) ≤ (nl : Int) := by omega
                        have HTL : Hid (Gi w5 w6 hI p cp O.s O.t G (some ⟨g, o2 + 9, none⟩) (cl - 1) rs.tail ts.tail o5 c5 (rq ++ r9) (qs ++ O.told) M1 ∧ nl - 1 = ts.tail.length) := ⟨htl.1, by rw [List.length_tail, HGI.out.2.1]⟩
                        have HT1 : Hid (cl = 1 → nl = 1 ∧ Gi w5 w6 hI p cp O.s O.t G (some ⟨g, o2, none⟩) 0 [] [] o5 c5 (rq ++ r9) (qs ++ O.told) M1) := fun e => ⟨by have := htl.2.2.1; have := HGI.out.2.1; omega, htl.2.2.2 e⟩
                        have HMN1 : Hid (M1 < N ∨ nz + n9 = 0) := .inl (by omega)
                        clear htl HP HGI
                        by_cases hc1 : cl = 1
                        · have hx1 := HT1.out hc1
                          have hx2 := hx1.1
                          have HX3 : Hid (Gi w5 w6 hI p cp O.s O.t G (some ⟨g, o2, none⟩) 0 [] [] o5 c5 (rq ++ r9) (qs ++ O.told) M1) := hx1.2
                          clear hx1 HTL HT1
                          subst hc1
                          clear hnlc
                          have hnlE : nl = 1 := hx2
                          clear hx2
                          subst hnlE
                          go_wp2_with fail
                          go_roundw
                          case rel => exact ⟨M1, _, 0, 0, o5, nz + n9, c5, by omega, by omega, by go_num, rfl, rfl, ⟨_, _, _, _, _, _, _, HX3.out, rfl, HN9.out⟩, HMN1⟩
                          case measure => first | (simp [intOf]; done) | (simp [intOf]; omega)
                        · clear HT1
                          go_wp2_with fail
                          go_roundw
                          case rel => exact ⟨M1, _, nl - 1, cl - 1, o5, nz + n9, c5, by omega, by omega, by go_num, rfl, rfl, ⟨_, _, _, _, _, _, _, HTL.out.1, HTL.out.2, HN9.out⟩, HMN1⟩
                          case measure => first | (simp [intOf]; done) | (simp [intOf]; omega)
                      | false =>
                        have HE : Hid (GvE w5 wi p cp M ol nl cl oo nz co) := by
                          obtain ⟨s, t, F, rs, ts, rq, qs, hg, hnl, hnz⟩ := HG.out
                          refine ⟨s, t, F, rs, ts, rq, qs, hg.gv, hnl, hnz, ?_⟩
                          have hb : ¬ (0 < nl ∧ 0 < M) := fun h => by have := HBC.out.2 h; cases this
                          omega
                        have HML : Hid (M ≤ N ∧ (M < N ∨ nz = 0)) := ⟨hM, HMN.out⟩
                        clear HG HBC HMN
                        go_wp2_with fail
                        go_roundw
                        case rel => exact ⟨M, ol, nl, cl, oo, nz, co, hMb, rfl, rfl, rfl, HE⟩
                        case measure =>
                          have h1 := HML.out
                          have h2 := HNP.out
                          simp [intOf, lenB]
                          rw [if_neg (show ¬ nq = 0 by omega)]
                          split <;> omega
            | false =>
              obtain ⟨s, t, F, rs, ts, rq, qs, hg, hnl, _, _⟩ := HG.out
              have HGF : Hid (Gv w5 wr p cp s t F ol cl rs ts oo co rq qs N ∧ nl = ts.length) := ⟨hg, hnl⟩
              have HRS : Hid (∀ Y, Keeps (fun _ => False) wr Y → Calls Try.prog 16 #[.pointer (some ⟨p, 0, none⟩)] Y fun e w' => e = .returned (.int .i64 (s.ended : Nat)) ∧ Keeps (fun _ => False) Y w') := fun Y hY => rResult_any Y p cp F s (hg.rc.keepsN hY).is
              have HVS : Hid (∀ Y, Keeps (fun _ => False) wr Y → Calls Try.prog 15 #[.pointer (some ⟨p, 0, none⟩)] Y (VersTo Y (readR s))) := fun Y hY => rVersions_any Y p cp F s (hg.rc.keepsN hY).is hg.rc.wf
              have hnlb : (nl : Int) ≤ 9223372036854775807 := by
                have h1 := hg.tls.own.small
                have h2 := hg.tls.len
                unfold maxLen at h1
                omega
              clear hg hnl HG HBC
              go_wp2_with fail
              refine (HRS.out _ (Keeps.refl _ _)).mono ?_
              rintro e w13 ⟨rfl, hk13⟩
              have HK13 : Hid (Keeps (fun _ => False) wr w13) := hk13
              clear hk13
              go_wp2_with fail
              refine (HVS.out _ HK13.out).mono ?_
              rintro e w14 ⟨vo, vn, vc, vrs, rfl, hvn, hnv⟩
              have HG14 : Hid (Gv w5 w14 p cp s t F ol cl rs ts oo co rq qs N ∧ nl = ts.length) := ⟨(HGF.out.1.keepsN HK13.out).keepsN hnv.kp, HGF.out.2⟩
              have HV14 : Hid (vn = (readR s).length ∧ Vers w14 vo vc vrs (readR s) ∧ ∀ i, VB vo vrs (readR s).length i → ¬ F i) := ⟨hvn, hnv.vers, fun i hi hf => by
                have h1 := (hnv.vb i hi).1
                have h2 := (HGF.out.1.keepsN HK13.out).rc.lt i (.inl hf)
                omega⟩
              have ct1 : w14.cell? ⟨cp, 2, none⟩ = some (.int .i64 (t : Nat)) := by rw [cell_of_blk HG14.out.1.rc.ct]; rfl
              have HGV : Hid (Calls Try.prog 21 #[.pointer (some ⟨p, 0, none⟩)] w14 fun e w' => e = .returned (.tuple #[]) ∧ IsRd w' p cp F (giveS s) ∧ Keeps F w14 w') := rGive_any w14 p cp F s HG14.out.1.rc.is HG14.out.1.rc.wf
              have hFR : Hid (FitL (readR s)) := by
                unfold readR
                show FitL _
                split
                · exact HG14.out.1.rc.wf.of
                · exact fitL_nil
              clear hvn hnv HGF HRS HVS HK13
              go_wp2_with fail
              refine HGV.out.mono ?_
              rintro e w15 ⟨rfl, hi15, hk15⟩
              have hrc := HG14.out.1.rc.give hi15 hk15
              have htl := (HG14.out.1.tls.keeps hk15 (fun i h1 _ h2 => h1.1 (.inl h2)))
              have HR15 : Hid (Rc w5 w15 p cp 1 1 (giveS s) t F ∧ Tls w15 (Zr w5 F cp) ol cl rs ts ∧ nl = ts.length ∧ t ≤ 20000) := ⟨hrc, htl, HG14.out.2, by have := HG14.out.1.tb; omega⟩
              have HV15 : Hid (vn = (readR s).length ∧ Vers w15 vo vc vrs (readR s)) := ⟨HV14.out.1, HV14.out.2.1.keeps hk15 HV14.out.2.2⟩
              clear hi15 hk15 hrc htl HV14 HG14 HGV ct1
              by_cases he : s.ended = 0
              · have he1 : ((s.ended : Nat) : Int) = 0 := by omega
                rw [he1]
                have HS3 : Hid (giveS s = endS s 3 []) := by show _ = _; unfold giveS; rw [if_pos he]
                rw [HS3.out] at HR15
                have hs3 : ¬ (endS s 3 []).ended = 0 := by show ¬ 3 = 0; decide
                have HBG : Hid (∀ Y, Rc w5 Y p cp 1 1 (endS s 3 []) t F → Calls Try.prog 10 #[.pointer (some ⟨p, 0, none⟩)] Y (TellTo Y p cp 1 1 F ⟨endS s 3 [], [], t⟩)) := fun Y h => by
                  have h1 := rBegin_any Y p cp 1 1 F _ t h.is h.wf h.ct (by have := HR15.out.2.2.2; omega) h.cF
                  rw [begin_ended hs3] at h1
                  exact h1
                have HSE : Hid (¬ (endS s 3 []).ended = 0 ∧ (endS s 3 []).ended = 3 ∧ readR (endS s 3 []) = []) := ⟨hs3, rfl, rfl⟩
                clear hs3 he he1 HS3 HV15
                generalize endS s 3 [] = s3 at HR15 HBG HSE
                go_wp2_with fail
                refine (HBG.out _ HR15.out.1).mono ?_
                rintro e w16 ⟨o16, n16, c16, r16, G, rfl, ht⟩
                have hgi : Gi w5 w15 w15.heap.size p cp s3 t F ol cl rs ts none 0 [] [] 0 := ⟨HR15.out.1, HR15.out.2.1.mono (fun i h1 h2 => ⟨h1, h2⟩), outS_nil _ _, Nat.le_refl _, by have := HR15.out.2.2.2; omega, by simp⟩
                have hgx := hgi.tell ht HR15.out.1.wf (tb2_none s3 t)
                have HR16 : Hid (Rc w5 w16 p cp 1 1 s3 t G ∧ Tls w16 (Zr w5 G cp) ol cl rs ts ∧ nl = ts.length ∧ t ≤ 20000) := ⟨hgx.rc, hgx.tls.mono (fun i h1 _ => h1.1), HR15.out.2.2.1, HR15.out.2.2.2⟩
                have hn16 : n16 = 0 := ht.n
                subst hn16
                clear ht hgi hgx HR15 HBG
                have HAG : Hid (Calls Try.prog 11 #[.pointer (some ⟨p, 0, none⟩)] w16 (TellTo w16 p cp 1 1 G ⟨s3, [], t⟩)) := rAgain_end HR16.out.1.is HR16.out.1.ct HSE.out.1
                go_wp2_with fail
                refine HAG.out.mono ?_
                rintro e w17 ⟨o17, n17, c17, r17, G2, rfl, ht⟩
                have hgi : Gi w5 w16 w16.heap.size p cp s3 t G ol cl rs ts none 0 [] [] 0 := ⟨HR16.out.1, HR16.out.2.1.mono (fun i h1 h2 => ⟨h1, h2⟩), outS_nil _ _, Nat.le_refl _, by have := HR16.out.2.2.2; omega, by simp⟩
                have hgx := hgi.tell ht HR16.out.1.wf (tb2_none s3 t)
                have HR17 : Hid (Gi w5 w17 w17.heap.size p cp s3 t G2 ol cl rs ts none 0 [] [] 0 ∧ nl = ts.length ∧ t ≤ 20000) := ⟨⟨hgx.rc, hgx.tls.mono (fun i h1 h2 => ⟨h1.1, h2⟩), outS_nil _ _, Nat.le_refl _, by have := HR16.out.2.2.2; omega, by simp⟩, HR16.out.2.2.1, HR16.out.2.2.2⟩
                have hn17 : n17 = 0 := ht.n
                subst hn17
                clear ht hgi hgx HR16 HAG
                generalize w17.heap.size = hZ at HR17
                go_wp2_with fail
                go_loopw [21, 22] (fun s21 s22 wz => ∃ (k : Nat) (zo : Option Addr) (zc : Nat), k ≤ nl ∧ s22 = .int .i64 (k : Nat) ∧ s21 = .slice zo 0 zc ∧ Hid (∃ F, Gi w5 wz hZ p cp s3 t F ol cl rs ts zo zc [] [] 0)) (fun _ s22 _ => nl - (intOf s22).toNat)
                case atStart => exact ⟨0, none, 0, by omega, rfl, rfl, _, HR17.out.1⟩
                case round =>
                  rename World => wz
                  obtain ⟨k, zo, zc, hk, rfl, rfl, HF⟩ := hrel
                  by_cases hltk : k < nl
                  · have hltk' : (k : Int) < nl := by omega
                    obtain ⟨F3, hg⟩ := HF.out
                    have hkt : k < ts.length := by have := HR17.out.2.1; omega
                    obtain ⟨g, o2, rfl, h9⟩ := hg.tls.at (j := k) hkt
                    obtain ⟨he1, he2, he3, he4⟩ := hg.tls.each k hkt
                    obtain ⟨xv, hxv⟩ : ∃ xv, xv = (ts.getD k tl0).v := ⟨_, rfl⟩
                    rw [← hxv] at he3 he4
                    obtain ⟨rt, hrt⟩ : ∃ rt, rt = rs.getD k rt0 := ⟨_, rfl⟩
                    rw [← hrt] at he3 h9
                    obtain ⟨rp, rr, rB⟩ := rt
                    simp only at he3
                    have hfl : FitL [xv] := ⟨by simp, fun u hu => by rcases List.mem_cons.1 hu with rfl | hu; exact he4; cases hu⟩
                    have HRV : Hid (∀ Y, Keeps (fun _ => False) wz Y → Calls Try.prog 13 #[.pointer (some ⟨p, 0, none⟩), .int .i64 rp, .agg #[.int .i64 7, .int .i64 3, .int .u64 (rr : Nat), .int .u64 0, .slice none 0 0, .slice none 0 0, .slice none 0 0, .slice (some ⟨rB, 0, none⟩) 1 1]] Y (TellTo Y p cp 1 1 F3 ⟨s3, [], t⟩)) := fun Y hY => by
                      have hgy := hg.keepsN hY
                      obtain ⟨rv, h1, h2, h3⟩ := (he3.keepsN hY).ex
                      have h4 := rReceive_any Y p cp 1 1 F3 s3 t hgy.rc.is hgy.rc.wf hgy.rc.ct (by have := HR17.out.2.2; omega) hgy.rc.cF rp 7 3 rr 0 none none none (some ⟨rB, 0, none⟩) 0 0 0 1 0 0 0 1 [rv] [xv] rfl (vers_one h1 h2) hfl
                      rw [recv_ended HSE.out.1] at h4
                      exact h4
                    have HGI : Hid (Gi w5 wz hZ p cp s3 t F3 (some ⟨g, o2, none⟩) cl rs ts zo zc [] [] 0 ∧ k < ts.length ∧ rs.getD k rt0 = ⟨rp, rr, rB⟩) := ⟨hg, hkt, hrt.symm⟩
                    have HS9 : Hid (At9t wz g (o2 + k * 9) ⟨rp, rr, rB⟩) := h9
                    clear hg hkt h9 he1 he2 he3 he4 hxv hrt hfl HF
                    go_wp2_with fail
                    refine wp_region_held_drew (S := fun X => At9t X g (o2 + k * 9) ⟨rp, rr, rB⟩) (by kernel_rfl) ?_ (fun hHeld => ?_)
                    · exact HS9.out.keepsN ((Keeps.refl _ _).drew)
                    refine wpAnyH_take (i := 0) (v := ?_) (by simp only [List.getElem?_toArray, List.getElem?_cons_succ, List.getElem?_cons_zero]; rfl) (by kernel_rfl) (by kernel_rfl) (by kernel_rfl) (by exact fun _ _ _ h => h) (Or.inl ⟨by rfl, ?_⟩) (by assumption) ?_
                    rotate_left
                    · (intro _ hSw; (try dsimp only at hSw); go_simp; (try with_reducible rfl))
                    try simp only [Act.put, List.setIfInBounds_toArray, List.set_cons_zero, List.set_cons_succ]
                    refine wpAnyH_take (i := 1) (v := ?_) (by simp only [List.getElem?_toArray, List.getElem?_cons_succ, List.getElem?_cons_zero]; rfl) (by kernel_rfl) (by kernel_rfl) (by kernel_rfl) (by exact fun _ _ _ h => h) (Or.inl ⟨by rfl, ?_⟩) (by assumption) ?_
                    rotate_left
                    · (intro _ hSw; (try dsimp only at hSw); go_simp; (try with_reducible rfl))
                    try simp only [Act.put, List.setIfInBounds_toArray, List.set_cons_zero, List.set_cons_succ]
                    refine wpAnyH_take (i := 2) (v := ?_) (by simp only [List.getElem?_toArray, List.getElem?_cons_succ, List.getElem?_cons_zero]; rfl) (by kernel_rfl) (by kernel_rfl) (by kernel_rfl) (by exact fun _ _ _ h => h) (Or.inl ⟨by rfl, ?_⟩) (by assumption) ?_
                    rotate_left
                    · (intro _ hSw; (try dsimp only at hSw); go_simp; (try with_reducible rfl))
                    try simp only [Act.put, List.setIfInBounds_toArray, List.set_cons_zero, List.set_cons_succ]
                    refine wpAnyH_take (i := 3) (v := ?_) (by simp only [List.getElem?_toArray, List.getElem?_cons_succ, List.getElem?_cons_zero]; rfl) (by kernel_rfl) (by kernel_rfl) (by kernel_rfl) (by exact fun _ _ _ h => h) (Or.inl ⟨by rfl, ?_⟩) (by assumption) ?_
                    rotate_left
                    · (intro _ hSw; (try dsimp only at hSw); go_simp; (try with_reducible rfl))
                    try simp only [Act.put, List.setIfInBounds_toArray, List.set_cons_zero, List.set_cons_succ]
                    refine wpAnyH_take (i := 4) (v := ?_) (by simp only [List.getElem?_toArray, List.getElem?_cons_succ, List.getElem?_cons_zero]; rfl) (by kernel_rfl) (by kernel_rfl) (by kernel_rfl) (by exact fun _ _ _ h => h) (Or.inl ⟨by rfl, ?_⟩) (by assumption) ?_
                    rotate_left
                    · (intro _ hSw; (try dsimp only at hSw); go_simp; (try with_reducible rfl))
                    try simp only [Act.put, List.setIfInBounds_toArray, List.set_cons_zero, List.set_cons_succ]
                    refine wpAnyH_take (i := 5) (v := ?_) (by simp only [List.getElem?_toArray, List.getElem?_cons_succ, List.getElem?_cons_zero]; rfl) (by kernel_rfl) (by kernel_rfl) (by kernel_rfl) (by exact fun _ _ _ h => h) (Or.inl ⟨by rfl, ?_⟩) (by assumption) ?_
                    rotate_left
                    · (intro _ hSw; (try dsimp only at hSw); go_simp; (try with_reducible rfl))
                    try simp only [Act.put, List.setIfInBounds_toArray, List.set_cons_zero, List.set_cons_succ]
                    refine wpAnyH_take (i := 6) (v := ?_) (by simp only [List.getElem?_toArray, List.getElem?_cons_succ, List.getElem?_cons_zero]; rfl) (by kernel_rfl) (by kernel_rfl) (by kernel_rfl) (by exact fun _ _ _ h => h) (Or.inl ⟨by rfl, ?_⟩) (by assumption) ?_
                    rotate_left
                    · (intro _ hSw; (try dsimp only at hSw); have z0 := hSw.c0; go_simp; (try with_reducible rfl))
                    try simp only [Act.put, List.setIfInBounds_toArray, List.set_cons_zero, List.set_cons_succ]
                    refine wpAnyH_take (i := 7) (v := ?_) (by simp only [List.getElem?_toArray, List.getElem?_cons_succ, List.getElem?_cons_zero]; rfl) (by kernel_rfl) (by kernel_rfl) (by kernel_rfl) (by exact fun _ _ _ h => h) (Or.inl ⟨by rfl, ?_⟩) (by assumption) ?_
                    rotate_left
                    · (intro _ hSw; (try dsimp only at hSw); go_simp; (try with_reducible rfl))
                    try simp only [Act.put, List.setIfInBounds_toArray, List.set_cons_zero, List.set_cons_succ]
                    refine wpAnyH_take (i := 8) (v := ?_) (by simp only [List.getElem?_toArray, List.getElem?_cons_succ, List.getElem?_cons_zero]; rfl) (by kernel_rfl) (by kernel_rfl) (by kernel_rfl) (by exact fun _ _ _ h => h) (Or.inl ⟨by rfl, ?_⟩) (by assumption) ?_
                    rotate_left
                    · (intro _ hSw; (try dsimp only at hSw); go_simp; (try with_reducible rfl))
                    try simp only [Act.put, List.setIfInBounds_toArray, List.set_cons_zero, List.set_cons_succ]
                    refine wpAnyH_take (i := 9) (v := ?_) (by simp only [List.getElem?_toArray, List.getElem?_cons_succ, List.getElem?_cons_zero]; rfl) (by kernel_rfl) (by kernel_rfl) (by kernel_rfl) (by exact fun _ _ _ h => h) (Or.inl ⟨by rfl, ?_⟩) (by assumption) ?_
                    rotate_left
                    · (intro _ hSw; (try dsimp only at hSw); go_simp; (try with_reducible rfl))
                    try simp only [Act.put, List.setIfInBounds_toArray, List.set_cons_zero, List.set_cons_succ]
                    refine wpAnyH_take (i := 10) (v := ?_) (by simp only [List.getElem?_toArray, List.getElem?_cons_succ, List.getElem?_cons_zero]; rfl) (by kernel_rfl) (by kernel_rfl) (by kernel_rfl) (by exact fun _ _ _ h => h) (Or.inl ⟨by rfl, ?_⟩) (by assumption) ?_
                    rotate_left
                    · (intro _ hSw; (try dsimp only at hSw); go_simp; (try with_reducible rfl))
                    try simp only [Act.put, List.setIfInBounds_toArray, List.set_cons_zero, List.set_cons_succ]
                    refine wpAnyH_take (i := 11) (v := ?_) (by simp only [List.getElem?_toArray, List.getElem?_cons_succ, List.getElem?_cons_zero]; rfl) (by kernel_rfl) (by kernel_rfl) (by kernel_rfl) (by exact fun _ _ _ h => h) (Or.inl ⟨by rfl, ?_⟩) (by assumption) ?_
                    rotate_left
                    · (intro _ hSw; (try dsimp only at hSw); have z1 := hSw.c1; have z2 := hSw.c2; have z3 := hSw.c3; have z4 := hSw.c4; have z5 := hSw.c5; have z6 := hSw.c6; have z7 := hSw.c7; have z8 := hSw.c8; go_simp; (try with_reducible rfl))
                    try simp only [Act.put, List.setIfInBounds_toArray, List.set_cons_zero, List.set_cons_succ]
                    refine wpAnyH_ready (rs := [12]) (by kernel_rfl) (by simp) ?_
                    refine (AllReadyH.cons (by simp only [List.getElem?_toArray, List.getElem?_cons_succ, List.getElem?_cons_zero]; rfl) (fun Kq hKq => ?_) AllReadyH.nil)
                    go_simp
                    refine Calls.mono (HRV.out _ ((Keeps.refl _ wz).drew)) ?_
                    rintro e wb2 ⟨o9, n9, c9, r9, G, rfl, ht⟩
                    have HGX : Hid (Gx w5 wz.drew wb2 hZ p cp ⟨s3, [], t⟩ G (some ⟨g, o2, none⟩) cl rs ts zo zc [] [] o9 c9 r9 ∧ n9 = 0 ∧ r9 = [] ∧ (o9 = none → c9 = 0)) := ⟨(HGI.out.1.keepsN ((Keeps.refl _ wz).drew)).tell ht HGI.out.1.rc.wf (tb2_none s3 t), ht.n, List.length_eq_zero_iff.1 ht.tq.len, ht.tq.own.cap.2⟩
                    have hSb : At9t wb2 g (o2 + k * 9) ⟨rp, rr, rB⟩ := by
                      obtain ⟨b6, o6, e6, h6⟩ := HGX.out.1.tls.at (j := k) HGI.out.2.1
                      cases e6
                      rw [HGI.out.2.2] at h6
                      exact h6
                    have hn9 : n9 = 0 := HGX.out.2.1
                    subst hn9
                    clear ht HRV
                    refine hKq.out _ _ ?_ (fun hHeldN => ?_)
                    · exact hSb
                    clear hKq Kq hHeld
                    have hHeld := hHeldN
                    clear hHeldN
                    refine wpAnyH_ready (rs := [13]) (by kernel_rfl) (by simp) ?_
                    refine (AllReadyH.cons (by simp only [List.getElem?_toArray, List.getElem?_cons_succ, List.getElem?_cons_zero]; rfl) (fun Kq hKq => ?_) AllReadyH.nil)
                    refine step_app1 okQ rfl (.tmp 164) (.tmp 176) rfl zo 0 zc [] rfl rfl HGX.out.1.out.own o9 0 c9 [] rfl rfl HGX.out.2.2.2 (.inl rfl) (by simp) (by simp) ?_
                    intro o5 c5 w6 ho5 hap5
                    have HP : Hid (Gi w5 w6 hZ p cp s3 t G (some ⟨g, o2, none⟩) cl rs ts o5 c5 [] [] 0) := by
                      have h1 := HGX.out.1
                      rw [HGX.out.2.2.1] at h1
                      exact h1.app ho5 hap5 (by have := HR17.out.2.2; omega) (by simp)
                    have hS6 : At9t w6 g (o2 + k * 9) ⟨rp, rr, rB⟩ := by
                      obtain ⟨b6, o6, e6, h6⟩ := HP.out.tls.at (j := k) HGI.out.2.1
                      cases e6
                      rw [HGI.out.2.2] at h6
                      exact h6
                    clear ho5 hap5
                    refine hKq.out _ _ ?_ (fun hHeldN => ?_)
                    · exact hS6
                    clear hKq Kq hHeld
                    have hHeld := hHeldN
                    clear hHeldN
                    refine wpAnyH_take (i := 14) (v := ?_) (by simp only [List.getElem?_toArray, List.getElem?_cons_succ, List.getElem?_cons_zero]; rfl) (by kernel_rfl) (by kernel_rfl) (by kernel_rfl) (by exact fun _ _ _ h => h) (Or.inl ⟨by rfl, ?_⟩) (by assumption) ?_
                    rotate_left
                    · (intro _ hSw; (try dsimp only at hSw); go_simp; (try with_reducible rfl))
                    try simp only [Act.put, List.setIfInBounds_toArray, List.set_cons_zero, List.set_cons_succ]
                    refine wpAnyH_done (by kernel_rfl) ?_ _
                    clear hHeld hSb hS6 HGX HS9
                    go_wp2_with fail
                    go_roundw
                    case rel => exact ⟨k + 1, o5, c5, by omega, by go_num, rfl, G, HP.out⟩
                    case measure => first | (simp [intOf]; done) | (simp [intOf]; omega)
                  · have hltk' : ¬ (k : Int) < nl := by omega
                    obtain ⟨F3, hg⟩ := HF.out
                    have HGE : Hid (Rc w5 wz p cp 1 1 s3 t F3) := hg.rc
                    have HRS : Hid (Calls Try.prog 16 #[.pointer (some ⟨p, 0, none⟩)] wz fun e w' => e = .returned (.int .i64 3) ∧ Keeps (fun _ => False) wz w') := by
                      have h := rResult_any wz p cp F3 s3 hg.rc.is
                      rw [HSE.out.2.1] at h
                      exact h
                    have HVS : Hid (∀ Y, Keeps (fun _ => False) wz Y → Calls Try.prog 15 #[.pointer (some ⟨p, 0, none⟩)] Y (VersTo Y [])) := fun Y hY => by
                      have h := rVersions_any Y p cp F3 s3 (hg.rc.keepsN hY).is hg.rc.wf
                      rw [HSE.out.2.2] at h
                      exact h
                    clear hg HF HR17
                    go_wp2_with fail
                    refine HRS.out.mono ?_
                    rintro e w18 ⟨rfl, hk18⟩
                    have HK18 : Hid (Keeps (fun _ => False) wz w18) := hk18
                    clear hk18
                    go_wp2_with fail
                    refine (HVS.out _ HK18.out).mono ?_
                    rintro e w19 ⟨vo2, vn2, vc2, vr2, rfl, hvn2, hnv2⟩
                    have hv0 : vn2 = 0 := hvn2
                    subst hv0
                    have ct2 : w19.cell? ⟨cp, 2, none⟩ = some (.int .i64 (t : Nat)) := hnv2.kp.cellN (HK18.out.cellN (by rw [cell_of_blk HGE.out.ct]; rfl))
                    have HKE : Hid (Keeps (fun _ => False) w w19) := (HD5.out.kp.trans HGE.out.kp).trans (HK18.out.trans hnv2.kp)
                    clear hnv2 hvn2
                    go_wp2_with fail
                    go_ret
                    exact ⟨rfl, HKE.out⟩
              · have HS3 : Hid (giveS s = s) := by show _ = _; unfold giveS; rw [if_neg he]
                rw [HS3.out] at HR15
                obtain ⟨E, hE⟩ : ∃ E : Int, E = ((s.ended : Nat) : Int) := ⟨_, rfl⟩
                have he1 : ¬ E = 0 := by omega
                have he2 : (E != 0) = true := by simpa using he1
                have HRS : Hid (Calls Try.prog 16 #[.pointer (some ⟨p, 0, none⟩)] w15 fun e w' => e = .returned (.int .i64 E) ∧ Keeps (fun _ => False) w15 w') := by
                  rw [hE]; exact rResult_any w15 p cp F s HR15.out.1.is
                have HVS : Hid (∀ Y, Keeps (fun _ => False) w15 Y → Calls Try.prog 15 #[.pointer (some ⟨p, 0, none⟩)] Y (VersTo Y (readR s))) := fun Y hY => rVersions_any Y p cp F s (HR15.out.1.keepsN hY).is HR15.out.1.wf
                rw [← hE]
                clear hE he HS3
                go_wp2_with fail
                refine HRS.out.mono ?_
                rintro e w16 ⟨rfl, hk16⟩
                have HK16 : Hid (Keeps (fun _ => False) w15 w16) := hk16
                clear hk16
                go_wp2_with fail
                refine (HVS.out _ HK16.out).mono ?_
                rintro e w17 ⟨vo2, vn2, vc2, vr2, rfl, hvn2, hnv2⟩
                have HSV : Hid (Calls Try.prog 17 #[.slice vo2 vn2 vc2, .slice vo vn vc] w17 fun e w' => e = .returned (.bool true) ∧ Keeps (fun _ => False) w17 w') := by
                  have h := sameV_any w17 vo2 vn2 vc2 vo vn vc vr2 vrs (readR s) (readR s) hvn2 HV15.out.1 hFR.out hFR.out hnv2.vers ((HV15.out.2.keepsN HK16.out).keepsN hnv2.kp)
                  rw [decide_eq_true rfl] at h
                  exact h
                have HKE : Hid (Keeps (fun _ => False) w w17) := (HD5.out.kp.trans HR15.out.1.kp).trans (HK16.out.trans hnv2.kp)
                clear hvn2 hnv2
                go_wp2_with fail
                refine HSV.out.mono ?_
                rintro e w18 ⟨rfl, hk18⟩
                have HK18 : Hid (Keeps (fun _ => False) w17 w18) := hk18
                clear hk18
                go_wp2_with fail
                go_ret
                exact ⟨rfl, HKE.out.trans HK18.out⟩
end Go.Proofs.Ytileipnoiocdlaa
