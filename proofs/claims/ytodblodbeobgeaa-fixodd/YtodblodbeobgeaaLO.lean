/- FixOdd. -/
import Derived.Test.YtodblodbeobgeaaQ0
import Derived.Deep.CutBlock
import Derived.Deep.CutRange
namespace Go.Proofs.Ytodblodbeobgeaa
open Go.RowKit Go.Sort Orl
set_option linter.unusedVariables false
set_option linter.unusedSimpArgs false

/-- a list that is not formed, of the call's own -/
def OddTo (w : World) (u : Value) (w' : World) : Prop := ∃ o n c rs vs, u = .slice o n c ∧ n = vs.length ∧ NewVs w o c rs vs w' ∧ FitL vs ∧ ¬ Formed vs
theorem take20 (ms : List Int) (i : Nat) : (ms.take i).length ≤ i := by rw [List.length_take]; omega
set_option maxRecDepth 10000 in
set_option maxHeartbeats 1000000 in
theorem fixOdd_any (w : World) (om : Option Addr) (nm cm : Nat) (ms : List Int) (read : Int) (op : Option Addr) (np cp : Nat) (ps : List Int) (att how : Int) (hnm : nm = ms.length) (hnp : np = ps.length) (hml : ms.length ≤ 17592186044000) (hpl : ps.length ≤ 17592186044000) (hI : ∀ z ∈ ms, I64 z) (hP : ∀ z ∈ ps, I64 z) (hr : I64 read) (ha : I64 att) (hh : I64 how) (hs : Sl ZE w om cm ms) (hp : Sl ZE w op cp ps) :
    Calls Try.prog 3 #[.slice om nm cm, .int .i64 read, .slice op np cp, .int .i64 att, .int .i64 how] w fun e w' => e = .returned (.bool true) ∧ Keeps no w w' := by
  obtain ⟨M, hM⟩ : ∃ M : Nat, M = min nm 20 := ⟨_, rfl⟩
  have hmin : min (nm : Int) 20 = (M : Int) := by omega
  obtain ⟨hcut, hs2⟩ := cutZ_h w om cm ms nm M (M : Int) rfl hnm (by omega) hs
  have hnm' : (nm : Int) ≤ 17592186044000 := by omega
  have hM20 : M ≤ 20 := by omega
  have HB0 : Hid (Calls Try.prog 9 #[.slice om M cm, .int .i64 read, .int .i64 0, .slice op np cp] w fun e w' => ∃ u, e = .returned u ∧ GiveVs w (broughtV (ms.take M) read 0 ps) u w') :=
    brought_any w om M cm (ms.take M) read 0 op np cp ps (by rw [List.length_take]; omega) hnp (by rw [List.length_take]; omega) hpl (fun z hz => hI z (List.mem_of_mem_take hz)) hP hr ⟨by omega, by omega⟩ hs2 hp
  have HFT : Hid (FitL (broughtV (ms.take M) read 0 ps) ∧ Formed (broughtV (ms.take M) read 0 ps) ∧ (broughtV (ms.take M) read 0 ps).length = (setM read).length ∧ ∀ v ∈ broughtV (ms.take M) read 0 ps, v.key.size = 1) := by
    refine ⟨bro_fit _ (by rw [List.length_take]; omega) _ _ _, bro_formed _ _ _ _, bro_len _ _ _ _, ?_⟩
    intro v hv
    unfold broughtV broL at hv
    obtain ⟨i, _, rfl⟩ := List.mem_map.1 hv
    rw [(broV_of (ms.take M) read 0 ps i).1]
    have hl := setM_len read
    exact setM_size read _ (getD_mem_lt e0 (Nat.mod_lt _ (by omega)))
  clear hnm hnp hml hpl hI hP hs hs2 hp hM
  generalize broughtV (ms.take M) read 0 ps = vs at HB0 HFT
  have hsl := setM_len read
  have hvl : 1 ≤ vs.length ∧ vs.length ≤ 8 := by have := HFT.out.2.2.1; omega
  go_enter Try.func3, Try.ntmps3
  go_wp2_with fail
  refine Calls.mono HB0.out ?_
  rintro e w1 ⟨_, rfl, o, n, c, rs, rfl, hn, hv⟩
  have HV : Hid (n = vs.length ∧ NewVs w o c rs vs w1) := ⟨hn, hv⟩
  have hn1 : (1 : Int) ≤ n := by omega
  have hn8 : (n : Int) ≤ 8 := by omega
  clear HB0 hn hv hsl
  go_wp2_with fail
  refine (known_any w1).mono ?_
  rintro e w2 ⟨rfl, hk2⟩
  have HV2 : Hid (n = vs.length ∧ NewVs w o c rs vs w2) := ⟨HV.out.1, HV.out.2.keepsN hk2⟩
  clear HV hk2
  have HFO : Hid (Calls Try.prog 11 #[.slice o n c] w2 fun e w' => e = .returned (.bool true) ∧ Keeps no w2 w') := by
    have h := pFormed_any w2 o n c rs vs HV2.out.1 HFT.out.1 HV2.out.2.vers
    rw [(formedB_iff vs).2 HFT.out.2.1] at h
    exact h
  go_wp2_with fail
  refine Calls.mono HFO.out ?_
  rintro e w3 ⟨rfl, hk3⟩
  have HV3 : Hid (n = vs.length ∧ NewVs w o c rs vs w3) := ⟨HV2.out.1, HV2.out.2.keepsN hk3⟩
  clear HV2 hk3 HFO
  obtain ⟨R, hR⟩ : ∃ R, R = rst att (vs.length - 1) := ⟨_, rfl⟩
  have hRl : R < vs.length := by have := rst_le att (vs.length - 1); omega
  have HRS : Hid (∀ W, Calls Try.prog 12 #[.int .i64 att, .int .i64 ((n : Int) - 1)] W fun e w' => e = .returned (.int .i64 (R : Nat)) ∧ w' = W) := by
    intro W
    have h := rest_any att (vs.length - 1) W ha (by omega)
    rw [← hR] at h
    rw [show ((n : Int) - 1) = ((vs.length - 1 : Nat) : Int) by have := HV3.out.1; omega]
    exact h
  have hRn : (R : Int) < n := by have := HV3.out.1; omega
  have HRL : Hid (R < vs.length) := hRl
  clear hR
  go_wp2_with fail
  refine (HRS.out _).mono ?_
  rintro e wq ⟨rfl, hwq⟩
  subst wq
  clear HRS
  obtain ⟨g, off, hog, d0, d1, d2, d3⟩ := HV3.out.2.own.sl.atV (j := R) (by rw [HV3.out.2.len]; exact hRl)
  have HRV : Hid (VerN w3 (rs.getD R r0) (vs.getD R v0) ∧ New w (rs.getD R r0).o ∧ (vs.getD R v0).key.size = 1 ∧ FitV (vs.getD R v0) ∧ ∃ v, v = vs.getD R v0) := ⟨HV3.out.2.each R hRl, HV3.out.2.newK R hRl, HFT.out.2.2.2 _ (getD_mem_lt v0 hRl), HFT.out.1.at hRl, _, rfl⟩
  have hoff : off = 0 := by
    rcases HV3.out.2.own.shape with ⟨e, _⟩ | ⟨g', cur, e, _⟩
    · rw [e] at hog; cases hog
    · rw [e] at hog; cases hog; rfl
  subst hoff hog
  generalize hrR : rs.getD R r0 = rk at d0 d1 d2 d3 HRV
  generalize hvR : vs.getD R v0 = vk at HRV
  have HRR : Hid (rs.getD R r0 = rk ∧ vs.getD R v0 = vk) := ⟨hrR, hvR⟩
  obtain ⟨kk, ki, kv, ko, kn, kc⟩ := rk
  simp only [Nat.zero_add] at d0 d1 d2 d3
  clear hrR hvR hRl
  have hbk := blk_new w3 (.cells #[.string kk, .int .u64 (ki : Nat), .string kv, .slice ko kn kc] 32)
  have HB : Hid ((w3.alloc (.cells #[.string kk, .int .u64 (ki : Nat), .string kv, .slice ko kn kc] 32)).heap[w3.heap.size]? = some (.cells #[.string kk, .int .u64 (ki : Nat), .string kv, .slice ko kn kc] 32 (0, 0)) ∧ Keeps no w3 (w3.alloc (.cells #[.string kk, .int .u64 (ki : Nat), .string kv, .slice ko kn kc] 32)) ∧ w.heap.size ≤ w3.heap.size ∧ g < w3.heap.size) := ⟨hbk, (Keeps.refl _ _).alloc _, HV3.out.2.kp.size, HV3.out.2.own.lt g ⟨_, rfl, rfl⟩⟩
  clear hbk
  have hr6 := fun W => rest_any how 6 W hh (by omega)
  have hh6 := rst_le how 6
  generalize rst how 6 = H at hr6 hh6
  change ∀ W, Calls Try.prog 12 #[.int .i64 how, .int .i64 6] W _ at hr6
  go_upto_block 0 with (go_at_call 12; refine (hr6 _).mono ?_; rintro e wq ⟨rfl, hwq⟩; subst wq)
  clear d0 d1 d2 d3
  generalize hw4 : w3.alloc (.cells #[.string kk, .int .u64 (ki : Nat), .string kv, .slice ko kn kc] 32) = w4 at HB ⊢
  have HW4 : Hid (Keeps (fun q => w3.heap.size ≤ q) w3 w4) := HB.out.2.1.of_no
  clear hw4
  generalize hBB : w3.heap.size = B at HB ⊢
  have HBE : Hid (B = w3.heap.size) := hBB.symm
  clear hBB
  have HKK : Hid (kk = vk.key ∧ kk.size = 1) := ⟨HRV.out.1.key, by have h : kk = vk.key := HRV.out.1.key; rw [h]; exact HRV.out.2.2.1⟩
  have HNB : Hid (w.heap.size ≤ B ∧ w.heap.size ≤ w4.heap.size ∧ B < w4.heap.size) := ⟨HB.out.2.2.1, by have := HB.out.2.1.size; have := HB.out.2.2.1; have := HBE.out; omega, lt_of_block HB.out.1⟩
  go_cut [11] from 45 to 125 (fun s11 wc => Hid (OddTo w s11 wc))
  case first =>
    obtain ⟨t0, t1, t2, t3⟩ := cells4 HB.out.1
    have hH : H = 0 ∨ H = 1 ∨ H = 2 ∨ H = 3 ∨ H = 4 ∨ H = 5 ∨ H = 6 := by omega
    rcases hH with rfl | rfl | rfl | rfl | rfl | rfl | rfl
    · -- a key twice
      go_wp2_with (at_builtin; refine wpList_app okV rfl _ _ rfl _ _ _ rs rfl (by rw [HV3.out.2.len]; exact HV3.out.1) (HV3.out.2.own.keepsN (HB.out.2.1.alloc _)) _ _ _ [⟨kk, ki, kv, ko, kn, kc⟩] rfl rfl (fun h => by cases h) (own_oneV w4 ⟨kk, ki, kv, ko, kn, kc⟩).row (by have := HV3.out.2.len; simp [VE]; omega) (by have := HV3.out.2.len; simp; omega) ?_; intro os6 cs6 ws6 hos6 haps6)
      go_meet
      case rel =>
        have h1 := HV3.out.2.keepsN (HB.out.2.1.alloc (.cells #[.string kk, .int .u64 (ki : Nat), .string kv, .slice ko kn kc] 32))
        refine ⟨os6, _, cs6, _, vs ++ [vk], rfl, ?_, h1.push (HRV.out.1.keepsN (HB.out.2.1.alloc _)) HRV.out.2.1 hos6 haps6, fit_snoc HFT.out.1 (by omega) HRV.out.2.2.2.1, ?_⟩
        · rw [List.length_append, ← HV3.out.1]; rfl
        · refine not_formed_two (j := vs.length) (k := R) (by simp) HRL.out ?_
          rw [getD_snoc, getD_snoc, if_pos HRL.out, if_neg (by omega), if_pos rfl, HRR.out.2]
          unfold badB; simp
    · -- an ID without a sequence number
      have hr9 := fun W => rest_any att 65534 W ha (by omega)
      have hr9l := rst_le att 65534
      generalize rst att 65534 = R9 at hr9 hr9l
      change ∀ W, Calls Try.prog 12 #[.int .i64 att, .int .i64 65534] W _ at hr9
      have hr9' : (R9 : Int) ≤ 65534 := by omega
      obtain ⟨I1, hI1, hI1b, hI1c⟩ : ∃ I : Nat, (1 : Int) + (R9 : Int) = (I : Int) ∧ I ≤ 65535 ∧ 0 < I := ⟨1 + R9, by omega, by omega, by omega⟩
      have hI1' : (I1 : Int) ≤ 65535 := by omega
      have f1 := frozen_of_blk HB.out.1 1
      have hbW : ((w4.setCell ⟨B, 1, none⟩ (.int .u64 (I1 : Nat))).alloc (.cells #[.string kk] 9)).heap[B]? = some (.cells #[.string kk, .int .u64 (I1 : Nat), .string kv, .slice ko kn kc] 32 (0, 0)) := blk_alloc (blk_set HB.out.1 1 _) _
      obtain ⟨x0, x1, x2, x3⟩ := cells4 hbW
      have g3 := frozen_of_blk hbW 3
      have hoW : Own TE (((w4.setCell ⟨B, 1, none⟩ (.int .u64 (I1 : Nat))).alloc (.cells #[.string kk] 9)).setCell ⟨B, 3, none⟩ (.slice (some ⟨w4.heap.size, 0, none⟩) 1 1)) (some ⟨w4.heap.size, 0, none⟩) 1 [kk] := by
        have h := own_oneT (w4.setCell ⟨B, 1, none⟩ (.int .u64 (I1 : Nat))) kk
        rw [World.size_setCell] at h
        exact h.keeps ((Keeps.refl (eqB B) _).setCell (p := ⟨B, 3, none⟩) (.inl (show eqB B B from rfl)) _) (fun q hq e => by obtain ⟨x, e1, rfl⟩ := hq; cases e1; have h2 := HNB.out.2.2; have e2 : w4.heap.size = B := e; omega)
      have hBw : w3.heap.size ≤ B := by rw [HBE.out]; exact Nat.le_refl _
      have hW : Keeps (fun q => w3.heap.size ≤ q) w3 ((((w4.setCell ⟨B, 1, none⟩ (.int .u64 (I1 : Nat))).alloc (.cells #[.string kk] 9)).setCell ⟨B, 3, none⟩ (.slice (some ⟨w4.heap.size, 0, none⟩) 1 1))) := ((HW4.out.setCell (p := ⟨B, 1, none⟩) (.inl hBw) _).alloc _).setCell (p := ⟨B, 3, none⟩) (.inl hBw) _
      obtain ⟨g', eg, hfz, hnw⟩ := (HV3.out.2.later hW).set R HRL.out (r := ⟨kk, I1, kv, (some ⟨w4.heap.size, 0, none⟩), 1, 1⟩) (v := ⟨vk.key, I1, vk.val, [vk.key]⟩) ⟨HKK.out.1, rfl, HRV.out.1.val, rfl, by rw [← HKK.out.1]; exact hoW⟩ (fun q hq => by obtain ⟨x, e, rfl⟩ := hq; cases e; exact HNB.out.2.1)
      obtain ⟨g2, off2, eg2, c0, c1, c2, c3⟩ := (HV3.out.2.later hW).own.sl.atV (j := R) (by rw [HV3.out.2.len]; exact HRL.out)
      have hg1 : g' = g := (by cases eg; rfl)
      have hg2 : g2 = g ∧ off2 = 0 := (by cases eg2; exact ⟨rfl, rfl⟩)
      obtain ⟨hg2, hg3⟩ := hg2
      subst g' g2 off2
      simp only [Nat.zero_add] at c0 c1 c2 c3
      have f0 := hfz (R * 4)
      have f1' := hfz (R * 4 + 1)
      have f2 := hfz (R * 4 + 2)
      have f3' := hfz (R * 4 + 3)
      have HNW : Hid (NewVs w (some ⟨g, 0, none⟩) c (rs.set R ⟨kk, I1, kv, (some ⟨w4.heap.size, 0, none⟩), 1, 1⟩) (vs.set R ⟨vk.key, I1, vk.val, [vk.key]⟩) ((((((((w4.setCell ⟨B, 1, none⟩ (.int .u64 (I1 : Nat))).alloc (.cells #[.string kk] 9)).setCell ⟨B, 3, none⟩ (.slice (some ⟨w4.heap.size, 0, none⟩) 1 1))).setCell ⟨g, R * 4, none⟩ (.string kk)).setCell ⟨g, R * 4 + 1, none⟩ (.int .u64 ((I1 : Nat) : Int))).setCell ⟨g, R * 4 + 2, none⟩ (.string kv)).setCell ⟨g, R * 4 + 3, none⟩ (.slice (some ⟨w4.heap.size, 0, none⟩) 1 1))) := hnw
      clear hW eg eg2 hfz hnw
      go_wp2_with (go_at_call 12; refine (hr9 _).mono ?_; rintro e wq ⟨rfl, hwq⟩; subst wq)
      go_meet
      case rel =>
        refine ⟨_, _, _, _, _, rfl, ?_, HNW.out, fit_set HFT.out.1 R (v := ⟨vk.key, I1, vk.val, [vk.key]⟩) (⟨show I1 < _ by omega, HRV.out.2.2.2.1.key, HRV.out.2.2.2.1.val, by simp, by intro s hs; rcases List.mem_cons.1 hs with rfl | hs; exact HRV.out.2.2.2.1.key; cases hs⟩), not_formed_set (v := ⟨vk.key, I1, vk.val, [vk.key]⟩) HRL.out ?_⟩
        · rw [List.length_set]; exact HV3.out.1
        · rw [oneB_pos _ (show ¬ I1 = 0 by omega)]; have h : ¬ 65536 ≤ I1 := (by omega); simp [h]
    · -- bottom with a value
      have hW : Keeps (fun q => w3.heap.size ≤ q) w3 (w4) := HW4.out
      obtain ⟨g', eg, hfz, hnw⟩ := (HV3.out.2.later hW).set R HRL.out (r := ⟨kk, 0, tV, none, 0, 0⟩) (v := ⟨vk.key, 0, tV, []⟩) ⟨HKK.out.1, rfl, rfl, rfl, own_nil _⟩ (new_none _)
      obtain ⟨g2, off2, eg2, c0, c1, c2, c3⟩ := (HV3.out.2.later hW).own.sl.atV (j := R) (by rw [HV3.out.2.len]; exact HRL.out)
      have hg1 : g' = g := (by cases eg; rfl)
      have hg2 : g2 = g ∧ off2 = 0 := (by cases eg2; exact ⟨rfl, rfl⟩)
      obtain ⟨hg2, hg3⟩ := hg2
      subst g' g2 off2
      simp only [Nat.zero_add] at c0 c1 c2 c3
      have f0 := hfz (R * 4)
      have f1 := hfz (R * 4 + 1)
      have f2 := hfz (R * 4 + 2)
      have f3 := hfz (R * 4 + 3)
      have HNW : Hid (NewVs w (some ⟨g, 0, none⟩) c (rs.set R ⟨kk, 0, tV, none, 0, 0⟩) (vs.set R ⟨vk.key, 0, tV, []⟩) (((((w4).setCell ⟨g, R * 4, none⟩ (.string kk)).setCell ⟨g, R * 4 + 1, none⟩ (.int .u64 ((0 : Nat) : Int))).setCell ⟨g, R * 4 + 2, none⟩ (.string tV)).setCell ⟨g, R * 4 + 3, none⟩ (.slice none 0 0))) := hnw
      clear hW eg eg2 hfz hnw
      go_wp2_with fail
      go_meet
      case rel =>
        refine ⟨_, _, _, _, _, rfl, ?_, HNW.out, fit_set HFT.out.1 R (v := ⟨vk.key, 0, tV, []⟩) (fit_x (by decide) (show vk.key.size ≤ 1000 by rw [← HKK.out.1]; have := HKK.out.2; omega) (by decide) (by simp) (by simp)), not_formed_set (v := ⟨vk.key, 0, tV, []⟩) HRL.out ?_⟩
        · rw [List.length_set]; exact HV3.out.1
        · rw [oneB_zero _ rfl]; have h : ¬ tV = e0 := (by decide); simp [h]
    · -- bottom with keys
      have hW : Keeps (fun q => w3.heap.size ≤ q) w3 (w4.alloc (.cells #[.string kk] 9)) := HW4.out.alloc _
      obtain ⟨g', eg, hfz, hnw⟩ := (HV3.out.2.later hW).set R HRL.out (r := ⟨kk, 0, e0, (some ⟨w4.heap.size, 0, none⟩), 1, 1⟩) (v := ⟨vk.key, 0, e0, [vk.key]⟩) ⟨HKK.out.1, rfl, rfl, rfl, by rw [← HKK.out.1]; exact own_oneT w4 kk⟩ (fun q hq => by obtain ⟨x, e, rfl⟩ := hq; cases e; exact HNB.out.2.1)
      obtain ⟨g2, off2, eg2, c0, c1, c2, c3⟩ := (HV3.out.2.later hW).own.sl.atV (j := R) (by rw [HV3.out.2.len]; exact HRL.out)
      have hg1 : g' = g := (by cases eg; rfl)
      have hg2 : g2 = g ∧ off2 = 0 := (by cases eg2; exact ⟨rfl, rfl⟩)
      obtain ⟨hg2, hg3⟩ := hg2
      subst g' g2 off2
      simp only [Nat.zero_add] at c0 c1 c2 c3
      have f0 := hfz (R * 4)
      have f1 := hfz (R * 4 + 1)
      have f2 := hfz (R * 4 + 2)
      have f3 := hfz (R * 4 + 3)
      have HNW : Hid (NewVs w (some ⟨g, 0, none⟩) c (rs.set R ⟨kk, 0, e0, (some ⟨w4.heap.size, 0, none⟩), 1, 1⟩) (vs.set R ⟨vk.key, 0, e0, [vk.key]⟩) (((((w4.alloc (.cells #[.string kk] 9)).setCell ⟨g, R * 4, none⟩ (.string kk)).setCell ⟨g, R * 4 + 1, none⟩ (.int .u64 ((0 : Nat) : Int))).setCell ⟨g, R * 4 + 2, none⟩ (.string e0)).setCell ⟨g, R * 4 + 3, none⟩ (.slice (some ⟨w4.heap.size, 0, none⟩) 1 1))) := hnw
      clear hW eg eg2 hfz hnw
      go_wp2_with fail
      go_meet
      case rel =>
        refine ⟨_, _, _, _, _, rfl, ?_, HNW.out, fit_set HFT.out.1 R (v := ⟨vk.key, 0, e0, [vk.key]⟩) (fit_x (by decide) (show vk.key.size ≤ 1000 by rw [← HKK.out.1]; have := HKK.out.2; omega) (by decide) (by simp) (by intro s hs; rcases List.mem_cons.1 hs with rfl | hs; exact (show vk.key.size ≤ 1000 by rw [← HKK.out.1]; have := HKK.out.2; omega); cases hs)), not_formed_set (v := ⟨vk.key, 0, e0, [vk.key]⟩) HRL.out ?_⟩
        · rw [List.length_set]; exact HV3.out.1
        · rw [oneB_zero _ rfl]; simp
    · -- keys that do not hold the key
      have hadd : ∀ w, (Op.stringOp .add kk ⟨#[63]⟩).run Try.prog w = .ok (.string (kk ++ ⟨#[63]⟩)) w := fun w => run_string_add_sum (P := Try.prog) (w := w) kk ⟨#[63]⟩ (by have := HKK.out.2; have : (⟨#[63]⟩ : ByteArray).size = 1 := rfl; omega)
      have HQS : Hid ((vk.key ++ (⟨#[63]⟩ : Tx)).size = 2) := (show _ = _ by rw [ByteArray.size_append, ← HKK.out.1, HKK.out.2]; rfl)
      have hW : Keeps (fun q => w3.heap.size ≤ q) w3 (w4.alloc (.cells #[.string (kk ++ ⟨#[63]⟩)] 9)) := HW4.out.alloc _
      obtain ⟨g', eg, hfz, hnw⟩ := (HV3.out.2.later hW).set R HRL.out (r := ⟨kk, 1099511627776, e0, (some ⟨w4.heap.size, 0, none⟩), 1, 1⟩) (v := ⟨vk.key, 1099511627776, e0, [vk.key ++ ⟨#[63]⟩]⟩) ⟨HKK.out.1, rfl, rfl, rfl, by rw [← HKK.out.1]; exact own_oneT w4 _⟩ (fun q hq => by obtain ⟨x, e, rfl⟩ := hq; cases e; exact HNB.out.2.1)
      obtain ⟨g2, off2, eg2, c0, c1, c2, c3⟩ := (HV3.out.2.later hW).own.sl.atV (j := R) (by rw [HV3.out.2.len]; exact HRL.out)
      have hg1 : g' = g := (by cases eg; rfl)
      have hg2 : g2 = g ∧ off2 = 0 := (by cases eg2; exact ⟨rfl, rfl⟩)
      obtain ⟨hg2, hg3⟩ := hg2
      subst g' g2 off2
      simp only [Nat.zero_add] at c0 c1 c2 c3
      have f0 := hfz (R * 4)
      have f1 := hfz (R * 4 + 1)
      have f2 := hfz (R * 4 + 2)
      have f3 := hfz (R * 4 + 3)
      have HNW : Hid (NewVs w (some ⟨g, 0, none⟩) c (rs.set R ⟨kk, 1099511627776, e0, (some ⟨w4.heap.size, 0, none⟩), 1, 1⟩) (vs.set R ⟨vk.key, 1099511627776, e0, [vk.key ++ ⟨#[63]⟩]⟩) (((((w4.alloc (.cells #[.string (kk ++ ⟨#[63]⟩)] 9)).setCell ⟨g, R * 4, none⟩ (.string kk)).setCell ⟨g, R * 4 + 1, none⟩ (.int .u64 ((1099511627776 : Nat) : Int))).setCell ⟨g, R * 4 + 2, none⟩ (.string e0)).setCell ⟨g, R * 4 + 3, none⟩ (.slice (some ⟨w4.heap.size, 0, none⟩) 1 1))) := hnw
      clear hW eg eg2 hfz hnw
      go_wp2_with fail
      go_meet
      case rel =>
        refine ⟨_, _, _, _, _, rfl, ?_, HNW.out, fit_set HFT.out.1 R (v := ⟨vk.key, 1099511627776, e0, [vk.key ++ ⟨#[63]⟩]⟩) (fit_x (by decide) (show vk.key.size ≤ 1000 by rw [← HKK.out.1]; have := HKK.out.2; omega) (by decide) (by simp) (by intro s hs; rcases List.mem_cons.1 hs with rfl | hs; have := HQS.out; omega; cases hs)), not_formed_set (v := ⟨vk.key, 1099511627776, e0, [vk.key ++ ⟨#[63]⟩]⟩) HRL.out ?_⟩
        · rw [List.length_set]; exact HV3.out.1
        · rw [oneB_pos _ (show ¬ (1099511627776 : Nat) = 0 by decide)]; have h : inn [vk.key ++ (⟨#[63]⟩ : Tx)] vk.key = false := inn_no (fun h => by rcases List.mem_cons.1 h with h | h; have h1 := congrArg ByteArray.size h; rw [HQS.out, ← HKK.out.1, HKK.out.2] at h1; omega; cases h); simp only [h]; simp
    · -- keys that do not rise
      have hW : Keeps (fun q => w3.heap.size ≤ q) w3 (w4.alloc (.cells #[.string kk, .string kk] 9)) := HW4.out.alloc _
      obtain ⟨g', eg, hfz, hnw⟩ := (HV3.out.2.later hW).set R HRL.out (r := ⟨kk, 1099511627776, e0, (some ⟨w4.heap.size, 0, none⟩), 2, 2⟩) (v := ⟨vk.key, 1099511627776, e0, [vk.key, vk.key]⟩) ⟨HKK.out.1, rfl, rfl, rfl, by rw [← HKK.out.1]; exact own_twoT w4 kk kk⟩ (fun q hq => by obtain ⟨x, e, rfl⟩ := hq; cases e; exact HNB.out.2.1)
      obtain ⟨g2, off2, eg2, c0, c1, c2, c3⟩ := (HV3.out.2.later hW).own.sl.atV (j := R) (by rw [HV3.out.2.len]; exact HRL.out)
      have hg1 : g' = g := (by cases eg; rfl)
      have hg2 : g2 = g ∧ off2 = 0 := (by cases eg2; exact ⟨rfl, rfl⟩)
      obtain ⟨hg2, hg3⟩ := hg2
      subst g' g2 off2
      simp only [Nat.zero_add] at c0 c1 c2 c3
      have f0 := hfz (R * 4)
      have f1 := hfz (R * 4 + 1)
      have f2 := hfz (R * 4 + 2)
      have f3 := hfz (R * 4 + 3)
      have HNW : Hid (NewVs w (some ⟨g, 0, none⟩) c (rs.set R ⟨kk, 1099511627776, e0, (some ⟨w4.heap.size, 0, none⟩), 2, 2⟩) (vs.set R ⟨vk.key, 1099511627776, e0, [vk.key, vk.key]⟩) (((((w4.alloc (.cells #[.string kk, .string kk] 9)).setCell ⟨g, R * 4, none⟩ (.string kk)).setCell ⟨g, R * 4 + 1, none⟩ (.int .u64 ((1099511627776 : Nat) : Int))).setCell ⟨g, R * 4 + 2, none⟩ (.string e0)).setCell ⟨g, R * 4 + 3, none⟩ (.slice (some ⟨w4.heap.size, 0, none⟩) 2 2))) := hnw
      clear hW eg eg2 hfz hnw
      go_wp2_with fail
      go_meet
      case rel =>
        refine ⟨_, _, _, _, _, rfl, ?_, HNW.out, fit_set HFT.out.1 R (v := ⟨vk.key, 1099511627776, e0, [vk.key, vk.key]⟩) (fit_x (by decide) (show vk.key.size ≤ 1000 by rw [← HKK.out.1]; have := HKK.out.2; omega) (by decide) (by simp) (by intro s hs; have hs2 : s = vk.key := (by rcases List.mem_cons.1 hs with h | h; exact h; rcases List.mem_cons.1 h with h | h; exact h; cases h); rw [hs2]; exact (show vk.key.size ≤ 1000 by rw [← HKK.out.1]; have := HKK.out.2; omega))), not_formed_set (v := ⟨vk.key, 1099511627776, e0, [vk.key, vk.key]⟩) HRL.out ?_⟩
        · rw [List.length_set]; exact HV3.out.1
        · rw [oneB_pos _ (show ¬ (1099511627776 : Nat) = 0 by decide)]; have h : rising lts [vk.key, vk.key] = false := (by simp only [rising, swoT.irrefl]; rfl); simp only [h]; simp
    · -- one write with two sets of keys
      have hW : Keeps (fun q => w3.heap.size ≤ q) w3 (w4.alloc (.cells #[.string kk] 9)) := HW4.out.alloc _
      obtain ⟨g', eg, hfz, hnw⟩ := (HV3.out.2.later hW).set R HRL.out (r := ⟨kk, 1099511627776, e0, (some ⟨w4.heap.size, 0, none⟩), 1, 1⟩) (v := ⟨vk.key, 1099511627776, e0, [vk.key]⟩) ⟨HKK.out.1, rfl, rfl, rfl, by rw [← HKK.out.1]; exact own_oneT w4 kk⟩ (fun q hq => by obtain ⟨x, e, rfl⟩ := hq; cases e; exact HNB.out.2.1)
      obtain ⟨g2, off2, eg2, c0, c1, c2, c3⟩ := (HV3.out.2.later hW).own.sl.atV (j := R) (by rw [HV3.out.2.len]; exact HRL.out)
      have hg1 : g' = g := (by cases eg; rfl)
      have hg2 : g2 = g ∧ off2 = 0 := (by cases eg2; exact ⟨rfl, rfl⟩)
      obtain ⟨hg2, hg3⟩ := hg2
      subst g' g2 off2
      simp only [Nat.zero_add] at c0 c1 c2 c3
      have f0 := hfz (R * 4)
      have f1 := hfz (R * 4 + 1)
      have f2 := hfz (R * 4 + 2)
      have f3 := hfz (R * 4 + 3)
      have HNW : Hid (NewVs w (some ⟨g, 0, none⟩) c (rs.set R ⟨kk, 1099511627776, e0, (some ⟨w4.heap.size, 0, none⟩), 1, 1⟩) (vs.set R ⟨vk.key, 1099511627776, e0, [vk.key]⟩) (((((w4.alloc (.cells #[.string kk] 9)).setCell ⟨g, R * 4, none⟩ (.string kk)).setCell ⟨g, R * 4 + 1, none⟩ (.int .u64 ((1099511627776 : Nat) : Int))).setCell ⟨g, R * 4 + 2, none⟩ (.string e0)).setCell ⟨g, R * 4 + 3, none⟩ (.slice (some ⟨w4.heap.size, 0, none⟩) 1 1))) := hnw
      clear hW eg eg2 hfz hnw
      go_upto_region 24 with fail
      clear c0 c1 c2 c3 f0 f1 f2 f3
      generalize hW6 : ((((w4.alloc (.cells #[.string kk] 9)).setCell ⟨g, R * 4, none⟩ (.string kk)).setCell ⟨g, R * 4 + 1, none⟩ (.int .u64 ((1099511627776 : Nat) : Int))).setCell ⟨g, R * 4 + 2, none⟩ (.string e0)).setCell ⟨g, R * 4 + 3, none⟩ (.slice (some ⟨w4.heap.size, 0, none⟩) 1 1) = W6 at HNW
      have hW6' : ((((w4.alloc (.cells #[.string kk] 9)).setCell ⟨g, R * 4, none⟩ (.string kk)).setCell ⟨g, R * 4 + 1, none⟩ (.int .u64 1099511627776)).setCell ⟨g, R * 4 + 2, none⟩ (.string ⟨#[]⟩)).setCell ⟨g, R * 4 + 3, none⟩ (.slice (some ⟨w4.heap.size, 0, none⟩) 1 1) = W6 := hW6
      rw [hW6']
      clear hW6 hW6'
      obtain ⟨tz, htz⟩ : ∃ tz : Tx, tz = ⟨#[122, 122]⟩ := ⟨_, rfl⟩
      have HTZ : Hid (tz.size = 2) := (show _ = _ by rw [htz]; rfl)
      have HLR : Hid (n = (rs.set R (⟨kk, 1099511627776, e0, some ⟨w4.heap.size, 0, none⟩, 1, 1⟩ : RV)).length ∧ (rs.set R (⟨kk, 1099511627776, e0, some ⟨w4.heap.size, 0, none⟩, 1, 1⟩ : RV)).length ≤ 8) := by
        rw [List.length_set, HV3.out.2.len]; exact ⟨HV3.out.1, by omega⟩
      generalize (rs.set R (⟨kk, 1099511627776, e0, some ⟨w4.heap.size, 0, none⟩, 1, 1⟩ : RV)) = rs6 at HNW HLR
      have hrow6 : Row VE ((W6.alloc (.cells #[.string ⟨#[122, 122]⟩] 9)).alloc (.cells #[.string ⟨#[122, 122]⟩, .int .u64 ((1099511627776 : Nat) : Int), .string e0, .slice (some ⟨W6.heap.size, 0, none⟩) 1 1] 32)) (some ⟨W6.heap.size + 1, 0, none⟩) [⟨⟨#[122, 122]⟩, 1099511627776, e0, some ⟨W6.heap.size, 0, none⟩, 1, 1⟩] := by
        have h := (own_oneV (W6.alloc (.cells #[.string ⟨#[122, 122]⟩] 9)) ⟨⟨#[122, 122]⟩, 1099511627776, e0, some ⟨W6.heap.size, 0, none⟩, 1, 1⟩).row
        have hs : (W6.alloc (.cells #[.string ⟨#[122, 122]⟩] 9)).heap.size = W6.heap.size + 1 := by simp
        rw [hs] at h
        exact h
      have HROW : Hid (Row VE ((W6.alloc (.cells #[.string ⟨#[122, 122]⟩] 9)).alloc (.cells #[.string ⟨#[122, 122]⟩, .int .u64 ((1099511627776 : Nat) : Int), .string e0, .slice (some ⟨W6.heap.size, 0, none⟩) 1 1] 32)) (some ⟨W6.heap.size + 1, 0, none⟩) [⟨⟨#[122, 122]⟩, 1099511627776, e0, some ⟨W6.heap.size, 0, none⟩, 1, 1⟩]) := hrow6
      clear hrow6
      go_wp2_with (at_builtin; refine wpList_app okV rfl _ _ rfl _ _ _ rs6 rfl HLR.out.1 (HNW.out.own.keepsN (((Keeps.refl _ _).alloc _).alloc _)) _ _ _ [⟨⟨#[122, 122]⟩, 1099511627776, e0, some ⟨W6.heap.size, 0, none⟩, 1, 1⟩] rfl rfl (fun h => by cases h) HROW.out (by have := HLR.out.2; simp [VE]; omega) (by have := HLR.out.2; simp; omega) ?_; intro os6 cs6 ws6 hos6 haps6)
      go_meet
      case rel =>
        have h1 := HNW.out.keepsN (((Keeps.refl no W6).alloc (.cells #[.string ⟨#[122, 122]⟩] 9)).alloc (.cells #[.string ⟨#[122, 122]⟩, .int .u64 ((1099511627776 : Nat) : Int), .string e0, .slice (some ⟨W6.heap.size, 0, none⟩) 1 1] 32))
        have hver : VerN ((W6.alloc (.cells #[.string ⟨#[122, 122]⟩] 9)).alloc (.cells #[.string ⟨#[122, 122]⟩, .int .u64 ((1099511627776 : Nat) : Int), .string e0, .slice (some ⟨W6.heap.size, 0, none⟩) 1 1] 32)) ⟨⟨#[122, 122]⟩, 1099511627776, e0, some ⟨W6.heap.size, 0, none⟩, 1, 1⟩ ⟨⟨#[122, 122]⟩, 1099511627776, e0, [⟨#[122, 122]⟩]⟩ := ⟨rfl, rfl, rfl, rfl, (own_oneT W6 ⟨#[122, 122]⟩).keepsN ((Keeps.refl _ _).alloc _)⟩
        refine ⟨os6, _, cs6, _, (vs.set R ⟨vk.key, 1099511627776, e0, [vk.key]⟩) ++ [⟨⟨#[122, 122]⟩, 1099511627776, e0, [⟨#[122, 122]⟩]⟩], rfl, ?_, h1.push hver (fun q hq => by obtain ⟨x, e, rfl⟩ := hq; cases e; exact HNW.out.kp.size) hos6 haps6, ?_, ?_⟩
        · rw [List.length_append, List.length_set, ← HV3.out.1]; rfl
        · refine fit_snoc (fit_set HFT.out.1 R (fit_x (by decide) (show vk.key.size ≤ 1000 by rw [← HKK.out.1]; have := HKK.out.2; omega) (by decide) (by simp) (by intro s hs; rcases List.mem_cons.1 hs with rfl | hs; exact (show vk.key.size ≤ 1000 by rw [← HKK.out.1]; have := HKK.out.2; omega); cases hs))) (by rw [List.length_set]; omega) (fit_x (by decide) (by decide) (by decide) (by simp) (by intro s hs; rcases List.mem_cons.1 hs with rfl | hs; decide; cases hs))
        · refine not_formed_two (j := vs.length) (k := R) (by simp) HRL.out ?_
          have hlen : (vs.set R ⟨vk.key, 1099511627776, e0, [vk.key]⟩).length = vs.length := List.length_set
          rw [getD_snoc, getD_snoc, hlen, if_pos HRL.out, if_neg (by omega), if_pos rfl, getD_set_eq vs R _ v0 HRL.out]
          have hne : ¬ [vk.key] = [(⟨#[122, 122]⟩ : Tx)] := fun h => by
            have h1 := congrArg ByteArray.size (List.cons.inj h).1
            rw [← HKK.out.1, HKK.out.2] at h1
            exact absurd h1 (by decide)
          unfold badB
          simp only [decide_eq_false hne]; simp
  case rest =>
    rename World => w5
    obtain ⟨o5, n5, c5, r5, vs5, hu5, hn5, hv5, hf5, hnf5⟩ := hcut.out
    subst hu5
    have H5 : Hid (n5 = vs5.length ∧ NewVs w o5 c5 r5 vs5 w5 ∧ FitL vs5 ∧ formedB vs5 = false) := ⟨hn5, hv5, hf5, formedB_no hnf5⟩
    clear hn5 hv5 hf5 hnf5 hcut
    have HN : Hid (Calls Try.prog 13 #[.slice o5 n5 c5] w5 fun e w' => e = .returned (.tuple #[.slice none 0 0, .int .i64 1]) ∧ Keeps no w5 w') := (pNeeds_any w5 o5 n5 c5 r5 vs5 H5.out.1 H5.out.2.2.1 H5.out.2.1.vers).mono fun e w' ⟨u, he, h⟩ => by
      rcases h with ⟨_, hu, hk⟩ | ⟨hb, _⟩
      · exact ⟨by rw [he, hu], hk⟩
      · rw [H5.out.2.2.2] at hb; cases hb
    go_wp2_with fail
    refine Calls.mono HN.out ?_
    rintro e w6 ⟨rfl, hk6⟩
    have H6 : Hid (Keeps no w w6 ∧ Vers w6 o5 c5 r5 vs5) := ⟨H5.out.2.1.kp.trans hk6, H5.out.2.1.vers.keepsN hk6⟩
    clear hk6 HN
    have HM : Hid (Calls Try.prog 14 #[.slice o5 n5 c5, .slice none 0 0] w6 fun e w' => e = .returned (.tuple #[.slice none 0 0, .int .i64 1]) ∧ Keeps no w6 w') := (pMend_any w6 o5 n5 c5 r5 vs5 none 0 0 [] [] H5.out.1 rfl H5.out.2.2.1 fitL_x.2.2.2 H6.out.2 (vers_nil _)).mono fun e w' ⟨u, he, h⟩ => by
      rcases h with ⟨_, hu, hk⟩ | ⟨hb, _⟩ | ⟨hb, _⟩
      · exact ⟨by rw [he, hu], hk⟩
      · rw [H5.out.2.2.2] at hb; cases hb
      · rw [H5.out.2.2.2] at hb; cases hb
    go_wp2_with fail
    refine Calls.mono HM.out ?_
    rintro e w7 ⟨rfl, hk7⟩
    have H7 : Hid (Keeps no w w7 ∧ Vers w7 o5 c5 r5 vs5) := ⟨H6.out.1.trans hk7, H6.out.2.keepsN hk7⟩
    clear hk7 HM
    have HF : Hid (Calls Try.prog 11 #[.slice o5 n5 c5] w7 fun e w' => e = .returned (.bool false) ∧ Keeps no w7 w') := (pFormed_any w7 o5 n5 c5 r5 vs5 H5.out.1 H5.out.2.2.1 H7.out.2).mono fun e w' ⟨he, hk⟩ => ⟨by rw [he, H5.out.2.2.2], hk⟩
    go_wp2_with fail
    refine Calls.mono HF.out ?_
    rintro e w8 ⟨rfl, hk8⟩
    have H8 : Hid (Keeps no w w8 ∧ Vers w8 o5 c5 r5 vs5) := ⟨H7.out.1.trans hk8, H7.out.2.keepsN hk8⟩
    clear hk8 HF
    have HC : Hid (Calls Try.prog 15 #[.slice o5 n5 c5] w8 fun e w' => e = .returned (.bool false) ∧ Keeps no w8 w') := (pCut_any w8 o5 n5 c5 r5 vs5 H5.out.1 H5.out.2.2.1 H8.out.2).mono fun e w' ⟨he, hk⟩ => ⟨by rw [he, H5.out.2.2.2, Bool.and_false], hk⟩
    go_wp2_with fail
    refine Calls.mono HC.out ?_
    rintro e w9 ⟨rfl, hk9⟩
    go_wp2_with fail
    go_ret
    exact ⟨rfl, H8.out.1.trans hk9⟩
end Go.Proofs.Ytodblodbeobgeaa
