/- WriterShares. -/
import Derived.Test.YtghnhkhhpeoheaaLG
import Derived.Test.YtghnhkhhpeoheaaM2
namespace Go.Proofs.Ytghnhkhhpeoheaa
open Go.RowKit Go.Sort Orl
set_option linter.unusedVariables false
set_option linter.unusedSimpArgs false

/-- what WriterShares asks of how a write is dealt -/
structure Shr (lm : List Pr) (P m0 : Nat) (s1 : WS) (nq : Nat) : Prop where
  g1 : G1 s1
  n : nq = s1.ps.length
  most : nq ≤ lm.length
  id : s1.req = m0
  keys : s1.keys = kys (nrm lm)
  part : ∀ i, i < nq → PartOk lm P (s1.ps.getD i pp0)
  asc : ∀ i j, i < j → j < nq → (s1.ps.getD i pp0).1 < (s1.ps.getD j pp0).1
  total : total s1.ps = lm.length
theorem shr_of {lm : List Pr} {P m0 I : Nat} (hg : GoodP lm) (hl : 1 ≤ lm.length) (hP : 1 ≤ P) (hP2 : P ≤ 64) (hI : 65536 ≤ I) (hI2 : I < 18446744073709551616) : Shr lm P m0 (askS (startS I lm P) m0) (grpS lm P).length := by
  have hwf := start_wf hI hI2 hl (by have := hg.len; omega) hP hP2
  have hps : (askS (startS I lm P) m0).ps = grpS lm P := rfl
  refine ⟨⟨hwf.ask m0 (by show 0 ≤ 1; omega), rfl, rfl⟩, rfl, grp_most lm hP hg.nodup, rfl, rfl, ?_, ?_, grp_total lm hP⟩
  · intro i hi
    rw [hps]
    exact grp_part hg.nodup P _ (getD_mem_lt pp0 hi)
  · intro i j hij hj
    rw [hps]
    have := List.pairwise_iff_getElem.1 (prt_asc P Prod.fst (nrm lm) P) i j (by show i < (grpS lm P).length; omega) hj hij
    have e1 : (grpS lm P).getD i pp0 = (grpS lm P)[i]'(by omega) := by simp [List.getD_eq_getElem?_getD, show i < (grpS lm P).length by omega]
    have e2 : (grpS lm P).getD j pp0 = (grpS lm P)[j]'hj := by simp [List.getD_eq_getElem?_getD, hj]
    rw [e1, e2]
    exact this
def tot (g : List Pp) (i : Nat) : Nat := total (g.take i)
theorem tot_succ (g : List Pp) (i : Nat) (hi : i < g.length) : tot g (i + 1) = tot g i + (g.getD i pp0).2.length := by
  unfold tot
  rw [take_succ_getD g i pp0 hi, total_app]
  simp [total]
theorem tot_le (g : List Pp) (i : Nat) : tot g i ≤ total g := by
  unfold tot
  have : total g = total (g.take i) + total (g.drop i) := by rw [← total_app, List.take_append_drop]
  omega
theorem stG_ended {s1 : WS} (h : G1 s1) (m : Nat) {i : Nat} (hi : i < 2 * s1.ps.length) : (stG s1 m i).s.ended = 0 := by
  unfold stG
  split
  · exact h.ended
  · exact h.ended
theorem wResult_eq (w : World) (p cp : Nat) (F : Nat → Prop) (s : WS) (h : IsWr w p cp F s) (z : Int) (hz : z = (s.ended : Nat)) :
    Calls Try.prog 13 #[.pointer (some ⟨p, 0, none⟩)] w fun e w' => e = .returned (.int .i64 z) ∧ w' = w := by
  have hc : w.cell? ⟨p, 3, none⟩ = some (.int .i64 z) := by
    rw [hz]
    rcases h.2.2 with ⟨_, hb⟩ | ⟨he, ro, rn, rc, rz, hl⟩
    · rw [cell_of_blk hb]; rfl
    · rw [cell_of_blk hl.blk, he]; rfl
  clear h hz
  go_enter Try.func13, Try.ntmps13
  go_wp2_with fail
  go_ret
  exact ⟨rfl, rfl⟩
set_option maxRecDepth 10000 in
set_option maxHeartbeats 8000000 in
theorem writerShares_any (w : World) (o : Option Addr) (n c : Nat) (l : List Pr) (id : Nat) (parts : Int) (f : Nat) (hn : n = l.length) (hl : l.length ≤ 4398046511000) (hz : ∀ p ∈ l, p.1.size ≤ maxLen ∧ p.2.size ≤ maxLen) (hs : Sl PE w o c l) (hid : id < 18446744073709551616) (hff : f < 4294967296) :
    Calls Try.prog 4 #[.slice o n c, .int .u64 (id : Nat), .int .i64 parts, .int .u32 (f : Nat)] w fun e w' => e = .returned (.bool true) ∧ Keeps no w w' := by
  have HAL : Hid (Calls Try.prog 7 #[] w fun e w' => e = .returned (.bool true) ∧ Keeps no w w') := alive_any w
  have HME : Hid (∀ X, Keeps no w X → Calls Try.prog 8 #[.slice o n c] X fun e w' => ∃ v, e = .returned v ∧ Gives PE X (mendP l) v w') := fun X hX => mended_any X o n c l hn hl hz (hs.keepsN hX)
  have HGP : Hid (GoodP (mendP l) ∧ 1 ≤ (mendP l).length) := mendP_good l
  have HID : Hid (id < 18446744073709551616 ∧ f < 4294967296) := ⟨hid, hff⟩
  have hor : bits .or .u64 ((id : Nat) : Int) 65536 = ((idN id : Nat) : Int) := u64_or_nat id 65536 hid (by decide)
  have hand : bits .and .i64 parts 63 = ((prN parts : Nat) : Int) - 1 := by rw [i64_and63]; unfold prN; omega
  have hcv1 : IntKind.u64.wrap ((f : Nat) : Int) = (f : Int) := by rw [IntKind.wrap_u64]; omega
  clear hn hl hz hs hid hff
  generalize mendP l = lm at HME HGP
  go_enter Try.func4, Try.ntmps4
  go_wp2_with fail
  refine Calls.mono HAL.out ?_
  rintro e w1 ⟨rfl, hk1⟩
  have HK1 : Hid (Keeps no w w1) := hk1
  clear hk1 HAL
  go_wp2_with fail
  refine Calls.mono (HME.out _ HK1.out) ?_
  rintro e w2 ⟨_, rfl, om, nm, cm, rfl, hnm, hom, hnew, hk2⟩
  have HM : Hid (nm = lm.length ∧ Own PE w2 om cm lm ∧ Keeps no w w2) := ⟨hnm.out, hom, HK1.out.trans hk2⟩
  clear hnm hom hnew hk2 HME HK1
  obtain ⟨cp, hcp⟩ : ∃ cp, cp = w2.heap.size := ⟨_, rfl⟩
  have HB : Hid (Calls Try.prog 9 #[.slice om nm cm, .int .u64 (id : Nat), .int .i64 parts, .pointer (some ⟨w2.heap.size, 0, none⟩)] (w2.alloc (.cells #[.int .u64 ((f : Nat) : Int)] 28)) (BgnTo w2 cp id parts lm f)) := by
    have h := begun_any w2 (w2.alloc (.cells #[.int .u64 ((f : Nat) : Int)] 28)) om nm cm lm id parts cp f HM.out.1 HGP.out.1 HGP.out.2 (HM.out.2.1.sl.keepsN ((Keeps.refl no w2).alloc _)) HID.out.1 (by rw [hcp]; exact blk_new w2 _) (by have := HID.out.2; omega) (by rw [hcp]; exact Nat.le_refl _) ((Keeps.refl no w2).alloc _)
    rw [hcp] at h ⊢
    exact h
  have HCP : Hid (cp = w2.heap.size) := hcp
  clear hcp
  go_wp2_with fail
  refine Calls.mono HB.out ?_
  rintro e w3 ⟨p, oq, nq, cq, rs, F, rfl, hb⟩
  have HSH0 : Hid (Shr lm (prN parts) f (askS (startS (idN id) lm (prN parts)) f) (grpS lm (prN parts)).length) := shr_of HGP.out.1 HGP.out.2 (prN_le parts).1 (prN_le parts).2 (idN_lo id) (idN_hi HID.out.1)
  obtain ⟨s1, hs1⟩ : ∃ s1, s1 = askS (startS (idN id) lm (prN parts)) f := ⟨_, rfl⟩
  obtain ⟨m1, hm1⟩ : ∃ m1, m1 = numS (startS (idN id) lm (prN parts)) f := ⟨_, rfl⟩
  have hsid : s1.id = idN id := by rw [hs1]; rfl
  have HO0 : Hid (ordS s1 0 = s1) := by rw [hs1]; exact (ask_ord _ _).symm
  have hnq : nq = (grpS lm (prN parts)).length := by rw [hb.n]; rfl
  rw [← hs1, ← hnq] at HSH0
  rw [← hs1, ← hm1] at hb
  have HSH : Hid (Shr lm (prN parts) f s1 nq ∧ s1.id = idN id ∧ m1 < 18446744073709551616) := ⟨HSH0.out, hsid, by rw [hm1]; exact num_lt _ _⟩
  have hq64 : (nq : Int) ≤ 64 := by have := HSH0.out.n; have := HSH0.out.g1.wf.most; omega
  have hm1e : m1 = f + nq := by
    rw [hm1]; unfold numS w64
    rw [show (startS (idN id) lm (prN parts)).ps.length = nq by rw [hnq]; rfl]
    have := HID.out.2; omega
  have HT0 : Hid (Wt w2 w3 p cp s1 m1 F oq cq rs (askedS s1)) := ⟨hb.wc, hb.tq, hb.apart⟩
  have HOM : Hid (∀ X, Keeps no w3 X → Own PE X om cm lm) := fun X hX => HM.out.2.1.keepsN (hb.wc.kp.trans hX)
  have hcn : w3.cell? ⟨cp, 0, none⟩ = some (.int .u64 ((f : Int) + (nq : Int))) := by
    have h := cell_of_blk hb.wc.ct 0
    simp only [List.getElem?_toArray, List.getElem?_cons_zero] at h
    rw [h, hm1e]; push_cast; rfl
  have hcpe := HCP.out
  rw [← hcpe]
  have hcv2 : IntKind.u64.wrap ((nq : Nat) : Int) = (nq : Int) := by rw [IntKind.wrap_u64]; omega
  have hcv3 : IntKind.u64.wrap ((f : Int) + (nq : Int)) = (f : Int) + (nq : Int) := by rw [IntKind.wrap_u64]; have := HID.out.2; omega
  have hq1 : ¬ (nq : Int) = 0 := by have := HSH0.out.n; have := HSH0.out.g1.wf.pos; omega
  have hq1b : ((nq : Int) == 0) = false := by simpa using hq1
  have hqm : ¬ (nm : Int) < (nq : Int) := by have := HSH0.out.most; have := HM.out.1; omega
  have hqm2 : ¬ nm < nq := by omega
  have hqm3 : decide (nm < nq) = false := by simpa using hqm2
  have hnm40 : (nm : Int) ≤ 40 := by have := HGP.out.1.len; have := HM.out.1; omega
  have HF : Hid (f < 4294967296 ∧ idN id < 18446744073709551616 ∧ 1 ≤ prN parts ∧ prN parts ≤ 64) := ⟨HID.out.2, idN_hi HID.out.1, prN_le parts⟩
  have HNM : Hid (nm = lm.length ∧ Keeps no w w2 ∧ GoodP lm) := ⟨HM.out.1, HM.out.2.2, HGP.out.1⟩
  have HM1 : Hid (m1 = f + nq) := hm1e
  clear hb hs1 hm1 HB HM HGP HSH0 hsid hnq hm1e hcpe HCP HID
  generalize idN id = I at *
  generalize prN parts = P at *
  obtain ⟨KI, hKI⟩ : ∃ KI, KI = I % 65536 := ⟨_, rfl⟩
  have hrem : ((I : Nat) : Int) % 65536 = (KI : Int) := by omega
  have hremT : ((I : Nat) : Int).tmod 65536 = (KI : Int) := by rw [Int.tmod_eq_emod_of_nonneg (by omega)]; exact hrem
  have hcvK : IntKind.i64.wrap (KI : Int) = (KI : Int) := by rw [IntKind.wrap_i64]; omega
  have HKI : Hid (KI = I % 65536) := hKI
  clear hKI
  go_wp2_with fail
  clear hcn hcv2 hcv3
  go_loopw [13, 14] (fun s13 s14 wr => ∃ (i N : Nat), i ≤ nq ∧ s14 = .int .i64 i ∧ s13 = .int .i64 N ∧ Hid (N = tot s1.ps i ∧ Keeps no w3 wr)) (fun _ s14 _ => nq - (intOf s14).toNat)
  case atStart => exact ⟨0, 0, by omega, rfl, rfl, by unfold tot; simp [total], Keeps.refl _ _⟩
  case round =>
    rename World => wr
    obtain ⟨i, N, hi, rfl, rfl, HI1⟩ := hrel
    by_cases hlt : i < nq
    · have hlt' : (i : Int) < nq := by omega
      have hi64 : (i : Int) ≤ 64 := by omega
      have hil : i < s1.ps.length := by have := HSH.out.1.n; omega
      have hT := HT0.out.keepsN HI1.out.2
      obtain ⟨b, off, hoq, a0, a1, a2, a3, a4, a5, a6, a7, a8⟩ := hT.tq.own.sl.atQ (j := i) (by rw [hT.tq.len, asked_len]; exact hil)
      have hqn := hT.tq.each i (by rw [asked_len]; exact hil)
      rw [asked_at s1 hil] at hqn
      have hpk := HSH.out.1.part i hlt
      have HPR : Hid (∀ j, i = j + 1 → wr.cell? ⟨b, off + j * 9, none⟩ = some (.int .i64 ((s1.ps.getD j pp0).1 : Nat)) ∧ ¬ ((s1.ps.getD i pp0).1 : Int) ≤ ((s1.ps.getD j pp0).1 : Int)) := by
        intro j hj
        have hjl : j < s1.ps.length := by omega
        obtain ⟨b2, off2, hoq2, d0, _⟩ := hT.tq.own.sl.atQ (j := j) (by rw [hT.tq.len, asked_len]; exact hjl)
        rw [hoq] at hoq2; cases hoq2
        have hqj := hT.tq.each j (by rw [asked_len]; exact hjl)
        rw [asked_at s1 hjl] at hqj
        rw [hqj.part] at d0
        refine ⟨d0, ?_⟩
        have := HSH.out.1.asc j i (by omega) hlt
        omega
      generalize rs.getD i rq0 = r at a0 a1 a2 a3 a4 a5 a6 a7 a8 hqn
      obtain ⟨x0, x1, x2, x3, x4, xpo, xpn, xpc, xko, xkn, xkc, xwo, xwc, xvo, xvc⟩ := r
      simp only at a0 a1 a2 a3 a4 a5 a6 a7 a8
      obtain ⟨g0, g1, g2, g3, g4, g5, g6, g7, g8⟩ := hqn
      simp only at g0 g1 g2 g3 g4 g5 g6 g7 g8
      have e1 : (qAt s1 i).kind = 1 := by unfold qAt; simp only; rw [if_pos HSH.out.1.g1.round]
      have e3 : (qAt s1 i).req = f + i := by unfold qAt w64; simp only; rw [HSH.out.1.id]; have := HF.out.1; omega
      have e5 : (qAt s1 i).pairs = (s1.ps.getD i pp0).2 := by unfold qAt; simp only; rw [if_pos HSH.out.1.g1.round]
      have e6 : (qAt s1 i).keys = kys (nrm lm) := by unfold qAt; simp only; rw [if_pos HSH.out.1.g1.round, HSH.out.1.keys]
      rw [e5] at g5 g6
      rw [e6] at g7 g8
      have h2 : (KI : Int) = x2 := by rw [g2]; show _ = ((s1.id % 65536 : Nat) : Int); rw [HSH.out.2.1, HKI.out]
      have h3 : ((x3 : Nat) : Int) = (f : Int) + (i : Int) := by rw [g3, e3]; push_cast; rfl
      have h4 : I = x4 := by rw [g4]; exact HSH.out.2.1.symm
      have h7 : nm = xkn := by rw [g7, kys_length, nrm_length, HNM.out.1]
      rw [h3] at a3
      obtain ⟨A, hA⟩ : ∃ A : Nat, A = (s1.ps.getD i pp0).1 := ⟨_, rfl⟩
      have h0 : (A : Int) = x0 := by rw [g0, hA]; rfl
      rw [← hA] at HPR
      have h1 : 1 = x1 := by rw [g1, e1]
      subst h0 h1 h2 h4 h7
      have HPS : Hid (xpn = (s1.ps.getD i pp0).2.length ∧ Own PE wr xpo xpc (s1.ps.getD i pp0).2 ∧ PartOk lm P (s1.ps.getD i pp0) ∧ A = (s1.ps.getD i pp0).1) := ⟨g5, g6, hpk, hA⟩
      have HKS : Hid (nm = (kys (nrm lm)).length ∧ Own TE wr xko xkc (kys (nrm lm))) := ⟨g7, g8⟩
      have hpn1 : ¬ (xpn : Int) = 0 := by have := hpk.pos; omega
      have hpn1b : ((xpn : Int) == 0) = false := by simpa using hpn1
      have hpn2 : (xpn : Int) ≤ 2000 := by have := (HSH.out.1.g1.wf.part _ (getD_mem_lt pp0 hil)).2; omega
      have hcvi : IntKind.u64.wrap ((i : Nat) : Int) = (i : Int) := by rw [IntKind.wrap_u64]; omega
      have hcvs : IntKind.u64.wrap ((f : Int) + (i : Int)) = (f : Int) + (i : Int) := by rw [IntKind.wrap_u64]; have := HF.out.1; omega
      clear g0 g1 g2 g3 g4 g5 g6 g7 g8 e1 e3 e5 e6 h3 hA hpk hT hil
      subst hoq
      go_upto_region 13 with fail
      go_cut [142] from 82 to 141 (fun t142 wx => t142 = .bool false ∧ Hid (Keeps no wr wx ∧ wx.heap[wr.heap.size]? = some (.cells #[.int .i64 1, .int .i64 (KI : Nat), .int .u64 ((f : Int) + (i : Int)), .int .u64 (I : Nat), .slice xpo xpn xpc, .slice xko nm xkc, .slice xwo 0 xwc, .slice xvo 0 xvc] 39 (0, 0))))
      case first =>
        as_aux_lemma =>
        have HRL : Hid (∀ m, Keeps no wr ((wr.alloc (.cells #[.int .i64 1, .int .i64 (KI : Nat), .int .u64 ((f : Int) + (i : Int)), .int .u64 (I : Nat), .slice xpo xpn xpc, .slice xko nm xkc, .slice xwo 0 xwc, .slice xvo 0 xvc] 39)).drewN m) ∧ ((wr.alloc (.cells #[.int .i64 1, .int .i64 (KI : Nat), .int .u64 ((f : Int) + (i : Int)), .int .u64 (I : Nat), .slice xpo xpn xpc, .slice xko nm xkc, .slice xwo 0 xwc, .slice xvo 0 xvc] 39)).drewN m).heap[wr.heap.size]? = some (.cells #[.int .i64 1, .int .i64 (KI : Nat), .int .u64 ((f : Int) + (i : Int)), .int .u64 (I : Nat), .slice xpo xpn xpc, .slice xko nm xkc, .slice xwo 0 xwc, .slice xvo 0 xvc] 39 (0, 0))) := fun m => ⟨((Keeps.refl no wr).alloc _).drewN m, blk_new wr _⟩
        have a0' : ∀ o, (wr.alloc o).cell? ⟨b, off + i * 9, none⟩ = some (.int .i64 (A : Nat)) := fun o => ((Keeps.refl no wr).alloc o).cellN a0
        by_cases hi0 : i = 0
        · have hip0 : ¬ (0 : Int) < (i : Int) := by omega
          have hip1 : decide ((0 : Int) < (i : Int)) = false := by simpa using hip0
          have hip2 : decide (0 < i) = false := by simp; exact hi0
          clear HPR hi0
          go_quiet (fail)
          go_wp2_with fail
          go_meet
          case rel => exact ⟨rfl, HRL.out _⟩
        · obtain ⟨j, hj⟩ : ∃ j, i = j + 1 := ⟨i - 1, by omega⟩
          obtain ⟨d0, hle⟩ := HPR.out j hj
          have d0' : ∀ o, (wr.alloc o).cell? ⟨b, off + j * 9, none⟩ = some (.int .i64 ((s1.ps.getD j pp0).1 : Nat)) := fun o => ((Keeps.refl no wr).alloc o).cellN d0
          have hsub : (i : Int) - 1 = (j : Int) := by omega
          have hjq : (j : Int) < nq := by omega
          have hip0 : (0 : Int) < (i : Int) := by omega
          have hip1 : decide ((0 : Int) < (i : Int)) = true := by simpa using hip0
          have hip2 : decide (0 < i) = true := by simp; omega
          have hle2 : decide ((A : Int) ≤ ((s1.ps.getD j pp0).1 : Int)) = false := by simpa using hle
          generalize (s1.ps.getD j pp0).1 = A2 at d0 d0' hle hle2
          clear HPR hj hi0
          go_quiet (fail)
          go_wp2_with fail
          go_meet
          case rel => exact ⟨rfl, HRL.out _⟩
      case rest =>
      obtain ⟨rfl, HX1⟩ := hcut
      rename World => wx
      have HX2 : Hid (∀ X, Keeps no wx X → X.cell? ⟨wr.heap.size, 4, none⟩ = some (.slice xpo xpn xpc) ∧ X.cell? ⟨wr.heap.size, 5, none⟩ = some (.slice xko nm xkc) ∧ X.cell? ⟨b, off + i * 9, none⟩ = some (.int .i64 (A : Nat)) ∧ Own PE X om cm lm ∧ Own PE X xpo xpc (s1.ps.getD i pp0).2 ∧ Own TE X xko xkc (kys (nrm lm))) := fun X hX =>
        ⟨hX.cellN (by rw [cell_of_blk HX1.out.2]; rfl), hX.cellN (by rw [cell_of_blk HX1.out.2]; rfl), (HX1.out.1.trans hX).cellN a0, HOM.out X ((HI1.out.2.trans HX1.out.1).trans hX), HPS.out.2.1.keepsN (HX1.out.1.trans hX), HKS.out.2.keepsN (HX1.out.1.trans hX)⟩
      have HKW : Hid (Keeps no w3 wx) := HI1.out.2.trans HX1.out.1
      have HVA : Hid (∀ X, Keeps no wx X → ∀ key, Calls Try.prog 16 #[.slice om nm cm, .string key] X fun e w' => e = .returned (.tuple #[.string (valI lm key).1, .bool (valI lm key).2]) ∧ Keeps no X w') := fun X hX key => value_any X om nm cm lm key HNM.out.1 (by have := HNM.out.2.2.len; omega) (HX2.out X hX).2.2.2.1.sl
      clear HX1 a0 a1 a2 a3 a4 a5 a6 a7 a8 hcvi hcvs HPR
      generalize wr.heap.size = BM at HX2 ⊢
      as_aux_lemma =>
      go_wp2_with fail
      go_loopw [16] (fun s16 wk => ∃ k : Nat, k ≤ nm ∧ s16 = .int .i64 k ∧ Hid (Keeps no wx wk)) (fun s16 _ => nm - (intOf s16).toNat)
      case atStart => exact ⟨0, by omega, rfl, Keeps.refl _ _⟩
      case round =>
        rename World => wk
        obtain ⟨k, hk, rfl, HK⟩ := hrel
        obtain ⟨z4, z5, z0, zo, zp, zk⟩ := HX2.out wk HK.out
        by_cases hlk : k < nm
        · have hlk' : (k : Int) < nm := by omega
          have hkl : k < (kys (nrm lm)).length := by rw [← HKS.out.1]; exact hlk
          obtain ⟨kb, koff, hkb, d1⟩ := zk.sl.at hkl
          have HVK : Hid (∀ X, Keeps no wx X → Calls Try.prog 16 #[.slice om nm cm, .string ((kys (nrm lm)).getD k e0)] X fun e w' => ∃ v, e = .returned (.tuple #[.string v, .bool true]) ∧ Keeps no X w') := by
            intro X hX
            have h := HVA.out X hX ((kys (nrm lm)).getD k e0)
            rw [valI_key (getD_mem_lt e0 hkl)] at h
            exact h.mono fun e w' hh => ⟨_, hh⟩
          have HPV : Hid (∀ j, k = j + 1 → ∀ X, Keeps no wx X → X.cell? ⟨kb, koff + j, none⟩ = some (.string ((kys (nrm lm)).getD j e0)) ∧ Op.bytesLess ((kys (nrm lm)).getD j e0).toList ((kys (nrm lm)).getD k e0).toList = true) := by
            intro j hj X hX
            obtain ⟨b2, off2, e2, d2⟩ := (HX2.out X hX).2.2.2.2.2.sl.at (j := j) (by omega)
            rw [hkb] at e2; cases e2
            exact ⟨d2, inc_getD (nrm_keys HNM.out.2.2.nodup) e0 (show j < k by omega) hkl⟩
          have HDK : Hid (∀ X, Keeps no wx X → X.cell? ⟨kb, koff + k, none⟩ = some (.string ((kys (nrm lm)).getD k e0)) ∧ X.cell? ⟨BM, 5, none⟩ = some (.slice xko nm xkc)) := by
            intro X hX
            obtain ⟨b2, off2, e2, d2⟩ := (HX2.out X hX).2.2.2.2.2.sl.at (j := k) hkl
            rw [hkb] at e2; cases e2
            exact ⟨d2, (HX2.out X hX).2.1⟩
          generalize (kys (nrm lm)).getD k e0 = key at d1 HVK HPV HDK
          clear z4 z0 zo zp zk hkl
          subst hkb
          go_wp2_with fail
          refine (HVK.out wk HK.out).mono ?_
          rintro e wv ⟨v, rfl, hkv⟩
          have HKV : Hid (Keeps no wx wv) := HK.out.trans hkv
          clear hkv d1 z5
          obtain ⟨d1, z5⟩ := HDK.out wv HKV.out
          by_cases hk0 : k = 0
          · have hip0 : ¬ (0 : Int) < (k : Int) := by omega
            have hip1 : decide ((0 : Int) < (k : Int)) = false := by simpa using hip0
            have hip2 : decide (0 < k) = false := by simp; exact hk0
            clear HPV hk0
            go_wp2_with fail
            go_quiet (fail)
            go_wp2_with fail
            go_roundw
            case rel => exact ⟨k + 1, by omega, by go_num, HKV.out.drewN _⟩
            case measure => simp [intOf]; omega
          · obtain ⟨j, hj⟩ : ∃ j, k = j + 1 := ⟨k - 1, by omega⟩
            obtain ⟨d2, hless⟩ := HPV.out j hj wv HKV.out
            have hip0 : (0 : Int) < (k : Int) := by omega
            have hip1 : decide ((0 : Int) < (k : Int)) = true := by simpa using hip0
            have hip2 : decide (0 < k) = true := by simp; omega
            have hsub : (k : Int) - 1 = (j : Int) := by omega
            have hjn : (j : Int) < nm := by omega
            generalize (kys (nrm lm)).getD j e0 = key2 at d2 hless
            clear HPV hk0 hj
            go_wp2_with fail
            go_quiet (fail)
            go_wp2_with fail
            go_roundw
            case rel => exact ⟨k + 1, by omega, by go_num, HKV.out.drewN _⟩
            case measure => simp [intOf]; omega
        · have hlk' : ¬ (k : Int) < nm := by omega
          have HK4 : Hid (Keeps no wx wk) := HK.out
          clear HK hk z0 zo zp zk
          go_wp2_with fail
          go_loopw [19] (fun s19 wp => ∃ k : Nat, k ≤ xpn ∧ s19 = .int .i64 k ∧ Hid (Keeps no wx wp)) (fun s19 _ => xpn - (intOf s19).toNat)
          case atStart => exact ⟨0, by omega, rfl, HK4.out⟩
          case round =>
            clear z4 z5 HK4
            rename World => wp
            obtain ⟨k, hk, rfl, HK⟩ := hrel
            obtain ⟨z4, z5, z0, zo, zp, zk⟩ := HX2.out wp HK.out
            by_cases hlp : k < xpn
            · have hlp' : (k : Int) < xpn := by omega
              have hkl : k < (s1.ps.getD i pp0).2.length := by rw [← HPS.out.1]; exact hlp
              obtain ⟨kb, koff, hkb, d1, d2⟩ := zp.sl.atP hkl
              have hpa := HPS.out.2.2.1.at_ _ (getD_mem_lt p0 hkl)
              have hsz := HNM.out.2.2.size _ hpa.2.1
              have HDK : Hid (∀ X, Keeps no wx X → X.cell? ⟨kb, koff + k * 2, none⟩ = some (.string ((s1.ps.getD i pp0).2.getD k p0).1) ∧ X.cell? ⟨kb, koff + k * 2 + 1, none⟩ = some (.string ((s1.ps.getD i pp0).2.getD k p0).2) ∧ X.cell? ⟨BM, 4, none⟩ = some (.slice xpo xpn xpc) ∧ X.cell? ⟨b, off + i * 9, none⟩ = some (.int .i64 (A : Nat))) := by
                intro X hX
                obtain ⟨y4, y5, y0, yo, yp, yk⟩ := HX2.out X hX
                obtain ⟨b2, off2, e2, d3, d4⟩ := yp.sl.atP hkl
                rw [hkb] at e2; cases e2
                exact ⟨d3, d4, y4, y0⟩
              have HPV : Hid (∀ j, k = j + 1 → ∀ X, Keeps no wx X → X.cell? ⟨kb, koff + j * 2, none⟩ = some (.string ((s1.ps.getD i pp0).2.getD j p0).1) ∧ Op.bytesLess ((s1.ps.getD i pp0).2.getD j p0).1.toList ((s1.ps.getD i pp0).2.getD k p0).1.toList = true) := by
                intro j hj X hX
                obtain ⟨b2, off2, e2, d3, _⟩ := (HX2.out X hX).2.2.2.2.1.sl.atP (j := j) (by omega)
                rw [hkb] at e2; cases e2
                exact ⟨d3, inc_getD HPS.out.2.2.1.inc p0 (show j < k by omega) hkl⟩
              have HVK : Hid (∀ X, Keeps no wx X → Calls Try.prog 16 #[.slice om nm cm, .string ((s1.ps.getD i pp0).2.getD k p0).1] X fun e w' => e = .returned (.tuple #[.string ((s1.ps.getD i pp0).2.getD k p0).2, .bool true]) ∧ Keeps no X w') := by
                intro X hX
                have h := HVA.out X hX ((s1.ps.getD i pp0).2.getD k p0).1
                rw [hpa.2.2] at h
                exact h
              have HOF : Hid (∀ X, Calls Try.prog 17 #[.string ((s1.ps.getD i pp0).2.getD k p0).1, .int .i64 (P : Int)] X fun e w' => e = .returned (.tuple #[.int .i64 (A : Nat), .int .i64 0]) ∧ Keeps no X w') := by
                intro X
                refine (of_yes ((s1.ps.getD i pp0).2.getD k p0).1 P (by have := HF.out.2.2; omega) HF.out.2.2.2 X (by unfold maxLen; omega)).mono ?_
                rintro e w' ⟨rfl, rfl⟩
                rw [hpa.1, ← HPS.out.2.2.2]
                exact ⟨rfl, Keeps.refl _ _⟩
              clear z5 z0 zo zp zk hpa hsz hkl
              generalize (s1.ps.getD i pp0).2.getD k p0 = y at d1 d2 HDK HPV HVK HOF
              obtain ⟨y1, y2⟩ := y
              simp only at d1 d2 HDK HPV HVK HOF
              subst hkb
              have hadd : (1 : Int) + ((P : Int) - 1) = (P : Int) := by omega
              have hP64 : (P : Int) ≤ 64 := by have := HF.out.2.2; omega
              go_wp2_with fail
              refine (HVK.out wp HK.out).mono ?_
              rintro e wv ⟨rfl, hkv⟩
              have HKV : Hid (Keeps no wx wv) := HK.out.trans hkv
              clear hkv d1 d2 z4
              obtain ⟨d1, d2, z4, z0⟩ := HDK.out wv HKV.out
              go_wp2_with fail
              refine (HOF.out wv).mono ?_
              rintro e wu ⟨rfl, hku⟩
              have HKU : Hid (Keeps no wx wu) := HKV.out.trans hku
              clear hku d1 d2 z4 z0 HKV
              obtain ⟨d1, d2, z4, z0⟩ := HDK.out wu HKU.out
              by_cases hk0 : k = 0
              · have hip0 : ¬ (0 : Int) < (k : Int) := by omega
                have hip1 : decide ((0 : Int) < (k : Int)) = false := by simpa using hip0
                have hip2 : decide (0 < k) = false := by simp; exact hk0
                clear HPV hk0
                go_wp2_with fail
                go_quiet (fail)
                go_wp2_with fail
                go_roundw
                case rel => exact ⟨k + 1, by omega, by go_num, HKU.out.drewN _⟩
                case measure => simp [intOf]; omega
              · obtain ⟨j, hj⟩ : ∃ j, k = j + 1 := ⟨k - 1, by omega⟩
                obtain ⟨d3, hless⟩ := HPV.out j hj wu HKU.out
                have hip0 : (0 : Int) < (k : Int) := by omega
                have hip1 : decide ((0 : Int) < (k : Int)) = true := by simpa using hip0
                have hip2 : decide (0 < k) = true := by simp; omega
                have hsub : (k : Int) - 1 = (j : Int) := by omega
                have hjn : (j : Int) < xpn := by omega
                generalize ((s1.ps.getD i pp0).2.getD j p0).1 = key2 at d3 hless
                clear HPV hk0 hj
                go_wp2_with fail
                go_quiet (fail)
                go_wp2_with fail
                go_roundw
                case rel => exact ⟨k + 1, by omega, by go_num, HKU.out.drewN _⟩
                case measure => simp [intOf]; omega
            · have hlp' : ¬ (k : Int) < xpn := by omega
              have HKZ : Hid (Keeps no w3 wp) := HKW.out.trans HK.out
              have hN40 : (N : Int) ≤ 40 := by
                have h1 := HI1.out.1
                have h2 := tot_le s1.ps i
                have h3 := HSH.out.1.total
                have h4 := HNM.out.1
                omega
              have HTS : Hid (N + xpn = tot s1.ps (i + 1)) := by
                show _ = _
                rw [tot_succ s1.ps i (by have := HSH.out.1.n; omega), ← HI1.out.1, HPS.out.1]
              clear HK hk z5 z0 zo zp zk
              go_wp2_with fail
              go_roundw
              case rel => exact ⟨i + 1, N + xpn, by omega, by go_num, by go_num, HTS.out, HKZ.out⟩
              case measure => simp [intOf]; omega
    · have hlt' : ¬ (i : Int) < nq := by omega
      have hNe : N = nm := by
        have h1 := HI1.out.1
        rw [show i = s1.ps.length by have := HSH.out.1.n; omega] at h1
        unfold tot at h1
        rw [List.take_length, HSH.out.1.total] at h1
        rw [h1, HNM.out.1]
      subst hNe
      have HG1 : Hid (G1 s1 ∧ m1 < 18446744073709551616 ∧ nq = s1.ps.length) := ⟨HSH.out.1.g1, HSH.out.2.2, HSH.out.1.n⟩
      have HB3 : Hid (W2l w2 wr p cp (stG s1 m1 0).s (stG s1 m1 0).m oq cq rs (askedS s1) none 0 []) := by
        have h0 : stG s1 m1 0 = ⟨s1, m1⟩ := by
          have hp := HSH.out.1.g1.wf.pos
          unfold stG
          rw [if_pos (by omega), HO0.out]
        rw [h0]
        have hT := HT0.out.keepsN HI1.out.2
        exact ⟨F, [], hT, hT.wc, tq_nil _, fun i hi => by
          rcases hi with ⟨x, e, _⟩ | ⟨j, hj, _⟩
          · cases e
          · simp at hj⟩
      clear HI1 hi HT0 HOM
      have HRE : Hid (∀ X F j, Wt w2 X p cp (stG s1 m1 j).s (stG s1 m1 j).m F oq cq rs (askedS s1) → ∀ z : Int, z = ((stG s1 m1 j).s.ended : Nat) → Calls Try.prog 13 #[.pointer (some ⟨p, 0, none⟩)] X fun e w' => e = .returned (.int .i64 z) ∧ w' = X) := fun X F j h z hz => wResult_eq X p cp F _ h.wc.is z hz
      clear hcvK hremT hrem hand hcv1
      go_wp2_with fail
      go_loopw [24, 25] (fun s24 s25 wr => ∃ (i : Nat) (oc : Option Addr) (nc cc : Nat), i ≤ nq ∧ s25 = .int .i64 i ∧ s24 = .slice oc nc cc ∧ Hid (nc = (cmG s1 m1 i).length) ∧ Hid (W2l w2 wr p cp (stG s1 m1 i).s (stG s1 m1 i).m oq cq rs (askedS s1) oc cc (cmG s1 m1 i))) (fun _ s25 _ => nq - (intOf s25).toNat)
      case atStart =>
        have hc0 : cmG s1 m1 0 = [] := by
          have := HG1.out.1.wf.pos
          unfold cmG
          rw [if_pos (by omega)]
        exact ⟨0, none, 0, 0, by omega, rfl, rfl, by rw [hc0]; rfl, by rw [hc0]; exact HB3.out⟩
      case round =>
        clear HB3
        rename World => wr
        obtain ⟨i, oc, nc, cc, hi, rfl, rfl, HNC, HW⟩ := hrel
        by_cases hlt : i < nq
        · have hlt' : (i : Int) < nq := by omega
          have hil : i < s1.ps.length := by have := HG1.out.2.2; omega
          have hnc : nc = 0 := by have h := HNC.out; rw [cmG_len, if_pos hil] at h; exact h
          subst hnc
          obtain ⟨F, rc, h1, h2⟩ := HW.out.ex
          have HR0 : Hid (Calls Try.prog 13 #[.pointer (some ⟨p, 0, none⟩)] wr fun e w' => e = .returned (.int .i64 0) ∧ w' = wr) := HRE.out wr F i h1 0 (by rw [stG_ended HG1.out.1 m1 (by omega)]; rfl)
          have HT1 : Hid (Wt w2 wr p cp (stG s1 m1 i).s (stG s1 m1 i).m F oq cq rs (askedS s1)) := h1
          have HT2 : Hid (Wt w2 wr p cp (stG s1 m1 i).s (stG s1 m1 i).m F oc cc rc (cmG s1 m1 i)) := h2
          clear HW h1 h2
          obtain ⟨b, off, r, ka, hR⟩ := rcv_of HT1.out (i := i) (by rw [asked_len]; exact hil) HG1.out.1.wf.fit (asked_kind s1 hil)
          have hoq := hR.is
          subst hoq
          have HR : Hid (Rcv w2 wr p cp (stG s1 m1 i).s (stG s1 m1 i).m F (some ⟨b, off, none⟩) cq rs (askedS s1) i b off r ka) := hR
          have HOT : Hid (recvS (stG s1 m1 i).s (stG s1 m1 i).m ((askedS s1).getD i q0).part (ansK ((askedS s1).getD i q0)) ((askedS s1).getD i q0).req ((askedS s1).getD i q0).id = ⟨(stG s1 m1 (i + 1)).s, cmG s1 m1 (i + 1), (stG s1 m1 (i + 1)).m⟩) := HG1.out.1.first m1 hil
          clear hR hil
          as_aux_lemma =>
          go_wp2_with fail
          refine HR0.out.mono ?_
          rintro e wz ⟨rfl, hwz⟩
          subst wz
          go_wp2_with fail
          refine wp_region_held_drew (S := fun X => At9 X b off i r) (by kernel_rfl) ?_ (fun hHeld => ?_)
          · exact HR.out.at' _ (HT1.out.tq.keepsN ((Keeps.refl no _).drew))
          refine wpAnyH_take (i := 0) (v := ?_) (by simp only [List.getElem?_toArray, List.getElem?_cons_succ, List.getElem?_cons_zero]; rfl) (by kernel_rfl) (by kernel_rfl) (by kernel_rfl) (by exact fun _ _ _ h => h) (Or.inl ⟨by rfl, ?_⟩) (by assumption) ?_
          rotate_left
          · (intro _ hSw; (try dsimp only at hSw); go_simp; (try with_reducible rfl))
          try simp only [Act.put, List.setIfInBounds_toArray, List.set_cons_zero, List.set_cons_succ]
          refine wpAnyH_take (i := 1) (v := ?_) (by simp only [List.getElem?_toArray, List.getElem?_cons_succ, List.getElem?_cons_zero]; rfl) (by kernel_rfl) (by kernel_rfl) (by kernel_rfl) (by exact fun _ _ _ h => h) (Or.inl ⟨by rfl, ?_⟩) (by assumption) ?_
          rotate_left
          · (intro _ hSw; (try dsimp only at hSw); go_simp; (try with_reducible rfl))
          try simp only [Act.put, List.setIfInBounds_toArray, List.set_cons_zero, List.set_cons_succ]
          refine wpAnyH_take (i := 2) (v := ?_) (by simp only [List.getElem?_toArray, List.getElem?_cons_succ, List.getElem?_cons_zero]; rfl) (by kernel_rfl) (by kernel_rfl) (by kernel_rfl) (by exact fun _ _ _ h => h) (Or.inl ⟨by rfl, ?_⟩) (by assumption) ?_
          rotate_left
          · (intro _ hSw; (try dsimp only at hSw); go_simp; (try with_reducible rfl))
          try simp only [Act.put, List.setIfInBounds_toArray, List.set_cons_zero, List.set_cons_succ]
          refine wpAnyH_take (i := 3) (v := ?_) (by simp only [List.getElem?_toArray, List.getElem?_cons_succ, List.getElem?_cons_zero]; rfl) (by kernel_rfl) (by kernel_rfl) (by kernel_rfl) (by exact fun _ _ _ h => h) (Or.inl ⟨by rfl, ?_⟩) (by assumption) ?_
          rotate_left
          · (intro _ hSw; (try dsimp only at hSw); go_simp; (try with_reducible rfl))
          try simp only [Act.put, List.setIfInBounds_toArray, List.set_cons_zero, List.set_cons_succ]
          refine wpAnyH_take (i := 4) (v := ?_) (by simp only [List.getElem?_toArray, List.getElem?_cons_succ, List.getElem?_cons_zero]; rfl) (by kernel_rfl) (by kernel_rfl) (by kernel_rfl) (by exact fun _ _ _ h => h) (Or.inl ⟨by rfl, ?_⟩) (by assumption) ?_
          rotate_left
          · (intro _ hSw; (try dsimp only at hSw); go_simp; (try with_reducible rfl))
          try simp only [Act.put, List.setIfInBounds_toArray, List.set_cons_zero, List.set_cons_succ]
          refine wpAnyH_take (i := 5) (v := ?_) (by simp only [List.getElem?_toArray, List.getElem?_cons_succ, List.getElem?_cons_zero]; rfl) (by kernel_rfl) (by kernel_rfl) (by kernel_rfl) (by exact fun _ _ _ h => h) (Or.inl ⟨by rfl, ?_⟩) (by assumption) ?_
          rotate_left
          · (intro _ hSw; (try dsimp only at hSw); have z0 := hSw.c0; go_simp; (try with_reducible rfl))
          try simp only [Act.put, List.setIfInBounds_toArray, List.set_cons_zero, List.set_cons_succ]
          refine wpAnyH_take (i := 6) (v := ?_) (by simp only [List.getElem?_toArray, List.getElem?_cons_succ, List.getElem?_cons_zero]; rfl) (by kernel_rfl) (by kernel_rfl) (by kernel_rfl) (by exact fun _ _ _ h => h) (Or.inl ⟨by rfl, ?_⟩) (by assumption) ?_
          rotate_left
          · (intro _ hSw; (try dsimp only at hSw); go_simp; (try with_reducible rfl))
          try simp only [Act.put, List.setIfInBounds_toArray, List.set_cons_zero, List.set_cons_succ]
          refine wpAnyH_take (i := 7) (v := ?_) (by simp only [List.getElem?_toArray, List.getElem?_cons_succ, List.getElem?_cons_zero]; rfl) (by kernel_rfl) (by kernel_rfl) (by kernel_rfl) (by exact fun _ _ _ h => h) (Or.inl ⟨by rfl, ?_⟩) (by assumption) ?_
          rotate_left
          · (intro _ hSw; (try dsimp only at hSw); go_simp; (try with_reducible rfl))
          try simp only [Act.put, List.setIfInBounds_toArray, List.set_cons_zero, List.set_cons_succ]
          refine wpAnyH_take (i := 8) (v := ?_) (by simp only [List.getElem?_toArray, List.getElem?_cons_succ, List.getElem?_cons_zero]; rfl) (by kernel_rfl) (by kernel_rfl) (by kernel_rfl) (by exact fun _ _ _ h => h) (Or.inl ⟨by rfl, ?_⟩) (by assumption) ?_
          rotate_left
          · (intro _ hSw; (try dsimp only at hSw); go_simp; (try with_reducible rfl))
          try simp only [Act.put, List.setIfInBounds_toArray, List.set_cons_zero, List.set_cons_succ]
          refine wpAnyH_take (i := 9) (v := ?_) (by simp only [List.getElem?_toArray, List.getElem?_cons_succ, List.getElem?_cons_zero]; rfl) (by kernel_rfl) (by kernel_rfl) (by kernel_rfl) (by exact fun _ _ _ h => h) (Or.inl ⟨by rfl, ?_⟩) (by assumption) ?_
          rotate_left
          · (intro _ hSw; (try dsimp only at hSw); have z0 := hSw.c0; have z1 := hSw.c1; have z2 := hSw.c2; have z3 := hSw.c3; have z4 := hSw.c4; have z5 := hSw.c5; have z6 := hSw.c6; have z7 := hSw.c7; have z8 := hSw.c8; go_simp; (try with_reducible rfl))
          try simp only [Act.put, List.setIfInBounds_toArray, List.set_cons_zero, List.set_cons_succ]
          refine wpAnyH_ready (rs := [10]) (by kernel_rfl) (by simp) ?_
          refine AllReadyH.cons (by simp only [List.getElem?_toArray, List.getElem?_cons_succ, List.getElem?_cons_zero]; rfl) (fun Kq hKq => ?_) AllReadyH.nil
          go_simp
          refine Calls.mono (HR.out.ans _) ?_
          rintro e za ⟨rfl, hka⟩
          have HKA : Hid (Keeps no wr za) := ((Keeps.refl no wr).drew).trans hka
          clear hka
          refine hKq.out _ _ ?_ (fun hHeldN => ?_)
          · exact HR.out.at' _ (HT1.out.tq.keepsN HKA.out)
          clear hKq Kq hHeld
          have hHeld := hHeldN
          clear hHeldN
          refine wpAnyH_ready (rs := [11]) (by kernel_rfl) (by simp) ?_
          refine AllReadyH.cons (by simp only [List.getElem?_toArray, List.getElem?_cons_succ, List.getElem?_cons_zero]; rfl) (fun Kq hKq => ?_) AllReadyH.nil
          go_simp
          refine Calls.mono (HR.out.rcv _ HKA.out) ?_
          rintro e zb ⟨o9, n9, c9, r9, G, rfl, ht⟩
          rw [HOT.out] at ht
          have hT := (HT1.out.keepsN HKA.out).tell ht (HG1.out.1.wfG m1 (i + 1)) (stG_m s1 m1 (i + 1) HG1.out.2.1)
          have HN : Hid (W2l w2 zb p cp (stG s1 m1 (i + 1)).s (stG s1 m1 (i + 1)).m (some ⟨b, off, none⟩) cq rs (askedS s1) o9 c9 (cmG s1 m1 (i + 1))) := ⟨G, r9, hT.1, hT.2⟩
          have HN9 : Hid (n9 = (cmG s1 m1 (i + 1)).length) := ht.n
          have HTQ : Hid (Tq zb (some ⟨b, off, none⟩) cq rs (askedS s1)) := hT.1.tq
          clear ht hT HKA
          refine hKq.out _ _ ?_ (fun hHeldN => ?_)
          · exact HR.out.at' _ HTQ.out
          clear hKq Kq hHeld
          have hHeld := hHeldN
          clear hHeldN
          refine wpAnyH_take (i := 12) (v := ?_) (by simp only [List.getElem?_toArray, List.getElem?_cons_succ, List.getElem?_cons_zero]; rfl) (by kernel_rfl) (by kernel_rfl) (by kernel_rfl) (by exact fun _ _ _ h => h) (Or.inl ⟨by rfl, ?_⟩) (by assumption) ?_
          rotate_left
          · (intro _ hSw; (try dsimp only at hSw); go_simp; (try with_reducible rfl))
          try simp only [Act.put, List.setIfInBounds_toArray, List.set_cons_zero, List.set_cons_succ]
          refine wpAnyH_done (by kernel_rfl) ?_ _
          clear hHeld HOT HR HT1 HT2 HTQ
          go_wp2_with fail
          go_roundw
          case rel => exact ⟨i + 1, o9, n9, c9, by omega, by go_num, rfl, HN9, HN⟩
          case measure => simp [intOf]; omega
        · have hlt' : ¬ (i : Int) < nq := by omega
          have hie : i = nq := by omega
          subst hie
          have hcm : cmG s1 m1 i = askedS (askS s1 m1) := by unfold cmG; rw [if_neg (by have := HG1.out.2.2; omega)]
          have hnc : nc = i := by rw [HNC.out, hcm, asked_len]; exact HG1.out.2.2.symm
          subst hnc
          rw [hcm] at HW
          obtain ⟨F, rc, h1, h2⟩ := HW.out.ex
          have HR0 : Hid (Calls Try.prog 13 #[.pointer (some ⟨p, 0, none⟩)] wr fun e w' => e = .returned (.int .i64 0) ∧ w' = wr) := HRE.out wr F nc h1 0 (by rw [stG_ended HG1.out.1 m1 (by have := HG1.out.2.2; have := HG1.out.1.wf.pos; omega)]; rfl)
          have HW5 : Hid (W2l w2 wr p cp (stG s1 m1 (nc + 0)).s (stG s1 m1 (nc + 0)).m oq cq rs (askedS s1) oc cc (askedS (askS s1 m1))) := HW.out
          clear HW h1 h2 hcm HNC hi
          go_wp2_with fail
          refine HR0.out.mono ?_
          rintro e wz ⟨rfl, hwz⟩
          subst wz
          clear HR0
          go_wp2_with fail
          go_loopw [26] (fun s26 wr => ∃ i : Nat, i ≤ nc ∧ s26 = .int .i64 i ∧ Hid (W2l w2 wr p cp (stG s1 m1 (nc + i)).s (stG s1 m1 (nc + i)).m oq cq rs (askedS s1) oc cc (askedS (askS s1 m1)))) (fun s26 _ => nc - (intOf s26).toNat)
          case atStart => exact ⟨0, by omega, rfl, HW5⟩
          case round =>
            clear HW5
            rename World => wr
            obtain ⟨i, hi, rfl, HW⟩ := hrel
            by_cases hlt2 : i < nc
            · have hlt2' : (i : Int) < nc := by omega
              have hil : i < (askS s1 m1).ps.length := by show i < s1.ps.length; have := HG1.out.2.2; omega
              have hil1 : i < s1.ps.length := hil
              obtain ⟨F, rc, h1, h2⟩ := HW.out.ex
              have HT1 : Hid (Wt w2 wr p cp (stG s1 m1 (nc + i)).s (stG s1 m1 (nc + i)).m F oq cq rs (askedS s1)) := h1
              have HT2 : Hid (Wt w2 wr p cp (stG s1 m1 (nc + i)).s (stG s1 m1 (nc + i)).m F oc cc rc (askedS (askS s1 m1))) := h2
              obtain ⟨b, off, hoc, a0, a1, a2, a3, a4, a5, a6, a7, a8⟩ := h2.tq.own.sl.atQ (j := i) (by rw [h2.tq.len, asked_len]; exact hil)
              have hqn := h2.tq.each i (by rw [asked_len]; exact hil)
              rw [asked_at (askS s1 m1) hil] at hqn
              obtain ⟨bq, offq, hoq, y0, _⟩ := h1.tq.own.sl.atQ (j := i) (by rw [h1.tq.len, asked_len]; exact hil1)
              have hqq := h1.tq.each i (by rw [asked_len]; exact hil1)
              rw [asked_at s1 hil1] at hqq
              rw [hqq.part] at y0
              have HRQ : Hid (∀ X, Keeps no wr X → Calls Try.prog 13 #[.pointer (some ⟨p, 0, none⟩)] X fun e w' => e = .returned (.int .i64 0) ∧ w' = X) := fun X hX => HRE.out X F (nc + i) (HT1.out.keepsN hX) 0 (by rw [stG_ended HG1.out.1 m1 (by have := HG1.out.2.2; omega)]; rfl)
              generalize rc.getD i rq0 = r at a0 a1 a2 a3 a4 a5 a6 a7 a8 hqn
              obtain ⟨x0, x1, x2, x3, x4, xpo, xpn, xpc, xko, xkn, xkc, xwo, xwc, xvo, xvc⟩ := r
              simp only at a0 a1 a2 a3 a4 a5 a6 a7 a8
              obtain ⟨g0, g1, g2, g3, g4, g5, g6, g7, g8⟩ := hqn
              simp only at g0 g1 g2 g3 g4 g5 g6 g7 g8
              have hr2 := (HG1.out.1.two m1).2.1
              have e1 : (qAt (askS s1 m1) i).kind = 2 := by unfold qAt; simp only; rw [if_neg (by rw [hr2]; omega)]
              have e3 : (qAt (askS s1 m1) i).req = f + (nc + i) := by
                have h5 : (askS s1 m1).req = m1 := rfl
                unfold qAt w64; simp only; rw [h5, HM1.out]; have := HF.out.1; omega
              have e5 : (qAt (askS s1 m1) i).pairs = [] := by unfold qAt; simp only; rw [if_neg (by rw [hr2]; omega)]
              have e6 : (qAt (askS s1 m1) i).keys = [] := by unfold qAt; simp only; rw [if_neg (by rw [hr2]; omega)]
              obtain ⟨A, hA⟩ : ∃ A : Nat, A = (s1.ps.getD i pp0).1 := ⟨_, rfl⟩
              have h0 : (A : Int) = x0 := by rw [g0, hA]; rfl
              have hy0 : (qAt s1 i).part = (A : Int) := by rw [hA]; rfl
              rw [hy0] at y0
              have h1' : 2 = x1 := by rw [g1, e1]
              have h3 : ((x3 : Nat) : Int) = (f : Int) + ((nc : Int) + (i : Int)) := by rw [g3, e3]; push_cast; rfl
              have h4 : I = x4 := by rw [g4]; exact HSH.out.2.1.symm
              have h5 : 0 = xpn := by rw [g5, e5]; rfl
              have h7 : 0 = xkn := by rw [g7, e6]; rfl
              rw [h3] at a3
              subst h0 h1' h4 h5 h7
              have hcv1 : IntKind.u64.wrap ((f : Nat) : Int) = (f : Int) := by rw [IntKind.wrap_u64]; have := HF.out.1; omega
              have hcvi : IntKind.u64.wrap ((nc : Int) + (i : Int)) = (nc : Int) + (i : Int) := by rw [IntKind.wrap_u64]; omega
              have hcvs : IntKind.u64.wrap ((f : Int) + ((nc : Int) + (i : Int))) = (f : Int) + ((nc : Int) + (i : Int)) := by rw [IntKind.wrap_u64]; have := HF.out.1; omega
              have a0' : ∀ o, (wr.alloc o).cell? ⟨b, off + i * 9, none⟩ = some (.int .i64 (A : Nat)) := fun o => ((Keeps.refl no wr).alloc o).cellN a0
              have y0' : ∀ o, (wr.alloc o).cell? ⟨bq, offq + i * 9, none⟩ = some (.int .i64 (A : Nat)) := fun o => ((Keeps.refl no wr).alloc o).cellN y0
              have HOT0 : Hid (recvS (stG s1 m1 (nc + i)).s (stG s1 m1 (nc + i)).m ((askedS (askS s1 m1)).getD i q0).part (ansK ((askedS (askS s1 m1)).getD i q0)) ((askedS (askS s1 m1)).getD i q0).req ((askedS (askS s1 m1)).getD i q0).id = ⟨(stG s1 m1 (nc + (i + 1))).s, [], (stG s1 m1 (nc + (i + 1))).m⟩) := by
                have h := HG1.out.1.second m1 (i := nc + i) (by have := HG1.out.2.2; omega) (by have := HG1.out.2.2; omega)
                rw [show nc + i - s1.ps.length = i by have := HG1.out.2.2; omega] at h
                exact h
              clear g0 g1 g2 g3 g4 g5 g6 g7 g8 e1 e3 e5 e6 h3 hA hy0 hqq h1 h2 HW hr2 hil1
              subst hoc
              subst hoq
              go_upto_region 44 with fail
              go_cut [362] from 312 to 361 (fun t362 wx => t362 = .bool false ∧ Hid (Keeps no wr wx))
              case first =>
                as_aux_lemma =>
                have HRL : Hid (∀ m, Keeps no wr ((wr.alloc (.cells #[.int .i64 2, .int .i64 x2, .int .u64 ((f : Int) + ((nc : Int) + (i : Int))), .int .u64 (I : Nat), .slice xpo 0 xpc, .slice xko 0 xkc, .slice xwo 0 xwc, .slice xvo 0 xvc] 39)).drewN m)) := fun m => ((Keeps.refl no wr).alloc _).drewN m
                go_quiet ((go_at_call 13; exact Calls.quiet_of_same (HRQ.out _ (HRL.out _))))
                go_wp2_with fail
                go_meet
                case rel => exact ⟨rfl, HRL.out _⟩
              case rest =>
              obtain ⟨rfl, HX1⟩ := hcut
              rename World => wx
              have HT3 : Hid (Wt w2 wx p cp (stG s1 m1 (nc + i)).s (stG s1 m1 (nc + i)).m F (some ⟨bq, offq, none⟩) cq rs (askedS s1)) := HT1.out.keepsN HX1.out
              have HT4 : Hid (Wt w2 wx p cp (stG s1 m1 (nc + i)).s (stG s1 m1 (nc + i)).m F (some ⟨b, off, none⟩) cc rc (askedS (askS s1 m1))) := HT2.out.keepsN HX1.out
              clear HT1 HT2 HX1 a0 a1 a2 a3 a4 a5 a6 a7 a8 a0' y0' y0 hcvi hcvs hcv1 HRQ
              obtain ⟨b5, off5, r, ka, hR⟩ := rcv_of HT4.out (i := i) (by rw [asked_len]; exact hil) (HG1.out.1.two m1).1.fit (asked_kind _ hil)
              have hoc := hR.is
              have hb5 : b = b5 ∧ off = off5 := by cases hoc; exact ⟨rfl, rfl⟩
              obtain ⟨rfl, rfl⟩ := hb5
              have HR : Hid (Rcv w2 wx p cp (stG s1 m1 (nc + i)).s (stG s1 m1 (nc + i)).m F (some ⟨b, off, none⟩) cc rc (askedS (askS s1 m1)) i b off r ka) := hR
              clear hR hoc hil
              as_aux_lemma =>
              go_wp2_with fail
              refine wp_region_held_drew (S := fun X => At9 X b off i r) (by kernel_rfl) ?_ (fun hHeld => ?_)
              · exact HR.out.at' _ (HT4.out.tq.keepsN ((Keeps.refl no _).drew))
              refine wpAnyH_take (i := 0) (v := ?_) (by simp only [List.getElem?_toArray, List.getElem?_cons_succ, List.getElem?_cons_zero]; rfl) (by kernel_rfl) (by kernel_rfl) (by kernel_rfl) (by exact fun _ _ _ h => h) (Or.inl ⟨by rfl, ?_⟩) (by assumption) ?_
              rotate_left
              · (intro _ hSw; (try dsimp only at hSw); go_simp; (try with_reducible rfl))
              try simp only [Act.put, List.setIfInBounds_toArray, List.set_cons_zero, List.set_cons_succ]
              refine wpAnyH_take (i := 1) (v := ?_) (by simp only [List.getElem?_toArray, List.getElem?_cons_succ, List.getElem?_cons_zero]; rfl) (by kernel_rfl) (by kernel_rfl) (by kernel_rfl) (by exact fun _ _ _ h => h) (Or.inl ⟨by rfl, ?_⟩) (by assumption) ?_
              rotate_left
              · (intro _ hSw; (try dsimp only at hSw); go_simp; (try with_reducible rfl))
              try simp only [Act.put, List.setIfInBounds_toArray, List.set_cons_zero, List.set_cons_succ]
              refine wpAnyH_take (i := 2) (v := ?_) (by simp only [List.getElem?_toArray, List.getElem?_cons_succ, List.getElem?_cons_zero]; rfl) (by kernel_rfl) (by kernel_rfl) (by kernel_rfl) (by exact fun _ _ _ h => h) (Or.inl ⟨by rfl, ?_⟩) (by assumption) ?_
              rotate_left
              · (intro _ hSw; (try dsimp only at hSw); go_simp; (try with_reducible rfl))
              try simp only [Act.put, List.setIfInBounds_toArray, List.set_cons_zero, List.set_cons_succ]
              refine wpAnyH_take (i := 3) (v := ?_) (by simp only [List.getElem?_toArray, List.getElem?_cons_succ, List.getElem?_cons_zero]; rfl) (by kernel_rfl) (by kernel_rfl) (by kernel_rfl) (by exact fun _ _ _ h => h) (Or.inl ⟨by rfl, ?_⟩) (by assumption) ?_
              rotate_left
              · (intro _ hSw; (try dsimp only at hSw); go_simp; (try with_reducible rfl))
              try simp only [Act.put, List.setIfInBounds_toArray, List.set_cons_zero, List.set_cons_succ]
              refine wpAnyH_take (i := 4) (v := ?_) (by simp only [List.getElem?_toArray, List.getElem?_cons_succ, List.getElem?_cons_zero]; rfl) (by kernel_rfl) (by kernel_rfl) (by kernel_rfl) (by exact fun _ _ _ h => h) (Or.inl ⟨by rfl, ?_⟩) (by assumption) ?_
              rotate_left
              · (intro _ hSw; (try dsimp only at hSw); go_simp; (try with_reducible rfl))
              try simp only [Act.put, List.setIfInBounds_toArray, List.set_cons_zero, List.set_cons_succ]
              refine wpAnyH_take (i := 5) (v := ?_) (by simp only [List.getElem?_toArray, List.getElem?_cons_succ, List.getElem?_cons_zero]; rfl) (by kernel_rfl) (by kernel_rfl) (by kernel_rfl) (by exact fun _ _ _ h => h) (Or.inl ⟨by rfl, ?_⟩) (by assumption) ?_
              rotate_left
              · (intro _ hSw; (try dsimp only at hSw); have z0 := hSw.c0; go_simp; (try with_reducible rfl))
              try simp only [Act.put, List.setIfInBounds_toArray, List.set_cons_zero, List.set_cons_succ]
              refine wpAnyH_take (i := 6) (v := ?_) (by simp only [List.getElem?_toArray, List.getElem?_cons_succ, List.getElem?_cons_zero]; rfl) (by kernel_rfl) (by kernel_rfl) (by kernel_rfl) (by exact fun _ _ _ h => h) (Or.inl ⟨by rfl, ?_⟩) (by assumption) ?_
              rotate_left
              · (intro _ hSw; (try dsimp only at hSw); go_simp; (try with_reducible rfl))
              try simp only [Act.put, List.setIfInBounds_toArray, List.set_cons_zero, List.set_cons_succ]
              refine wpAnyH_take (i := 7) (v := ?_) (by simp only [List.getElem?_toArray, List.getElem?_cons_succ, List.getElem?_cons_zero]; rfl) (by kernel_rfl) (by kernel_rfl) (by kernel_rfl) (by exact fun _ _ _ h => h) (Or.inl ⟨by rfl, ?_⟩) (by assumption) ?_
              rotate_left
              · (intro _ hSw; (try dsimp only at hSw); go_simp; (try with_reducible rfl))
              try simp only [Act.put, List.setIfInBounds_toArray, List.set_cons_zero, List.set_cons_succ]
              refine wpAnyH_take (i := 8) (v := ?_) (by simp only [List.getElem?_toArray, List.getElem?_cons_succ, List.getElem?_cons_zero]; rfl) (by kernel_rfl) (by kernel_rfl) (by kernel_rfl) (by exact fun _ _ _ h => h) (Or.inl ⟨by rfl, ?_⟩) (by assumption) ?_
              rotate_left
              · (intro _ hSw; (try dsimp only at hSw); go_simp; (try with_reducible rfl))
              try simp only [Act.put, List.setIfInBounds_toArray, List.set_cons_zero, List.set_cons_succ]
              refine wpAnyH_take (i := 9) (v := ?_) (by simp only [List.getElem?_toArray, List.getElem?_cons_succ, List.getElem?_cons_zero]; rfl) (by kernel_rfl) (by kernel_rfl) (by kernel_rfl) (by exact fun _ _ _ h => h) (Or.inl ⟨by rfl, ?_⟩) (by assumption) ?_
              rotate_left
              · (intro _ hSw; (try dsimp only at hSw); have z0 := hSw.c0; have z1 := hSw.c1; have z2 := hSw.c2; have z3 := hSw.c3; have z4 := hSw.c4; have z5 := hSw.c5; have z6 := hSw.c6; have z7 := hSw.c7; have z8 := hSw.c8; go_simp; (try with_reducible rfl))
              try simp only [Act.put, List.setIfInBounds_toArray, List.set_cons_zero, List.set_cons_succ]
              refine wpAnyH_ready (rs := [10]) (by kernel_rfl) (by simp) ?_
              refine AllReadyH.cons (by simp only [List.getElem?_toArray, List.getElem?_cons_succ, List.getElem?_cons_zero]; rfl) (fun Kq hKq => ?_) AllReadyH.nil
              go_simp
              refine Calls.mono (HR.out.ans _) ?_
              rintro e za ⟨rfl, hka⟩
              have HKA : Hid (Keeps no wx za) := ((Keeps.refl no wx).drew).trans hka
              clear hka
              refine hKq.out _ _ ?_ (fun hHeldN => ?_)
              · exact HR.out.at' _ (HT4.out.tq.keepsN HKA.out)
              clear hKq Kq hHeld
              have hHeld := hHeldN
              clear hHeldN
              refine wpAnyH_ready (rs := [11]) (by kernel_rfl) (by simp) ?_
              refine AllReadyH.cons (by simp only [List.getElem?_toArray, List.getElem?_cons_succ, List.getElem?_cons_zero]; rfl) (fun Kq hKq => ?_) AllReadyH.nil
              go_simp
              refine Calls.mono (HR.out.rcv _ HKA.out) ?_
              rintro e zb ⟨o9, n9, c9, r9, G, rfl, ht⟩
              rw [HOT0.out] at ht
              have hT := (HT4.out.keepsN HKA.out).tell ht (HG1.out.1.wfG m1 (nc + (i + 1))) (stG_m s1 m1 (nc + (i + 1)) HG1.out.2.1)
              have hS := (HT3.out.keepsN HKA.out).tell ht (HG1.out.1.wfG m1 (nc + (i + 1))) (stG_m s1 m1 (nc + (i + 1)) HG1.out.2.1)
              have HN : Hid (W2l w2 zb p cp (stG s1 m1 (nc + (i + 1))).s (stG s1 m1 (nc + (i + 1))).m (some ⟨bq, offq, none⟩) cq rs (askedS s1) (some ⟨b, off, none⟩) cc (askedS (askS s1 m1))) := ⟨G, rc, hS.1, hT.1⟩
              have hn9 : n9 = 0 := ht.n
              subst hn9
              have HTQ : Hid (Tq zb (some ⟨b, off, none⟩) cc rc (askedS (askS s1 m1))) := hT.1.tq
              clear ht hT hS HKA
              refine hKq.out _ _ ?_ (fun hHeldN => ?_)
              · exact HR.out.at' _ HTQ.out
              clear hKq Kq hHeld
              have hHeld := hHeldN
              clear hHeldN
              refine wpAnyH_take (i := 12) (v := ?_) (by simp only [List.getElem?_toArray, List.getElem?_cons_succ, List.getElem?_cons_zero]; rfl) (by kernel_rfl) (by kernel_rfl) (by kernel_rfl) (by exact fun _ _ _ h => h) (Or.inl ⟨by rfl, ?_⟩) (by assumption) ?_
              rotate_left
              · (intro _ hSw; (try dsimp only at hSw); go_simp; (try with_reducible rfl))
              try simp only [Act.put, List.setIfInBounds_toArray, List.set_cons_zero, List.set_cons_succ]
              refine wpAnyH_take (i := 13) (v := ?_) (by simp only [List.getElem?_toArray, List.getElem?_cons_succ, List.getElem?_cons_zero]; rfl) (by kernel_rfl) (by kernel_rfl) (by kernel_rfl) (by exact fun _ _ _ h => h) (Or.inl ⟨by rfl, ?_⟩) (by assumption) ?_
              rotate_left
              · (intro _ hSw; (try dsimp only at hSw); go_simp; (try with_reducible rfl))
              try simp only [Act.put, List.setIfInBounds_toArray, List.set_cons_zero, List.set_cons_succ]
              refine wpAnyH_done (by kernel_rfl) ?_ _
              clear hHeld HOT0 HR HT3 HT4 HTQ
              go_wp2_with fail
              go_roundw
              case rel => exact ⟨i + 1, by omega, by go_num, HN⟩
              case measure => simp [intOf]; omega
            · have hlt2' : ¬ (i : Int) < nc := by omega
              have hie2 : i = nc := by omega
              subst hie2
              obtain ⟨F, rc, h1, h2⟩ := HW.out.ex
              have hst : (stG s1 m1 (i + i)).s.ended = 1 ∧ (stG s1 m1 (i + i)).m < 18446744073709551616 := by
                refine ⟨?_, stG_m _ _ _ HG1.out.2.1⟩
                unfold stG
                rw [if_neg (by have := HG1.out.2.2; have := HG1.out.1.wf.pos; omega), if_neg (by have := HG1.out.2.2; omega)]
              have HR0 : Hid (Calls Try.prog 13 #[.pointer (some ⟨p, 0, none⟩)] wr fun e w' => e = .returned (.int .i64 1) ∧ w' = wr) := HRE.out wr F _ h1 1 (by rw [hst.1]; rfl)
              have HAG : Hid (Calls Try.prog 14 #[.pointer (some ⟨p, 0, none⟩)] wr (TellTo wr p cp F ⟨(stG s1 m1 (i + i)).s, [], (stG s1 m1 (i + i)).m⟩)) := by
                have := wAgain_any wr p cp F (stG s1 m1 (i + i)).s (stG s1 m1 (i + i)).m h1.wc.is h1.wc.wf h1.wc.ct h1.wc.lt h1.wc.cF
                rw [again_end (by rw [hst.1]; omega)] at this
                exact this
              have HWC : Hid (Wc w2 wr p cp (stG s1 m1 (i + i)).s (stG s1 m1 (i + i)).m F) := h1.wc
              clear HW h1 h2 hst hi
              go_wp2_with fail
              refine HR0.out.mono ?_
              rintro e wz ⟨rfl, hwz⟩
              subst wz
              go_wp2_with fail
              refine HAG.out.mono ?_
              rintro e wB ⟨o5, n5, c5, r5, G5, rfl, ht⟩
              have hn5 : n5 = 0 := ht.n
              have HKE : Hid (Keeps no w wB) := HNM.out.2.1.trans ((HWC.out.tell ht HWC.out.wf HWC.out.lt).kp)
              clear ht
              subst hn5
              go_wp2_with fail
              go_ret
              exact ⟨rfl, HKE.out⟩
end Go.Proofs.Ytghnhkhhpeoheaa
