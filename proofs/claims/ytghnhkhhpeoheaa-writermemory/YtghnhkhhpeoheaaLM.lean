/- WriterMemory. -/
import Derived.Test.YtghnhkhhpeoheaaMd
import Derived.Deep.CutBlock
import Derived.Deep.CutRange
import Derived.Deep.RegionHeldLaw
namespace Go.Proofs.Ytghnhkhhpeoheaa
open Go.RowKit Go.Sort Orl
set_option linter.unusedVariables false
set_option linter.unusedSimpArgs false

theorem t4_cases (t0 t3 : TL) (n : Nat) : n = 0 ∨ n = 3 ∨ T4 t0 tl0 tl0 t3 n = tl0 := by
  match n with
  | 0 => exact .inl rfl
  | 1 => exact .inr (.inr rfl)
  | 2 => exact .inr (.inr rfl)
  | 3 => exact .inr (.inl rfl)
  | n + 4 => exact .inr (.inr rfl)
theorem t4_drop (t0 t3 : TL) (n : Nat) : T4 tl0 tl0 tl0 t3 n = tl0 ∨ T4 tl0 tl0 tl0 t3 n = T4 t0 tl0 tl0 t3 n := by
  match n with
  | 0 => exact .inl rfl
  | 1 => exact .inl rfl
  | 2 => exact .inl rfl
  | 3 => exact .inr rfl
  | n + 4 => exact .inl rfl
theorem t4_move (t0 t1 t3 : TL) (n : Nat) : T4 t0 tl0 tl0 t1 n = tl0 ∨ T4 t0 tl0 tl0 t1 n = T4 t0 t1 tl0 t3 (if n = 3 then 1 else n) := by
  match n with
  | 0 => exact .inr rfl
  | 1 => exact .inl rfl
  | 2 => exact .inl rfl
  | 3 => exact .inr rfl
  | n + 4 => exact .inl rfl
set_option maxRecDepth 10000 in
set_option maxHeartbeats 8000000 in
theorem writerMemory_any (w : World) (o : Option Addr) (n c : Nat) (l : List Pr) (id : Nat) (parts : Int) (hn : n = l.length) (hl : l.length ≤ 4398046511000) (hz : ∀ p ∈ l, p.1.size ≤ maxLen ∧ p.2.size ≤ maxLen) (hs : Sl PE w o c l) (hid : id < 18446744073709551616) :
    Calls Try.prog 6 #[.slice o n c, .int .u64 (id : Nat), .int .i64 parts] w fun e w' => e = .returned (.bool true) ∧ Keeps no w w' := by
  have HAL : Hid (Calls Try.prog 7 #[] w fun e w' => e = .returned (.bool true) ∧ Keeps no w w') := alive_any w
  have HME : Hid (∀ X, Keeps no w X → Calls Try.prog 8 #[.slice o n c] X fun e w' => ∃ v, e = .returned v ∧ Gives PE X (mendP l) v w') := fun X hX => mended_any X o n c l hn hl hz (hs.keepsN hX)
  have HGP : Hid (GoodP (mendP l) ∧ 1 ≤ (mendP l).length) := mendP_good l
  have HID : Hid (id < 18446744073709551616) := hid
  clear hn hl hz hs hid
  generalize mendP l = lm at HME HGP
  go_enter Try.func6, Try.ntmps6
  go_wp2_with fail
  refine Calls.mono HAL.out ?_
  rintro e w1 ⟨rfl, hk1⟩
  have HK1 : Hid (Keeps no w w1) := hk1
  clear hk1 HAL
  go_wp2_with fail
  refine Calls.mono (HME.out _ HK1.out) ?_
  rintro e w2 ⟨_, rfl, oml, nm, cml, rfl, hnm, hom, hnew, hk2⟩
  have HM : Hid (nm = lm.length ∧ Own PE w2 oml cml lm ∧ Keeps no w w2) := ⟨hnm.out, hom, HK1.out.trans hk2⟩
  clear hnm hom hnew hk2 HME HK1
  obtain ⟨cp, hcp⟩ : ∃ cp, cp = w2.heap.size := ⟨_, rfl⟩
  obtain ⟨wb, hwb⟩ : ∃ wb, wb = (w2.alloc (.cells #[.int .u64 ((1 : Nat) : Int)] 28)).alloc (.cells #[.int .u64 ((1 : Nat) : Int)] 28) := ⟨_, rfl⟩
  have hkb : Keeps no w2 wb := by rw [hwb]; exact ((Keeps.refl _ _).alloc _).alloc _
  have h2b := two_blk w2 (.cells #[.int .u64 ((1 : Nat) : Int)] 28) (.cells #[.int .u64 ((1 : Nat) : Int)] 28)
  rw [← hwb, ← hcp] at h2b
  have HB : Hid (Calls Try.prog 9 #[.slice oml nm cml, .int .u64 (id : Nat), .int .i64 parts, .pointer (some ⟨cp, 0, none⟩)] wb (Bgn2To w2 wb cp id parts lm 1)) := begun2_any w2 wb oml nm cml lm id parts cp 1 HM.out.1 HGP.out.1 HGP.out.2 (HM.out.2.1.sl.keepsN hkb) HID.out h2b.1 (by decide) (by omega) hkb
  have HWB : Hid (Keeps no w2 wb ∧ wb.heap[cp + 1]? = some (.cells #[.int .u64 ((1 : Nat) : Int)] 28 (0, 0)) ∧ cp = w2.heap.size ∧ cp + 1 < wb.heap.size) := ⟨hkb, h2b.2, hcp, lt_of_block h2b.2⟩
  clear hkb h2b
  go_wp2_with fail
  rw [← hcp]
  have hwb' : (w2.alloc (.cells #[.int .u64 1] 28)).alloc (.cells #[.int .u64 1] 28) = wb := hwb.symm
  rw [hwb']
  clear hwb hwb' hcp
  refine Calls.mono HB.out ?_
  rintro e w3 ⟨p, oq, nq, cq, rs, F, rfl, hb, hkc, hFn, hTn⟩
  have HB2 : Hid (Calls Try.prog 9 #[.slice oml nm cml, .int .u64 (id : Nat), .int .i64 parts, .pointer (some ⟨cp + 1, 0, none⟩)] w3 (Bgn2To w2 w3 (cp + 1) id parts lm 1)) := begun2_any w2 w3 oml nm cml lm id parts (cp + 1) 1 HM.out.1 HGP.out.1 HGP.out.2 (HM.out.2.1.sl.keepsN hb.wc.kp) HID.out (hkc.at HWB.out.2.1 (show ¬ (cp + 1 = cp) by omega)) (by decide) (by have := HWB.out.2.2.1; omega) hb.wc.kp
  go_wp2_with fail
  refine Calls.mono HB2.out ?_
  rintro e w4 ⟨p2, oq2, nq2, cq2, rs2, F2, rfl, hb2, hkc2, hFn2, hTn2⟩
  obtain ⟨s1, hs1⟩ : ∃ s1, s1 = askS (startS (idN id) lm (prN parts)) 1 := ⟨_, rfl⟩
  obtain ⟨m1, hm1⟩ : ∃ m1, m1 = numS (startS (idN id) lm (prN parts)) 1 := ⟨_, rfl⟩
  rw [← hs1] at hTn hTn2
  rw [← hs1, ← hm1] at hb hb2
  have hnq2 : nq = nq2 := by rw [hb2.n, hb.n]
  subst hnq2
  have HRN : Hid (Rn s1 nq ∧ s1.round = 1 ∧ m1 < 18446744073709551616) := by
    refine ⟨⟨hb.wc.wf, hb.n, .inl (by rw [hs1]; rfl), by rw [hs1]; rfl, ?_⟩, by rw [hs1]; rfl, by rw [hm1]; exact num_lt _ _⟩
    rw [hb.n, hs1]; rfl
  have HM4 : Hid (Md w2 w4 p cp s1 m1 p2 (cp + 1) s1 m1 (T4 ⟨oq, cq, rs, askedS s1⟩ tl0 tl0 ⟨oq2, cq2, rs2, askedS s1⟩)) := by
    have hcpw := HWB.out.2.2.2
    have hlt3 : ∀ i, (F i ∨ i = cp) → i < w3.heap.size := hb.wc.ltF
    have hF2n : ∀ i, F2 i → w3.heap.size ≤ i := hFn2
    have hwb3 : wb.heap.size ≤ w3.heap.size := hkc.size
    have hS : ∀ i, (fun i => i = cp + 1) i → w2.heap.size ≤ i := fun i e => by have : i = cp + 1 := e; have := HWB.out.2.2.1; omega
    have hFc : ∀ i, (F i ∨ i = cp) → ¬ (fun i => i = cp + 1) i := by
      rintro i (hi | hi) e
      · have := hFn i hi; have : i = cp + 1 := e; omega
      · have : i = cp + 1 := e; omega
    have hTc : ∀ i, TB oq rs (askedS s1).length i → ¬ (fun i => i = cp + 1) i := fun i hi e => by have := hTn i hi; have : i = cp + 1 := e; omega
    have hq4 := hb.tq.keeps hkc2 hTc
    have key : ∀ i, TB oq rs (askedS s1).length i → ¬ TB oq2 rs2 (askedS s1).length i := fun i h5 h6 => by have := hb.tq.lt i h5; have := hTn2 i h6; omega
    refine ⟨F, F2, fun i => TB oq rs (askedS s1).length i ∨ TB oq2 rs2 (askedS s1).length i, ⟨hb.wc.keeps hkc2 hFc hS, hb2.wc, ?_, ?_, ?_, ?_, ?_⟩, ?_, ?_⟩
    · rintro i h1 (h2 | h2)
      · have := hlt3 i h1; have := hF2n i h2; omega
      · exact hFc i h1 h2
    · rintro i (hi | hi)
      · exact hq4.lt i hi
      · exact hb2.tq.lt i hi
    · rintro i (hi | hi) h2
      · exact hb.apart i hi h2
      · have := hTn2 i hi; have := hlt3 i h2; omega
    · rintro i (hi | hi) (h2 | h2)
      · have := hb.tq.lt i hi; have := hF2n i h2; omega
      · exact hTc i hi h2
      · exact hb2.apart i hi (.inl h2)
      · exact hb2.apart i hi (.inr h2)
    · rintro i (hi | hi)
      · exact hb.new i hi
      · exact hb2.new i hi
    · intro n
      rcases t4_cases ⟨oq, cq, rs, askedS s1⟩ ⟨oq2, cq2, rs2, askedS s1⟩ n with rfl | rfl | e
      · exact ⟨hq4, fun i hi => .inl hi⟩
      · exact ⟨hb2.tq, fun i hi => .inr hi⟩
      · rw [e]; exact ⟨tq_nil _, fun i hi => (tb0 hi).elim⟩
    · intro n m hnm i hi hj
      rcases t4_cases ⟨oq, cq, rs, askedS s1⟩ ⟨oq2, cq2, rs2, askedS s1⟩ n with rfl | rfl | e
      · rcases t4_cases ⟨oq, cq, rs, askedS s1⟩ ⟨oq2, cq2, rs2, askedS s1⟩ m with rfl | rfl | e2
        · exact hnm rfl
        · exact key i hi hj
        · rw [e2] at hj; exact tb0 hj
      · rcases t4_cases ⟨oq, cq, rs, askedS s1⟩ ⟨oq2, cq2, rs2, askedS s1⟩ m with rfl | rfl | e2
        · exact key i hj hi
        · exact hnm rfl
        · rw [e2] at hj; exact tb0 hj
      · rw [e] at hi; exact tb0 hi
  have HKW : Hid (Keeps no w w2) := HM.out.2.2
  clear hb hb2 hkc hkc2 hFn hFn2 hTn hTn2 HB HB2 HWB HM HGP hs1 hm1
  have hq64 : (nq : Int) ≤ 64 := by have := HRN.out.1.len; have := HRN.out.1.wf.most; omega
  have hq1 : ¬ (nq : Int) = 0 := by have := HRN.out.1.len; have := HRN.out.1.wf.pos; omega
  have hq1b : ((nq : Int) == 0) = false := by simpa using hq1
  have HFT : Hid (FitQs (askedS s1)) := HRN.out.1.wf.fit
  have HLN : Hid (nq = (askedS s1).length) := by rw [asked_len]; exact HRN.out.1.len
  have HSM : Hid (Calls Try.prog 18 #[.slice oq nq cq, .slice oq2 nq cq2] w4 fun e w' => e = .returned (.bool true) ∧ Keeps no w4 w') := HM4.out.same 0 3 HFT.out HFT.out HLN.out HLN.out rfl
  go_wp2_with fail
  refine Calls.mono HSM.out ?_
  rintro e w5 ⟨rfl, hk⟩
  have HM5 : Hid (Md w2 w5 p cp s1 m1 p2 (cp + 1) s1 m1 (T4 ⟨oq, cq, rs, askedS s1⟩ tl0 tl0 ⟨oq2, cq2, rs2, askedS s1⟩)) := HM4.out.keepsN hk
  clear hk HSM HM4
  have HAG : Hid (Calls Try.prog 14 #[.pointer (some ⟨p, 0, none⟩)] w5 fun e w' => ∃ o n c, e = .returned (.slice o n c) ∧ Hid (n = nq ∧ ∃ rN, Md w2 w' p cp s1 m1 p2 (cp + 1) s1 m1 (T4 ⟨oq, cq, rs, (askedS s1)⟩ ⟨o, c, rN, (askedS s1)⟩ tl0 ⟨oq2, cq2, rs2, (askedS s1)⟩))) := by
    have h := HM5.out.again 1
    rw [HRN.out.1.again] at h
    refine h.mono ?_
    rintro e w' ⟨o, n, c, rfl, hh⟩
    obtain ⟨h1, rN, h2⟩ := hh.out
    rw [updT_1] at h2
    exact ⟨o, n, c, rfl, by rw [h1, asked_len]; exact HRN.out.1.len.symm, rN, h2⟩
  go_wp2_with fail
  refine Calls.mono HAG.out ?_
  rintro e w6 ⟨o6, n6, c6, rfl, hh⟩
  obtain ⟨hn6, r6, hM6⟩ := hh.out
  subst n6
  have HM6 : Hid (Md w2 w6 p cp s1 m1 p2 (cp + 1) s1 m1 (T4 ⟨oq, cq, rs, (askedS s1)⟩ ⟨o6, c6, r6, (askedS s1)⟩ tl0 ⟨oq2, cq2, rs2, (askedS s1)⟩)) := hM6
  clear hM6 hh HAG HM5
  have HAG : Hid (Calls Try.prog 14 #[.pointer (some ⟨p, 0, none⟩)] w6 fun e w' => ∃ o n c, e = .returned (.slice o n c) ∧ Hid (n = nq ∧ ∃ rN, Md w2 w' p cp s1 m1 p2 (cp + 1) s1 m1 (T4 ⟨oq, cq, rs, (askedS s1)⟩ ⟨o6, c6, r6, (askedS s1)⟩ ⟨o, c, rN, (askedS s1)⟩ ⟨oq2, cq2, rs2, (askedS s1)⟩))) := by
    have h := HM6.out.again 2
    rw [HRN.out.1.again] at h
    refine h.mono ?_
    rintro e w' ⟨o, n, c, rfl, hh⟩
    obtain ⟨h1, rN, h2⟩ := hh.out
    rw [updT_2] at h2
    exact ⟨o, n, c, rfl, by rw [h1, asked_len]; exact HRN.out.1.len.symm, rN, h2⟩
  go_wp2_with fail
  refine Calls.mono HAG.out ?_
  rintro e w7 ⟨o7, n7, c7, rfl, hh⟩
  obtain ⟨hn7, r7, hM7⟩ := hh.out
  subst n7
  have HM7 : Hid (Md w2 w7 p cp s1 m1 p2 (cp + 1) s1 m1 (T4 ⟨oq, cq, rs, (askedS s1)⟩ ⟨o6, c6, r6, (askedS s1)⟩ ⟨o7, c7, r7, (askedS s1)⟩ ⟨oq2, cq2, rs2, (askedS s1)⟩)) := hM7
  clear hM7 hh HAG HM6
  have HSM : Hid (Calls Try.prog 18 #[.slice o6 nq c6, .slice oq2 nq cq2] w7 fun e w' => e = .returned (.bool true) ∧ Keeps no w7 w') := HM7.out.same 1 3 HFT.out HFT.out HLN.out HLN.out rfl
  go_wp2_with fail
  refine Calls.mono HSM.out ?_
  rintro e w8 ⟨rfl, hk⟩
  have HM8 : Hid (Md w2 w8 p cp s1 m1 p2 (cp + 1) s1 m1 (T4 ⟨oq, cq, rs, (askedS s1)⟩ ⟨o6, c6, r6, (askedS s1)⟩ ⟨o7, c7, r7, (askedS s1)⟩ ⟨oq2, cq2, rs2, (askedS s1)⟩)) := HM7.out.keepsN hk
  clear hk HSM HM7
  have HSM : Hid (Calls Try.prog 18 #[.slice o7 nq c7, .slice oq2 nq cq2] w8 fun e w' => e = .returned (.bool true) ∧ Keeps no w8 w') := HM8.out.same 2 3 HFT.out HFT.out HLN.out HLN.out rfl
  go_wp2_with fail
  refine Calls.mono HSM.out ?_
  rintro e w9 ⟨rfl, hk⟩
  have HM9 : Hid (Md w2 w9 p cp s1 m1 p2 (cp + 1) s1 m1 (T4 ⟨oq, cq, rs, (askedS s1)⟩ ⟨o6, c6, r6, (askedS s1)⟩ ⟨o7, c7, r7, (askedS s1)⟩ ⟨oq2, cq2, rs2, (askedS s1)⟩)) := HM8.out.keepsN hk
  clear hk HSM HM8
  have HOV : Hid (Calls Try.prog 19 #[.slice (some ⟨w9.heap.size, 0, none⟩) 3 3] (w9.alloc (.cells #[.slice oq nq cq, .slice o6 nq c6, .slice o7 nq c7] 30)) fun e w' => e = .returned (.bool true) ∧ Md w2 w' p cp s1 m1 p2 (cp + 1) s1 m1 (T4 tl0 tl0 tl0 ⟨oq2, cq2, rs2, (askedS s1)⟩)) := by
    refine HM9.out.overs (fun i hi => ?_) nq nq nq HLN.out HLN.out HLN.out
    have hcs : i = 0 ∨ i = 1 ∨ i = 2 := by omega
    rcases hcs with rfl | rfl | rfl
    · exact HFT.out
    · exact HFT.out
    · exact HFT.out
  go_wp2_with fail
  refine Calls.mono HOV.out ?_
  rintro e w10 ⟨rfl, hM⟩
  have HM10 : Hid (Md w2 w10 p cp s1 m1 p2 (cp + 1) s1 m1 (T4 tl0 tl0 tl0 ⟨oq2, cq2, rs2, (askedS s1)⟩)) := hM
  clear hM HOV HM9
  have HAG : Hid (Calls Try.prog 14 #[.pointer (some ⟨p, 0, none⟩)] w10 fun e w' => ∃ o n c, e = .returned (.slice o n c) ∧ Hid (n = nq ∧ ∃ rN, Md w2 w' p cp s1 m1 p2 (cp + 1) s1 m1 (T4 ⟨o, c, rN, (askedS s1)⟩ tl0 tl0 ⟨oq2, cq2, rs2, (askedS s1)⟩))) := by
    have h := HM10.out.again 0
    rw [HRN.out.1.again] at h
    refine h.mono ?_
    rintro e w' ⟨o, n, c, rfl, hh⟩
    obtain ⟨h1, rN, h2⟩ := hh.out
    rw [updT_0] at h2
    exact ⟨o, n, c, rfl, by rw [h1, asked_len]; exact HRN.out.1.len.symm, rN, h2⟩
  go_wp2_with fail
  refine Calls.mono HAG.out ?_
  rintro e w11 ⟨o11, n11, c11, rfl, hh⟩
  obtain ⟨hn11, r11, hM11⟩ := hh.out
  subst n11
  have HM11 : Hid (Md w2 w11 p cp s1 m1 p2 (cp + 1) s1 m1 (T4 ⟨o11, c11, r11, (askedS s1)⟩ tl0 tl0 ⟨oq2, cq2, rs2, (askedS s1)⟩)) := hM11
  clear hM11 hh HAG HM10
  have HSM : Hid (Calls Try.prog 18 #[.slice o11 nq c11, .slice oq2 nq cq2] w11 fun e w' => e = .returned (.bool true) ∧ Keeps no w11 w') := HM11.out.same 0 3 HFT.out HFT.out HLN.out HLN.out rfl
  go_wp2_with fail
  refine Calls.mono HSM.out ?_
  rintro e w12 ⟨rfl, hk⟩
  have HM12 : Hid (Md w2 w12 p cp s1 m1 p2 (cp + 1) s1 m1 (T4 ⟨o11, c11, r11, (askedS s1)⟩ tl0 tl0 ⟨oq2, cq2, rs2, (askedS s1)⟩)) := HM11.out.keepsN hk
  clear hk HSM HM11
  have HML : Hid (Md w2 w12 p cp s1 m1 p2 (cp + 1) s1 m1 (T4 tl0 tl0 tl0 ⟨oq2, cq2, rs2, askedS s1⟩)) := HM12.out.sub (fun n => n) (t4_drop _ _) (fun n m h => .inr (.inr h))
  clear HM12
  as_aux_lemma =>
  go_wp2_with fail
  go_loopw [16, 17, 18] (fun s16 s17 s18 wa => ∃ (i : Nat) (oa : Option Addr) (na ca : Nat) (ob : Option Addr) (nb cb : Nat), i ≤ nq ∧ s18 = .int .i64 i ∧ s16 = .slice oa na ca ∧ s17 = .slice ob nb cb ∧ Hid (na = (stA s1 m1 i).told.length ∧ nb = (stA s1 m1 i).told.length ∧ ∃ ra rb, Md w2 wa p cp (stA s1 m1 i).s (stA s1 m1 i).m p2 (cp + 1) (stA s1 m1 i).s (stA s1 m1 i).m (T4 ⟨oa, ca, ra, (stA s1 m1 i).told⟩ ⟨ob, cb, rb, (stA s1 m1 i).told⟩ tl0 ⟨oq2, cq2, rs2, askedS s1⟩))) (fun _ _ s18 _ => nq - (intOf s18).toNat)
  case atStart => exact ⟨0, none, 0, 0, none, 0, 0, by omega, rfl, rfl, rfl, by rw [HRN.out.1.zero m1]; rfl, by rw [HRN.out.1.zero m1]; rfl, [], [], by have h := HML.out; rw [HRN.out.1.zero m1]; exact h⟩
  case round =>
    clear HML
    rename World => wa
    obtain ⟨i, oa, na, ca, ob, nb, cb, hi, rfl, rfl, rfl, HW⟩ := hrel
    obtain ⟨hna, hnb, ra, rb, hW⟩ := HW.out
    by_cases hlt : i < nq
    · have hlt' : (i : Int) < nq := by omega
      have hil : i < (askedS s1).length := by rw [← HLN.out]; exact hlt
      obtain ⟨b, off, r, hQ⟩ : ∃ b off r, Qr (askedS s1) oq2 cq2 rs2 i b off r := qr_of (hW.tq 3) hil HFT.out (asked_kind s1 (by rw [← HRN.out.1.len]; exact hlt))
      have hoq : oq2 = some ⟨b, off, none⟩ := hQ.is
      subst hoq
      have HWI : Hid (Md w2 wa p cp (stA s1 m1 i).s (stA s1 m1 i).m p2 (cp + 1) (stA s1 m1 i).s (stA s1 m1 i).m (T4 ⟨oa, ca, ra, (stA s1 m1 i).told⟩ ⟨ob, cb, rb, (stA s1 m1 i).told⟩ tl0 ⟨some ⟨b, off, none⟩, cq2, rs2, askedS s1⟩)) := hW
      have HQ : Hid (Qr (askedS s1) (some ⟨b, off, none⟩) cq2 rs2 i b off r) := hQ
      have HCA : Hid (∀ X, Keeps no wa X → Calls Try.prog 10 #[.pointer (some ⟨p, 0, none⟩), .int .i64 r.part, .agg #[.int .i64 (ansK ((askedS s1).getD i q0)), .int .i64 r.client, .int .u64 (r.req : Nat), .int .u64 (r.id : Nat), .slice none 0 0, .slice none 0 0, .slice none 0 0, .slice none 0 0]] X fun e w' => ∃ o n c, e = .returned (.slice o n c) ∧ Hid (n = (stA s1 m1 (i + 1)).told.length ∧ ∃ rs, Md w2 w' p cp (stA s1 m1 (i + 1)).s (stA s1 m1 (i + 1)).m p2 (cp + 1) (stA s1 m1 i).s (stA s1 m1 i).m (T4 ⟨o, c, rs, (stA s1 m1 (i + 1)).told⟩ ⟨ob, cb, rb, (stA s1 m1 i).told⟩ tl0 ⟨some ⟨b, off, none⟩, cq2, rs2, askedS s1⟩))) := by
        intro X hX
        have h := HWI.out.callA 0 hX r.part (ansK ((askedS s1).getD i q0)) r.client r.req r.id (by rw [hQ.req]; exact hQ.fit.req) (by rw [hQ.id]; exact hQ.fit.id)
        rw [hQ.part, hQ.req, hQ.id, HRN.out.1.next m1 hlt] at h
        rw [hQ.part, hQ.req, hQ.id]
        refine h.mono ?_
        rintro e w' ⟨o, n, c, rfl, hh⟩
        obtain ⟨h1, rs, h2⟩ := hh.out
        rw [updT_0] at h2
        exact ⟨o, n, c, rfl, h1, rs, h2⟩
      have HPQ : Hid (r.part = ((askedS s1).getD i q0).part ∧ r.req = ((askedS s1).getD i q0).req ∧ r.id = ((askedS s1).getD i q0).id ∧ r.req < 18446744073709551616 ∧ r.id < 18446744073709551616) := ⟨hQ.part, hQ.req, hQ.id, by rw [hQ.req]; exact hQ.fit.req, by rw [hQ.id]; exact hQ.fit.id⟩
      clear hQ hil hW HW hna hnb
      as_aux_lemma =>
      go_wp2_with fail
      refine wp_region_held_drew (S := fun X => At9 X b off i r) (by kernel_rfl) ?_ (fun hHeld => ?_)
      · exact HQ.out.at' _ ((HWI.out.keepsN ((Keeps.refl no _).drew)).tq 3)
      refine wpAnyH_take (i := 0) (v := ?_) (by simp only [List.getElem?_toArray, List.getElem?_cons_succ, List.getElem?_cons_zero]; rfl) (by kernel_rfl) (by kernel_rfl) (by kernel_rfl) (by exact fun _ _ _ h => h) (Or.inl ⟨by rfl, ?_⟩) (by assumption) ?_
      rotate_left
      · (intro _ hSw; (try dsimp only at hSw); go_simp; (try with_reducible rfl))
      try simp only [Act.put, List.setIfInBounds_toArray, List.set_cons_zero, List.set_cons_succ]
      refine wpAnyH_take (i := 1) (v := ?_) (by simp only [List.getElem?_toArray, List.getElem?_cons_succ, List.getElem?_cons_zero]; rfl) (by kernel_rfl) (by kernel_rfl) (by kernel_rfl) (by exact fun _ _ _ h => h) (Or.inl ⟨by rfl, ?_⟩) (by assumption) ?_
      rotate_left
      · (intro _ hSw; (try dsimp only at hSw); go_simp; (try with_reducible rfl))
      try simp only [Act.put, List.setIfInBounds_toArray, List.set_cons_zero, List.set_cons_succ]
      refine wpAnyH_take (i := 2) (v := ?_) (by simp only [List.getElem?_toArray, List.getElem?_cons_succ, List.getElem?_cons_zero]; rfl) (by kernel_rfl) (by kernel_rfl) (by kernel_rfl) (by exact fun _ _ _ h => h) (Or.inl ⟨by rfl, ?_⟩) (by assumption) ?_
      rotate_left
      · (intro _ hSw; (try dsimp only at hSw); go_simp; (try with_reducible rfl))
      try simp only [Act.put, List.setIfInBounds_toArray, List.set_cons_zero, List.set_cons_succ]
      refine wpAnyH_take (i := 3) (v := ?_) (by simp only [List.getElem?_toArray, List.getElem?_cons_succ, List.getElem?_cons_zero]; rfl) (by kernel_rfl) (by kernel_rfl) (by kernel_rfl) (by exact fun _ _ _ h => h) (Or.inl ⟨by rfl, ?_⟩) (by assumption) ?_
      rotate_left
      · (intro _ hSw; (try dsimp only at hSw); go_simp; (try with_reducible rfl))
      try simp only [Act.put, List.setIfInBounds_toArray, List.set_cons_zero, List.set_cons_succ]
      refine wpAnyH_take (i := 4) (v := ?_) (by simp only [List.getElem?_toArray, List.getElem?_cons_succ, List.getElem?_cons_zero]; rfl) (by kernel_rfl) (by kernel_rfl) (by kernel_rfl) (by exact fun _ _ _ h => h) (Or.inl ⟨by rfl, ?_⟩) (by assumption) ?_
      rotate_left
      · (intro _ hSw; (try dsimp only at hSw); go_simp; (try with_reducible rfl))
      try simp only [Act.put, List.setIfInBounds_toArray, List.set_cons_zero, List.set_cons_succ]
      refine wpAnyH_take (i := 5) (v := ?_) (by simp only [List.getElem?_toArray, List.getElem?_cons_succ, List.getElem?_cons_zero]; rfl) (by kernel_rfl) (by kernel_rfl) (by kernel_rfl) (by exact fun _ _ _ h => h) (Or.inl ⟨by rfl, ?_⟩) (by assumption) ?_
      rotate_left
      · (intro _ hSw; (try dsimp only at hSw); have z0 := hSw.c0; go_simp; (try with_reducible rfl))
      try simp only [Act.put, List.setIfInBounds_toArray, List.set_cons_zero, List.set_cons_succ]
      refine wpAnyH_take (i := 6) (v := ?_) (by simp only [List.getElem?_toArray, List.getElem?_cons_succ, List.getElem?_cons_zero]; rfl) (by kernel_rfl) (by kernel_rfl) (by kernel_rfl) (by exact fun _ _ _ h => h) (Or.inl ⟨by rfl, ?_⟩) (by assumption) ?_
      rotate_left
      · (intro _ hSw; (try dsimp only at hSw); go_simp; (try with_reducible rfl))
      try simp only [Act.put, List.setIfInBounds_toArray, List.set_cons_zero, List.set_cons_succ]
      refine wpAnyH_take (i := 7) (v := ?_) (by simp only [List.getElem?_toArray, List.getElem?_cons_succ, List.getElem?_cons_zero]; rfl) (by kernel_rfl) (by kernel_rfl) (by kernel_rfl) (by exact fun _ _ _ h => h) (Or.inl ⟨by rfl, ?_⟩) (by assumption) ?_
      rotate_left
      · (intro _ hSw; (try dsimp only at hSw); go_simp; (try with_reducible rfl))
      try simp only [Act.put, List.setIfInBounds_toArray, List.set_cons_zero, List.set_cons_succ]
      refine wpAnyH_take (i := 8) (v := ?_) (by simp only [List.getElem?_toArray, List.getElem?_cons_succ, List.getElem?_cons_zero]; rfl) (by kernel_rfl) (by kernel_rfl) (by kernel_rfl) (by exact fun _ _ _ h => h) (Or.inl ⟨by rfl, ?_⟩) (by assumption) ?_
      rotate_left
      · (intro _ hSw; (try dsimp only at hSw); go_simp; (try with_reducible rfl))
      try simp only [Act.put, List.setIfInBounds_toArray, List.set_cons_zero, List.set_cons_succ]
      refine wpAnyH_take (i := 9) (v := ?_) (by simp only [List.getElem?_toArray, List.getElem?_cons_succ, List.getElem?_cons_zero]; rfl) (by kernel_rfl) (by kernel_rfl) (by kernel_rfl) (by exact fun _ _ _ h => h) (Or.inl ⟨by rfl, ?_⟩) (by assumption) ?_
      rotate_left
      · (intro _ hSw; (try dsimp only at hSw); have z0 := hSw.c0; have z1 := hSw.c1; have z2 := hSw.c2; have z3 := hSw.c3; have z4 := hSw.c4; have z5 := hSw.c5; have z6 := hSw.c6; have z7 := hSw.c7; have z8 := hSw.c8; go_simp; (try with_reducible rfl))
      try simp only [Act.put, List.setIfInBounds_toArray, List.set_cons_zero, List.set_cons_succ]
      refine wpAnyH_ready (rs := [10]) (by kernel_rfl) (by simp) ?_
      refine AllReadyH.cons (by simp only [List.getElem?_toArray, List.getElem?_cons_succ, List.getElem?_cons_zero]; rfl) (fun Kq hKq => ?_) AllReadyH.nil
      go_simp
      refine Calls.mono (HQ.out.ans _) ?_
      rintro e za ⟨rfl, hka⟩
      have HKA : Hid (Keeps no wa za) := ((Keeps.refl no wa).drew).trans hka
      clear hka
      refine hKq.out _ _ ?_ (fun hHeldN => ?_)
      · exact HQ.out.at' _ ((HWI.out.keepsN HKA.out).tq 3)
      clear hKq Kq hHeld
      have hHeld := hHeldN
      clear hHeldN
      refine wpAnyH_ready (rs := [11]) (by kernel_rfl) (by simp) ?_
      refine AllReadyH.cons (by simp only [List.getElem?_toArray, List.getElem?_cons_succ, List.getElem?_cons_zero]; rfl) (fun Kq hKq => ?_) AllReadyH.nil
      go_simp
      refine Calls.mono (HCA.out _ HKA.out) ?_
      rintro e zb ⟨o9, n9, c9, rfl, hh⟩
      have HN9 : Hid (n9 = (stA s1 m1 (i + 1)).told.length) := hh.out.1
      obtain ⟨r9, hh2⟩ := hh.out.2
      have HN : Hid (Md w2 zb p cp (stA s1 m1 (i + 1)).s (stA s1 m1 (i + 1)).m p2 (cp + 1) (stA s1 m1 i).s (stA s1 m1 i).m (T4 ⟨o9, c9, r9, (stA s1 m1 (i + 1)).told⟩ ⟨ob, cb, rb, (stA s1 m1 i).told⟩ tl0 ⟨some ⟨b, off, none⟩, cq2, rs2, askedS s1⟩)) := hh2
      clear hh hh2 HKA
      refine hKq.out _ _ ?_ (fun hHeldN => ?_)
      · exact HQ.out.at' _ (HN.out.tq 3)
      clear hKq Kq hHeld
      have hHeld := hHeldN
      clear hHeldN
      refine wpAnyH_take (i := 12) (v := ?_) (by simp only [List.getElem?_toArray, List.getElem?_cons_succ, List.getElem?_cons_zero]; rfl) (by kernel_rfl) (by kernel_rfl) (by kernel_rfl) (by exact fun _ _ _ h => h) (Or.inl ⟨by rfl, ?_⟩) (by assumption) ?_
      rotate_left
      · (intro _ hSw; (try dsimp only at hSw); go_simp; (try with_reducible rfl))
      try simp only [Act.put, List.setIfInBounds_toArray, List.set_cons_zero, List.set_cons_succ]
      refine wpAnyH_done (by kernel_rfl) ?_ _
      clear hHeld HCA HWI
      have HCB : Hid (∀ X, Keeps no zb X → Calls Try.prog 10 #[.pointer (some ⟨p2, 0, none⟩), .int .i64 r.part, .agg #[.int .i64 (ansK ((askedS s1).getD i q0)), .int .i64 r.client, .int .u64 (r.req : Nat), .int .u64 (r.id : Nat), .slice none 0 0, .slice none 0 0, .slice none 0 0, .slice none 0 0]] X fun e w' => ∃ o n c, e = .returned (.slice o n c) ∧ Hid (n = (stA s1 m1 (i + 1)).told.length ∧ ∃ rs, Md w2 w' p cp (stA s1 m1 (i + 1)).s (stA s1 m1 (i + 1)).m p2 (cp + 1) (stA s1 m1 (i + 1)).s (stA s1 m1 (i + 1)).m (T4 ⟨o9, c9, r9, (stA s1 m1 (i + 1)).told⟩ ⟨o, c, rs, (stA s1 m1 (i + 1)).told⟩ tl0 ⟨some ⟨b, off, none⟩, cq2, rs2, askedS s1⟩))) := by
        intro X hX
        have h := HN.out.callB 1 hX r.part (ansK ((askedS s1).getD i q0)) r.client r.req r.id HPQ.out.2.2.2.1 HPQ.out.2.2.2.2
        rw [HPQ.out.1, HPQ.out.2.1, HPQ.out.2.2.1, HRN.out.1.next m1 hlt] at h
        rw [HPQ.out.1, HPQ.out.2.1, HPQ.out.2.2.1]
        refine h.mono ?_
        rintro e w' ⟨o, n, c, rfl, hh⟩
        obtain ⟨h1, rs, h2⟩ := hh.out
        rw [updT_1] at h2
        exact ⟨o, n, c, rfl, h1, rs, h2⟩
      go_wp2_with fail
      refine wp_region_held_drew (S := fun X => At9 X b off i r) (by kernel_rfl) ?_ (fun hHeld => ?_)
      · exact HQ.out.at' _ ((HN.out.keepsN ((Keeps.refl no _).drew)).tq 3)
      refine wpAnyH_take (i := 0) (v := ?_) (by simp only [List.getElem?_toArray, List.getElem?_cons_succ, List.getElem?_cons_zero]; rfl) (by kernel_rfl) (by kernel_rfl) (by kernel_rfl) (by exact fun _ _ _ h => h) (Or.inl ⟨by rfl, ?_⟩) (by assumption) ?_
      rotate_left
      · (intro _ hSw; (try dsimp only at hSw); go_simp; (try with_reducible rfl))
      try simp only [Act.put, List.setIfInBounds_toArray, List.set_cons_zero, List.set_cons_succ]
      refine wpAnyH_take (i := 1) (v := ?_) (by simp only [List.getElem?_toArray, List.getElem?_cons_succ, List.getElem?_cons_zero]; rfl) (by kernel_rfl) (by kernel_rfl) (by kernel_rfl) (by exact fun _ _ _ h => h) (Or.inl ⟨by rfl, ?_⟩) (by assumption) ?_
      rotate_left
      · (intro _ hSw; (try dsimp only at hSw); go_simp; (try with_reducible rfl))
      try simp only [Act.put, List.setIfInBounds_toArray, List.set_cons_zero, List.set_cons_succ]
      refine wpAnyH_take (i := 2) (v := ?_) (by simp only [List.getElem?_toArray, List.getElem?_cons_succ, List.getElem?_cons_zero]; rfl) (by kernel_rfl) (by kernel_rfl) (by kernel_rfl) (by exact fun _ _ _ h => h) (Or.inl ⟨by rfl, ?_⟩) (by assumption) ?_
      rotate_left
      · (intro _ hSw; (try dsimp only at hSw); go_simp; (try with_reducible rfl))
      try simp only [Act.put, List.setIfInBounds_toArray, List.set_cons_zero, List.set_cons_succ]
      refine wpAnyH_take (i := 3) (v := ?_) (by simp only [List.getElem?_toArray, List.getElem?_cons_succ, List.getElem?_cons_zero]; rfl) (by kernel_rfl) (by kernel_rfl) (by kernel_rfl) (by exact fun _ _ _ h => h) (Or.inl ⟨by rfl, ?_⟩) (by assumption) ?_
      rotate_left
      · (intro _ hSw; (try dsimp only at hSw); go_simp; (try with_reducible rfl))
      try simp only [Act.put, List.setIfInBounds_toArray, List.set_cons_zero, List.set_cons_succ]
      refine wpAnyH_take (i := 4) (v := ?_) (by simp only [List.getElem?_toArray, List.getElem?_cons_succ, List.getElem?_cons_zero]; rfl) (by kernel_rfl) (by kernel_rfl) (by kernel_rfl) (by exact fun _ _ _ h => h) (Or.inl ⟨by rfl, ?_⟩) (by assumption) ?_
      rotate_left
      · (intro _ hSw; (try dsimp only at hSw); go_simp; (try with_reducible rfl))
      try simp only [Act.put, List.setIfInBounds_toArray, List.set_cons_zero, List.set_cons_succ]
      refine wpAnyH_take (i := 5) (v := ?_) (by simp only [List.getElem?_toArray, List.getElem?_cons_succ, List.getElem?_cons_zero]; rfl) (by kernel_rfl) (by kernel_rfl) (by kernel_rfl) (by exact fun _ _ _ h => h) (Or.inl ⟨by rfl, ?_⟩) (by assumption) ?_
      rotate_left
      · (intro _ hSw; (try dsimp only at hSw); have z0 := hSw.c0; go_simp; (try with_reducible rfl))
      try simp only [Act.put, List.setIfInBounds_toArray, List.set_cons_zero, List.set_cons_succ]
      refine wpAnyH_take (i := 6) (v := ?_) (by simp only [List.getElem?_toArray, List.getElem?_cons_succ, List.getElem?_cons_zero]; rfl) (by kernel_rfl) (by kernel_rfl) (by kernel_rfl) (by exact fun _ _ _ h => h) (Or.inl ⟨by rfl, ?_⟩) (by assumption) ?_
      rotate_left
      · (intro _ hSw; (try dsimp only at hSw); go_simp; (try with_reducible rfl))
      try simp only [Act.put, List.setIfInBounds_toArray, List.set_cons_zero, List.set_cons_succ]
      refine wpAnyH_take (i := 7) (v := ?_) (by simp only [List.getElem?_toArray, List.getElem?_cons_succ, List.getElem?_cons_zero]; rfl) (by kernel_rfl) (by kernel_rfl) (by kernel_rfl) (by exact fun _ _ _ h => h) (Or.inl ⟨by rfl, ?_⟩) (by assumption) ?_
      rotate_left
      · (intro _ hSw; (try dsimp only at hSw); go_simp; (try with_reducible rfl))
      try simp only [Act.put, List.setIfInBounds_toArray, List.set_cons_zero, List.set_cons_succ]
      refine wpAnyH_take (i := 8) (v := ?_) (by simp only [List.getElem?_toArray, List.getElem?_cons_succ, List.getElem?_cons_zero]; rfl) (by kernel_rfl) (by kernel_rfl) (by kernel_rfl) (by exact fun _ _ _ h => h) (Or.inl ⟨by rfl, ?_⟩) (by assumption) ?_
      rotate_left
      · (intro _ hSw; (try dsimp only at hSw); go_simp; (try with_reducible rfl))
      try simp only [Act.put, List.setIfInBounds_toArray, List.set_cons_zero, List.set_cons_succ]
      refine wpAnyH_take (i := 9) (v := ?_) (by simp only [List.getElem?_toArray, List.getElem?_cons_succ, List.getElem?_cons_zero]; rfl) (by kernel_rfl) (by kernel_rfl) (by kernel_rfl) (by exact fun _ _ _ h => h) (Or.inl ⟨by rfl, ?_⟩) (by assumption) ?_
      rotate_left
      · (intro _ hSw; (try dsimp only at hSw); have z0 := hSw.c0; have z1 := hSw.c1; have z2 := hSw.c2; have z3 := hSw.c3; have z4 := hSw.c4; have z5 := hSw.c5; have z6 := hSw.c6; have z7 := hSw.c7; have z8 := hSw.c8; go_simp; (try with_reducible rfl))
      try simp only [Act.put, List.setIfInBounds_toArray, List.set_cons_zero, List.set_cons_succ]
      refine wpAnyH_ready (rs := [10]) (by kernel_rfl) (by simp) ?_
      refine AllReadyH.cons (by simp only [List.getElem?_toArray, List.getElem?_cons_succ, List.getElem?_cons_zero]; rfl) (fun Kq hKq => ?_) AllReadyH.nil
      go_simp
      refine Calls.mono (HQ.out.ans _) ?_
      rintro e za ⟨rfl, hka⟩
      have HKA : Hid (Keeps no zb za) := ((Keeps.refl no zb).drew).trans hka
      clear hka
      refine hKq.out _ _ ?_ (fun hHeldN => ?_)
      · exact HQ.out.at' _ ((HN.out.keepsN HKA.out).tq 3)
      clear hKq Kq hHeld
      have hHeld := hHeldN
      clear hHeldN
      refine wpAnyH_ready (rs := [11]) (by kernel_rfl) (by simp) ?_
      refine AllReadyH.cons (by simp only [List.getElem?_toArray, List.getElem?_cons_succ, List.getElem?_cons_zero]; rfl) (fun Kq hKq => ?_) AllReadyH.nil
      go_simp
      refine Calls.mono (HCB.out _ HKA.out) ?_
      rintro e zc ⟨oe, ne, ce, rfl, hh⟩
      have HNe : Hid (ne = (stA s1 m1 (i + 1)).told.length) := hh.out.1
      obtain ⟨re, hh2⟩ := hh.out.2
      have HNN : Hid (Md w2 zc p cp (stA s1 m1 (i + 1)).s (stA s1 m1 (i + 1)).m p2 (cp + 1) (stA s1 m1 (i + 1)).s (stA s1 m1 (i + 1)).m (T4 ⟨o9, c9, r9, (stA s1 m1 (i + 1)).told⟩ ⟨oe, ce, re, (stA s1 m1 (i + 1)).told⟩ tl0 ⟨some ⟨b, off, none⟩, cq2, rs2, askedS s1⟩)) := hh2
      clear hh hh2 HKA
      refine hKq.out _ _ ?_ (fun hHeldN => ?_)
      · exact HQ.out.at' _ (HNN.out.tq 3)
      clear hKq Kq hHeld
      have hHeld := hHeldN
      clear hHeldN
      refine wpAnyH_take (i := 12) (v := ?_) (by simp only [List.getElem?_toArray, List.getElem?_cons_succ, List.getElem?_cons_zero]; rfl) (by kernel_rfl) (by kernel_rfl) (by kernel_rfl) (by exact fun _ _ _ h => h) (Or.inl ⟨by rfl, ?_⟩) (by assumption) ?_
      rotate_left
      · (intro _ hSw; (try dsimp only at hSw); go_simp; (try with_reducible rfl))
      try simp only [Act.put, List.setIfInBounds_toArray, List.set_cons_zero, List.set_cons_succ]
      refine wpAnyH_done (by kernel_rfl) ?_ _
      clear hHeld HCB HN HQ
      go_wp2_with fail
      go_roundw
      case rel => exact ⟨i + 1, o9, n9, c9, oe, ne, ce, by omega, by go_num, rfl, rfl, HN9.out, HNe.out, r9, re, HNN.out⟩
      case measure => simp [intOf]; omega
    · have hlt' : ¬ (i : Int) < nq := by omega
      obtain rfl : nq = i := by omega
      have hst : stA s1 m1 nq = outR s1 m1 := by unfold stA; rw [if_neg (by rw [← HRN.out.1.len]; omega)]
      have hr2 := HRN.out.1.rounds HRN.out.2.1 m1 (k := 1) (by omega)
      have hro : stR s1 m1 1 = outR s1 m1 := rfl
      rw [hro] at hr2
      rw [hst] at hna hnb hW
      rw [hr2.2] at hna hnb hW
      obtain ⟨s2, hs2⟩ : ∃ s2, s2 = (outR s1 m1).s := ⟨_, rfl⟩
      obtain ⟨m2, hm2⟩ : ∃ m2, m2 = (outR s1 m1).m := ⟨_, rfl⟩
      rw [← hs2] at hna hnb hr2
      rw [← hs2, ← hm2] at hW
      have HR2 : Hid (Rn s2 nq) := hr2.1
      have HF2 : Hid (FitQs (askedS s2)) := hr2.1.wf.fit
      have HL2 : Hid (nq = (askedS s2).length) := by rw [asked_len]; exact hr2.1.len
      have hna2 : na = nq := by rw [hna]; exact HL2.out.symm
      have hnb2 : nb = nq := by rw [hnb]; exact HL2.out.symm
      clear hna hnb hs2 hm2 hst hro hr2 HW
      subst na
      subst nb
      have HM19 : Hid (Md w2 wa p cp s2 m2 p2 (cp + 1) s2 m2 (T4 ⟨oa, ca, ra, askedS s2⟩ ⟨ob, cb, rb, askedS s2⟩ tl0 ⟨oq2, cq2, rs2, askedS s1⟩)) := hW
      clear hW
      as_aux_lemma =>
      have HSM : Hid (Calls Try.prog 18 #[.slice oa nq ca, .slice ob nq cb] wa fun e w' => e = .returned (.bool true) ∧ Keeps no wa w') := HM19.out.same 0 1 HF2.out HF2.out HL2.out HL2.out rfl
      go_wp2_with fail
      refine Calls.mono HSM.out ?_
      rintro e w20 ⟨rfl, hk⟩
      have HM20 : Hid (Md w2 w20 p cp s2 m2 p2 (cp + 1) s2 m2 (T4 ⟨oa, ca, ra, (askedS s2)⟩ tl0 tl0 ⟨ob, cb, rb, (askedS s2)⟩)) := (HM19.out.keepsN hk).sub (fun n => if n = 3 then 1 else n) (t4_move _ _ _) (fun n m h => by
        by_cases e1 : n = 3
        · subst e1
          by_cases e2 : m = 1
          · subst e2; exact .inr (.inl rfl)
          · refine .inr (.inr ?_)
            rw [if_pos rfl, if_neg (by omega)]; omega
        · by_cases e2 : m = 3
          · subst e2
            by_cases e3 : n = 1
            · subst e3; exact .inl rfl
            · refine .inr (.inr ?_)
              rw [if_pos rfl, if_neg (by omega)]; omega
          · refine .inr (.inr ?_)
            rw [if_neg e1, if_neg e2]; exact h)
      clear hk HSM HM19
      have HAG : Hid (Calls Try.prog 14 #[.pointer (some ⟨p, 0, none⟩)] w20 fun e w' => ∃ o n c, e = .returned (.slice o n c) ∧ Hid (n = nq ∧ ∃ rN, Md w2 w' p cp s2 m2 p2 (cp + 1) s2 m2 (T4 ⟨oa, ca, ra, (askedS s2)⟩ ⟨o, c, rN, (askedS s2)⟩ tl0 ⟨ob, cb, rb, (askedS s2)⟩))) := by
        have h := HM20.out.again 1
        rw [HR2.out.again] at h
        refine h.mono ?_
        rintro e w' ⟨o, n, c, rfl, hh⟩
        obtain ⟨h1, rN, h2⟩ := hh.out
        rw [updT_1] at h2
        exact ⟨o, n, c, rfl, by rw [h1, asked_len]; exact HR2.out.len.symm, rN, h2⟩
      go_wp2_with fail
      refine Calls.mono HAG.out ?_
      rintro e w21 ⟨o21, n21, c21, rfl, hh⟩
      obtain ⟨hn21, r21, hM21⟩ := hh.out
      subst n21
      have HM21 : Hid (Md w2 w21 p cp s2 m2 p2 (cp + 1) s2 m2 (T4 ⟨oa, ca, ra, (askedS s2)⟩ ⟨o21, c21, r21, (askedS s2)⟩ tl0 ⟨ob, cb, rb, (askedS s2)⟩)) := hM21
      clear hM21 hh HAG HM20
      have HAG : Hid (Calls Try.prog 14 #[.pointer (some ⟨p, 0, none⟩)] w21 fun e w' => ∃ o n c, e = .returned (.slice o n c) ∧ Hid (n = nq ∧ ∃ rN, Md w2 w' p cp s2 m2 p2 (cp + 1) s2 m2 (T4 ⟨oa, ca, ra, (askedS s2)⟩ ⟨o21, c21, r21, (askedS s2)⟩ ⟨o, c, rN, (askedS s2)⟩ ⟨ob, cb, rb, (askedS s2)⟩))) := by
        have h := HM21.out.again 2
        rw [HR2.out.again] at h
        refine h.mono ?_
        rintro e w' ⟨o, n, c, rfl, hh⟩
        obtain ⟨h1, rN, h2⟩ := hh.out
        rw [updT_2] at h2
        exact ⟨o, n, c, rfl, by rw [h1, asked_len]; exact HR2.out.len.symm, rN, h2⟩
      go_wp2_with fail
      refine Calls.mono HAG.out ?_
      rintro e w22 ⟨o22, n22, c22, rfl, hh⟩
      obtain ⟨hn22, r22, hM22⟩ := hh.out
      subst n22
      have HM22 : Hid (Md w2 w22 p cp s2 m2 p2 (cp + 1) s2 m2 (T4 ⟨oa, ca, ra, (askedS s2)⟩ ⟨o21, c21, r21, (askedS s2)⟩ ⟨o22, c22, r22, (askedS s2)⟩ ⟨ob, cb, rb, (askedS s2)⟩)) := hM22
      clear hM22 hh HAG HM21
      have HSM : Hid (Calls Try.prog 18 #[.slice o21 nq c21, .slice ob nq cb] w22 fun e w' => e = .returned (.bool true) ∧ Keeps no w22 w') := HM22.out.same 1 3 HF2.out HF2.out HL2.out HL2.out rfl
      go_wp2_with fail
      refine Calls.mono HSM.out ?_
      rintro e w23 ⟨rfl, hk⟩
      have HM23 : Hid (Md w2 w23 p cp s2 m2 p2 (cp + 1) s2 m2 (T4 ⟨oa, ca, ra, (askedS s2)⟩ ⟨o21, c21, r21, (askedS s2)⟩ ⟨o22, c22, r22, (askedS s2)⟩ ⟨ob, cb, rb, (askedS s2)⟩)) := HM22.out.keepsN hk
      clear hk HSM HM22
      have HSM : Hid (Calls Try.prog 18 #[.slice o22 nq c22, .slice ob nq cb] w23 fun e w' => e = .returned (.bool true) ∧ Keeps no w23 w') := HM23.out.same 2 3 HF2.out HF2.out HL2.out HL2.out rfl
      go_wp2_with fail
      refine Calls.mono HSM.out ?_
      rintro e w24 ⟨rfl, hk⟩
      have HM24 : Hid (Md w2 w24 p cp s2 m2 p2 (cp + 1) s2 m2 (T4 ⟨oa, ca, ra, (askedS s2)⟩ ⟨o21, c21, r21, (askedS s2)⟩ ⟨o22, c22, r22, (askedS s2)⟩ ⟨ob, cb, rb, (askedS s2)⟩)) := HM23.out.keepsN hk
      clear hk HSM HM23
      have HOV : Hid (Calls Try.prog 19 #[.slice (some ⟨w24.heap.size, 0, none⟩) 3 3] (w24.alloc (.cells #[.slice oa nq ca, .slice o21 nq c21, .slice o22 nq c22] 30)) fun e w' => e = .returned (.bool true) ∧ Md w2 w' p cp s2 m2 p2 (cp + 1) s2 m2 (T4 tl0 tl0 tl0 ⟨ob, cb, rb, (askedS s2)⟩)) := by
        refine HM24.out.overs (fun i hi => ?_) nq nq nq HL2.out HL2.out HL2.out
        have hcs : i = 0 ∨ i = 1 ∨ i = 2 := by omega
        rcases hcs with rfl | rfl | rfl
        · exact HF2.out
        · exact HF2.out
        · exact HF2.out
      go_wp2_with fail
      refine Calls.mono HOV.out ?_
      rintro e w25 ⟨rfl, hM⟩
      have HM25 : Hid (Md w2 w25 p cp s2 m2 p2 (cp + 1) s2 m2 (T4 tl0 tl0 tl0 ⟨ob, cb, rb, (askedS s2)⟩)) := hM
      clear hM HOV HM24
      have HAG : Hid (Calls Try.prog 14 #[.pointer (some ⟨p, 0, none⟩)] w25 fun e w' => ∃ o n c, e = .returned (.slice o n c) ∧ Hid (n = nq ∧ ∃ rN, Md w2 w' p cp s2 m2 p2 (cp + 1) s2 m2 (T4 ⟨o, c, rN, (askedS s2)⟩ tl0 tl0 ⟨ob, cb, rb, (askedS s2)⟩))) := by
        have h := HM25.out.again 0
        rw [HR2.out.again] at h
        refine h.mono ?_
        rintro e w' ⟨o, n, c, rfl, hh⟩
        obtain ⟨h1, rN, h2⟩ := hh.out
        rw [updT_0] at h2
        exact ⟨o, n, c, rfl, by rw [h1, asked_len]; exact HR2.out.len.symm, rN, h2⟩
      go_wp2_with fail
      refine Calls.mono HAG.out ?_
      rintro e w26 ⟨o26, n26, c26, rfl, hh⟩
      obtain ⟨hn26, r26, hM26⟩ := hh.out
      subst n26
      have HM26 : Hid (Md w2 w26 p cp s2 m2 p2 (cp + 1) s2 m2 (T4 ⟨o26, c26, r26, (askedS s2)⟩ tl0 tl0 ⟨ob, cb, rb, (askedS s2)⟩)) := hM26
      clear hM26 hh HAG HM25
      have HSM : Hid (Calls Try.prog 18 #[.slice o26 nq c26, .slice ob nq cb] w26 fun e w' => e = .returned (.bool true) ∧ Keeps no w26 w') := HM26.out.same 0 3 HF2.out HF2.out HL2.out HL2.out rfl
      go_wp2_with fail
      refine Calls.mono HSM.out ?_
      rintro e w27 ⟨rfl, hk⟩
      have HM27 : Hid (Md w2 w27 p cp s2 m2 p2 (cp + 1) s2 m2 (T4 ⟨o26, c26, r26, (askedS s2)⟩ tl0 tl0 ⟨ob, cb, rb, (askedS s2)⟩)) := HM26.out.keepsN hk
      clear hk HSM HM26
      have HKE : Hid (Keeps no w w27) := HKW.out.trans HM27.out.kp
      go_wp2_with fail
      go_ret
      exact ⟨rfl, HKE.out⟩
end Go.Proofs.Ytghnhkhhpeoheaa
