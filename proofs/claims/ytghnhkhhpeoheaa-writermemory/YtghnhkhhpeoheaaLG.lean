/- WriterGives. -/
import Derived.Test.YtghnhkhhpeoheaaW5
import Derived.Deep.CutBlock
import Derived.Deep.CutRange
import Derived.Deep.RegionHeldLaw
namespace Go.Proofs.Ytghnhkhhpeoheaa
open Go.RowKit Go.Sort Orl
set_option linter.unusedVariables false
set_option linter.unusedSimpArgs false

/-- a writer and two lists that it told -/
structure W2l (w0 w : World) (p cp : Nat) (s : WS) (m : Nat) (o : Option Addr) (c : Nat) (rs : List RQ) (qs : List Qn) (oc : Option Addr) (cc : Nat) (qc : List Qn) : Prop where
  ex : ∃ F rc, Wt w0 w p cp s m F o c rs qs ∧ Wt w0 w p cp s m F oc cc rc qc
theorem i64_and16 (n : Int) : bits .and .i64 n 65535 = n % 65536 := by
  have h1 : (BitVec.ofInt 64 65535).toNat = 2 ^ 16 - 1 := by decide
  have key : (BitVec.ofInt 64 n &&& BitVec.ofInt 64 65535).toNat = (n % ((2 ^ 64 : Nat) : Int)).toNat % 2 ^ 16 := by
    rw [BitVec.toNat_and, BitVec.toNat_ofInt, h1, Nat.and_two_pow_sub_one_eq_mod]
  show IntKind.i64.wrap ((BitVec.ofInt 64 n &&& BitVec.ofInt 64 65535).toNat : Nat) = n % 65536
  rw [key, IntKind.wrap_i64]
  omega
theorem cmG_kind (s1 : WS) (m i : Nat) {j : Nat} (hj : j < (cmG s1 m i).length) : ((cmG s1 m i).getD j q0).kind = 1 ∨ ((cmG s1 m i).getD j q0).kind = 2 := by
  unfold cmG at hj ⊢
  split at hj
  · simp at hj
  · rename_i h
    rw [if_neg h]
    rw [asked_len] at hj
    exact asked_kind _ hj
theorem cmG_len (s1 : WS) (m i : Nat) : (cmG s1 m i).length = if i < s1.ps.length then 0 else s1.ps.length := by
  unfold cmG
  split
  · rfl
  · rw [asked_len]; rfl
theorem G1.cmFit {s1 : WS} (h : G1 s1) (m i : Nat) : FitQs (cmG s1 m i) := by
  unfold cmG
  split
  · exact ⟨by simp, fun q hq => by cases hq⟩
  · exact (h.two m).1.fit
theorem stG_m (s1 : WS) (m i : Nat) (hm : m < 18446744073709551616) : (stG s1 m i).m < 18446744073709551616 := by
  unfold stG
  split
  · exact hm
  · split
    · exact num_lt _ _
    · exact num_lt _ _
set_option maxRecDepth 10000 in
set_option maxHeartbeats 4000000 in
theorem writerGives_any (w : World) (o : Option Addr) (n c : Nat) (l : List Pr) (id : Nat) (parts behind : Int) (hn : n = l.length) (hl : l.length ≤ 4398046511000) (hz : ∀ p ∈ l, p.1.size ≤ maxLen ∧ p.2.size ≤ maxLen) (hs : Sl PE w o c l) (hid : id < 18446744073709551616) :
    Calls Try.prog 3 #[.slice o n c, .int .u64 (id : Nat), .int .i64 parts, .int .i64 behind] w fun e w' => e = .returned (.bool true) ∧ Keeps no w w' := by
  have HAL : Hid (Calls Try.prog 7 #[] w fun e w' => e = .returned (.bool true) ∧ Keeps no w w') := alive_any w
  have HME : Hid (∀ X, Keeps no w X → Calls Try.prog 8 #[.slice o n c] X fun e w' => ∃ v, e = .returned v ∧ Gives PE X (mendP l) v w') := fun X hX => mended_any X o n c l hn hl hz (hs.keepsN hX)
  have HGP : Hid (GoodP (mendP l) ∧ 1 ≤ (mendP l).length) := mendP_good l
  have HID : Hid (id < 18446744073709551616) := hid
  have hand : bits .and .i64 behind 65535 = behind % 65536 := i64_and16 behind
  clear hn hl hz hs hid
  generalize mendP l = lm at HME HGP
  go_enter Try.func3, Try.ntmps3
  go_wp2_with fail
  refine Calls.mono HAL.out ?_
  rintro e w1 ⟨rfl, hk1⟩
  have HK1 : Hid (Keeps no w w1) := hk1
  clear hk1 HAL
  go_wp2_with fail
  refine Calls.mono (HME.out _ HK1.out) ?_
  rintro e w2 ⟨_, rfl, om, nm, cm, rfl, hnm, hom, hnew, hk2⟩
  have HM : Hid (nm = lm.length ∧ Own PE w2 om cm lm ∧ Keeps no w w2) := ⟨hnm.out, hom, HK1.out.trans hk2⟩
  clear hnm hom hnew hk2 HME HK1
  obtain ⟨cp, hcp⟩ : ∃ cp, cp = w2.heap.size := ⟨_, rfl⟩
  have HB : Hid (Calls Try.prog 9 #[.slice om nm cm, .int .u64 (id : Nat), .int .i64 parts, .pointer (some ⟨w2.heap.size, 0, none⟩)] (w2.alloc (.cells #[.int .u64 ((1 : Nat) : Int)] 28)) (BgnTo w cp id parts lm 1)) := by
    have h := begun_any w (w2.alloc (.cells #[.int .u64 ((1 : Nat) : Int)] 28)) om nm cm lm id parts cp 1 HM.out.1 HGP.out.1 HGP.out.2 (HM.out.2.1.sl.keepsN ((Keeps.refl no w2).alloc _)) HID.out (by rw [hcp]; exact blk_new w2 _) (by decide) (by rw [hcp]; exact HM.out.2.2.size) (HM.out.2.2.alloc _)
    rw [hcp] at h ⊢
    exact h
  clear hcp
  go_wp2_with fail
  refine Calls.mono HB.out ?_
  rintro e w3 ⟨p, oq, nq, cq, rs, F, rfl, hb⟩
  obtain ⟨s1, hs1⟩ : ∃ s1, s1 = askS (startS (idN id) lm (prN parts)) 1 := ⟨_, rfl⟩
  obtain ⟨m1, hm1⟩ : ∃ m1, m1 = numS (startS (idN id) lm (prN parts)) 1 := ⟨_, rfl⟩
  rw [← hs1, ← hm1] at hb
  have HG1 : Hid (G1 s1 ∧ m1 < 18446744073709551616 ∧ nq = s1.ps.length) := by
    refine ⟨⟨hb.wc.wf, ?_, ?_⟩, by rw [hm1]; exact num_lt _ _, hb.n⟩
    · rw [hs1]; rfl
    · rw [hs1]; rfl
  have HB3 : Hid (W2l w w3 p cp (stG s1 m1 0).s (stG s1 m1 0).m oq cq rs (askedS s1) none 0 []) := by
    have h0 : stG s1 m1 0 = ⟨s1, m1⟩ := by
      have hp := hb.wc.wf.pos
      unfold stG
      rw [if_pos (by omega), hs1, ← ask_ord]
    rw [h0]
    exact ⟨F, [], ⟨hb.wc, hb.tq, hb.apart⟩, hb.wc, tq_nil _, fun i hi => by
      rcases hi with ⟨x, e, _⟩ | ⟨j, hj, _⟩
      · cases e
      · simp at hj⟩
  have hq64 : (nq : Int) ≤ 64 := by have := HG1.out.2.2; have := HG1.out.1.wf.most; omega
  have hq1 : (1 : Int) ≤ nq := by have := HG1.out.2.2; have := HG1.out.1.wf.pos; omega
  have hqn0 : ((nq : Int) == 0) = false := by simp; omega
  have hqn0' : ¬ (nq : Int) = 0 := by omega
  clear hb hs1 hm1 HB HM HGP
  obtain ⟨N, hN⟩ : ∃ N : Nat, N = (behind % 65536 % (2 * (nq : Int) + 1)).toNat := ⟨_, rfl⟩
  have hrem : Int.tmod (behind % 65536) (2 * (nq : Int) + 1) = (N : Int) := by
    rw [Int.tmod_eq_emod_of_nonneg (by omega), hN, Int.toNat_of_nonneg (Int.emod_nonneg _ (by omega))]
  have hN2 : (N : Int) ≤ 2 * (nq : Int) := by
    have := Int.emod_lt_of_pos (behind % 65536) (show (0 : Int) < 2 * (nq : Int) + 1 by omega)
    have h2 := Int.emod_nonneg (behind % 65536) (show (2 * (nq : Int) + 1) ≠ 0 by omega)
    rw [hN, Int.toNat_of_nonneg h2]
    omega
  have hrm1 : ¬ (2 * (nq : Int) + 1) = 0 := by omega
  clear hN
  go_wp2_with fail
  go_loopw [15, 16] (fun s15 s16 wr => ∃ (i : Nat) (oc : Option Addr) (nc cc : Nat), i ≤ N ∧ s16 = .int .i64 i ∧ s15 = .slice oc nc cc ∧ Hid (nc = (cmG s1 m1 i).length) ∧ Hid (W2l w wr p cp (stG s1 m1 i).s (stG s1 m1 i).m oq cq rs (askedS s1) oc cc (cmG s1 m1 i))) (fun _ s16 _ => N - (intOf s16).toNat)
  case atStart =>
    have hc0 : cmG s1 m1 0 = [] := by
      have := HG1.out.1.wf.pos
      unfold cmG
      rw [if_pos (by omega)]
    exact ⟨0, none, 0, 0, by omega, rfl, rfl, by rw [hc0]; rfl, by rw [hc0]; exact HB3.out⟩
  case round =>
    clear HB3
    rename World => wr
    obtain ⟨i, oc, nc, cc, hi, rfl, rfl, HNC, HW⟩ := hrel
    by_cases hlt : i < N
    · have hlt' : (i : Int) < N := by omega
      have hi2 : (i : Int) < 2 * (nq : Int) := by omega
      obtain ⟨F, rc, h1, h2⟩ := HW.out.ex
      have HT1 : Hid (Wt w wr p cp (stG s1 m1 i).s (stG s1 m1 i).m F oq cq rs (askedS s1)) := h1
      have HT2 : Hid (Wt w wr p cp (stG s1 m1 i).s (stG s1 m1 i).m F oc cc rc (cmG s1 m1 i)) := h2
      clear HW h1 h2
      by_cases hfi : i < nq
      · have hfi' : (i : Int) < nq := by omega
        have hil : i < s1.ps.length := by have := HG1.out.2.2; omega
        obtain ⟨b, off, r, ka, hR⟩ := rcv_of HT1.out (i := i) (by rw [asked_len]; exact hil) HG1.out.1.wf.fit (asked_kind s1 hil)
        have hoq := hR.is
        subst hoq
        have HR : Hid (Rcv w wr p cp (stG s1 m1 i).s (stG s1 m1 i).m F (some ⟨b, off, none⟩) cq rs (askedS s1) i b off r ka) := hR
        have HOT : Hid (recvS (stG s1 m1 i).s (stG s1 m1 i).m ((askedS s1).getD i q0).part (ansK ((askedS s1).getD i q0)) ((askedS s1).getD i q0).req ((askedS s1).getD i q0).id = ⟨(stG s1 m1 (i + 1)).s, cmG s1 m1 (i + 1), (stG s1 m1 (i + 1)).m⟩) := HG1.out.1.first m1 hil
        have HNX : Hid ((cmG s1 m1 (i + 1)).length = if i + 1 < s1.ps.length then 0 else s1.ps.length) := cmG_len s1 m1 (i + 1)
        clear hR hil
        as_aux_lemma =>
        go_wp2_with fail
        refine wp_region_held_drew (S := fun X => At9 X b off i r) (by kernel_rfl) ?_ (fun hHeld => ?_)
        · exact HR.out.at' _ (HT1.out.tq.keepsN ((Keeps.refl no _).drew))
        refine wpAnyH_take (i := 0) (v := ?_) (by simp only [List.getElem?_toArray, List.getElem?_cons_succ, List.getElem?_cons_zero]; rfl) (by kernel_rfl) (by kernel_rfl) (by kernel_rfl) (by exact fun _ _ _ h => h) (Or.inl ⟨by rfl, ?_⟩) (by assumption) ?_
        rotate_left
        · (intro _ hSw; (try dsimp only at hSw); go_simp; (try with_reducible rfl))
        try simp only [Act.put, List.setIfInBounds_toArray, List.set_cons_zero, List.set_cons_succ]
        refine wpAnyH_take (i := 1) (v := ?_) (by simp only [List.getElem?_toArray, List.getElem?_cons_succ, List.getElem?_cons_zero]; rfl) (by kernel_rfl) (by kernel_rfl) (by kernel_rfl) (by exact fun _ _ _ h => h) (Or.inl ⟨by rfl, ?_⟩) (by assumption) ?_
        rotate_left
        · (intro _ hSw; (try dsimp only at hSw); go_simp; (try with_reducible rfl))
        try simp only [Act.put, List.setIfInBounds_toArray, List.set_cons_zero, List.set_cons_succ]
        refine wpAnyH_take (i := 2) (v := ?_) (by simp only [List.getElem?_toArray, List.getElem?_cons_succ, List.getElem?_cons_zero]; rfl) (by kernel_rfl) (by kernel_rfl) (by kernel_rfl) (by exact fun _ _ _ h => h) (Or.inl ⟨by rfl, ?_⟩) (by assumption) ?_
        rotate_left
        · (intro _ hSw; (try dsimp only at hSw); go_simp; (try with_reducible rfl))
        try simp only [Act.put, List.setIfInBounds_toArray, List.set_cons_zero, List.set_cons_succ]
        refine wpAnyH_take (i := 3) (v := ?_) (by simp only [List.getElem?_toArray, List.getElem?_cons_succ, List.getElem?_cons_zero]; rfl) (by kernel_rfl) (by kernel_rfl) (by kernel_rfl) (by exact fun _ _ _ h => h) (Or.inl ⟨by rfl, ?_⟩) (by assumption) ?_
        rotate_left
        · (intro _ hSw; (try dsimp only at hSw); go_simp; (try with_reducible rfl))
        try simp only [Act.put, List.setIfInBounds_toArray, List.set_cons_zero, List.set_cons_succ]
        refine wpAnyH_take (i := 4) (v := ?_) (by simp only [List.getElem?_toArray, List.getElem?_cons_succ, List.getElem?_cons_zero]; rfl) (by kernel_rfl) (by kernel_rfl) (by kernel_rfl) (by exact fun _ _ _ h => h) (Or.inl ⟨by rfl, ?_⟩) (by assumption) ?_
        rotate_left
        · (intro _ hSw; (try dsimp only at hSw); go_simp; (try with_reducible rfl))
        try simp only [Act.put, List.setIfInBounds_toArray, List.set_cons_zero, List.set_cons_succ]
        refine wpAnyH_take (i := 5) (v := ?_) (by simp only [List.getElem?_toArray, List.getElem?_cons_succ, List.getElem?_cons_zero]; rfl) (by kernel_rfl) (by kernel_rfl) (by kernel_rfl) (by exact fun _ _ _ h => h) (Or.inl ⟨by rfl, ?_⟩) (by assumption) ?_
        rotate_left
        · (intro _ hSw; (try dsimp only at hSw); have z0 := hSw.c0; go_simp; (try with_reducible rfl))
        try simp only [Act.put, List.setIfInBounds_toArray, List.set_cons_zero, List.set_cons_succ]
        refine wpAnyH_take (i := 6) (v := ?_) (by simp only [List.getElem?_toArray, List.getElem?_cons_succ, List.getElem?_cons_zero]; rfl) (by kernel_rfl) (by kernel_rfl) (by kernel_rfl) (by exact fun _ _ _ h => h) (Or.inl ⟨by rfl, ?_⟩) (by assumption) ?_
        rotate_left
        · (intro _ hSw; (try dsimp only at hSw); go_simp; (try with_reducible rfl))
        try simp only [Act.put, List.setIfInBounds_toArray, List.set_cons_zero, List.set_cons_succ]
        refine wpAnyH_take (i := 7) (v := ?_) (by simp only [List.getElem?_toArray, List.getElem?_cons_succ, List.getElem?_cons_zero]; rfl) (by kernel_rfl) (by kernel_rfl) (by kernel_rfl) (by exact fun _ _ _ h => h) (Or.inl ⟨by rfl, ?_⟩) (by assumption) ?_
        rotate_left
        · (intro _ hSw; (try dsimp only at hSw); go_simp; (try with_reducible rfl))
        try simp only [Act.put, List.setIfInBounds_toArray, List.set_cons_zero, List.set_cons_succ]
        refine wpAnyH_take (i := 8) (v := ?_) (by simp only [List.getElem?_toArray, List.getElem?_cons_succ, List.getElem?_cons_zero]; rfl) (by kernel_rfl) (by kernel_rfl) (by kernel_rfl) (by exact fun _ _ _ h => h) (Or.inl ⟨by rfl, ?_⟩) (by assumption) ?_
        rotate_left
        · (intro _ hSw; (try dsimp only at hSw); go_simp; (try with_reducible rfl))
        try simp only [Act.put, List.setIfInBounds_toArray, List.set_cons_zero, List.set_cons_succ]
        refine wpAnyH_take (i := 9) (v := ?_) (by simp only [List.getElem?_toArray, List.getElem?_cons_succ, List.getElem?_cons_zero]; rfl) (by kernel_rfl) (by kernel_rfl) (by kernel_rfl) (by exact fun _ _ _ h => h) (Or.inl ⟨by rfl, ?_⟩) (by assumption) ?_
        rotate_left
        · (intro _ hSw; (try dsimp only at hSw); have z0 := hSw.c0; have z1 := hSw.c1; have z2 := hSw.c2; have z3 := hSw.c3; have z4 := hSw.c4; have z5 := hSw.c5; have z6 := hSw.c6; have z7 := hSw.c7; have z8 := hSw.c8; go_simp; (try with_reducible rfl))
        try simp only [Act.put, List.setIfInBounds_toArray, List.set_cons_zero, List.set_cons_succ]
        refine wpAnyH_ready (rs := [10]) (by kernel_rfl) (by simp) ?_
        refine AllReadyH.cons (by simp only [List.getElem?_toArray, List.getElem?_cons_succ, List.getElem?_cons_zero]; rfl) (fun Kq hKq => ?_) AllReadyH.nil
        go_simp
        refine Calls.mono (HR.out.ans _) ?_
        rintro e za ⟨rfl, hka⟩
        have HKA : Hid (Keeps no wr za) := ((Keeps.refl no wr).drew).trans hka
        clear hka
        refine hKq.out _ _ ?_ (fun hHeldN => ?_)
        · exact HR.out.at' _ (HT1.out.tq.keepsN HKA.out)
        clear hKq Kq hHeld
        have hHeld := hHeldN
        clear hHeldN
        refine wpAnyH_ready (rs := [11]) (by kernel_rfl) (by simp) ?_
        refine AllReadyH.cons (by simp only [List.getElem?_toArray, List.getElem?_cons_succ, List.getElem?_cons_zero]; rfl) (fun Kq hKq => ?_) AllReadyH.nil
        go_simp
        refine Calls.mono (HR.out.rcv _ HKA.out) ?_
        rintro e zb ⟨o9, n9, c9, r9, G, rfl, ht⟩
        rw [HOT.out] at ht
        have hT := (HT1.out.keepsN HKA.out).tell ht (HG1.out.1.wfG m1 (i + 1)) (stG_m s1 m1 (i + 1) HG1.out.2.1)
        have HN : Hid (W2l w zb p cp (stG s1 m1 (i + 1)).s (stG s1 m1 (i + 1)).m (some ⟨b, off, none⟩) cq rs (askedS s1) o9 c9 (cmG s1 m1 (i + 1))) := ⟨G, r9, hT.1, hT.2⟩
        have HN9 : Hid (n9 = (cmG s1 m1 (i + 1)).length) := ht.n
        have HTQ : Hid (Tq zb (some ⟨b, off, none⟩) cq rs (askedS s1)) := hT.1.tq
        clear ht hT HKA
        refine hKq.out _ _ ?_ (fun hHeldN => ?_)
        · exact HR.out.at' _ HTQ.out
        clear hKq Kq hHeld
        have hHeld := hHeldN
        clear hHeldN
        refine wpAnyH_take (i := 12) (v := ?_) (by simp only [List.getElem?_toArray, List.getElem?_cons_succ, List.getElem?_cons_zero]; rfl) (by kernel_rfl) (by kernel_rfl) (by kernel_rfl) (by exact fun _ _ _ h => h) (Or.inl ⟨by rfl, ?_⟩) (by assumption) ?_
        rotate_left
        · (intro _ hSw; (try dsimp only at hSw); go_simp; (try with_reducible rfl))
        try simp only [Act.put, List.setIfInBounds_toArray, List.set_cons_zero, List.set_cons_succ]
        refine wpAnyH_done (by kernel_rfl) ?_ _
        clear hHeld HOT HR HT1 HT2 HTQ
        by_cases e : i + 1 = nq
        · have hn9 : n9 = nq := by rw [HN9.out, HNX.out, if_neg (by have := HG1.out.2.2; omega)]; exact HG1.out.2.2.symm
          obtain ⟨c1, e1⟩ : ∃ c1, ((i : Int) == (nq : Int) - 1) = c1 := ⟨_, rfl⟩
          have HC1 : Hid (c1 = true) := by show _ = _; rw [← e1]; simp; omega
          have e3 : (0 : Int) < (nq : Int) := by omega
          have e4 : 0 < nq := by omega
          have e5 : decide (0 < nq) = true := by simpa using e4
          have HN11 : Hid (nq = (cmG s1 m1 (i + 1)).length) := by show _ = _; rw [← hn9]; exact HN9.out
          clear HN9 e
          subst n9
          clear HNX
          go_upto_if 78 with fail
          clear e1
          cases c1 with
          | false => exact absurd HC1.out (by decide)
          | true =>
          clear HC1
          go_wp2_with fail
          go_roundw
          case rel => exact ⟨i + 1, o9, nq, c9, by omega, by go_num, rfl, HN11, HN⟩
          case measure => simp [intOf]; omega
        · have hn9 : n9 = 0 := by rw [HN9.out, HNX.out, if_pos (by have := HG1.out.2.2; omega)]
          have e1 : ((i : Int) == (nq : Int) - 1) = false := by simp; omega
          have e2 : ¬ (i : Int) = (nq : Int) - 1 := by omega
          have HN11 : Hid (0 = (cmG s1 m1 (i + 1)).length) := by show _ = _; rw [← hn9]; exact HN9.out
          clear HN9
          subst n9
          clear HNX
          go_wp2_with fail
          go_roundw
          case rel => exact ⟨i + 1, o9, 0, c9, by omega, by go_num, rfl, HN11, HN⟩
          case measure => simp [intOf]; omega
      · have hfi' : ¬ (i : Int) < nq := by omega
        obtain ⟨j, hj⟩ : ∃ j, j = i - nq := ⟨_, rfl⟩
        have hsub : (i : Int) - (nq : Int) = (j : Int) := by omega
        have hcm : cmG s1 m1 i = askedS (askS s1 m1) := by unfold cmG; rw [if_neg (by have := HG1.out.2.2; omega)]
        have hcm2 : cmG s1 m1 (i + 1) = askedS (askS s1 m1) := by unfold cmG; rw [if_neg (by have := HG1.out.2.2; omega)]
        have hjl : j < (askS s1 m1).ps.length := by show j < s1.ps.length; have := HG1.out.2.2; omega
        have hncq : nc = nq := by rw [HNC.out, hcm, asked_len]; exact HG1.out.2.2.symm
        rw [hcm] at HT2
        have HCM : Hid (cmG s1 m1 (i + 1) = askedS (askS s1 m1)) := hcm2
        have HNC1 : Hid (nc = (cmG s1 m1 (i + 1)).length) := by show _ = _; rw [hcm2, ← hcm]; exact HNC.out
        obtain ⟨b, off, r, ka, hR⟩ := rcv_of HT2.out (i := j) (by rw [asked_len]; exact hjl) (HG1.out.1.two m1).1.fit (asked_kind _ hjl)
        have hoc := hR.is
        subst hoc
        have HR : Hid (Rcv w wr p cp (stG s1 m1 i).s (stG s1 m1 i).m F (some ⟨b, off, none⟩) cc rc (askedS (askS s1 m1)) j b off r ka) := hR
        have HOT : Hid (recvS (stG s1 m1 i).s (stG s1 m1 i).m ((askedS (askS s1 m1)).getD j q0).part (ansK ((askedS (askS s1 m1)).getD j q0)) ((askedS (askS s1 m1)).getD j q0).req ((askedS (askS s1 m1)).getD j q0).id = ⟨(stG s1 m1 (i + 1)).s, [], (stG s1 m1 (i + 1)).m⟩) := by
          have h := HG1.out.1.second m1 (i := i) (by have := HG1.out.2.2; omega) (by have := HG1.out.2.2; omega)
          rw [show i - s1.ps.length = j by have := HG1.out.2.2; omega] at h
          exact h
        have hjn : (j : Int) < (nc : Int) := by rw [hncq]; omega
        have hj64 : (j : Int) ≤ 64 := by omega
        have hwr : IntKind.i64.wrap ((j : Nat) : Int) = (j : Int) := by rw [IntKind.wrap_i64]; omega
        have hnc64 : (nc : Int) ≤ 64 := by rw [hncq]; omega
        clear hR hjl hj hcm hcm2 HNC hncq
        as_aux_lemma =>
        go_wp2_with fail
        refine wp_region_held_drew (S := fun X => At9 X b off j r) (by kernel_rfl) ?_ (fun hHeld => ?_)
        · exact HR.out.at' _ (HT2.out.tq.keepsN ((Keeps.refl no _).drew))
        refine wpAnyH_take (i := 0) (v := ?_) (by simp only [List.getElem?_toArray, List.getElem?_cons_succ, List.getElem?_cons_zero]; rfl) (by kernel_rfl) (by kernel_rfl) (by kernel_rfl) (by exact fun _ _ _ h => h) (Or.inl ⟨by rfl, ?_⟩) (by assumption) ?_
        rotate_left
        · (intro _ hSw; (try dsimp only at hSw); go_simp; (try with_reducible rfl))
        try simp only [Act.put, List.setIfInBounds_toArray, List.set_cons_zero, List.set_cons_succ]
        refine wpAnyH_take (i := 1) (v := ?_) (by simp only [List.getElem?_toArray, List.getElem?_cons_succ, List.getElem?_cons_zero]; rfl) (by kernel_rfl) (by kernel_rfl) (by kernel_rfl) (by exact fun _ _ _ h => h) (Or.inl ⟨by rfl, ?_⟩) (by assumption) ?_
        rotate_left
        · (intro _ hSw; (try dsimp only at hSw); go_simp; (try with_reducible rfl))
        try simp only [Act.put, List.setIfInBounds_toArray, List.set_cons_zero, List.set_cons_succ]
        refine wpAnyH_take (i := 2) (v := ?_) (by simp only [List.getElem?_toArray, List.getElem?_cons_succ, List.getElem?_cons_zero]; rfl) (by kernel_rfl) (by kernel_rfl) (by kernel_rfl) (by exact fun _ _ _ h => h) (Or.inl ⟨by rfl, ?_⟩) (by assumption) ?_
        rotate_left
        · (intro _ hSw; (try dsimp only at hSw); go_simp; (try with_reducible rfl))
        try simp only [Act.put, List.setIfInBounds_toArray, List.set_cons_zero, List.set_cons_succ]
        refine wpAnyH_take (i := 3) (v := ?_) (by simp only [List.getElem?_toArray, List.getElem?_cons_succ, List.getElem?_cons_zero]; rfl) (by kernel_rfl) (by kernel_rfl) (by kernel_rfl) (by exact fun _ _ _ h => h) (Or.inl ⟨by rfl, ?_⟩) (by assumption) ?_
        rotate_left
        · (intro _ hSw; (try dsimp only at hSw); go_simp; (try with_reducible rfl))
        try simp only [Act.put, List.setIfInBounds_toArray, List.set_cons_zero, List.set_cons_succ]
        refine wpAnyH_take (i := 4) (v := ?_) (by simp only [List.getElem?_toArray, List.getElem?_cons_succ, List.getElem?_cons_zero]; rfl) (by kernel_rfl) (by kernel_rfl) (by kernel_rfl) (by exact fun _ _ _ h => h) (Or.inl ⟨by rfl, ?_⟩) (by assumption) ?_
        rotate_left
        · (intro _ hSw; (try dsimp only at hSw); go_simp; (try with_reducible rfl))
        try simp only [Act.put, List.setIfInBounds_toArray, List.set_cons_zero, List.set_cons_succ]
        refine wpAnyH_take (i := 5) (v := ?_) (by simp only [List.getElem?_toArray, List.getElem?_cons_succ, List.getElem?_cons_zero]; rfl) (by kernel_rfl) (by kernel_rfl) (by kernel_rfl) (by exact fun _ _ _ h => h) (Or.inl ⟨by rfl, ?_⟩) (by assumption) ?_
        rotate_left
        · (intro _ hSw; (try dsimp only at hSw); go_simp; (try with_reducible rfl))
        try simp only [Act.put, List.setIfInBounds_toArray, List.set_cons_zero, List.set_cons_succ]
        refine wpAnyH_take (i := 6) (v := ?_) (by simp only [List.getElem?_toArray, List.getElem?_cons_succ, List.getElem?_cons_zero]; rfl) (by kernel_rfl) (by kernel_rfl) (by kernel_rfl) (by exact fun _ _ _ h => h) (Or.inl ⟨by rfl, ?_⟩) (by assumption) ?_
        rotate_left
        · (intro _ hSw; (try dsimp only at hSw); go_simp; (try with_reducible rfl))
        try simp only [Act.put, List.setIfInBounds_toArray, List.set_cons_zero, List.set_cons_succ]
        refine wpAnyH_take (i := 7) (v := ?_) (by simp only [List.getElem?_toArray, List.getElem?_cons_succ, List.getElem?_cons_zero]; rfl) (by kernel_rfl) (by kernel_rfl) (by kernel_rfl) (by exact fun _ _ _ h => h) (Or.inl ⟨by rfl, ?_⟩) (by assumption) ?_
        rotate_left
        · (intro _ hSw; (try dsimp only at hSw); go_simp; (try with_reducible rfl))
        try simp only [Act.put, List.setIfInBounds_toArray, List.set_cons_zero, List.set_cons_succ]
        refine wpAnyH_take (i := 8) (v := ?_) (by simp only [List.getElem?_toArray, List.getElem?_cons_succ, List.getElem?_cons_zero]; rfl) (by kernel_rfl) (by kernel_rfl) (by kernel_rfl) (by exact fun _ _ _ h => h) (Or.inl ⟨by rfl, ?_⟩) (by assumption) ?_
        rotate_left
        · (intro _ hSw; (try dsimp only at hSw); have z0 := hSw.c0; go_simp; (try with_reducible rfl))
        try simp only [Act.put, List.setIfInBounds_toArray, List.set_cons_zero, List.set_cons_succ]
        refine wpAnyH_take (i := 9) (v := ?_) (by simp only [List.getElem?_toArray, List.getElem?_cons_succ, List.getElem?_cons_zero]; rfl) (by kernel_rfl) (by kernel_rfl) (by kernel_rfl) (by exact fun _ _ _ h => h) (Or.inl ⟨by rfl, ?_⟩) (by assumption) ?_
        rotate_left
        · (intro _ hSw; (try dsimp only at hSw); go_simp; (try with_reducible rfl))
        try simp only [Act.put, List.setIfInBounds_toArray, List.set_cons_zero, List.set_cons_succ]
        refine wpAnyH_take (i := 10) (v := ?_) (by simp only [List.getElem?_toArray, List.getElem?_cons_succ, List.getElem?_cons_zero]; rfl) (by kernel_rfl) (by kernel_rfl) (by kernel_rfl) (by exact fun _ _ _ h => h) (Or.inl ⟨by rfl, ?_⟩) (by assumption) ?_
        rotate_left
        · (intro _ hSw; (try dsimp only at hSw); go_simp; (try with_reducible rfl))
        try simp only [Act.put, List.setIfInBounds_toArray, List.set_cons_zero, List.set_cons_succ]
        refine wpAnyH_take (i := 11) (v := ?_) (by simp only [List.getElem?_toArray, List.getElem?_cons_succ, List.getElem?_cons_zero]; rfl) (by kernel_rfl) (by kernel_rfl) (by kernel_rfl) (by exact fun _ _ _ h => h) (Or.inl ⟨by rfl, ?_⟩) (by assumption) ?_
        rotate_left
        · (intro _ hSw; (try dsimp only at hSw); go_simp; (try with_reducible rfl))
        try simp only [Act.put, List.setIfInBounds_toArray, List.set_cons_zero, List.set_cons_succ]
        refine wpAnyH_take (i := 12) (v := ?_) (by simp only [List.getElem?_toArray, List.getElem?_cons_succ, List.getElem?_cons_zero]; rfl) (by kernel_rfl) (by kernel_rfl) (by kernel_rfl) (by exact fun _ _ _ h => h) (Or.inl ⟨by rfl, ?_⟩) (by assumption) ?_
        rotate_left
        · (intro _ hSw; (try dsimp only at hSw); go_simp; (try with_reducible rfl))
        try simp only [Act.put, List.setIfInBounds_toArray, List.set_cons_zero, List.set_cons_succ]
        refine wpAnyH_take (i := 13) (v := ?_) (by simp only [List.getElem?_toArray, List.getElem?_cons_succ, List.getElem?_cons_zero]; rfl) (by kernel_rfl) (by kernel_rfl) (by kernel_rfl) (by exact fun _ _ _ h => h) (Or.inl ⟨by rfl, ?_⟩) (by assumption) ?_
        rotate_left
        · (intro _ hSw; (try dsimp only at hSw); go_simp; (try with_reducible rfl))
        try simp only [Act.put, List.setIfInBounds_toArray, List.set_cons_zero, List.set_cons_succ]
        refine wpAnyH_take (i := 14) (v := ?_) (by simp only [List.getElem?_toArray, List.getElem?_cons_succ, List.getElem?_cons_zero]; rfl) (by kernel_rfl) (by kernel_rfl) (by kernel_rfl) (by exact fun _ _ _ h => h) (Or.inl ⟨by rfl, ?_⟩) (by assumption) ?_
        rotate_left
        · (intro _ hSw; (try dsimp only at hSw); go_simp; (try with_reducible rfl))
        try simp only [Act.put, List.setIfInBounds_toArray, List.set_cons_zero, List.set_cons_succ]
        refine wpAnyH_take (i := 15) (v := ?_) (by simp only [List.getElem?_toArray, List.getElem?_cons_succ, List.getElem?_cons_zero]; rfl) (by kernel_rfl) (by kernel_rfl) (by kernel_rfl) (by exact fun _ _ _ h => h) (Or.inl ⟨by rfl, ?_⟩) (by assumption) ?_
        rotate_left
        · (intro _ hSw; (try dsimp only at hSw); have z0 := hSw.c0; have z1 := hSw.c1; have z2 := hSw.c2; have z3 := hSw.c3; have z4 := hSw.c4; have z5 := hSw.c5; have z6 := hSw.c6; have z7 := hSw.c7; have z8 := hSw.c8; go_simp; (try with_reducible rfl))
        try simp only [Act.put, List.setIfInBounds_toArray, List.set_cons_zero, List.set_cons_succ]
        refine wpAnyH_ready (rs := [16]) (by kernel_rfl) (by simp) ?_
        refine AllReadyH.cons (by simp only [List.getElem?_toArray, List.getElem?_cons_succ, List.getElem?_cons_zero]; rfl) (fun Kq hKq => ?_) AllReadyH.nil
        go_simp
        refine Calls.mono (HR.out.ans _) ?_
        rintro e za ⟨rfl, hka⟩
        have HKA : Hid (Keeps no wr za) := ((Keeps.refl no wr).drew).trans hka
        clear hka
        refine hKq.out _ _ ?_ (fun hHeldN => ?_)
        · exact HR.out.at' _ (HT2.out.tq.keepsN HKA.out)
        clear hKq Kq hHeld
        have hHeld := hHeldN
        clear hHeldN
        refine wpAnyH_ready (rs := [17]) (by kernel_rfl) (by simp) ?_
        refine AllReadyH.cons (by simp only [List.getElem?_toArray, List.getElem?_cons_succ, List.getElem?_cons_zero]; rfl) (fun Kq hKq => ?_) AllReadyH.nil
        go_simp
        refine Calls.mono (HR.out.rcv _ HKA.out) ?_
        rintro e zb ⟨o9, n9, c9, r9, G, rfl, ht⟩
        rw [HOT.out] at ht
        have hT := (HT2.out.keepsN HKA.out).tell ht (HG1.out.1.wfG m1 (i + 1)) (stG_m s1 m1 (i + 1) HG1.out.2.1)
        have hS := (HT1.out.keepsN HKA.out).tell ht (HG1.out.1.wfG m1 (i + 1)) (stG_m s1 m1 (i + 1) HG1.out.2.1)
        have HN : Hid (W2l w zb p cp (stG s1 m1 (i + 1)).s (stG s1 m1 (i + 1)).m oq cq rs (askedS s1) (some ⟨b, off, none⟩) cc (askedS (askS s1 m1))) := ⟨G, rc, hS.1, hT.1⟩
        have hn9 : n9 = 0 := ht.n
        subst hn9
        have HTQ : Hid (Tq zb (some ⟨b, off, none⟩) cc rc (askedS (askS s1 m1))) := hT.1.tq
        clear ht hT hS HKA
        refine hKq.out _ _ ?_ (fun hHeldN => ?_)
        · exact HR.out.at' _ HTQ.out
        clear hKq Kq hHeld
        have hHeld := hHeldN
        clear hHeldN
        refine wpAnyH_take (i := 18) (v := ?_) (by simp only [List.getElem?_toArray, List.getElem?_cons_succ, List.getElem?_cons_zero]; rfl) (by kernel_rfl) (by kernel_rfl) (by kernel_rfl) (by exact fun _ _ _ h => h) (Or.inl ⟨by rfl, ?_⟩) (by assumption) ?_
        rotate_left
        · (intro _ hSw; (try dsimp only at hSw); go_simp; (try with_reducible rfl))
        try simp only [Act.put, List.setIfInBounds_toArray, List.set_cons_zero, List.set_cons_succ]
        refine wpAnyH_take (i := 19) (v := ?_) (by simp only [List.getElem?_toArray, List.getElem?_cons_succ, List.getElem?_cons_zero]; rfl) (by kernel_rfl) (by kernel_rfl) (by kernel_rfl) (by exact fun _ _ _ h => h) (Or.inl ⟨by rfl, ?_⟩) (by assumption) ?_
        rotate_left
        · (intro _ hSw; (try dsimp only at hSw); go_simp; (try with_reducible rfl))
        try simp only [Act.put, List.setIfInBounds_toArray, List.set_cons_zero, List.set_cons_succ]
        refine wpAnyH_done (by kernel_rfl) ?_ _
        clear hHeld HOT HR HT1 HT2 HTQ
        go_wp2_with fail
        go_roundw
        case rel => exact ⟨i + 1, _, nc, cc, by omega, by go_num, rfl, HNC1, by rw [HCM.out]; exact HN.out⟩
        case measure => simp [intOf]; omega
    · have hlt' : ¬ (i : Int) < N := by omega
      have hiN : i = N := by omega
      subst hiN
      obtain ⟨wv, hwv⟩ : ∃ wv, wv = wantG nq i := ⟨_, rfl⟩
      obtain ⟨sF, hsF⟩ : ∃ sF, sF = giveS (stG s1 m1 i).s := ⟨_, rfl⟩
      obtain ⟨mF, hmF⟩ : ∃ mF, mF = (stG s1 m1 i).m := ⟨_, rfl⟩
      have HSF : Hid (sF.ended = wv ∧ ¬ sF.ended = 0 ∧ WfS sF ∧ mF < 18446744073709551616) := by
        have h := HG1.out.1.gave m1 (n := i) (by have := HG1.out.2.2; omega)
        rw [← HG1.out.2.2, ← hsF, ← hwv] at h
        refine ⟨h, by rw [h, hwv]; exact wantG_pos _ _, by rw [hsF]; exact (HG1.out.1.wfG m1 i).give, by rw [hmF]; exact stG_m s1 m1 i HG1.out.2.1⟩
      have HWG : Hid (wv = wantG nq i) := hwv
      obtain ⟨F, rc, h1, h2⟩ := HW.out.ex
      have HGV : Hid (Calls Try.prog 12 #[.pointer (some ⟨p, 0, none⟩)] wr fun e w' => e = .returned (.tuple #[]) ∧ IsWr w' p cp F sF ∧ Keeps F wr w') := by rw [hsF]; exact wGive_any wr p cp F _ h1.wc.is h1.wc.wf
      have HT1 : Hid (∀ X, IsWr X p cp F sF → Keeps F wr X → W2l w X p cp sF mF oq cq rs (askedS s1) oc cc (cmG s1 m1 i)) := fun X hX hk => by
        subst hsF hmF
        exact ⟨F, rc, h1.give hX hk, h2.give hX hk⟩
      have hncq : (nc : Int) ≤ 64 := by have h := HNC.out; rw [cmG_len] at h; have := HG1.out.2.2; split at h <;> omega
      have HCF : Hid (FitQs (cmG s1 m1 i) ∧ nc = (cmG s1 m1 i).length ∧ ∀ j, j < (cmG s1 m1 i).length → ((cmG s1 m1 i).getD j q0).kind = 1 ∨ ((cmG s1 m1 i).getD j q0).kind = 2) := ⟨HG1.out.1.cmFit m1 i, HNC.out, fun j hj => cmG_kind s1 m1 i hj⟩
      clear h1 h2 hsF hmF hwv HW HNC
      generalize cmG s1 m1 i = qc at HT1 HCF
      go_wp2_with fail
      refine Calls.mono HGV.out ?_
      rintro e wg ⟨rfl, hig, hkg⟩
      have HL : Hid (W2l w wg p cp sF mF oq cq rs (askedS s1) oc cc qc) := HT1.out wg hig hkg
      clear hig hkg HGV HT1
      have h3 : (i < nq ∧ wv = 3) ∨ (nq ≤ i ∧ i < 2 * nq ∧ wv = 4) ∨ (nq ≤ i ∧ i = 2 * nq ∧ wv = 1) := by
        have h := HWG.out
        unfold wantG at h
        by_cases a1 : i = 2 * nq
        · rw [if_pos a1] at h; exact .inr (.inr ⟨by omega, a1, h⟩)
        · rw [if_neg a1] at h
          by_cases a2 : nq ≤ i
          · rw [if_pos a2] at h; exact .inr (.inl ⟨a2, by omega, h⟩)
          · rw [if_neg a2] at h; exact .inl ⟨by omega, h⟩
      clear HWG
      have h4 : ∃ (c1 c2 : Bool), (decide ((nq : Int) ≤ (i : Int)) = c1) ∧ (((i : Int) == 2 * (nq : Int)) = c2) ∧ (wv = if c2 = true then 1 else if c1 = true then 4 else 3) := by
        rcases h3 with ⟨a, b⟩ | ⟨a, b, d⟩ | ⟨a, b, d⟩
        · exact ⟨false, false, by simp; omega, by simp; omega, b⟩
        · exact ⟨true, false, by simp; omega, by simp; omega, d⟩
        · exact ⟨true, true, by simp; omega, by simp; omega, d⟩
      obtain ⟨c1, c2, hc1, hc2, hwv⟩ := h4
      clear h3
      obtain ⟨F0, rc0, k1, k2⟩ := HL.out.ex
      have HK1 : Hid (Wt w wg p cp sF mF F0 oq cq rs (askedS s1)) := k1
      have HK2 : Hid (Wt w wg p cp sF mF F0 oc cc rc0 qc) := k2
      clear k1 k2 HL
      have hwv4 : (wv : Int) ≤ 4 := by rw [hwv]; cases c2 <;> cases c1 <;> simp
      have HRE : Hid (∀ X F, Wt w X p cp sF mF F oq cq rs (askedS s1) → Calls Try.prog 13 #[.pointer (some ⟨p, 0, none⟩)] X fun e w' => e = .returned (.int .i64 (wv : Nat)) ∧ Keeps no X w') := fun X F h => by
        have h1 := wResult_any X p cp F sF h.wc.is h.wc.wf
        rw [HSF.out.1] at h1
        exact h1
      have HAG : Hid (∀ X F, Wt w X p cp sF mF F oq cq rs (askedS s1) → Calls Try.prog 14 #[.pointer (some ⟨p, 0, none⟩)] X (TellTo X p cp F ⟨sF, [], mF⟩)) := fun X F h => by
        have h1 := wAgain_any X p cp F sF mF h.wc.is h.wc.wf h.wc.ct h.wc.lt h.wc.cF
        rw [again_end HSF.out.2.1] at h1
        exact h1
      have HBE : Hid (∀ X F, Wt w X p cp sF mF F oq cq rs (askedS s1) → Calls Try.prog 15 #[.pointer (some ⟨p, 0, none⟩)] X (TellTo X p cp F ⟨sF, [], mF⟩)) := fun X F h => by
        have h1 := wBegin_any X p cp F sF mF h.wc.is h.wc.wf h.wc.ct h.wc.lt h.wc.cF
        rw [begin_end HSF.out.2.1] at h1
        exact h1
      have HGE : Hid (∀ X F, Wt w X p cp sF mF F oq cq rs (askedS s1) → Calls Try.prog 12 #[.pointer (some ⟨p, 0, none⟩)] X fun e w' => e = .returned (.tuple #[]) ∧ IsWr w' p cp F sF ∧ Keeps F X w') := fun X F h => by
        have h1 := wGive_any X p cp F sF h.wc.is h.wc.wf
        rw [give_end HSF.out.2.1] at h1
        exact h1
      have hc1' : decide (nq ≤ i) = c1 := by rw [← hc1]; simp
      cases c1 <;> cases c2
      all_goals
        simp only [if_true, if_false, Bool.false_eq_true, reduceIte] at hwv
        subst hwv
        go_wp2_with fail
      all_goals
        refine Calls.mono (HRE.out _ _ HK1.out) ?_
        rintro e wA ⟨rfl, hkA⟩
        have HA1 := HK1.out.keepsN hkA
        have HA2 := HK2.out.keepsN hkA
        have HJ1 : Hid (Wt w wA p cp sF mF F0 oq cq rs (askedS s1)) := HA1
        have HJ2 : Hid (Wt w wA p cp sF mF F0 oc cc rc0 qc) := HA2
        clear HA1 HA2 hkA HK1 HK2
        go_wp2_with fail
        refine Calls.mono (HAG.out _ _ HJ1.out) ?_
        rintro e wB ⟨o5, n5, c5, r5, G5, rfl, ht⟩
        have hn5 : n5 = 0 := ht.n
        have HB1 : Hid (Wt w wB p cp sF mF G5 oq cq rs (askedS s1)) := (HJ1.out.tell ht HSF.out.2.2.1 HSF.out.2.2.2).1
        have HB2 : Hid (Wt w wB p cp sF mF G5 oc cc rc0 qc) := (HJ2.out.tell ht HSF.out.2.2.1 HSF.out.2.2.2).1
        clear ht HJ1 HJ2
        subst hn5
        go_wp2_with fail
        refine Calls.mono (HBE.out _ _ HB1.out) ?_
        rintro e wC ⟨o6, n6, c6, r6, G6, rfl, ht⟩
        have hn6 : n6 = 0 := ht.n
        have HL2 : Hid (W2l w wC p cp sF mF oq cq rs (askedS s1) oc cc qc) := ⟨G6, rc0, (HB1.out.tell ht HSF.out.2.2.1 HSF.out.2.2.2).1, (HB2.out.tell ht HSF.out.2.2.1 HSF.out.2.2.2).1⟩
        clear ht HB1 HB2
        subst hn6
        go_wp2_with fail
        go_loopw [18] (fun s18 wr => ∃ j : Nat, j ≤ nq ∧ s18 = .int .i64 j ∧ Hid (W2l w wr p cp sF mF oq cq rs (askedS s1) oc cc qc)) (fun s18 _ => nq - (intOf s18).toNat)
        case atStart => exact ⟨0, by omega, rfl, HL2⟩
        case round =>
          clear HL2
          rename World => wr
          obtain ⟨j, hj, rfl, HW⟩ := hrel
          by_cases hlt5 : j < nq
          · have hlt5' : (j : Int) < nq := by omega
            have hjl : j < s1.ps.length := by have := HG1.out.2.2; omega
            obtain ⟨F, rc, h1, h2⟩ := HW.out.ex
            have HT1 : Hid (Wt w wr p cp sF mF F oq cq rs (askedS s1)) := h1
            have HT2 : Hid (Wt w wr p cp sF mF F oc cc rc qc) := h2
            clear h1 h2 HW
            obtain ⟨b, off, r, ka, hR⟩ := rcv_of HT1.out (i := j) (by rw [asked_len]; exact hjl) HG1.out.1.wf.fit (asked_kind s1 hjl)
            have hoq := hR.is
            subst hoq
            have HR : Hid (Rcv w wr p cp sF mF F (some ⟨b, off, none⟩) cq rs (askedS s1) j b off r ka) := hR
            have HOT : Hid (∀ part k req id, recvS sF mF part k req id = ⟨sF, [], mF⟩) := fun part k req id => recv_end HSF.out.2.1 mF part k req id
            clear hR hjl
            go_wp2_with fail
            refine wp_region_held_drew (S := fun X => At9 X b off j r) (by kernel_rfl) ?_ (fun hHeld => ?_)
            · exact HR.out.at' _ (HT1.out.tq.keepsN ((Keeps.refl no _).drew))
            refine wpAnyH_take (i := 0) (v := ?_) (by simp only [List.getElem?_toArray, List.getElem?_cons_succ, List.getElem?_cons_zero]; rfl) (by kernel_rfl) (by kernel_rfl) (by kernel_rfl) (by exact fun _ _ _ h => h) (Or.inl ⟨by rfl, ?_⟩) (by assumption) ?_
            rotate_left
            · (intro _ hSw; (try dsimp only at hSw); go_simp; (try with_reducible rfl))
            try simp only [Act.put, List.setIfInBounds_toArray, List.set_cons_zero, List.set_cons_succ]
            refine wpAnyH_take (i := 1) (v := ?_) (by simp only [List.getElem?_toArray, List.getElem?_cons_succ, List.getElem?_cons_zero]; rfl) (by kernel_rfl) (by kernel_rfl) (by kernel_rfl) (by exact fun _ _ _ h => h) (Or.inl ⟨by rfl, ?_⟩) (by assumption) ?_
            rotate_left
            · (intro _ hSw; (try dsimp only at hSw); go_simp; (try with_reducible rfl))
            try simp only [Act.put, List.setIfInBounds_toArray, List.set_cons_zero, List.set_cons_succ]
            refine wpAnyH_take (i := 2) (v := ?_) (by simp only [List.getElem?_toArray, List.getElem?_cons_succ, List.getElem?_cons_zero]; rfl) (by kernel_rfl) (by kernel_rfl) (by kernel_rfl) (by exact fun _ _ _ h => h) (Or.inl ⟨by rfl, ?_⟩) (by assumption) ?_
            rotate_left
            · (intro _ hSw; (try dsimp only at hSw); go_simp; (try with_reducible rfl))
            try simp only [Act.put, List.setIfInBounds_toArray, List.set_cons_zero, List.set_cons_succ]
            refine wpAnyH_take (i := 3) (v := ?_) (by simp only [List.getElem?_toArray, List.getElem?_cons_succ, List.getElem?_cons_zero]; rfl) (by kernel_rfl) (by kernel_rfl) (by kernel_rfl) (by exact fun _ _ _ h => h) (Or.inl ⟨by rfl, ?_⟩) (by assumption) ?_
            rotate_left
            · (intro _ hSw; (try dsimp only at hSw); go_simp; (try with_reducible rfl))
            try simp only [Act.put, List.setIfInBounds_toArray, List.set_cons_zero, List.set_cons_succ]
            refine wpAnyH_take (i := 4) (v := ?_) (by simp only [List.getElem?_toArray, List.getElem?_cons_succ, List.getElem?_cons_zero]; rfl) (by kernel_rfl) (by kernel_rfl) (by kernel_rfl) (by exact fun _ _ _ h => h) (Or.inl ⟨by rfl, ?_⟩) (by assumption) ?_
            rotate_left
            · (intro _ hSw; (try dsimp only at hSw); go_simp; (try with_reducible rfl))
            try simp only [Act.put, List.setIfInBounds_toArray, List.set_cons_zero, List.set_cons_succ]
            refine wpAnyH_take (i := 5) (v := ?_) (by simp only [List.getElem?_toArray, List.getElem?_cons_succ, List.getElem?_cons_zero]; rfl) (by kernel_rfl) (by kernel_rfl) (by kernel_rfl) (by exact fun _ _ _ h => h) (Or.inl ⟨by rfl, ?_⟩) (by assumption) ?_
            rotate_left
            · (intro _ hSw; (try dsimp only at hSw); have z0 := hSw.c0; go_simp; (try with_reducible rfl))
            try simp only [Act.put, List.setIfInBounds_toArray, List.set_cons_zero, List.set_cons_succ]
            refine wpAnyH_take (i := 6) (v := ?_) (by simp only [List.getElem?_toArray, List.getElem?_cons_succ, List.getElem?_cons_zero]; rfl) (by kernel_rfl) (by kernel_rfl) (by kernel_rfl) (by exact fun _ _ _ h => h) (Or.inl ⟨by rfl, ?_⟩) (by assumption) ?_
            rotate_left
            · (intro _ hSw; (try dsimp only at hSw); go_simp; (try with_reducible rfl))
            try simp only [Act.put, List.setIfInBounds_toArray, List.set_cons_zero, List.set_cons_succ]
            refine wpAnyH_take (i := 7) (v := ?_) (by simp only [List.getElem?_toArray, List.getElem?_cons_succ, List.getElem?_cons_zero]; rfl) (by kernel_rfl) (by kernel_rfl) (by kernel_rfl) (by exact fun _ _ _ h => h) (Or.inl ⟨by rfl, ?_⟩) (by assumption) ?_
            rotate_left
            · (intro _ hSw; (try dsimp only at hSw); go_simp; (try with_reducible rfl))
            try simp only [Act.put, List.setIfInBounds_toArray, List.set_cons_zero, List.set_cons_succ]
            refine wpAnyH_take (i := 8) (v := ?_) (by simp only [List.getElem?_toArray, List.getElem?_cons_succ, List.getElem?_cons_zero]; rfl) (by kernel_rfl) (by kernel_rfl) (by kernel_rfl) (by exact fun _ _ _ h => h) (Or.inl ⟨by rfl, ?_⟩) (by assumption) ?_
            rotate_left
            · (intro _ hSw; (try dsimp only at hSw); go_simp; (try with_reducible rfl))
            try simp only [Act.put, List.setIfInBounds_toArray, List.set_cons_zero, List.set_cons_succ]
            refine wpAnyH_take (i := 9) (v := ?_) (by simp only [List.getElem?_toArray, List.getElem?_cons_succ, List.getElem?_cons_zero]; rfl) (by kernel_rfl) (by kernel_rfl) (by kernel_rfl) (by exact fun _ _ _ h => h) (Or.inl ⟨by rfl, ?_⟩) (by assumption) ?_
            rotate_left
            · (intro _ hSw; (try dsimp only at hSw); have z0 := hSw.c0; have z1 := hSw.c1; have z2 := hSw.c2; have z3 := hSw.c3; have z4 := hSw.c4; have z5 := hSw.c5; have z6 := hSw.c6; have z7 := hSw.c7; have z8 := hSw.c8; go_simp; (try with_reducible rfl))
            try simp only [Act.put, List.setIfInBounds_toArray, List.set_cons_zero, List.set_cons_succ]
            refine wpAnyH_ready (rs := [10]) (by kernel_rfl) (by simp) ?_
            refine AllReadyH.cons (by simp only [List.getElem?_toArray, List.getElem?_cons_succ, List.getElem?_cons_zero]; rfl) (fun Kq hKq => ?_) AllReadyH.nil
            go_simp
            refine Calls.mono (HR.out.ans _) ?_
            rintro e za ⟨rfl, hka⟩
            have HKA : Hid (Keeps no wr za) := ((Keeps.refl no wr).drew).trans hka
            clear hka
            refine hKq.out _ _ ?_ (fun hHeldN => ?_)
            · exact HR.out.at' _ (HT1.out.tq.keepsN HKA.out)
            clear hKq Kq hHeld
            have hHeld := hHeldN
            clear hHeldN
            refine wpAnyH_ready (rs := [11]) (by kernel_rfl) (by simp) ?_
            refine AllReadyH.cons (by simp only [List.getElem?_toArray, List.getElem?_cons_succ, List.getElem?_cons_zero]; rfl) (fun Kq hKq => ?_) AllReadyH.nil
            go_simp
            refine Calls.mono (HR.out.rcv _ HKA.out) ?_
            rintro e zb ⟨o9, n9, c9, r9, G, rfl, ht⟩
            rw [HOT.out] at ht
            have hT := (HT1.out.keepsN HKA.out).tell ht HSF.out.2.2.1 HSF.out.2.2.2
            have hS := (HT2.out.keepsN HKA.out).tell ht HSF.out.2.2.1 HSF.out.2.2.2
            have HN : Hid (W2l w zb p cp sF mF (some ⟨b, off, none⟩) cq rs (askedS s1) oc cc qc) := ⟨G, rc, hT.1, hS.1⟩
            have hn9 : n9 = 0 := ht.n
            subst hn9
            have HTQ : Hid (Wt w zb p cp sF mF G (some ⟨b, off, none⟩) cq rs (askedS s1)) := hT.1
            clear ht hT hS HKA
            refine hKq.out _ _ ?_ (fun hHeldN => ?_)
            · exact HR.out.at' _ HTQ.out.tq
            clear hKq Kq hHeld
            have hHeld := hHeldN
            clear hHeldN
            refine wpAnyH_take (i := 12) (v := ?_) (by simp only [List.getElem?_toArray, List.getElem?_cons_succ, List.getElem?_cons_zero]; rfl) (by kernel_rfl) (by kernel_rfl) (by kernel_rfl) (by exact fun _ _ _ h => h) (Or.inl ⟨by rfl, ?_⟩) (by assumption) ?_
            rotate_left
            · (intro _ hSw; (try dsimp only at hSw); go_simp; (try with_reducible rfl))
            try simp only [Act.put, List.setIfInBounds_toArray, List.set_cons_zero, List.set_cons_succ]
            refine wpAnyH_take (i := 13) (v := ?_) (by simp only [List.getElem?_toArray, List.getElem?_cons_succ, List.getElem?_cons_zero]; rfl) (by kernel_rfl) (by kernel_rfl) (by kernel_rfl) (by exact fun _ _ _ h => h) (Or.inl ⟨by rfl, ?_⟩) (by assumption) ?_
            rotate_left
            · (intro _ hSw; (try dsimp only at hSw); go_simp; (try with_reducible rfl))
            try simp only [Act.put, List.setIfInBounds_toArray, List.set_cons_zero, List.set_cons_succ]
            refine wpAnyH_take (i := 14) (v := ?_) (by simp only [List.getElem?_toArray, List.getElem?_cons_succ, List.getElem?_cons_zero]; rfl) (by kernel_rfl) (by kernel_rfl) (by kernel_rfl) (by exact fun _ _ _ h => h) (Or.inl ⟨by rfl, ?_⟩) (by assumption) ?_
            rotate_left
            · (intro _ hSw; (try dsimp only at hSw); go_simp; (try with_reducible rfl))
            try simp only [Act.put, List.setIfInBounds_toArray, List.set_cons_zero, List.set_cons_succ]
            refine wpAnyH_take (i := 15) (v := ?_) (by simp only [List.getElem?_toArray, List.getElem?_cons_succ, List.getElem?_cons_zero]; rfl) (by kernel_rfl) (by kernel_rfl) (by kernel_rfl) (by exact fun _ _ _ h => h) (Or.inl ⟨by rfl, ?_⟩) (by assumption) ?_
            rotate_left
            · (intro _ hSw; (try dsimp only at hSw); go_simp; (try with_reducible rfl))
            try simp only [Act.put, List.setIfInBounds_toArray, List.set_cons_zero, List.set_cons_succ]
            refine wpAnyH_take (i := 17) (v := ?_) (by simp only [List.getElem?_toArray, List.getElem?_cons_succ, List.getElem?_cons_zero]; rfl) (by kernel_rfl) (by kernel_rfl) (by kernel_rfl) (by exact fun _ _ _ h => h) (Or.inl ⟨by rfl, ?_⟩) (by assumption) ?_
            rotate_left
            · (intro _ hSw; (try dsimp only at hSw); go_simp; (try with_reducible rfl))
            try simp only [Act.put, List.setIfInBounds_toArray, List.set_cons_zero, List.set_cons_succ]
            refine wpAnyH_ready (rs := [16]) (by kernel_rfl) (by simp) ?_
            refine AllReadyH.cons (by simp only [List.getElem?_toArray, List.getElem?_cons_succ, List.getElem?_cons_zero]; rfl) (fun Kq hKq => ?_) AllReadyH.nil
            go_simp
            refine Calls.mono (HRE.out _ _ HTQ.out) ?_
            rintro e zc ⟨rfl, hkc⟩
            have HN2 : Hid (W2l w zc p cp sF mF (some ⟨b, off, none⟩) cq rs (askedS s1) oc cc qc) := by
              obtain ⟨F5, rc5, a1, a2⟩ := HN.out.ex
              exact ⟨F5, rc5, a1.keepsN hkc, a2.keepsN hkc⟩
            have HTC : Hid (Tq zc (some ⟨b, off, none⟩) cq rs (askedS s1)) := HTQ.out.tq.keepsN hkc
            clear hkc HN
            have HN : Hid (W2l w zc p cp sF mF (some ⟨b, off, none⟩) cq rs (askedS s1) oc cc qc) := HN2.out
            clear HN2
            refine hKq.out _ _ ?_ (fun hHeldN => ?_)
            · exact HR.out.at' _ HTC.out
            clear hKq Kq hHeld
            have hHeld := hHeldN
            clear hHeldN
            refine wpAnyH_take (i := 18) (v := ?_) (by simp only [List.getElem?_toArray, List.getElem?_cons_succ, List.getElem?_cons_zero]; rfl) (by kernel_rfl) (by kernel_rfl) (by kernel_rfl) (by exact fun _ _ _ h => h) (Or.inl ⟨by rfl, ?_⟩) (by assumption) ?_
            rotate_left
            · (intro _ hSw; (try dsimp only at hSw); go_simp; (try with_reducible rfl))
            try simp only [Act.put, List.setIfInBounds_toArray, List.set_cons_zero, List.set_cons_succ]
            refine wpAnyH_take (i := 19) (v := ?_) (by simp only [List.getElem?_toArray, List.getElem?_cons_succ, List.getElem?_cons_zero]; rfl) (by kernel_rfl) (by kernel_rfl) (by kernel_rfl) (by exact fun _ _ _ h => h) (Or.inl ⟨by rfl, ?_⟩) (by assumption) ?_
            rotate_left
            · (intro _ hSw; (try dsimp only at hSw); go_simp; (try with_reducible rfl))
            try simp only [Act.put, List.setIfInBounds_toArray, List.set_cons_zero, List.set_cons_succ]
            refine wpAnyH_done (by kernel_rfl) ?_ _
            clear hHeld HOT HR HT1 HT2 HTQ HTC
            go_wp2_with fail
            go_roundw
            case rel => exact ⟨j + 1, by omega, by go_num, HN⟩
            case measure => simp [intOf]; omega
          · have hlt5' : ¬ (j : Int) < nq := by omega
            have HL3 : Hid (W2l w wr p cp sF mF oq cq rs (askedS s1) oc cc qc) := HW.out
            clear HW hj
            go_wp2_with fail
            go_loopw [19] (fun s19 wq => ∃ k : Nat, k ≤ nc ∧ s19 = .int .i64 k ∧ Hid (W2l w wq p cp sF mF oq cq rs (askedS s1) oc cc qc)) (fun s19 _ => nc - (intOf s19).toNat)
            case atStart => exact ⟨0, by omega, rfl, HL3⟩
            case round =>
              clear HL3
              rename World => wr
              obtain ⟨k, hk, rfl, HW⟩ := hrel
              by_cases hlt6 : k < nc
              · have hlt6' : (k : Int) < nc := by omega
                have hkl : k < qc.length := by have := HCF.out.2.1; omega
                obtain ⟨F, rc, h1, h2⟩ := HW.out.ex
                have HT1 : Hid (Wt w wr p cp sF mF F oq cq rs (askedS s1)) := h1
                have HT2 : Hid (Wt w wr p cp sF mF F oc cc rc qc) := h2
                clear h1 h2 HW
                obtain ⟨b, off, r, ka, hR⟩ := rcv_of HT2.out (i := k) hkl HCF.out.1 (HCF.out.2.2 k hkl)
                have hoc := hR.is
                subst hoc
                have HR : Hid (Rcv w wr p cp sF mF F (some ⟨b, off, none⟩) cc rc qc k b off r ka) := hR
                have HOT : Hid (∀ part k req id, recvS sF mF part k req id = ⟨sF, [], mF⟩) := fun part k req id => recv_end HSF.out.2.1 mF part k req id
                clear hR hkl
                go_wp2_with fail
                refine wp_region_held_drew (S := fun X => At9 X b off k r) (by kernel_rfl) ?_ (fun hHeld => ?_)
                · exact HR.out.at' _ (HT2.out.tq.keepsN ((Keeps.refl no _).drew))
                refine wpAnyH_take (i := 0) (v := ?_) (by simp only [List.getElem?_toArray, List.getElem?_cons_succ, List.getElem?_cons_zero]; rfl) (by kernel_rfl) (by kernel_rfl) (by kernel_rfl) (by exact fun _ _ _ h => h) (Or.inl ⟨by rfl, ?_⟩) (by assumption) ?_
                rotate_left
                · (intro _ hSw; (try dsimp only at hSw); go_simp; (try with_reducible rfl))
                try simp only [Act.put, List.setIfInBounds_toArray, List.set_cons_zero, List.set_cons_succ]
                refine wpAnyH_take (i := 1) (v := ?_) (by simp only [List.getElem?_toArray, List.getElem?_cons_succ, List.getElem?_cons_zero]; rfl) (by kernel_rfl) (by kernel_rfl) (by kernel_rfl) (by exact fun _ _ _ h => h) (Or.inl ⟨by rfl, ?_⟩) (by assumption) ?_
                rotate_left
                · (intro _ hSw; (try dsimp only at hSw); go_simp; (try with_reducible rfl))
                try simp only [Act.put, List.setIfInBounds_toArray, List.set_cons_zero, List.set_cons_succ]
                refine wpAnyH_take (i := 2) (v := ?_) (by simp only [List.getElem?_toArray, List.getElem?_cons_succ, List.getElem?_cons_zero]; rfl) (by kernel_rfl) (by kernel_rfl) (by kernel_rfl) (by exact fun _ _ _ h => h) (Or.inl ⟨by rfl, ?_⟩) (by assumption) ?_
                rotate_left
                · (intro _ hSw; (try dsimp only at hSw); go_simp; (try with_reducible rfl))
                try simp only [Act.put, List.setIfInBounds_toArray, List.set_cons_zero, List.set_cons_succ]
                refine wpAnyH_take (i := 3) (v := ?_) (by simp only [List.getElem?_toArray, List.getElem?_cons_succ, List.getElem?_cons_zero]; rfl) (by kernel_rfl) (by kernel_rfl) (by kernel_rfl) (by exact fun _ _ _ h => h) (Or.inl ⟨by rfl, ?_⟩) (by assumption) ?_
                rotate_left
                · (intro _ hSw; (try dsimp only at hSw); go_simp; (try with_reducible rfl))
                try simp only [Act.put, List.setIfInBounds_toArray, List.set_cons_zero, List.set_cons_succ]
                refine wpAnyH_take (i := 4) (v := ?_) (by simp only [List.getElem?_toArray, List.getElem?_cons_succ, List.getElem?_cons_zero]; rfl) (by kernel_rfl) (by kernel_rfl) (by kernel_rfl) (by exact fun _ _ _ h => h) (Or.inl ⟨by rfl, ?_⟩) (by assumption) ?_
                rotate_left
                · (intro _ hSw; (try dsimp only at hSw); go_simp; (try with_reducible rfl))
                try simp only [Act.put, List.setIfInBounds_toArray, List.set_cons_zero, List.set_cons_succ]
                refine wpAnyH_take (i := 5) (v := ?_) (by simp only [List.getElem?_toArray, List.getElem?_cons_succ, List.getElem?_cons_zero]; rfl) (by kernel_rfl) (by kernel_rfl) (by kernel_rfl) (by exact fun _ _ _ h => h) (Or.inl ⟨by rfl, ?_⟩) (by assumption) ?_
                rotate_left
                · (intro _ hSw; (try dsimp only at hSw); have z0 := hSw.c0; go_simp; (try with_reducible rfl))
                try simp only [Act.put, List.setIfInBounds_toArray, List.set_cons_zero, List.set_cons_succ]
                refine wpAnyH_take (i := 6) (v := ?_) (by simp only [List.getElem?_toArray, List.getElem?_cons_succ, List.getElem?_cons_zero]; rfl) (by kernel_rfl) (by kernel_rfl) (by kernel_rfl) (by exact fun _ _ _ h => h) (Or.inl ⟨by rfl, ?_⟩) (by assumption) ?_
                rotate_left
                · (intro _ hSw; (try dsimp only at hSw); go_simp; (try with_reducible rfl))
                try simp only [Act.put, List.setIfInBounds_toArray, List.set_cons_zero, List.set_cons_succ]
                refine wpAnyH_take (i := 7) (v := ?_) (by simp only [List.getElem?_toArray, List.getElem?_cons_succ, List.getElem?_cons_zero]; rfl) (by kernel_rfl) (by kernel_rfl) (by kernel_rfl) (by exact fun _ _ _ h => h) (Or.inl ⟨by rfl, ?_⟩) (by assumption) ?_
                rotate_left
                · (intro _ hSw; (try dsimp only at hSw); go_simp; (try with_reducible rfl))
                try simp only [Act.put, List.setIfInBounds_toArray, List.set_cons_zero, List.set_cons_succ]
                refine wpAnyH_take (i := 8) (v := ?_) (by simp only [List.getElem?_toArray, List.getElem?_cons_succ, List.getElem?_cons_zero]; rfl) (by kernel_rfl) (by kernel_rfl) (by kernel_rfl) (by exact fun _ _ _ h => h) (Or.inl ⟨by rfl, ?_⟩) (by assumption) ?_
                rotate_left
                · (intro _ hSw; (try dsimp only at hSw); go_simp; (try with_reducible rfl))
                try simp only [Act.put, List.setIfInBounds_toArray, List.set_cons_zero, List.set_cons_succ]
                refine wpAnyH_take (i := 9) (v := ?_) (by simp only [List.getElem?_toArray, List.getElem?_cons_succ, List.getElem?_cons_zero]; rfl) (by kernel_rfl) (by kernel_rfl) (by kernel_rfl) (by exact fun _ _ _ h => h) (Or.inl ⟨by rfl, ?_⟩) (by assumption) ?_
                rotate_left
                · (intro _ hSw; (try dsimp only at hSw); have z0 := hSw.c0; have z1 := hSw.c1; have z2 := hSw.c2; have z3 := hSw.c3; have z4 := hSw.c4; have z5 := hSw.c5; have z6 := hSw.c6; have z7 := hSw.c7; have z8 := hSw.c8; go_simp; (try with_reducible rfl))
                try simp only [Act.put, List.setIfInBounds_toArray, List.set_cons_zero, List.set_cons_succ]
                refine wpAnyH_ready (rs := [10]) (by kernel_rfl) (by simp) ?_
                refine AllReadyH.cons (by simp only [List.getElem?_toArray, List.getElem?_cons_succ, List.getElem?_cons_zero]; rfl) (fun Kq hKq => ?_) AllReadyH.nil
                go_simp
                refine Calls.mono (HR.out.ans _) ?_
                rintro e za ⟨rfl, hka⟩
                have HKA : Hid (Keeps no wr za) := ((Keeps.refl no wr).drew).trans hka
                clear hka
                refine hKq.out _ _ ?_ (fun hHeldN => ?_)
                · exact HR.out.at' _ (HT2.out.tq.keepsN HKA.out)
                clear hKq Kq hHeld
                have hHeld := hHeldN
                clear hHeldN
                refine wpAnyH_ready (rs := [11]) (by kernel_rfl) (by simp) ?_
                refine AllReadyH.cons (by simp only [List.getElem?_toArray, List.getElem?_cons_succ, List.getElem?_cons_zero]; rfl) (fun Kq hKq => ?_) AllReadyH.nil
                go_simp
                refine Calls.mono (HR.out.rcv _ HKA.out) ?_
                rintro e zb ⟨o9, n9, c9, r9, G, rfl, ht⟩
                rw [HOT.out] at ht
                have hT := (HT2.out.keepsN HKA.out).tell ht HSF.out.2.2.1 HSF.out.2.2.2
                have hS := (HT1.out.keepsN HKA.out).tell ht HSF.out.2.2.1 HSF.out.2.2.2
                have HN : Hid (W2l w zb p cp sF mF oq cq rs (askedS s1) (some ⟨b, off, none⟩) cc qc) := ⟨G, rc, hS.1, hT.1⟩
                have hn9 : n9 = 0 := ht.n
                subst hn9
                have HTQ : Hid (Tq zb (some ⟨b, off, none⟩) cc rc qc) := hT.1.tq
                clear ht hT hS HKA
                refine hKq.out _ _ ?_ (fun hHeldN => ?_)
                · exact HR.out.at' _ HTQ.out
                clear hKq Kq hHeld
                have hHeld := hHeldN
                clear hHeldN
                refine wpAnyH_take (i := 12) (v := ?_) (by simp only [List.getElem?_toArray, List.getElem?_cons_succ, List.getElem?_cons_zero]; rfl) (by kernel_rfl) (by kernel_rfl) (by kernel_rfl) (by exact fun _ _ _ h => h) (Or.inl ⟨by rfl, ?_⟩) (by assumption) ?_
                rotate_left
                · (intro _ hSw; (try dsimp only at hSw); go_simp; (try with_reducible rfl))
                try simp only [Act.put, List.setIfInBounds_toArray, List.set_cons_zero, List.set_cons_succ]
                refine wpAnyH_take (i := 13) (v := ?_) (by simp only [List.getElem?_toArray, List.getElem?_cons_succ, List.getElem?_cons_zero]; rfl) (by kernel_rfl) (by kernel_rfl) (by kernel_rfl) (by exact fun _ _ _ h => h) (Or.inl ⟨by rfl, ?_⟩) (by assumption) ?_
                rotate_left
                · (intro _ hSw; (try dsimp only at hSw); go_simp; (try with_reducible rfl))
                try simp only [Act.put, List.setIfInBounds_toArray, List.set_cons_zero, List.set_cons_succ]
                refine wpAnyH_done (by kernel_rfl) ?_ _
                clear hHeld HOT HR HT1 HT2 HTQ
                go_wp2_with fail
                go_roundw
                case rel => exact ⟨k + 1, by omega, by go_num, HN⟩
                case measure => simp [intOf]; omega
              · have hlt6' : ¬ (k : Int) < nc := by omega
                obtain ⟨F, rc, h1, h2⟩ := HW.out.ex
                have HT1 : Hid (Wt w wr p cp sF mF F oq cq rs (askedS s1)) := h1
                clear h1 h2 HW hk
                go_wp2_with fail
                refine Calls.mono (HGE.out _ _ HT1.out) ?_
                rintro e wD ⟨rfl, hig, hkg⟩
                have HT3 : Hid (Wt w wD p cp sF mF F oq cq rs (askedS s1)) := by
                  have h := HT1.out.give (w' := wD) (by rw [give_end HSF.out.2.1]; exact hig) hkg
                  rw [give_end HSF.out.2.1] at h
                  exact h
                clear hig hkg HT1
                go_wp2_with fail
                refine Calls.mono (HRE.out _ _ HT3.out) ?_
                rintro e wE ⟨rfl, hkE⟩
                have HKE : Hid (Keeps no w wE) := HT3.out.wc.kp.trans hkE
                clear hkE HT3
                go_wp2_with fail
                go_ret
                exact ⟨rfl, HKE.out⟩
end Go.Proofs.Ytghnhkhhpeoheaa
