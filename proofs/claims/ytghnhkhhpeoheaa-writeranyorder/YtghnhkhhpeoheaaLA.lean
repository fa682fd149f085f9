/- WriterAnyOrder. -/
import Derived.Test.YtghnhkhhpeoheaaQ3
import Derived.Deep.CutBlock
import Derived.Deep.CutRange
import Derived.Deep.RegionHeldLaw
import Derived.Laws.Tables
namespace Go.Proofs.Ytghnhkhhpeoheaa
open Go.RowKit Go.Sort Orl
set_option linter.unusedVariables false
set_option linter.unusedSimpArgs false

theorem made_bools (n : Nat) : (madeCells (Value.cells (.bool false)) (n * 1)).toList = BE.cells (List.replicate n false) := by
  have h1 : BE.cells (List.replicate n false) = List.replicate n (Value.bool false) := by
    induction n with
    | zero => rfl
    | succ n ih => rw [List.replicate_succ, List.replicate_succ, ← ih]; rfl
  rw [h1]
  apply List.ext_getElem?
  intro i
  unfold madeCells
  rw [Array.getElem?_toList, Array.getElem?_map, Nat.mul_one, Array.getElem?_range, List.getElem?_replicate]
  by_cases hi : i < n
  · rw [if_pos hi, if_pos hi]
    show some ((#[.bool false] : Array Value)[i % 1]!) = _
    rw [Nat.mod_one]; rfl
  · rw [if_neg hi, if_neg hi]; rfl
theorem keeps_setRow {a w : World} {g : Nat} {cs : Array Value} (h : Keeps no a w) (hg : a.heap.size ≤ g) : Keeps no a (w.setRow g cs) := by
  refine ⟨h.os, h.tape, h.output, by rw [setRow_size]; exact h.size, fun k hk hn => ?_⟩
  rw [setRow_other _ _ _ _ (by omega)]
  exact h.block k hk hn
theorem i64_and1 (n : Int) : bits .and .i64 n 1 = n % 2 := by
  have h1 : (BitVec.ofInt 64 1).toNat = 2 ^ 1 - 1 := by decide
  have key : (BitVec.ofInt 64 n &&& BitVec.ofInt 64 1).toNat = (n % ((2 ^ 64 : Nat) : Int)).toNat % 2 ^ 1 := by
    rw [BitVec.toNat_and, BitVec.toNat_ofInt, h1, Nat.and_two_pow_sub_one_eq_mod]
  show IntKind.i64.wrap ((BitVec.ofInt 64 n &&& BitVec.ofInt 64 1).toNat : Nat) = n % 2
  rw [key, IntKind.wrap_i64]
  omega
theorem fieldA (ka cl rq i : Int) (w : World) : (Instr.field 39 (.agg #[.int .i64 ka, .int .i64 cl, .int .u64 rq, .int .u64 i, .slice none 0 0, .slice none 0 0, .slice none 0 0, .slice none 0 0]) 0).run Try.prog w = .ok (.int .i64 ka) w := by kernel_rfl
/-- a message in a block of its own, all else as it was -/
def MsgAt (wy wx : World) (BM : Nat) : Prop := ∃ (K C : Int) (Rq Id : Nat) (u4 u5 u6 u7 : Option Addr) (l4 l5 l6 l7 k4 k5 k6 k7 : Nat), Rq < 18446744073709551616 ∧ Id < 18446744073709551616 ∧ Keeps no wy wx ∧ wx.heap[BM]? = some (.cells #[.int .i64 K, .int .i64 C, .int .u64 (Rq : Nat), .int .u64 (Id : Nat), .slice u4 l4 k4, .slice u5 l5 k5, .slice u6 l6 k6, .slice u7 l7 k7] 39 (0, 0))
theorem set_same {D : List Bool} {k : Nat} (h : D.getD k true = true) : D.set k true = D := by
  apply List.ext_getElem?
  intro i
  rw [List.getElem?_set]
  split
  · rename_i e; subst e
    by_cases hk : k < D.length
    · rw [if_pos hk]
      rw [List.getD_eq_getElem?_getD, List.getElem?_eq_getElem hk] at h
      rw [List.getElem?_eq_getElem hk]
      simp at h
      rw [h]
    · rw [if_neg hk, List.getElem?_eq_none (by omega)]
  · rfl
set_option maxRecDepth 10000 in
set_option maxHeartbeats 8000000 in
theorem writerAnyOrder_any (w : World) (o : Option Addr) (n c : Nat) (l : List Pr) (id : Nat) (parts : Int) (op : Option Addr) (np cpk : Nat) (pk : List Int) (oo : Option Addr) (nn co : Nat) (ops : List ROp) (hn : n = l.length) (hl : l.length ≤ 4398046511000) (hz : ∀ p ∈ l, p.1.size ≤ maxLen ∧ p.2.size ≤ maxLen) (hs : Sl PE w o c l) (hid : id < 18446744073709551616)
    (hnp : np = pk.length) (hpl : pk.length ≤ 17592186044416) (hsp : Sl ZI w op cpk pk) (hno : nn = ops.length) (hol : ops.length ≤ 17592186044416) (hso : Sl OE w oo co ops) (hfo : ∀ r ∈ ops, FitO r) :
    Calls Try.prog 5 #[.slice o n c, .int .u64 (id : Nat), .int .i64 parts, .slice op np cpk, .slice oo nn co] w fun e w' => e = .returned (.bool true) ∧ Keeps no w w' := by
  have HAL : Hid (Calls Try.prog 7 #[] w fun e w' => e = .returned (.bool true) ∧ Keeps no w w') := alive_any w
  have HME : Hid (∀ X, Keeps no w X → Calls Try.prog 8 #[.slice o n c] X fun e w' => ∃ v, e = .returned v ∧ Gives PE X (mendP l) v w') := fun X hX => mended_any X o n c l hn hl hz (hs.keepsN hX)
  have HGP : Hid (GoodP (mendP l) ∧ 1 ≤ (mendP l).length) := mendP_good l
  have HID : Hid (id < 18446744073709551616) := hid
  have HPK : Hid (np = pk.length ∧ Sl ZI w op cpk pk) := ⟨hnp, hsp⟩
  have HOP : Hid (nn = ops.length ∧ Sl OE w oo co ops ∧ ∀ r ∈ ops, FitO r) := ⟨hno, hso, hfo⟩
  have hnp8 : (np : Int) ≤ 17592186044416 := by omega
  have hnn8 : (nn : Int) ≤ 17592186044416 := by omega
  clear hn hl hz hs hid hnp hpl hsp hno hol hso hfo
  generalize mendP l = lm at HME HGP
  go_enter Try.func5, Try.ntmps5
  go_wp2_with fail
  refine Calls.mono HAL.out ?_
  rintro e w1 ⟨rfl, hk1⟩
  have HK1 : Hid (Keeps no w w1) := hk1
  clear hk1 HAL
  go_wp2_with fail
  refine Calls.mono (HME.out _ HK1.out) ?_
  rintro e w2 ⟨_, rfl, oml, nm, cml, rfl, hnm, hom, hnew, hk2⟩
  have HM : Hid (nm = lm.length ∧ Own PE w2 oml cml lm ∧ Keeps no w w2) := ⟨hnm.out, hom, HK1.out.trans hk2⟩
  clear hnm hom hnew hk2 HME HK1
  obtain ⟨cp, hcp⟩ : ∃ cp, cp = w2.heap.size := ⟨_, rfl⟩
  obtain ⟨wb, hwb⟩ : ∃ wb, wb = (w2.alloc (.cells #[.int .u64 ((1 : Nat) : Int)] 28)).alloc (.cells #[.int .u64 ((1 : Nat) : Int)] 28) := ⟨_, rfl⟩
  have hkb : Keeps no w2 wb := by rw [hwb]; exact ((Keeps.refl _ _).alloc _).alloc _
  have h2b := two_blk w2 (.cells #[.int .u64 ((1 : Nat) : Int)] 28) (.cells #[.int .u64 ((1 : Nat) : Int)] 28)
  rw [← hwb, ← hcp] at h2b
  have HB : Hid (Calls Try.prog 9 #[.slice oml nm cml, .int .u64 (id : Nat), .int .i64 parts, .pointer (some ⟨cp, 0, none⟩)] wb (Bgn2To w2 wb cp id parts lm 1)) := begun2_any w2 wb oml nm cml lm id parts cp 1 HM.out.1 HGP.out.1 HGP.out.2 (HM.out.2.1.sl.keepsN hkb) HID.out h2b.1 (by decide) (by omega) hkb
  have HWB : Hid (Keeps no w2 wb ∧ wb.heap[cp + 1]? = some (.cells #[.int .u64 ((1 : Nat) : Int)] 28 (0, 0)) ∧ cp = w2.heap.size ∧ cp + 1 < wb.heap.size) := ⟨hkb, h2b.2, hcp, lt_of_block h2b.2⟩
  clear hkb h2b
  go_wp2_with fail
  rw [← hcp]
  have hwb' : (w2.alloc (.cells #[.int .u64 1] 28)).alloc (.cells #[.int .u64 1] 28) = wb := hwb.symm
  rw [hwb']
  clear hwb hwb' hcp
  refine Calls.mono HB.out ?_
  rintro e w3 ⟨p, oq, nq, cq, rs, F, rfl, hb, hkc, hFn, hTn⟩
  have HB2 : Hid (Calls Try.prog 9 #[.slice oml nm cml, .int .u64 (id : Nat), .int .i64 parts, .pointer (some ⟨cp + 1, 0, none⟩)] w3 (Bgn2To w2 w3 (cp + 1) id parts lm 1)) := begun2_any w2 w3 oml nm cml lm id parts (cp + 1) 1 HM.out.1 HGP.out.1 HGP.out.2 (HM.out.2.1.sl.keepsN hb.wc.kp) HID.out (hkc.at HWB.out.2.1 (show ¬ (cp + 1 = cp) by omega)) (by decide) (by have := HWB.out.2.2.1; omega) hb.wc.kp
  go_wp2_with fail
  refine Calls.mono HB2.out ?_
  rintro e w4 ⟨p2, oq2, nq2, cq2, rs2, F2, rfl, hb2, hkc2, hFn2, hTn2⟩
  obtain ⟨s1, hs1⟩ : ∃ s1, s1 = askS (startS (idN id) lm (prN parts)) 1 := ⟨_, rfl⟩
  obtain ⟨m1, hm1⟩ : ∃ m1, m1 = numS (startS (idN id) lm (prN parts)) 1 := ⟨_, rfl⟩
  rw [← hs1] at hTn hTn2
  rw [← hs1, ← hm1] at hb hb2
  have hnq2 : nq = nq2 := by rw [hb2.n, hb.n]
  subst hnq2
  have HRN : Hid (Rn s1 nq ∧ s1.round = 1 ∧ m1 < 18446744073709551616) := by
    refine ⟨⟨hb.wc.wf, hb.n, .inl (by rw [hs1]; rfl), by rw [hs1]; rfl, ?_⟩, by rw [hs1]; rfl, by rw [hm1]; exact num_lt _ _⟩
    rw [hb.n, hs1]; rfl
  have HAB : Hid (Ab w2 w4 p cp s1 m1 p2 (cp + 1) s1 m1 oq cq rs (askedS s1) oq cq (askedS s1) oq2 cq2 (askedS s1) none 0 []) := by
    have hcpw := HWB.out.2.2.2
    have hlt3 : ∀ i, (F i ∨ i = cp) → i < w3.heap.size := hb.wc.ltF
    have hF2n : ∀ i, F2 i → w3.heap.size ≤ i := hFn2
    have hwb3 : wb.heap.size ≤ w3.heap.size := hkc.size
    have hS : ∀ i, (fun i => i = cp + 1) i → w2.heap.size ≤ i := fun i e => by have : i = cp + 1 := e; have := HWB.out.2.2.1; omega
    have hFc : ∀ i, (F i ∨ i = cp) → ¬ (fun i => i = cp + 1) i := by
      rintro i (hi | hi) e
      · have := hFn i hi; have : i = cp + 1 := e; omega
      · have : i = cp + 1 := e; omega
    have hTc : ∀ i, TB oq rs (askedS s1).length i → ¬ (fun i => i = cp + 1) i := fun i hi e => by have := hTn i hi; have : i = cp + 1 := e; omega
    have hq4 := hb.tq.keeps hkc2 hTc
    refine ⟨F, F2, fun i => TB oq rs (askedS s1).length i ∨ TB oq2 rs2 (askedS s1).length i, rs, rs2, ⟨hb.wc.keeps hkc2 hFc hS, hb2.wc, ?_, ?_, ?_, ?_, ?_⟩, ⟨hq4, fun i hi => .inl hi⟩, ⟨hq4, fun i hi => .inl hi⟩, ⟨hb2.tq, fun i hi => .inr hi⟩, own_nil _, fun i hi => by obtain ⟨x, e, _⟩ := hi; cases e⟩
    · rintro i h1 (h2 | h2)
      · have := hlt3 i h1; have := hF2n i h2; omega
      · exact hFc i h1 h2
    · rintro i (hi | hi)
      · exact hq4.lt i hi
      · exact hb2.tq.lt i hi
    · rintro i (hi | hi) h2
      · exact hb.apart i hi h2
      · have := hTn2 i hi; have := hlt3 i h2; omega
    · rintro i (hi | hi) (h2 | h2)
      · have := hb.tq.lt i hi; have := hF2n i h2; omega
      · exact hTc i hi h2
      · exact hb2.apart i hi (.inl h2)
      · exact hb2.apart i hi (.inr h2)
    · rintro i (hi | hi)
      · exact hb.new i hi
      · exact hb2.new i hi
  have HKW : Hid (Keeps no w w2) := HM.out.2.2
  clear hb hb2 hkc hkc2 hFn hFn2 hTn hTn2 HB HB2 HWB HM HGP hs1 hm1
  have hq64 : (nq : Int) ≤ 64 := by have := HRN.out.1.len; have := HRN.out.1.wf.most; omega
  have hq1 : ¬ (nq : Int) = 0 := by have := HRN.out.1.len; have := HRN.out.1.wf.pos; omega
  have hq1b : ((nq : Int) == 0) = false := by simpa using hq1
  have HSM : Hid (Calls Try.prog 18 #[.slice oq nq cq, .slice oq2 nq cq2] w4 fun e w' => e = .returned (.bool true) ∧ Keeps no w4 w') := by
    have hf := HRN.out.1.wf.fit
    have := HAB.out.same hf hf (nt := nq) (nm := nq) (by rw [asked_len]; exact HRN.out.1.len) (by rw [asked_len]; exact HRN.out.1.len)
    rw [decide_eq_true rfl] at this
    exact this
  go_wp2_with fail
  refine Calls.mono HSM.out ?_
  rintro e w5 ⟨rfl, hk5⟩
  have HA5 : Hid (∃ rs, nq = (stR s1 m1 0).told.length ∧ Ab w2 w5 p cp (stR s1 m1 0).s (stR s1 m1 0).m p2 (cp + 1) (stR s1 m1 0).s (stR s1 m1 0).m oq cq rs (stR s1 m1 0).told none 0 [] none 0 [] none 0 []) := by
    obtain ⟨rt, h⟩ := (HAB.out.keepsN hk5).turn
    exact ⟨rt, by show nq = (askedS s1).length; rw [asked_len]; exact HRN.out.1.len, h⟩
  clear hk5 HSM HAB
  go_wp2_with fail
  go_loopw [15, 18, 19] (fun s15 s18 s19 wr => ∃ (rd at' : Nat) (oq : Option Addr) (nq cq : Nat), rd ≤ 2 ∧ at' ≤ np ∧ s19 = .int .i64 rd ∧ s18 = .int .i64 at' ∧ s15 = .slice oq nq cq ∧ Hid (∃ rs, nq = (stR s1 m1 rd).told.length ∧ Ab w2 wr p cp (stR s1 m1 rd).s (stR s1 m1 rd).m p2 (cp + 1) (stR s1 m1 rd).s (stR s1 m1 rd).m oq cq rs (stR s1 m1 rd).told none 0 [] none 0 [] none 0 [])) (fun _ _ s19 _ => 2 - (intOf s19).toNat)
  case atStart => exact ⟨0, 0, oq, nq, cq, by omega, by omega, rfl, rfl, rfl, HA5⟩
  case round =>
    clear HA5
    rename World => wr
    obtain ⟨L, hL⟩ : ∃ L, L = nq := ⟨_, rfl⟩
    rw [← hL] at HRN hq64 hq1 hq1b
    clear hL
    obtain ⟨rd, at0, oq, nq, cq, hrd, hat0, rfl, rfl, rfl, HW0⟩ := hrel
    by_cases hlt : rd < 2
    · have hlt' : (rd : Int) < 2 := by omega
      obtain ⟨hR0, hT0⟩ := HRN.out.1.rounds HRN.out.2.1 m1 hlt
      obtain ⟨s, hs⟩ : ∃ s, s = (stR s1 m1 rd).s := ⟨_, rfl⟩
      obtain ⟨m, hm⟩ : ∃ m, m = (stR s1 m1 rd).m := ⟨_, rfl⟩
      have HOUT : Hid (stR s1 m1 (rd + 1) = outR s m) := by rw [hs, hm]; rfl
      have hmlt : m < 18446744073709551616 := by rw [hm]; exact Rn.rm HRN.out.2.2 rd
      obtain ⟨rs, hnq, hW0⟩ := HW0.out
      rw [← hs] at hR0 hT0
      rw [hT0] at hnq hW0
      rw [← hs, ← hm] at hW0
      have hnqL : L = nq := by rw [hnq, asked_len]; exact hR0.len
      subst hnqL
      have HR : Hid (Rn s L ∧ m < 18446744073709551616) := ⟨hR0, hmlt⟩
      have HWA : Hid (Ab w2 wr p cp (stA s m 0).s (stA s m 0).m p2 (cp + 1) s m oq cq rs (askedS s) none 0 [] none 0 [] none 0 []) := by rw [HR.out.1.zero m]; exact hW0
      clear hs hm hR0 hT0 hnq hW0 HW0 hmlt
      as_aux_lemma =>
      go_wp2_with fail
      go_loopw [20, 22] (fun s20 s22 wa => ∃ (i : Nat) (ot : Option Addr) (nt ct : Nat), i ≤ L ∧ s22 = .int .i64 i ∧ s20 = .slice ot nt ct ∧ Hid (nt = (stA s m i).told.length) ∧ Hid (Ab w2 wa p cp (stA s m i).s (stA s m i).m p2 (cp + 1) s m oq cq rs (askedS s) ot ct (stA s m i).told none 0 [] none 0 [])) (fun _ s22 _ => L - (intOf s22).toNat)
      case atStart => exact ⟨0, none, 0, 0, by omega, rfl, rfl, by rw [HR.out.1.zero m]; rfl, by have h := HWA.out; rw [HR.out.1.zero m] at h ⊢; exact h⟩
      case round =>
        clear HWA
        rename World => wa
        obtain ⟨i, ot, nt, ct, hi, rfl, rfl, HNT, HWI⟩ := hrel
        by_cases hlti : i < L
        · have hlti' : (i : Int) < L := by omega
          have hil : i < (askedS s).length := by rw [asked_len, ← HR.out.1.len]; exact hlti
          obtain ⟨b, off, r, hQ⟩ := qr_of HWI.out.tq hil HR.out.1.wf.fit (asked_kind s (by rw [← HR.out.1.len]; exact hlti))
          have hoq := hQ.is
          subst hoq
          have HQ : Hid (Qr (askedS s) (some ⟨b, off, none⟩) cq rs i b off r) := hQ
          have HCA : Hid (∀ X, Keeps no wa X → Calls Try.prog 10 #[.pointer (some ⟨p, 0, none⟩), .int .i64 r.part, .agg #[.int .i64 (ansK ((askedS s).getD i q0)), .int .i64 r.client, .int .u64 (r.req : Nat), .int .u64 (r.id : Nat), .slice none 0 0, .slice none 0 0, .slice none 0 0, .slice none 0 0]] X fun e w' => ∃ o n c, e = .returned (.slice o n c) ∧ Hid (n = (stA s m (i + 1)).told.length ∧ Ab w2 w' p cp (stA s m (i + 1)).s (stA s m (i + 1)).m p2 (cp + 1) s m (some ⟨b, off, none⟩) cq rs (askedS s) o c (stA s m (i + 1)).told none 0 [] none 0 [])) := by
            intro X hX
            have h := HWI.out.callA hX r.part (ansK ((askedS s).getD i q0)) r.client r.req r.id none none none none 0 0 0 0 0 0 0 0 (by rw [hQ.req]; exact hQ.fit.req) (by rw [hQ.id]; exact hQ.fit.id)
            rw [hQ.part, hQ.req, hQ.id, HR.out.1.next m hlti] at h
            rw [hQ.part, hQ.req, hQ.id]
            exact h
          clear hQ hil
          as_aux_lemma =>
          go_wp2_with fail
          refine wp_region_held_drew (S := fun X => At9 X b off i r) (by kernel_rfl) ?_ (fun hHeld => ?_)
          · exact HQ.out.at' _ (HWI.out.keepsN ((Keeps.refl no _).drew)).tq
          refine wpAnyH_take (i := 0) (v := ?_) (by simp only [List.getElem?_toArray, List.getElem?_cons_succ, List.getElem?_cons_zero]; rfl) (by kernel_rfl) (by kernel_rfl) (by kernel_rfl) (by exact fun _ _ _ h => h) (Or.inl ⟨by rfl, ?_⟩) (by assumption) ?_
          rotate_left
          · (intro _ hSw; (try dsimp only at hSw); go_simp; (try with_reducible rfl))
          try simp only [Act.put, List.setIfInBounds_toArray, List.set_cons_zero, List.set_cons_succ]
          refine wpAnyH_take (i := 1) (v := ?_) (by simp only [List.getElem?_toArray, List.getElem?_cons_succ, List.getElem?_cons_zero]; rfl) (by kernel_rfl) (by kernel_rfl) (by kernel_rfl) (by exact fun _ _ _ h => h) (Or.inl ⟨by rfl, ?_⟩) (by assumption) ?_
          rotate_left
          · (intro _ hSw; (try dsimp only at hSw); go_simp; (try with_reducible rfl))
          try simp only [Act.put, List.setIfInBounds_toArray, List.set_cons_zero, List.set_cons_succ]
          refine wpAnyH_take (i := 2) (v := ?_) (by simp only [List.getElem?_toArray, List.getElem?_cons_succ, List.getElem?_cons_zero]; rfl) (by kernel_rfl) (by kernel_rfl) (by kernel_rfl) (by exact fun _ _ _ h => h) (Or.inl ⟨by rfl, ?_⟩) (by assumption) ?_
          rotate_left
          · (intro _ hSw; (try dsimp only at hSw); go_simp; (try with_reducible rfl))
          try simp only [Act.put, List.setIfInBounds_toArray, List.set_cons_zero, List.set_cons_succ]
          refine wpAnyH_take (i := 3) (v := ?_) (by simp only [List.getElem?_toArray, List.getElem?_cons_succ, List.getElem?_cons_zero]; rfl) (by kernel_rfl) (by kernel_rfl) (by kernel_rfl) (by exact fun _ _ _ h => h) (Or.inl ⟨by rfl, ?_⟩) (by assumption) ?_
          rotate_left
          · (intro _ hSw; (try dsimp only at hSw); go_simp; (try with_reducible rfl))
          try simp only [Act.put, List.setIfInBounds_toArray, List.set_cons_zero, List.set_cons_succ]
          refine wpAnyH_take (i := 4) (v := ?_) (by simp only [List.getElem?_toArray, List.getElem?_cons_succ, List.getElem?_cons_zero]; rfl) (by kernel_rfl) (by kernel_rfl) (by kernel_rfl) (by exact fun _ _ _ h => h) (Or.inl ⟨by rfl, ?_⟩) (by assumption) ?_
          rotate_left
          · (intro _ hSw; (try dsimp only at hSw); go_simp; (try with_reducible rfl))
          try simp only [Act.put, List.setIfInBounds_toArray, List.set_cons_zero, List.set_cons_succ]
          refine wpAnyH_take (i := 5) (v := ?_) (by simp only [List.getElem?_toArray, List.getElem?_cons_succ, List.getElem?_cons_zero]; rfl) (by kernel_rfl) (by kernel_rfl) (by kernel_rfl) (by exact fun _ _ _ h => h) (Or.inl ⟨by rfl, ?_⟩) (by assumption) ?_
          rotate_left
          · (intro _ hSw; (try dsimp only at hSw); have z0 := hSw.c0; go_simp; (try with_reducible rfl))
          try simp only [Act.put, List.setIfInBounds_toArray, List.set_cons_zero, List.set_cons_succ]
          refine wpAnyH_take (i := 6) (v := ?_) (by simp only [List.getElem?_toArray, List.getElem?_cons_succ, List.getElem?_cons_zero]; rfl) (by kernel_rfl) (by kernel_rfl) (by kernel_rfl) (by exact fun _ _ _ h => h) (Or.inl ⟨by rfl, ?_⟩) (by assumption) ?_
          rotate_left
          · (intro _ hSw; (try dsimp only at hSw); go_simp; (try with_reducible rfl))
          try simp only [Act.put, List.setIfInBounds_toArray, List.set_cons_zero, List.set_cons_succ]
          refine wpAnyH_take (i := 7) (v := ?_) (by simp only [List.getElem?_toArray, List.getElem?_cons_succ, List.getElem?_cons_zero]; rfl) (by kernel_rfl) (by kernel_rfl) (by kernel_rfl) (by exact fun _ _ _ h => h) (Or.inl ⟨by rfl, ?_⟩) (by assumption) ?_
          rotate_left
          · (intro _ hSw; (try dsimp only at hSw); go_simp; (try with_reducible rfl))
          try simp only [Act.put, List.setIfInBounds_toArray, List.set_cons_zero, List.set_cons_succ]
          refine wpAnyH_take (i := 8) (v := ?_) (by simp only [List.getElem?_toArray, List.getElem?_cons_succ, List.getElem?_cons_zero]; rfl) (by kernel_rfl) (by kernel_rfl) (by kernel_rfl) (by exact fun _ _ _ h => h) (Or.inl ⟨by rfl, ?_⟩) (by assumption) ?_
          rotate_left
          · (intro _ hSw; (try dsimp only at hSw); go_simp; (try with_reducible rfl))
          try simp only [Act.put, List.setIfInBounds_toArray, List.set_cons_zero, List.set_cons_succ]
          refine wpAnyH_take (i := 9) (v := ?_) (by simp only [List.getElem?_toArray, List.getElem?_cons_succ, List.getElem?_cons_zero]; rfl) (by kernel_rfl) (by kernel_rfl) (by kernel_rfl) (by exact fun _ _ _ h => h) (Or.inl ⟨by rfl, ?_⟩) (by assumption) ?_
          rotate_left
          · (intro _ hSw; (try dsimp only at hSw); have z0 := hSw.c0; have z1 := hSw.c1; have z2 := hSw.c2; have z3 := hSw.c3; have z4 := hSw.c4; have z5 := hSw.c5; have z6 := hSw.c6; have z7 := hSw.c7; have z8 := hSw.c8; go_simp; (try with_reducible rfl))
          try simp only [Act.put, List.setIfInBounds_toArray, List.set_cons_zero, List.set_cons_succ]
          refine wpAnyH_ready (rs := [10]) (by kernel_rfl) (by simp) ?_
          refine AllReadyH.cons (by simp only [List.getElem?_toArray, List.getElem?_cons_succ, List.getElem?_cons_zero]; rfl) (fun Kq hKq => ?_) AllReadyH.nil
          go_simp
          refine Calls.mono (HQ.out.ans _) ?_
          rintro e za ⟨rfl, hka⟩
          have HKA : Hid (Keeps no wa za) := ((Keeps.refl no wa).drew).trans hka
          clear hka
          refine hKq.out _ _ ?_ (fun hHeldN => ?_)
          · exact HQ.out.at' _ (HWI.out.keepsN HKA.out).tq
          clear hKq Kq hHeld
          have hHeld := hHeldN
          clear hHeldN
          refine wpAnyH_ready (rs := [11]) (by kernel_rfl) (by simp) ?_
          refine AllReadyH.cons (by simp only [List.getElem?_toArray, List.getElem?_cons_succ, List.getElem?_cons_zero]; rfl) (fun Kq hKq => ?_) AllReadyH.nil
          go_simp
          refine Calls.mono (HCA.out _ HKA.out) ?_
          rintro e zb ⟨o9, n9, c9, rfl, hh⟩
          have HN9 : Hid (n9 = (stA s m (i + 1)).told.length) := hh.out.1
          have HN : Hid (Ab w2 zb p cp (stA s m (i + 1)).s (stA s m (i + 1)).m p2 (cp + 1) s m (some ⟨b, off, none⟩) cq rs (askedS s) o9 c9 (stA s m (i + 1)).told none 0 [] none 0 []) := hh.out.2
          clear hh HKA
          refine hKq.out _ _ ?_ (fun hHeldN => ?_)
          · exact HQ.out.at' _ HN.out.tq
          clear hKq Kq hHeld
          have hHeld := hHeldN
          clear hHeldN
          refine wpAnyH_take (i := 12) (v := ?_) (by simp only [List.getElem?_toArray, List.getElem?_cons_succ, List.getElem?_cons_zero]; rfl) (by kernel_rfl) (by kernel_rfl) (by kernel_rfl) (by exact fun _ _ _ h => h) (Or.inl ⟨by rfl, ?_⟩) (by assumption) ?_
          rotate_left
          · (intro _ hSw; (try dsimp only at hSw); go_simp; (try with_reducible rfl))
          try simp only [Act.put, List.setIfInBounds_toArray, List.set_cons_zero, List.set_cons_succ]
          refine wpAnyH_done (by kernel_rfl) ?_ _
          clear hHeld HQ HCA HWI
          go_wp2_with fail
          go_roundw
          case rel => exact ⟨i + 1, o9, n9, c9, by omega, by go_num, rfl, HN9, HN⟩
          case measure => simp [intOf]; omega
        · have hlti' : ¬ (i : Int) < L := by omega
          have hiL : L = i := by omega
          subst hiL
          have hout : stA s m L = outR s m := by unfold stA; rw [if_neg (by rw [← HR.out.1.len]; omega)]
          rw [hout] at HNT HWI
          clear hout hi
          obtain ⟨i0, hi0, hz0, hz1, hz2⟩ := info_parts infoB
          have hL64 : L ≤ 64 := by omega
          go_upto_region 20 with (at_make; go_must (refine wpList_make_full _ rfl _ _ 58 rfl 0 4 i0 _ 1 Try.underlying58 hi0 hz0 hz1 .i64 .i64 _ _ L rfl rfl rfl rfl (by rw [hz2]; omega) (by unfold maxLen; omega) (Nat.zero_le _) ?_; intro wb hob hgb))
          have HWM : Hid (Ab w2 wb p cp (outR s m).s (outR s m).m p2 (cp + 1) s m oq cq rs (askedS s) ot ct (outR s m).told none 0 [] (some ⟨wa.heap.size, 0, none⟩) L (List.replicate L false)) := by
            have hk : Keeps no wa wb := (Keeps.refl no wa).grown hgb (fun k hk => by cases hk)
            refine HWI.out.marks hk ?_ (new_fresh wa _ (Nat.le_refl _) _)
            rw [made_bools] at hob
            show wb.ownsRow 0 4 1 (.slice (some ⟨wa.heap.size, 0, none⟩) (List.replicate L false).length L) (List.replicate L false).length (BE.cells (List.replicate L false))
            rw [List.length_replicate]
            exact hob
          clear hob hgb hi0 hz0 hz1 hz2 HWI hlti' hlti
          generalize wa.heap.size = G at HWM ⊢
          go_wp2_with fail
          go_loopw [18, 21, 24, 25] (fun s18 s21 s24 s25 wr => ∃ (at' lf i : Nat) (om : Option Addr) (nm cm : Nat), at' ≤ np ∧ lf ≤ L ∧ i + lf ≤ at' + L ∧ s18 = .int .i64 at' ∧ s21 = .slice om nm cm ∧ s24 = .int .i64 lf ∧ s25 = .int .i64 i ∧ Hid (∃ D, D.length = L ∧ lf = left D ∧ nm = (stB s m D).told.length ∧ Ab w2 wr p cp (outR s m).s (outR s m).m p2 (cp + 1) (stB s m D).s (stB s m D).m oq cq rs (askedS s) ot ct (outR s m).told om cm (stB s m D).told (some ⟨G, 0, none⟩) L D)) (fun s18 _ s24 _ _ => (np - (intOf s18).toNat) + (intOf s24).toNat)
          case atStart =>
            refine ⟨at0, L, 0, none, 0, 0, by omega, by omega, by omega, rfl, rfl, rfl, rfl, List.replicate L false, by simp, (left_rep L).symm, ?_, ?_⟩
            · rw [HR.out.1.all0 m]; rfl
            · rw [HR.out.1.all0 m]; exact HWM.out
          case round =>
            clear HWM
            rename World => wq
            obtain ⟨at1, lf, i, om, nm, cm, hat, hlf, hib, rfl, rfl, rfl, rfl, HD0⟩ := hrel
            obtain ⟨D, hDl, hDf, hnm, hAB⟩ := HD0.out
            have hi17 : (i : Int) ≤ 17592186044480 := by omega
            have HDL : Hid (D.length = L ∧ lf = left D) := ⟨hDl, hDf⟩
            by_cases hl0 : 0 < lf
            · have hl0' : (0 : Int) < (lf : Int) := by omega
              have HDA : Hid (D.all _root_.id = false) := left_pos (by rw [← hDf]; exact hl0)
              have HB1 : Hid (Ab w2 wq p cp (outR s m).s (outR s m).m p2 (cp + 1) (stB s m D).s (stB s m D).m oq cq rs (askedS s) ot ct (outR s m).told om cm (stB s m D).told (some ⟨G, 0, none⟩) L D) := hAB
              have HKQ : Hid (Keeps no w wq) := HKW.out.trans hAB.kp
              clear HD0 hDl hDf hAB hnm
              obtain ⟨c1, hc1⟩ : ∃ c1, c1 = decide (at1 < np) := ⟨_, rfl⟩
              have hcN : decide (at1 < np) = c1 := hc1.symm
              have hcI : decide ((at1 : Int) < (np : Int)) = c1 := by rw [hc1]; simp
              have HC0 : Hid (c1 = decide (at1 < np)) := hc1
              clear hc1
              go_upto_if 106 with fail
              go_cut [18, 26] from 107 to 122 (fun t18 t26 wx => ∃ (k at2 : Nat), k < L ∧ at2 ≤ np ∧ t18 = .int .i64 at2 ∧ t26 = .int .i64 k ∧ Hid ((at2 = at1 + 1 ∨ (at2 = at1 ∧ D.getD k true = false)) ∧ Ab w2 wx p cp (outR s m).s (outR s m).m p2 (cp + 1) (stB s m D).s (stB s m D).m oq cq rs (askedS s) ot ct (outR s m).told om cm (stB s m D).told (some ⟨G, 0, none⟩) L D))
              case first =>
                as_aux_lemma =>
                cases c1 with
                | true =>
                  have hap : at1 < np := by simpa using HC0.out.symm
                  have hap' : (at1 : Int) < np := by omega
                  obtain ⟨pb, poff, hpb, d1⟩ := (HPK.out.2.keepsN HKQ.out).atI (j := at1) (by rw [← HPK.out.1]; exact hap)
                  subst hpb
                  generalize pk.getD at1 0 = z at d1
                  have hand : bits .and .i64 z 65535 = z % 65536 := i64_and16 z
                  obtain ⟨k, hk⟩ : ∃ k : Nat, k = (z % 65536 % (L : Int)).toNat := ⟨_, rfl⟩
                  have hk2 := Int.emod_nonneg (z % 65536) hq1
                  have hk3 := Int.emod_lt_of_pos (z % 65536) (show (0 : Int) < L by omega)
                  have hrem : Int.tmod (z % 65536) (L : Int) = (k : Int) := by
                    rw [Int.tmod_eq_emod_of_nonneg (by omega), hk, Int.toNat_of_nonneg hk2]
                  have hkL : k < L := by omega
                  clear hk hk2 hk3
                  go_wp2_with fail
                  go_meet
                  case rel => exact ⟨k, at1 + 1, hkL, by omega, by go_num, rfl, .inl rfl, HB1.out⟩
                | false =>
                  have hap : ¬ at1 < np := by simpa using HC0.out.symm
                  have hap' : ¬ (at1 : Int) < np := by omega
                  go_wp2_with fail
                  go_loopw [26] (fun s26 wy => ∃ k : Nat, k < L ∧ s26 = .int .i64 k ∧ Hid ((∀ j, j < k → D.getD j true = true) ∧ Ab w2 wy p cp (outR s m).s (outR s m).m p2 (cp + 1) (stB s m D).s (stB s m D).m oq cq rs (askedS s) ot ct (outR s m).told om cm (stB s m D).told (some ⟨G, 0, none⟩) L D)) (fun s26 _ => L - (intOf s26).toNat)
                  case atStart => exact ⟨0, by omega, rfl, fun j hj => by omega, HB1.out⟩
                  case round =>
                    rename World => wy
                    obtain ⟨k, hk, rfl, HY⟩ := hrel
                    obtain ⟨bd, hbd, hfz, d1, _⟩ := HY.out.2.mark (j := k) (by rw [HDL.out.1]; exact hk)
                    cases hbd
                    have hk' : (k : Int) < L := by omega
                    cases hdk : D.getD k true with
                    | true =>
                      rw [hdk] at d1
                      have hk1 : k + 1 < L := by
                        obtain ⟨x, hx1, hx2⟩ := left_find (D := D) (by have := HDL.out.2; omega)
                        rcases Nat.lt_or_ge k x with h | h
                        · have := HDL.out.1; omega
                        · exfalso
                          by_cases e : x = k
                          · rw [e, hdk] at hx2; cases hx2
                          · have := HY.out.1 x (by omega); rw [hx2] at this; cases this
                      have HDK : Hid (D.getD k true = true) := hdk
                      clear hdk hfz
                      go_wp2_with fail
                      go_roundw
                      case rel =>
                        refine ⟨k + 1, hk1, by go_num, fun j hj => ?_, HY.out.2⟩
                        by_cases e : j = k
                        · rw [e]; exact HDK.out
                        · exact HY.out.1 j (by omega)
                      case measure => simp [intOf]; omega
                    | false =>
                      rw [hdk] at d1
                      have HDK : Hid (D.getD k true = false) := hdk
                      clear hdk hfz
                      go_wp2_with fail
                      go_meet
                      case rel => exact ⟨k, at1, hk, by omega, rfl, rfl, .inr ⟨rfl, HDK.out⟩, HY.out.2⟩
              case rest =>
              clear hcN hcI HC0
              obtain ⟨k, at2, hkL, hat2, rfl, rfl, HC1⟩ := hcut
              rename World => wx
              clear HB1 HKQ
              have HB1 : Hid (Ab w2 wx p cp (outR s m).s (outR s m).m p2 (cp + 1) (stB s m D).s (stB s m D).m oq cq rs (askedS s) ot ct (outR s m).told om cm (stB s m D).told (some ⟨G, 0, none⟩) L D) := HC1.out.2
              have HAT : Hid (at2 = at1 + 1 ∨ (at2 = at1 ∧ D.getD k true = false)) := HC1.out.1
              have HATN : Hid (at2 ≤ np) := hat2
              clear HC1
              have hkL' : (k : Int) < L := by omega
              have hkql : k < (askedS s).length := by rw [asked_len, ← HR.out.1.len]; exact hkL
              obtain ⟨b, off, r, hQ⟩ := qr_of HB1.out.tq hkql HR.out.1.wf.fit (asked_kind s (by rw [← HR.out.1.len]; exact hkL))
              have hoq := hQ.is
              subst hoq
              have HQ : Hid (Qr (askedS s) (some ⟨b, off, none⟩) cq rs k b off r) := hQ
              clear hQ hkql
              obtain ⟨c3, hc3⟩ : ∃ c3, c3 = decide (i < nn) := ⟨_, rfl⟩
              obtain ⟨c4, hc4⟩ : ∃ c4, c4 = decide (i < 40) := ⟨_, rfl⟩
              have e3N : decide (i < nn) = c3 := hc3.symm
              have e3I : decide ((i : Int) < (nn : Int)) = c3 := by rw [hc3]; simp
              have e4N : decide (i < 40) = c4 := hc4.symm
              have e4I : decide ((i : Int) < 40) = c4 := by rw [hc4]; simp; omega
              obtain ⟨c5, hc5⟩ : ∃ c5, c5 = (c3 && c4) := ⟨_, rfl⟩
              have HC5 : Hid (c5 = (c3 && c4)) := hc5
              have HC6 : Hid (c5 = true → i < nn ∧ i < 40) := by
                intro h; rw [hc5, hc3, hc4] at h; simpa using h
              clear hc3 hc4 hc5
              go_upto_region 30 with fail
              go_cut [130] from 123 to 129 (fun t130 wy => t130 = .bool c5 ∧ Hid (Ab w2 wy p cp (outR s m).s (outR s m).m p2 (cp + 1) (stB s m D).s (stB s m D).m (some ⟨b, off, none⟩) cq rs (askedS s) ot ct (outR s m).told om cm (stB s m D).told (some ⟨G, 0, none⟩) L D))
              case first =>
                as_aux_lemma =>
                cases c3 <;> cases c4
                all_goals
                  go_wp2_with fail
                  go_meet
                  case rel => exact ⟨by rw [HC5.out]; rfl, HB1.out⟩
              case rest =>
              obtain ⟨rfl, HY1⟩ := hcut
              rename World => wy
              clear HB1 HC5 e3N e3I e4N e4I
              go_upto_if 130 with fail
              go_cut [27, 28, 29, 30] from 131 to 250 (fun _ _ _ _ wz => Hid (Ab w2 wz p cp (outR s m).s (outR s m).m p2 (cp + 1) (stB s m D).s (stB s m D).m (some ⟨b, off, none⟩) cq rs (askedS s) ot ct (outR s m).told om cm (stB s m D).told (some ⟨G, 0, none⟩) L D))
              case first =>
                as_aux_lemma =>
                cases c5 with
                | false =>
                  go_wp2_with fail
                  go_meet
                  case rel => exact HY1
                | true =>
                  have hin := (HC6.out rfl).1
                  have hin' : (i : Int) < nn := by omega
                  have HKY : Hid (Keeps no w wy) := HKW.out.trans HY1.out.kp
                  have hio : i < ops.length := by rw [← HOP.out.1]; exact hin
                  obtain ⟨ob, ooff, hob, A12⟩ := (HOP.out.2.1.keepsN HKY.out).atO hio
                  have hfit := HOP.out.2.2 _ (getD_mem_lt rop0 hio)
                  generalize ops.getD i rop0 = ro at A12 hfit
                  obtain ⟨ykd, yp, yn, yt, yk, yc, yr, yi, v4, n4, c4, v5, n5, c5, v6, n6, c6, v7, n7, c7⟩ := ro
                  obtain ⟨a1, a2, a3, a4, a5, a6, a7, a8, a9, a10, a11⟩ := A12
                  simp only at a1 a2 a3 a4 a5 a6 a7 a8 a9 a10 a11 hfit
                  have HFIT : Hid (yr < 18446744073709551616 ∧ yi < 18446744073709551616) := ⟨hfit.req, hfit.id⟩
                  clear hfit hio
                  subst hob
                  obtain ⟨z0, z1, z2, z3, z4, z5, z6, z7, z8⟩ := HQ.out.at' wy HY1.out.tq
                  have hpart : 0 ≤ r.part ∧ r.part ≤ 64 := by rw [HQ.out.part]; exact HQ.out.fit.part
                  have HPB : Hid (0 ≤ r.part ∧ r.part ≤ 64 ∧ r.req < 18446744073709551616 ∧ r.id < 18446744073709551616) := ⟨hpart.1, hpart.2, by rw [HQ.out.req]; exact HQ.out.fit.req, by rw [HQ.out.id]; exact HQ.out.fit.id⟩
                  clear hpart
                  have HZA : Hid (∀ X, Keeps no wy X → At9 X b off k r) := fun X hX => HQ.out.at' X (HY1.out.keepsN hX).tq
                  have HOA : Hid (∀ X, Keeps no wy X → X.cell? ⟨ob, ooff + i * 12 + 2, none⟩ = some (.int .i64 yn) ∧ X.cell? ⟨ob, ooff + i * 12 + 3, none⟩ = some (.bool yt)) := fun X hX => ⟨hX.cellN a2, hX.cellN a3⟩
                  obtain ⟨e1, he1⟩ : ∃ e1, e1 = decide (yr = r.req) := ⟨_, rfl⟩
                  have e1I : (((yr : Nat) : Int) == ((r.req : Nat) : Int)) = e1 := by rw [he1]; by_cases e : yr = r.req <;> simp [e]; omega
                  have e1N : (yr == r.req) = e1 := by rw [he1]; by_cases e : yr = r.req <;> simp [e]
                  obtain ⟨e2, he2⟩ : ∃ e2, e2 = decide (yp = r.part) := ⟨_, rfl⟩
                  have e2I : (yp == r.part) = e2 := by rw [he2]; by_cases e : yp = r.part <;> simp [e]
                  clear he1 he2
                  obtain ⟨c8, hc8⟩ : ∃ c8, c8 = (e1 && e2) := ⟨_, rfl⟩
                  have HC8 : Hid (c8 = (e1 && e2)) := hc8
                  clear hc8
                  have z0' : ∀ o, (wy.alloc o).cell? ⟨b, off + k * 9, none⟩ = some (.int .i64 r.part) := fun o => ((Keeps.refl no wy).alloc o).cellN z0
                  have z3' : ∀ o, (wy.alloc o).cell? ⟨b, off + k * 9 + 3, none⟩ = some (.int .u64 (r.req : Nat)) := fun o => ((Keeps.refl no wy).alloc o).cellN z3
                  have a1' : ∀ o, (wy.alloc o).cell? ⟨ob, ooff + i * 12 + 1, none⟩ = some (.int .i64 yp) := fun o => ((Keeps.refl no wy).alloc o).cellN a1
                  go_upto_region 33 with fail
                  go_cut [158] from 141 to 157 (fun t158 wx => t158 = .bool c8 ∧ Hid (Keeps no wy wx ∧ wx.heap[wy.heap.size]? = some (.cells #[.int .i64 yk, .int .i64 yc, .int .u64 (yr : Nat), .int .u64 (yi : Nat), .slice v4 n4 c4, .slice v5 n5 c5, .slice v6 n6 c6, .slice v7 n7 c7] 39 (0, 0))))
                  case first =>
                    as_aux_lemma =>
                    have HRL : Hid (∀ j, Keeps no wy ((wy.alloc (.cells #[.int .i64 yk, .int .i64 yc, .int .u64 (yr : Nat), .int .u64 (yi : Nat), .slice v4 n4 c4, .slice v5 n5 c5, .slice v6 n6 c6, .slice v7 n7 c7] 39)).drewN j) ∧ ((wy.alloc (.cells #[.int .i64 yk, .int .i64 yc, .int .u64 (yr : Nat), .int .u64 (yi : Nat), .slice v4 n4 c4, .slice v5 n5 c5, .slice v6 n6 c6, .slice v7 n7 c7] 39)).drewN j).heap[wy.heap.size]? = some (.cells #[.int .i64 yk, .int .i64 yc, .int .u64 (yr : Nat), .int .u64 (yi : Nat), .slice v4 n4 c4, .slice v5 n5 c5, .slice v6 n6 c6, .slice v7 n7 c7] 39 (0, 0))) := fun j => ⟨((Keeps.refl no wy).alloc _).drewN j, blk_new wy _⟩
                    cases e1 <;> cases e2
                    all_goals
                      go_quiet (fail)
                      go_wp2_with fail
                      go_meet
                      case rel => exact ⟨by rw [HC8.out]; rfl, HRL.out _⟩
                  case rest =>
                  obtain ⟨rfl, HX1⟩ := hcut
                  rename World => wx
                  clear HC8 e1I e1N e2I a1' z0 z1 z2 z3 z4 z5 z6 z7 z8 z0' z3' a1 a2 a3 a4 a5 a6 a7 a8 a9 a10 a11
                  generalize hBM : wy.heap.size = BM at HX1 ⊢
                  have HBM : Hid (BM = wy.heap.size) := hBM.symm
                  clear hBM
                  have f0 := frozen_of_blk HX1.out.2 0
                  have x0 := cell_of_blk HX1.out.2 0
                  simp only [List.getElem?_toArray, List.getElem?_cons_zero] at x0
                  have HST : Hid (Keeps no wy (wx.setCell ⟨BM, 0, none⟩ (.int .i64 8)) ∧ (wx.setCell ⟨BM, 0, none⟩ (.int .i64 8)).heap[BM]? = some (.cells #[.int .i64 8, .int .i64 yc, .int .u64 (yr : Nat), .int .u64 (yi : Nat), .slice v4 n4 c4, .slice v5 n5 c5, .slice v6 n6 c6, .slice v7 n7 c7] 39 (0, 0))) := by
                    refine ⟨HX1.out.1.setCell (.inr (by have := HBM.out; show wy.heap.size ≤ BM; omega)) _, ?_⟩
                    have := blk_set HX1.out.2 0 (.int .i64 8)
                    simpa using this
                  go_upto_if 158 with fail
                  go_cut [158] from 159 to 159 (fun _ wx => ∃ K : Int, Hid (Keeps no wy wx ∧ wx.heap[BM]? = some (.cells #[.int .i64 K, .int .i64 yc, .int .u64 (yr : Nat), .int .u64 (yi : Nat), .slice v4 n4 c4, .slice v5 n5 c5, .slice v6 n6 c6, .slice v7 n7 c7] 39 (0, 0))))
                  case first =>
                    as_aux_lemma =>
                    cases c8 with
                    | true =>
                      go_wp2_with fail
                      go_meet
                      case rel => exact ⟨8, HST.out⟩
                    | false =>
                      go_wp2_with fail
                      go_meet
                      case rel => exact ⟨yk, HX1.out⟩
                  case rest =>
                  obtain ⟨K0, HX2⟩ := hcut
                  rename World => wu
                  clear HX1 HST f0 x0
                  obtain ⟨o2, o3⟩ := HOA.out wu HX2.out.1
                  go_upto_if 164 with fail
                  go_cut [28] from 165 to 191 (fun t28 wx => ∃ pt : Int, t28 = .int .i64 pt ∧ Hid (MsgAt wy wx BM))
                  case first =>
                    as_aux_lemma =>
                    cases yt with
                    | false =>
                      go_wp2_with fail
                      go_meet
                      case rel => exact ⟨yp, rfl, K0, yc, yr, yi, v4, v5, v6, v7, n4, n5, n6, n7, c4, c5, c6, c7, HFIT.out.1, HFIT.out.2, HX2.out⟩
                    | true =>
                      obtain ⟨z0, z1, z2, z3, z4, z5, z6, z7, z8⟩ := HZA.out wu HX2.out.1
                      have HAN0 := HQ.out.ans wu
                      generalize ansK ((askedS s).getD k q0) = ka at HAN0
                      have HAN : Hid (Calls _ _ _ _ _) := HAN0
                      clear HAN0
                      go_wp2_with fail
                      refine Calls.mono HAN.out ?_
                      rintro e wk ⟨rfl, hka⟩
                      have hbk := hka.at HX2.out.2 (fun h => h)
                      have HKK : Hid (Keeps no wy wk) := HX2.out.1.trans hka
                      clear hka z0 z1 z2 z3 z4 z5 z6 z7 z8 o2 o3
                      have HE : Hid (Keeps no wy (wk.setRow BM #[.int .i64 ka, .int .i64 r.client, .int .u64 (r.req : Nat), .int .u64 (r.id : Nat), .slice none 0 0, .slice none 0 0, .slice none 0 0, .slice none 0 0]) ∧ (wk.setRow BM #[.int .i64 ka, .int .i64 r.client, .int .u64 (r.req : Nat), .int .u64 (r.id : Nat), .slice none 0 0, .slice none 0 0, .slice none 0 0, .slice none 0 0]).heap[BM]? = some (.cells #[.int .i64 ka, .int .i64 r.client, .int .u64 (r.req : Nat), .int .u64 (r.id : Nat), .slice none 0 0, .slice none 0 0, .slice none 0 0, .slice none 0 0] 39 (0, 0))) := ⟨keeps_setRow HKK.out (by have := HBM.out; omega), setRow_heap _ _ _ _ _ _ hbk⟩
                      go_upto_region 37 with (refine wpList_store_row (by rfl) _ _ _ (by rfl) BM _ (by rfl) (by rfl) 39 _ hbk (by rfl) (by rfl) (by simp [Value.oneCell']) ?_)
                      simp only [Act.put]
                      generalize wk.setRow BM _ = W at HE ⊢
                      clear hbk
                      obtain ⟨z0, z1, z2, z3, z4, z5, z6, z7, z8⟩ := HZA.out W HE.out.1
                      obtain ⟨o2, o3⟩ := HOA.out W HE.out.1
                      clear z1 z2 z3 z4 z5 z6 z7 z8 o3
                      have hp1 : 0 ≤ r.part := HPB.out.1
                      have hp2 : r.part ≤ 64 := HPB.out.2.1
                      have hand1 : bits .and .i64 yn 1 = yn % 2 := i64_and1 yn
                      obtain ⟨c9, hc9⟩ : ∃ c9, (yn % 2 == 1) = c9 := ⟨_, rfl⟩
                      have x3 := cell_of_blk HE.out.2 3
                      have f3 := frozen_of_blk HE.out.2 3
                      simp only [List.getElem?_toArray, List.getElem?_cons_succ, List.getElem?_cons_zero] at x3
                      have hwr : IntKind.u64.wrap (((r.id : Nat) : Int) + 1) = ((w64 (r.id + 1) : Nat) : Int) := by rw [IntKind.wrap_u64]; unfold w64; omega
                      have hbB : ¬ b = BM := by
                        have h1 := World.block_lt_of_cell? wy _ (HZA.out wy (Keeps.refl _ _)).c0
                        have h2 := HBM.out
                        simp only at h1; omega
                      have hbB' : ¬ BM = b := fun e => hbB e.symm
                      have HW3 : Hid (Keeps no wy (W.setCell ⟨BM, 3, none⟩ (.int .u64 ((w64 (r.id + 1) : Nat) : Int))) ∧ (W.setCell ⟨BM, 3, none⟩ (.int .u64 ((w64 (r.id + 1) : Nat) : Int))).heap[BM]? = some (.cells #[.int .i64 ka, .int .i64 r.client, .int .u64 (r.req : Nat), .int .u64 ((w64 (r.id + 1) : Nat) : Int), .slice none 0 0, .slice none 0 0, .slice none 0 0, .slice none 0 0] 39 (0, 0))) := by
                        refine ⟨HE.out.1.setCell (.inr (by have := HBM.out; show wy.heap.size ≤ BM; omega)) _, ?_⟩
                        have := blk_set HE.out.2 3 (.int .u64 ((w64 (r.id + 1) : Nat) : Int))
                        simpa using this
                      have HWL : Hid (w64 (r.id + 1) < 18446744073709551616) := w64_lt _
                      generalize w64 (r.id + 1) = ID2 at hwr HW3 HWL
                      have HM1 : Hid (MsgAt wy W BM) := ⟨_, r.client, r.req, r.id, none, none, none, none, 0, 0, 0, 0, 0, 0, 0, 0, HPB.out.2.2.1, HPB.out.2.2.2, HE.out⟩
                      have HM2 : Hid (MsgAt wy (W.setCell ⟨BM, 3, none⟩ (.int .u64 ((ID2 : Nat) : Int))) BM) := ⟨_, r.client, r.req, ID2, none, none, none, none, 0, 0, 0, 0, 0, 0, 0, 0, HPB.out.2.2.1, HWL.out, HW3.out⟩
                      clear HW3 HWL HE
                      cases c9 with
                      | false =>
                        go_wp2_with fail
                        go_meet
                        case rel => exact ⟨r.part + 1, rfl, HM1.out⟩
                      | true =>
                        go_wp2_with fail
                        go_meet
                        case rel => exact ⟨r.part, rfl, HM2.out⟩
                  case rest =>
                  obtain ⟨pt, rfl, HX30⟩ := hcut
                  rename World => wt
                  obtain ⟨K, C, Rq, Id, u4, u5, u6, u7, l4, l5, l6, l7, k4, k5, k6, k7, hX3⟩ := HX30.out
                  have HX3 : Hid (Rq < 18446744073709551616 ∧ Id < 18446744073709551616 ∧ Keeps no wy wt ∧ wt.heap[BM]? = some (.cells #[.int .i64 K, .int .i64 C, .int .u64 (Rq : Nat), .int .u64 (Id : Nat), .slice u4 l4 k4, .slice u5 l5 k5, .slice u6 l6 k6, .slice u7 l7 k7] 39 (0, 0))) := hX3
                  clear hX3 HX30
                  clear HX2 o2 o3 HOA HFIT HPB
                  as_aux_lemma =>
                  go_wp2_with fail
                  go_loopw [29, 30] (fun s29 s30 wl => ∃ (x : Nat) (R : Bool), x ≤ L ∧ s30 = .int .i64 x ∧ s29 = .bool R ∧ Hid (R = rightQ ((askedS s).take x) pt K Rq Id ∧ Keeps no wy wl ∧ wl.heap[BM]? = some (.cells #[.int .i64 K, .int .i64 C, .int .u64 (Rq : Nat), .int .u64 (Id : Nat), .slice u4 l4 k4, .slice u5 l5 k5, .slice u6 l6 k6, .slice u7 l7 k7] 39 (0, 0)))) (fun _ s30 _ => L - (intOf s30).toNat)
                  case atStart => exact ⟨0, false, by omega, rfl, rfl, rfl, HX3.out.2.2⟩
                  case round =>
                    rename World => wl
                    obtain ⟨x, R, hx, rfl, rfl, HL0⟩ := hrel
                    have m0 := cell_of_blk HL0.out.2.2 0
                    have m1' := cell_of_blk HL0.out.2.2 1
                    have m2 := cell_of_blk HL0.out.2.2 2
                    have m3 := cell_of_blk HL0.out.2.2 3
                    have m4 := cell_of_blk HL0.out.2.2 4
                    have m5 := cell_of_blk HL0.out.2.2 5
                    have m6 := cell_of_blk HL0.out.2.2 6
                    have m7 := cell_of_blk HL0.out.2.2 7
                    simp only [List.getElem?_toArray, List.getElem?_cons_succ, List.getElem?_cons_zero] at m0 m1' m2 m3 m4 m5 m6 m7
                    by_cases hxl : x < L
                    · have hxl' : (x : Int) < L := by omega
                      have hxq : x < (askedS s).length := by rw [asked_len, ← HR.out.1.len]; exact hxl
                      obtain ⟨b2, off2, r2, hQ2⟩ := qr_of (HY1.out.keepsN HL0.out.2.1).tq hxq HR.out.1.wf.fit (asked_kind s (by rw [← HR.out.1.len]; exact hxl))
                      have hb2 : b = b2 ∧ off = off2 := by have := hQ2.is; cases this; exact ⟨rfl, rfl⟩
                      obtain ⟨rfl, rfl⟩ := hb2
                      obtain ⟨y0, y1, y2, y3, y4, y5, y6, y7, y8⟩ := hQ2.at' wl (HY1.out.keepsN HL0.out.2.1).tq
                      have HST : Hid (rightQ ((askedS s).take (x + 1)) pt K Rq Id = (rightQ ((askedS s).take x) pt K Rq Id || (decide (Rq = r2.req) && decide (pt = r2.part) && decide (Id = r2.id) && decide (K = ansK ((askedS s).getD x q0))))) := by
                        rw [hQ2.req, hQ2.part, hQ2.id]; exact rightQ_take (askedS s) x hxq pt K Rq Id
                      have HC : Hid (∀ d os, Calls Try.prog 11 #[.agg #[.int .i64 r2.part, .int .i64 r2.kind, .int .i64 r2.client, .int .u64 (r2.req : Nat), .int .u64 (r2.id : Nat), .slice r2.po r2.pn r2.pc, .slice r2.ko r2.kn r2.kc, .slice r2.wo 0 r2.wc, .slice r2.vo 0 r2.vc]] (Sort.grow (redrawn wl d) os) fun e w'' => e = .returned (.agg #[.int .i64 (ansK ((askedS s).getD x q0)), .int .i64 r2.client, .int .u64 (r2.req : Nat), .int .u64 (r2.id : Nat), .slice none 0 0, .slice none 0 0, .slice none 0 0, .slice none 0 0]) ∧ ∃ p : Regrown, w'' = Sort.grow (redrawn wl p.d) p.os) := fun d os => call_grown (fun X hX => hQ2.ans X) d os
                      generalize ansK ((askedS s).getD x q0) = ka at HC HST
                      clear hQ2 hxq
                      have hfd := fun w => fieldA ka r2.client ((r2.req : Nat) : Int) ((r2.id : Nat) : Int) w
                      obtain ⟨e1, he1⟩ : ∃ e1, e1 = decide (Rq = r2.req) := ⟨_, rfl⟩
                      have e1I : (((Rq : Nat) : Int) == ((r2.req : Nat) : Int)) = e1 := by rw [he1]; by_cases e : Rq = r2.req <;> simp [e]; omega
                      have e1N : (Rq == r2.req) = e1 := by rw [he1]; by_cases e : Rq = r2.req <;> simp [e]
                      obtain ⟨e2, he2⟩ : ∃ e2, e2 = decide (pt = r2.part) := ⟨_, rfl⟩
                      have e2I : (pt == r2.part) = e2 := by rw [he2]; by_cases e : pt = r2.part <;> simp [e]
                      obtain ⟨e3, he3⟩ : ∃ e3, e3 = decide (Id = r2.id) := ⟨_, rfl⟩
                      have e3I : (((Id : Nat) : Int) == ((r2.id : Nat) : Int)) = e3 := by rw [he3]; by_cases e : Id = r2.id <;> simp [e]; omega
                      have e3N : (Id == r2.id) = e3 := by rw [he3]; by_cases e : Id = r2.id <;> simp [e]
                      obtain ⟨e4, he4⟩ : ∃ e4, e4 = decide (K = ka) := ⟨_, rfl⟩
                      have e4I : (K == ka) = e4 := by rw [he4]; by_cases e : K = ka <;> simp [e]
                      rw [← he1, ← he2, ← he3, ← he4, ← HL0.out.1] at HST
                      clear he1 he2 he3 he4
                      have HLK : Hid (Keeps no wy wl ∧ wl.heap[BM]? = some (.cells #[.int .i64 K, .int .i64 C, .int .u64 (Rq : Nat), .int .u64 (Id : Nat), .slice u4 l4 k4, .slice u5 l5 k5, .slice u6 l6 k6, .slice u7 l7 k7] 39 (0, 0))) := HL0.out.2
                      clear HL0
                      have y0 := cell_regrown y0
                      have y1 := cell_regrown y1
                      have y2 := cell_regrown y2
                      have y3 := cell_regrown y3
                      have y4 := cell_regrown y4
                      have y5 := cell_regrown y5
                      have y6 := cell_regrown y6
                      have y7 := cell_regrown y7
                      have y8 := cell_regrown y8
                      have m0 := cell_regrown m0
                      have m2 := cell_regrown m2
                      have m3 := cell_regrown m3
                      have hcs : R = true ∨ (R = false ∧ e1 = false) ∨ (R = false ∧ e1 = true ∧ e2 = false) ∨ (R = false ∧ e1 = true ∧ e2 = true ∧ e3 = false) ∨ (R = false ∧ e1 = true ∧ e2 = true ∧ e3 = true) := by
                        cases R <;> cases e1 <;> cases e2 <;> cases e3 <;> simp
                      rcases hcs with rfl | ⟨rfl, rfl⟩ | ⟨rfl, rfl, rfl⟩ | ⟨rfl, rfl, rfl, rfl⟩ | ⟨rfl, rfl, rfl, rfl⟩
                      all_goals
                        go_wp2_with fail
                        refine wp_region_quiet_below (by kernel_rfl) (by kernel_rfl) ?_
                        repeat (go_big_quiet_step (exact HC.out _ _))
                        refine wpQuiet_nil ?_
                        intro _ hw'
                        obtain ⟨⟨dq, osq⟩, rfl⟩ := hw'
                        have K1 : Hid (Keeps no wl (Sort.grow (redrawn wl dq) osq)) := keeps_grown ..
                        generalize Sort.grow (redrawn wl dq) osq = u1 at K1 ⊢
                        go_wp2_with fail
                        go_roundw
                        case rel => exact ⟨x + 1, _, by omega, by go_num, rfl, by rw [HST.out]; simp, HLK.out.1.trans K1.out, K1.out.at HLK.out.2 (fun h => h)⟩
                        case measure => simp [intOf]; omega
                    · have hxl' : ¬ (x : Int) < L := by omega
                      have hR : R = rightQ (askedS s) pt K Rq Id := by
                        rw [HL0.out.1, List.take_of_length_le (by rw [asked_len, ← HR.out.1.len]; omega)]
                      have HRR : Hid (R = rightQ (askedS s) pt K Rq Id) := hR
                      have HKL : Hid (Keeps no wy wl) := HL0.out.2.1
                      clear hR HL0
                      cases R with
                      | true =>
                        go_wp2_with fail
                        go_meet
                        case rel => exact HY1.out.keepsN HKL.out
                      | false =>
                        have HCB : Hid (Calls Try.prog 10 #[.pointer (some ⟨p2, 0, none⟩), .int .i64 pt, .agg #[.int .i64 K, .int .i64 C, .int .u64 (Rq : Nat), .int .u64 (Id : Nat), .slice u4 l4 k4, .slice u5 l5 k5, .slice u6 l6 k6, .slice u7 l7 k7]] wl fun e w' => ∃ o c, e = .returned (.slice o 0 c) ∧ Hid (Ab w2 w' p cp (outR s m).s (outR s m).m p2 (cp + 1) (stB s m D).s (stB s m D).m (some ⟨b, off, none⟩) cq rs (askedS s) ot ct (outR s m).told om cm (stB s m D).told (some ⟨G, 0, none⟩) L D)) := by
                          have h := HY1.out.callB HKL.out pt K C Rq Id u4 u5 u6 u7 l4 l5 l6 l7 k4 k5 k6 k7 HX3.out.1 HX3.out.2.1
                          rw [HR.out.1.odd m HDL.out.1 HDA.out pt K Rq Id HRR.out.symm] at h
                          have htl : (stB s m D).told = [] := by unfold stB; rw [if_neg (by rw [HDA.out]; simp)]
                          refine h.mono ?_
                          rintro e w' ⟨o, n, c, rfl, hh⟩
                          have hn : n = 0 := by have := hh.out.1; rw [htl] at this; exact this
                          subst hn
                          exact ⟨o, c, rfl, hh.out.2.2⟩
                        go_wp2_with fail
                        refine HCB.out.mono ?_
                        rintro e w9 ⟨o9, c9, rfl, H9⟩
                        go_wp2_with fail
                        go_meet
                        case rel => exact H9
              case rest =>
              rename World => wz
              have HZ1 : Hid (Ab w2 wz p cp (outR s m).s (outR s m).m p2 (cp + 1) (stB s m D).s (stB s m D).m (some ⟨b, off, none⟩) cq rs (askedS s) ot ct (outR s m).told om cm (stB s m D).told (some ⟨G, 0, none⟩) L D) := hcut
              clear hcut HY1 HC6
              obtain ⟨bd, hbd, hfz, d1, hmk⟩ := HZ1.out.mark (j := k) (by rw [HDL.out.1]; exact hkL)
              cases hbd
              have fk := hfz k
              have HMK : Hid (Ab w2 (wz.setCell ⟨G, k, none⟩ (.bool true)) p cp (outR s m).s (outR s m).m p2 (cp + 1) (stB s m D).s (stB s m D).m (some ⟨b, off, none⟩) cq rs (askedS s) ot ct (outR s m).told om cm (stB s m D).told (some ⟨G, 0, none⟩) L (D.set k true)) := hmk
              clear hfz hmk
              obtain ⟨dk, hdk⟩ : ∃ dk, dk = D.getD k true := ⟨_, rfl⟩
              rw [← hdk] at d1
              have HDK : Hid (dk = D.getD k true) := hdk
              clear hdk
              go_upto_if 255 with fail
              go_cut [24] from 256 to 260 (fun t24 wv => ∃ lf2 : Nat, t24 = .int .i64 lf2 ∧ Hid (lf2 = left (D.set k true) ∧ lf2 ≤ lf ∧ (dk = false → lf2 + 1 = lf) ∧ Ab w2 wv p cp (outR s m).s (outR s m).m p2 (cp + 1) (stB s m D).s (stB s m D).m (some ⟨b, off, none⟩) cq rs (askedS s) ot ct (outR s m).told om cm (stB s m D).told (some ⟨G, 0, none⟩) L (D.set k true)))
              case first =>
                as_aux_lemma =>
                cases dk with
                | true =>
                  go_wp2_with fail
                  go_meet
                  case rel =>
                    have h := HZ1.out
                    rw [← set_same (k := k) HDK.out.symm] at h
                    refine ⟨lf, rfl, by rw [set_same HDK.out.symm]; exact HDL.out.2, Nat.le_refl _, fun h => (by cases h), ?_⟩
                    have h2 := HZ1.out
                    rw [set_same HDK.out.symm]
                    exact h2
                | false =>
                  have hls := left_set D k (by rw [HDL.out.1]; exact hkL) HDK.out.symm
                  have HLS : Hid (lf - 1 = left (D.set k true) ∧ lf - 1 ≤ lf ∧ lf - 1 + 1 = lf) := ⟨by have := HDL.out.2; omega, by omega, by omega⟩
                  have hlfI : (lf : Int) - 1 = ((lf - 1 : Nat) : Int) := by omega
                  clear hls
                  go_wp2_with fail
                  go_meet
                  case rel => exact ⟨lf - 1, by first | rfl | go_num, HLS.out.1, HLS.out.2.1, fun _ => HLS.out.2.2, HMK.out⟩
              case rest =>
              obtain ⟨lf2, rfl, HV⟩ := hcut
              rename World => wv
              clear HZ1 HMK d1 fk
              have HV1 : Hid (Ab w2 wv p cp (outR s m).s (outR s m).m p2 (cp + 1) (stB s m D).s (stB s m D).m (some ⟨b, off, none⟩) cq rs (askedS s) ot ct (outR s m).told om cm (stB s m D).told (some ⟨G, 0, none⟩) L (D.set k true)) := HV.out.2.2.2
              have HLF : Hid (lf2 = left (D.set k true) ∧ lf2 ≤ lf ∧ (dk = false → lf2 + 1 = lf)) := ⟨HV.out.1, HV.out.2.1, HV.out.2.2.1⟩
              clear HV
              have hlf2 : (lf2 : Int) ≤ 64 := by have := HLF.out.2.1; omega
              have HCB : Hid (∀ X, Keeps no wv X → Calls Try.prog 10 #[.pointer (some ⟨p2, 0, none⟩), .int .i64 r.part, .agg #[.int .i64 (ansK ((askedS s).getD k q0)), .int .i64 r.client, .int .u64 (r.req : Nat), .int .u64 (r.id : Nat), .slice none 0 0, .slice none 0 0, .slice none 0 0, .slice none 0 0]] X fun e w' => ∃ o n c, e = .returned (.slice o n c) ∧ Hid (n = (stB s m (D.set k true)).told.length ∧ Ab w2 w' p cp (outR s m).s (outR s m).m p2 (cp + 1) (stB s m (D.set k true)).s (stB s m (D.set k true)).m (some ⟨b, off, none⟩) cq rs (askedS s) ot ct (outR s m).told o c (stB s m (D.set k true)).told (some ⟨G, 0, none⟩) L (D.set k true))) := by
                intro X hX
                have h := HV1.out.callB hX r.part (ansK ((askedS s).getD k q0)) r.client r.req r.id none none none none 0 0 0 0 0 0 0 0 (by rw [HQ.out.req]; exact HQ.out.fit.req) (by rw [HQ.out.id]; exact HQ.out.fit.id)
                rw [HQ.out.part, HQ.out.req, HQ.out.id, HR.out.1.any m HDL.out.1 HDA.out hkL] at h
                rw [HQ.out.part, HQ.out.req, HQ.out.id]
                refine h.mono ?_
                rintro e w' ⟨o, n, c, rfl, hh⟩
                exact ⟨o, n, c, rfl, hh.out.1, hh.out.2.1⟩
              as_aux_lemma =>
              go_wp2_with fail
              refine wp_region_held_drew (S := fun X => At9 X b off k r) (by kernel_rfl) ?_ (fun hHeld => ?_)
              · exact HQ.out.at' _ (HV1.out.keepsN ((Keeps.refl no _).drew)).tq
              refine wpAnyH_take (i := 0) (v := ?_) (by simp only [List.getElem?_toArray, List.getElem?_cons_succ, List.getElem?_cons_zero]; rfl) (by kernel_rfl) (by kernel_rfl) (by kernel_rfl) (by exact fun _ _ _ h => h) (Or.inl ⟨by rfl, ?_⟩) (by assumption) ?_
              rotate_left
              · (intro _ hSw; (try dsimp only at hSw); go_simp; (try with_reducible rfl))
              try simp only [Act.put, List.setIfInBounds_toArray, List.set_cons_zero, List.set_cons_succ]
              refine wpAnyH_take (i := 1) (v := ?_) (by simp only [List.getElem?_toArray, List.getElem?_cons_succ, List.getElem?_cons_zero]; rfl) (by kernel_rfl) (by kernel_rfl) (by kernel_rfl) (by exact fun _ _ _ h => h) (Or.inl ⟨by rfl, ?_⟩) (by assumption) ?_
              rotate_left
              · (intro _ hSw; (try dsimp only at hSw); go_simp; (try with_reducible rfl))
              try simp only [Act.put, List.setIfInBounds_toArray, List.set_cons_zero, List.set_cons_succ]
              refine wpAnyH_take (i := 2) (v := ?_) (by simp only [List.getElem?_toArray, List.getElem?_cons_succ, List.getElem?_cons_zero]; rfl) (by kernel_rfl) (by kernel_rfl) (by kernel_rfl) (by exact fun _ _ _ h => h) (Or.inl ⟨by rfl, ?_⟩) (by assumption) ?_
              rotate_left
              · (intro _ hSw; (try dsimp only at hSw); go_simp; (try with_reducible rfl))
              try simp only [Act.put, List.setIfInBounds_toArray, List.set_cons_zero, List.set_cons_succ]
              refine wpAnyH_take (i := 3) (v := ?_) (by simp only [List.getElem?_toArray, List.getElem?_cons_succ, List.getElem?_cons_zero]; rfl) (by kernel_rfl) (by kernel_rfl) (by kernel_rfl) (by exact fun _ _ _ h => h) (Or.inl ⟨by rfl, ?_⟩) (by assumption) ?_
              rotate_left
              · (intro _ hSw; (try dsimp only at hSw); go_simp; (try with_reducible rfl))
              try simp only [Act.put, List.setIfInBounds_toArray, List.set_cons_zero, List.set_cons_succ]
              refine wpAnyH_take (i := 4) (v := ?_) (by simp only [List.getElem?_toArray, List.getElem?_cons_succ, List.getElem?_cons_zero]; rfl) (by kernel_rfl) (by kernel_rfl) (by kernel_rfl) (by exact fun _ _ _ h => h) (Or.inl ⟨by rfl, ?_⟩) (by assumption) ?_
              rotate_left
              · (intro _ hSw; (try dsimp only at hSw); go_simp; (try with_reducible rfl))
              try simp only [Act.put, List.setIfInBounds_toArray, List.set_cons_zero, List.set_cons_succ]
              refine wpAnyH_take (i := 5) (v := ?_) (by simp only [List.getElem?_toArray, List.getElem?_cons_succ, List.getElem?_cons_zero]; rfl) (by kernel_rfl) (by kernel_rfl) (by kernel_rfl) (by exact fun _ _ _ h => h) (Or.inl ⟨by rfl, ?_⟩) (by assumption) ?_
              rotate_left
              · (intro _ hSw; (try dsimp only at hSw); have z0 := hSw.c0; go_simp; (try with_reducible rfl))
              try simp only [Act.put, List.setIfInBounds_toArray, List.set_cons_zero, List.set_cons_succ]
              refine wpAnyH_take (i := 6) (v := ?_) (by simp only [List.getElem?_toArray, List.getElem?_cons_succ, List.getElem?_cons_zero]; rfl) (by kernel_rfl) (by kernel_rfl) (by kernel_rfl) (by exact fun _ _ _ h => h) (Or.inl ⟨by rfl, ?_⟩) (by assumption) ?_
              rotate_left
              · (intro _ hSw; (try dsimp only at hSw); go_simp; (try with_reducible rfl))
              try simp only [Act.put, List.setIfInBounds_toArray, List.set_cons_zero, List.set_cons_succ]
              refine wpAnyH_take (i := 7) (v := ?_) (by simp only [List.getElem?_toArray, List.getElem?_cons_succ, List.getElem?_cons_zero]; rfl) (by kernel_rfl) (by kernel_rfl) (by kernel_rfl) (by exact fun _ _ _ h => h) (Or.inl ⟨by rfl, ?_⟩) (by assumption) ?_
              rotate_left
              · (intro _ hSw; (try dsimp only at hSw); go_simp; (try with_reducible rfl))
              try simp only [Act.put, List.setIfInBounds_toArray, List.set_cons_zero, List.set_cons_succ]
              refine wpAnyH_take (i := 8) (v := ?_) (by simp only [List.getElem?_toArray, List.getElem?_cons_succ, List.getElem?_cons_zero]; rfl) (by kernel_rfl) (by kernel_rfl) (by kernel_rfl) (by exact fun _ _ _ h => h) (Or.inl ⟨by rfl, ?_⟩) (by assumption) ?_
              rotate_left
              · (intro _ hSw; (try dsimp only at hSw); go_simp; (try with_reducible rfl))
              try simp only [Act.put, List.setIfInBounds_toArray, List.set_cons_zero, List.set_cons_succ]
              refine wpAnyH_take (i := 9) (v := ?_) (by simp only [List.getElem?_toArray, List.getElem?_cons_succ, List.getElem?_cons_zero]; rfl) (by kernel_rfl) (by kernel_rfl) (by kernel_rfl) (by exact fun _ _ _ h => h) (Or.inl ⟨by rfl, ?_⟩) (by assumption) ?_
              rotate_left
              · (intro _ hSw; (try dsimp only at hSw); have z0 := hSw.c0; have z1 := hSw.c1; have z2 := hSw.c2; have z3 := hSw.c3; have z4 := hSw.c4; have z5 := hSw.c5; have z6 := hSw.c6; have z7 := hSw.c7; have z8 := hSw.c8; go_simp; (try with_reducible rfl))
              try simp only [Act.put, List.setIfInBounds_toArray, List.set_cons_zero, List.set_cons_succ]
              refine wpAnyH_ready (rs := [10]) (by kernel_rfl) (by simp) ?_
              refine AllReadyH.cons (by simp only [List.getElem?_toArray, List.getElem?_cons_succ, List.getElem?_cons_zero]; rfl) (fun Kq hKq => ?_) AllReadyH.nil
              go_simp
              refine Calls.mono (HQ.out.ans _) ?_
              rintro e za ⟨rfl, hka⟩
              have HKA : Hid (Keeps no wv za) := ((Keeps.refl no wv).drew).trans hka
              clear hka
              refine hKq.out _ _ ?_ (fun hHeldN => ?_)
              · exact HQ.out.at' _ (HV1.out.keepsN HKA.out).tq
              clear hKq Kq hHeld
              have hHeld := hHeldN
              clear hHeldN
              refine wpAnyH_ready (rs := [11]) (by kernel_rfl) (by simp) ?_
              refine AllReadyH.cons (by simp only [List.getElem?_toArray, List.getElem?_cons_succ, List.getElem?_cons_zero]; rfl) (fun Kq hKq => ?_) AllReadyH.nil
              go_simp
              refine Calls.mono (HCB.out _ HKA.out) ?_
              rintro e zb ⟨o9, n9, c9, rfl, hh⟩
              have HN9 : Hid (n9 = (stB s m (D.set k true)).told.length) := hh.out.1
              have HN : Hid (Ab w2 zb p cp (outR s m).s (outR s m).m p2 (cp + 1) (stB s m (D.set k true)).s (stB s m (D.set k true)).m (some ⟨b, off, none⟩) cq rs (askedS s) ot ct (outR s m).told o9 c9 (stB s m (D.set k true)).told (some ⟨G, 0, none⟩) L (D.set k true)) := hh.out.2
              clear hh HKA
              refine hKq.out _ _ ?_ (fun hHeldN => ?_)
              · exact HQ.out.at' _ HN.out.tq
              clear hKq Kq hHeld
              have hHeld := hHeldN
              clear hHeldN
              refine wpAnyH_take (i := 12) (v := ?_) (by simp only [List.getElem?_toArray, List.getElem?_cons_succ, List.getElem?_cons_zero]; rfl) (by kernel_rfl) (by kernel_rfl) (by kernel_rfl) (by exact fun _ _ _ h => h) (Or.inl ⟨by rfl, ?_⟩) (by assumption) ?_
              rotate_left
              · (intro _ hSw; (try dsimp only at hSw); go_simp; (try with_reducible rfl))
              try simp only [Act.put, List.setIfInBounds_toArray, List.set_cons_zero, List.set_cons_succ]
              refine wpAnyH_done (by kernel_rfl) ?_ _
              clear hHeld HQ HCB HV1
              have HRL : Hid (at2 ≤ np ∧ lf2 ≤ L ∧ i + 1 + lf2 ≤ at2 + L ∧ (np - at2) + lf2 < (np - at1) + lf) := by
                have h1 := HLF.out
                have h2 := HAT.out
                have h3 := HDK.out
                refine ⟨by omega, by omega, ?_, ?_⟩
                · rcases h2 with h2 | ⟨h2, h4⟩
                  · omega
                  · have := h1.2.2 (by rw [h3, h4]); omega
                · rcases h2 with h2 | ⟨h2, h4⟩
                  · have := HATN.out; omega
                  · have := h1.2.2 (by rw [h3, h4]); omega
              have HFN : Hid (∃ D', D'.length = L ∧ lf2 = left D' ∧ n9 = (stB s m D').told.length ∧ Ab w2 zb p cp (outR s m).s (outR s m).m p2 (cp + 1) (stB s m D').s (stB s m D').m (some ⟨b, off, none⟩) cq rs (askedS s) ot ct (outR s m).told o9 c9 (stB s m D').told (some ⟨G, 0, none⟩) L D') := ⟨D.set k true, by rw [List.length_set]; exact HDL.out.1, HLF.out.1, HN9.out, HN.out⟩
              by_cases hz2 : 0 < lf2
              · have hz2' : (0 : Int) < (lf2 : Int) := by omega
                have hz3 : decide (0 < lf2) = true := by simpa using hz2
                have hal : (D.set k true).all _root_.id = false := left_pos (by rw [← HLF.out.1]; exact hz2)
                have hst : stB s m (D.set k true) = ⟨{ s with done := D.set k true }, [], m⟩ := by unfold stB; rw [if_neg (by rw [hal]; simp)]
                have hn0 : n9 = 0 := by have := HN9.out; rw [hst] at this; exact this
                subst hn0
                have HRS : Hid (∀ X, Keeps no zb X → Calls Try.prog 13 #[.pointer (some ⟨p2, 0, none⟩)] X fun e w' => e = .returned (.int .i64 0) ∧ w' = X) := fun X hX => by
                  have h := HN.out.resB hX
                  rw [hst] at h
                  rw [show (({ s with done := D.set k true } : WS).ended) = 0 from HR.out.1.ended] at h
                  exact h
                have HAG : Hid (∀ X, Keeps no zb X → Calls Try.prog 14 #[.pointer (some ⟨p2, 0, none⟩)] X fun e w' => ∃ o n c, e = .returned (.slice o n c) ∧ Hid (n = lf2 ∧ ∃ D', D'.length = L ∧ lf2 = left D' ∧ 0 = (stB s m D').told.length ∧ Ab w2 w' p cp (outR s m).s (outR s m).m p2 (cp + 1) (stB s m D').s (stB s m D').m (some ⟨b, off, none⟩) cq rs (askedS s) ot ct (outR s m).told o9 c9 (stB s m D').told (some ⟨G, 0, none⟩) L D')) := fun X hX => by
                  refine (HN.out.againB hX).mono ?_
                  rintro e w' ⟨o, n, c, rfl, hh⟩
                  refine ⟨o, n, c, rfl, ?_, D.set k true, by rw [List.length_set]; exact HDL.out.1, HLF.out.1, by rw [hst]; rfl, hh.out.2⟩
                  rw [hh.out.1, again_left HR.out.1 m (by rw [List.length_set]; exact HDL.out.1) hal]; exact HLF.out.1.symm
                clear hal hst HFN HN HN9 HLF HAT HDK
                go_wp2_with fail
                refine (HRS.out zb (Keeps.refl _ _)).mono ?_
                rintro e wz2 ⟨rfl, hwz⟩
                subst wz2
                go_wp2_with fail
                refine (HAG.out zb (Keeps.refl _ _)).mono ?_
                rintro e wA ⟨o6, n6, c6, rfl, hh⟩
                have hn6 : n6 = lf2 := hh.out.1
                have HF6 := hh.out.2
                have HF7 : Hid (∃ D', D'.length = L ∧ lf2 = left D' ∧ 0 = (stB s m D').told.length ∧ Ab w2 wA p cp (outR s m).s (outR s m).m p2 (cp + 1) (stB s m D').s (stB s m D').m (some ⟨b, off, none⟩) cq rs (askedS s) ot ct (outR s m).told o9 c9 (stB s m D').told (some ⟨G, 0, none⟩) L D') := HF6
                clear hh HF6
                subst hn6
                go_wp2_with fail
                go_roundw
                case rel => exact ⟨at2, n6, i + 1, o9, 0, c9, HRL.out.1, HRL.out.2.1, HRL.out.2.2.1, rfl, rfl, rfl, by go_num, HF7⟩
                case measure => simp [intOf]; have := HRL.out.2.2.2; omega
              · have hz2' : ¬ (0 : Int) < (lf2 : Int) := by omega
                have hz3 : decide (0 < lf2) = false := by simpa using hz2
                go_wp2_with fail
                go_roundw
                case rel => exact ⟨at2, lf2, i + 1, o9, n9, c9, HRL.out.1, HRL.out.2.1, HRL.out.2.2.1, rfl, rfl, rfl, by go_num, HFN⟩
                case measure => simp [intOf]; have := HRL.out.2.2.2; omega
            · have hl0' : ¬ (0 : Int) < (lf : Int) := by omega
              have hlz : lf = 0 := by omega
              have hal : D.all _root_.id = true := left_zero (by rw [← hDf]; exact hlz)
              have hst : stB s m D = outR s m := by unfold stB; rw [if_pos hal]
              rw [hst] at hAB hnm
              have HSM : Hid (Calls Try.prog 18 #[.slice ot nt ct, .slice om nm cm] wq fun e w' => e = .returned (.bool true) ∧ Keeps no wq w') := by
                have h := hAB.same (HR.out.1.fitT m) (HR.out.1.fitT m) HNT.out hnm
                rw [decide_eq_true rfl] at h
                exact h
              obtain ⟨ez, hez⟩ : ∃ ez, ez = (outR s m).s.ended := ⟨_, rfl⟩
              have HRA : Hid (∀ X, Keeps no wq X → Calls Try.prog 13 #[.pointer (some ⟨p, 0, none⟩)] X fun e w' => e = .returned (.int .i64 (ez : Nat)) ∧ w' = X) := fun X hX => by rw [hez]; exact hAB.resA hX
              have HRB : Hid (∀ X, Keeps no wq X → Calls Try.prog 13 #[.pointer (some ⟨p2, 0, none⟩)] X fun e w' => e = .returned (.int .i64 (ez : Nat)) ∧ w' = X) := fun X hX => by rw [hez]; exact hAB.resB hX
              have HNX : Hid (∀ X, Keeps no wq X → ∃ rs, nt = (stR s1 m1 (rd + 1)).told.length ∧ Ab w2 X p cp (stR s1 m1 (rd + 1)).s (stR s1 m1 (rd + 1)).m p2 (cp + 1) (stR s1 m1 (rd + 1)).s (stR s1 m1 (rd + 1)).m ot ct rs (stR s1 m1 (rd + 1)).told none 0 [] none 0 [] none 0 []) := fun X hX => by
                rw [HOUT.out]
                obtain ⟨rt, h⟩ := (hAB.keepsN hX).turn
                exact ⟨rt, HNT.out, h⟩
              clear hAB hnm hst hal hlz HD0 hez hDf hDl HDL HNT
              go_wp2_with fail
              refine Calls.mono HSM.out ?_
              rintro e wr2 ⟨rfl, hkr⟩
              have HKR : Hid (Keeps no wq wr2) := hkr
              clear hkr
              go_wp2_with fail
              refine (HRA.out wr2 HKR.out).mono ?_
              rintro e wz2 ⟨rfl, hwz⟩
              subst wz2
              go_wp2_with fail
              refine (HRB.out wr2 HKR.out).mono ?_
              rintro e wz2 ⟨rfl, hwz⟩
              subst wz2
              go_wp2_with fail
              go_roundw
              case rel => exact ⟨rd + 1, at1, ot, nt, ct, by omega, hat, by go_num, rfl, rfl, HNX.out wr2 HKR.out⟩
              case measure => simp [intOf]; omega
    · have hlt' : ¬ (rd : Int) < 2 := by omega
      have hrd2 : rd = 2 := by omega
      subst hrd2
      obtain ⟨rs, hnq, hW0⟩ := HW0.out
      have he := HRN.out.1.last HRN.out.2.1 m1
      have HRA : Hid (∀ X, Keeps no wr X → Calls Try.prog 13 #[.pointer (some ⟨p, 0, none⟩)] X fun e w' => e = .returned (.int .i64 1) ∧ w' = X) := fun X hX => by have h := hW0.resA hX; rw [he] at h; exact h
      have HRB : Hid (∀ X, Keeps no wr X → Calls Try.prog 13 #[.pointer (some ⟨p2, 0, none⟩)] X fun e w' => e = .returned (.int .i64 1) ∧ w' = X) := fun X hX => by have h := hW0.resB hX; rw [he] at h; exact h
      obtain ⟨hc1, hc2⟩ := hW0.cts
      have HKE : Hid (Keeps no w wr) := HKW.out.trans hW0.kp
      clear hW0 hnq he HW0
      generalize (stR s1 m1 2).m = mz at hc1 hc2
      go_wp2_with fail
      go_quiet ((first | (go_at_call_of 13 (Value.pointer (some (Addr.mk p 0 none))); exact Calls.quiet_of_same (HRA.out _ ((Keeps.refl no wr).drewN _))) | (go_at_call_of 13 (Value.pointer (some (Addr.mk p2 0 none))); exact Calls.quiet_of_same (HRB.out _ ((Keeps.refl no wr).drewN _)))))
      go_wp2_with fail
      go_ret
      exact ⟨rfl, HKE.out.drewN _⟩
end Go.Proofs.Ytghnhkhhpeoheaa
