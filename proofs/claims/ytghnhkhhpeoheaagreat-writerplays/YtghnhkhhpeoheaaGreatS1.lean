/- The law's own comparisons. -/
import Derived.Test.YtghnhkhhpeoheaaGreatS0
import Derived.BigQuiet
namespace Go.Proofs.YtghnhkhhpeoheaaGreat
open Go.RowKit Go.Sort Orl
set_option linter.unusedVariables false
set_option linter.unusedSimpArgs false

set_option maxRecDepth 10000 in
theorem sameS_any (w : World) (oa : Option Addr) (na ca : Nat) (ob : Option Addr) (nb cb : Nat) (sa sb : List Tx) (hna : na = sa.length) (hnb : nb = sb.length) (hla : sa.length ≤ 8796093022000) (hlb : sb.length ≤ 8796093022000) (ha : Sl TE w oa ca sa) (hb : Sl TE w ob cb sb) :
    Calls Tryz.prog 57 #[.slice oa na ca, .slice ob nb cb] w fun e w' => (∃ B : Bool, e = .returned (.bool B) ∧ Hid (B = true ↔ sa = sb)) ∧ Keeps no w w' := by
  have HA : Hid (na = sa.length) := hna
  have HB : Hid (nb = sb.length) := hnb
  have hA : (na : Int) ≤ 8796093022000 := by omega
  have hB : (nb : Int) ≤ 8796093022000 := by omega
  clear hna hnb hla hlb
  by_cases hne : na = nb
  · subst hne
    go_enter Tryz.func57, Tryz.ntmps57
    go_wp2_with fail
    go_loopw [5] (fun i wr => ∃ k m : Nat, k ≤ na ∧ i = .int .i64 k ∧ wr = w.drewN m ∧ Hid (sa.take k = sb.take k)) (fun i _ => na - (intOf i).toNat)
    case atStart => exact ⟨0, 0, by omega, rfl, rfl, show sa.take 0 = sb.take 0 by simp⟩
    case round =>
      obtain ⟨k, m, hk, rfl, rfl, HT⟩ := hrel
      by_cases h2 : k < na
      · have hka : k < sa.length := by have := HA.out; omega
        have hkb : k < sb.length := by have := HB.out; omega
        obtain ⟨b1, off1, rfl, d1⟩ := ha.at hka
        obtain ⟨b2, off2, rfl, d2⟩ := hb.at hkb
        obtain ⟨x, hx⟩ : ∃ x, x = sa.getD k e0 := ⟨_, rfl⟩
        obtain ⟨y, hy⟩ : ∃ y, y = sb.getD k e0 := ⟨_, rfl⟩
        rw [← hx] at d1
        rw [← hy] at d2
        have HX : Hid (x = sa.getD k e0) := hx
        have HY : Hid (y = sb.getD k e0) := hy
        clear hx hy hka hkb
        by_cases hxy : x = y
        · have hxy' : (x.toList == y.toList) = true := by rw [tx_eq]; simpa using hxy
          clear hxy
          go_wp2
          go_quiet (fail)
          go_wp2
          go_roundw
          case rel =>
            refine ⟨k + 1, _, by omega, by go_num, rfl, ?_⟩
            rw [tx_eq, decide_eq_true_eq] at hxy'
            have := HT.out
            show sa.take (k + 1) = sb.take (k + 1)
            rw [take_succ_getD sa k e0 (by have := HA.out; omega), take_succ_getD sb k e0 (by have := HB.out; omega), this, ← HX.out, ← HY.out, hxy']
          case measure => simp [intOf]; omega
        · have hxy' : (x.toList == y.toList) = false := by rw [tx_eq]; simpa using hxy
          go_wp2
          go_quiet (fail)
          go_wp2
          go_ret
          refine ⟨⟨false, rfl, ⟨fun h => (by cases h), fun e => ?_⟩⟩, ((Keeps.refl _ _).drewN _).drewN _⟩
          exact absurd (by rw [HX.out, HY.out, e]) hxy
      · go_wp2
        go_ret
        refine ⟨⟨true, rfl, ⟨fun _ => ?_, fun _ => rfl⟩⟩, (Keeps.refl _ _).drewN _⟩
        have := HT.out
        rwa [List.take_of_length_le (by have := HA.out; omega), List.take_of_length_le (by have := HB.out; omega)] at this
  · have hne' : ¬ ((na : Nat) : Int) = (nb : Nat) := by omega
    go_enter Tryz.func57, Tryz.ntmps57
    go_wp2
    go_ret
    refine ⟨⟨false, rfl, ⟨fun h => (by cases h), fun e => ?_⟩⟩, Keeps.refl _ _⟩
    exact absurd (by rw [HA.out, HB.out, e]) hne
theorem neqP (x1 x2 y1 y2 : Tx) (w : World) : (binOp .neq 61 (.agg #[.string x1, .string x2]) (.agg #[.string y1, .string y2])).run Tryz.prog w = .ok (.bool (!(decide (x1 = y1) && decide (x2 = y2)))) w := by
  have u9 := Tryz.underlying9
  have a9 := Tryz.isAgg9
  have z9 := Tryz.sizeOf9
  have hS : Tryz.prog.underlying 61 = some (.struct (Tryz.prog.fieldsOf 61)) := by kernel_rfl
  have hp : Tryz.prog.stoodInHeld 61 = false := by kernel_rfl
  rw [run_neq_struct, show (10000 : Nat) = 9999 + 1 from rfl, run_equalIn_agg w 9999 61 _ _ hS hp]
  simp only [Program.fieldsOf, Tryz.underlying61]
  go_simp
  by_cases h1 : x1 = y1 <;> by_cases h2 : x2 = y2 <;> simp [h1, h2, toList_inj]

set_option maxRecDepth 10000 in
theorem sameP_any (w : World) (oa : Option Addr) (na ca : Nat) (ob : Option Addr) (nb cb : Nat) (sa sb : List Pr) (hna : na = sa.length) (hnb : nb = sb.length) (hla : sa.length ≤ 4398046511000) (hlb : sb.length ≤ 4398046511000) (ha : Sl PE w oa ca sa) (hb : Sl PE w ob cb sb) :
    Calls Tryz.prog 32 #[.slice oa na ca, .slice ob nb cb] w fun e w' => (∃ B : Bool, e = .returned (.bool B) ∧ Hid (B = true ↔ sa = sb)) ∧ Keeps no w w' := by
  have HA : Hid (na = sa.length) := hna
  have HB : Hid (nb = sb.length) := hnb
  have hA : (na : Int) ≤ 4398046511000 := by omega
  have hB : (nb : Int) ≤ 4398046511000 := by omega
  clear hna hnb hla hlb
  by_cases hne : na = nb
  · subst hne
    go_enter Tryz.func32, Tryz.ntmps32
    go_wp2_with fail
    go_loopw [5] (fun i wr => ∃ k m : Nat, k ≤ na ∧ i = .int .i64 k ∧ wr = w.drewN m ∧ Hid (sa.take k = sb.take k)) (fun i _ => na - (intOf i).toNat)
    case atStart => exact ⟨0, 0, by omega, rfl, rfl, show sa.take 0 = sb.take 0 by simp⟩
    case round =>
      obtain ⟨k, m, hk, rfl, rfl, HT⟩ := hrel
      by_cases h2 : k < na
      · have hka : k < sa.length := by have := HA.out; omega
        have hkb : k < sb.length := by have := HB.out; omega
        obtain ⟨b1, off1, rfl, d1, d3⟩ := ha.atP hka
        obtain ⟨b2, off2, rfl, d2, d4⟩ := hb.atP hkb
        rcases hx : sa.getD k p0 with ⟨x1, x2⟩
        rcases hy : sb.getD k p0 with ⟨y1, y2⟩
        rw [hx] at d1 d3
        rw [hy] at d2 d4
        simp only at d1 d2 d3 d4
        have HX : Hid (sa.getD k p0 = (x1, x2)) := hx
        have HY : Hid (sb.getD k p0 = (y1, y2)) := hy
        clear hx hy hka hkb
        have hq := neqP x1 x2 y1 y2
        by_cases hxy : x1 = y1 ∧ x2 = y2
        · obtain ⟨rfl, rfl⟩ := hxy
          simp only [decide_true, Bool.and_self, Bool.not_true] at hq
          go_wp2
          go_quiet (fail)
          go_wp2
          go_roundw
          case rel =>
            refine ⟨k + 1, _, by omega, by go_num, rfl, ?_⟩
            have := HT.out
            show sa.take (k + 1) = sb.take (k + 1)
            rw [take_succ_getD sa k p0 (by have := HA.out; omega), take_succ_getD sb k p0 (by have := HB.out; omega), this, HX.out, HY.out]
          case measure => simp [intOf] <;> omega
        · have e : (!(decide (x1 = y1) && decide (x2 = y2))) = true := by
            by_cases h1 : x1 = y1 <;> by_cases h2 : x2 = y2 <;> simp [h1, h2] <;> exact hxy ⟨h1, h2⟩
          rw [e] at hq
          have HXY : Hid (¬ (x1 = y1 ∧ x2 = y2)) := hxy
          clear e hxy
          go_wp2
          go_quiet (fail)
          go_wp2
          go_ret
          refine ⟨⟨false, rfl, ⟨fun h => (by cases h), fun e => ?_⟩⟩, ((Keeps.refl _ _).drewN _).drewN _⟩
          have h := HX.out
          rw [e, HY.out] at h
          injection h with h1 h2
          exact absurd ⟨h1.symm, h2.symm⟩ HXY.out
      · go_wp2
        go_ret
        refine ⟨⟨true, rfl, ⟨fun _ => ?_, fun _ => rfl⟩⟩, (Keeps.refl _ _).drewN _⟩
        have := HT.out
        rwa [List.take_of_length_le (by have := HA.out; omega), List.take_of_length_le (by have := HB.out; omega)] at this
  · have hne' : ¬ ((na : Nat) : Int) = (nb : Nat) := by omega
    go_enter Tryz.func32, Tryz.ntmps32
    go_wp2
    go_ret
    refine ⟨⟨false, rfl, ⟨fun h => (by cases h), fun e => ?_⟩⟩, Keeps.refl _ _⟩
    exact absurd (by rw [HA.out, HB.out, e]) hne
/-- a message's own cells -/
def aggM (r : RQ) : Value := .agg #[.int .i64 r.kind, .int .i64 r.client, .int .u64 (r.req : Nat), .int .u64 (r.id : Nat), .slice r.po r.pn r.pc, .slice r.ko r.kn r.kc, .slice r.wo 0 r.wc, .slice r.vo 0 r.vc]
def sameMsg (a b : Qn) : Prop := a.kind = b.kind ∧ a.client = b.client ∧ a.req = b.req ∧ a.id = b.id ∧ a.pairs = b.pairs ∧ a.keys = b.keys
instance (a b : Qn) : Decidable (sameMsg a b) := by unfold sameMsg; infer_instance
theorem q_eq (a b : Qn) : a = b ↔ a.part = b.part ∧ sameMsg a b := by
  unfold sameMsg; cases a; cases b; simp
set_option maxRecDepth 10000 in
set_option maxHeartbeats 1000000 in
theorem sameM_any (w : World) (ra rb : RQ) (a b : Qn) (ha : QOf w ra a) (hb : QOf w rb b) (fa : FitQ a) (fb : FitQ b) :
    Calls Tryz.prog 44 #[aggM ra, aggM rb] w fun e w' => e = .returned (.bool (decide (sameMsg a b))) ∧ Keeps no w w' := by
  obtain ⟨a0, a1, a2, a3, a4, a5, a6⟩ := a
  obtain ⟨b0, b1, b2, b3, b4, b5, b6⟩ := b
  obtain ⟨x0, x1, x2, x3, x4, xpo, xpn, xpc, xko, xkn, xkc, xwo, xwc, xvo, xvc⟩ := ra
  obtain ⟨y0, y1, y2, y3, y4, ypo, ypn, ypc, yko, ykn, ykc, ywo, ywc, yvo, yvc⟩ := rb
  obtain ⟨h0, h1, h2, h3, h4, hpn, hps, hkn, hks⟩ := ha
  obtain ⟨g0, g1, g2, g3, g4, gpn, gps, gkn, gks⟩ := hb
  simp only at h0 h1 h2 h3 h4 hpn hps hkn hks g0 g1 g2 g3 g4 gpn gps gkn gks
  subst h0 h1 h2 h3 h4 g0 g1 g2 g3 g4
  unfold aggM
  simp only
  have HK : Hid (Keeps no w ((w.alloc (.cells #[.int .i64 x1, .int .i64 x2, .int .u64 (x3 : Nat), .int .u64 (x4 : Nat), .slice xpo xpn xpc, .slice xko xkn xkc, .slice xwo 0 xwc, .slice xvo 0 xvc] 45)).alloc (.cells #[.int .i64 y1, .int .i64 y2, .int .u64 (y3 : Nat), .int .u64 (y4 : Nat), .slice ypo ypn ypc, .slice yko ykn ykc, .slice ywo 0 ywc, .slice yvo 0 yvc] 45))) := ((Keeps.refl no w).alloc _).alloc _
  have HF : Hid (a5.length ≤ 2000 ∧ b5.length ≤ 2000 ∧ a6.length ≤ 2000 ∧ b6.length ≤ 2000) := ⟨fa.pl, fb.pl, fa.kl, fb.kl⟩
  have HP : Hid (∀ X, Keeps no w X → Calls Tryz.prog 32 #[.slice xpo xpn xpc, .slice ypo ypn ypc] X fun e w' => (∃ B : Bool, e = .returned (.bool B) ∧ Hid (B = true ↔ a5 = b5)) ∧ Keeps no X w') := fun X hX => sameP_any X xpo xpn xpc ypo ypn ypc a5 b5 hpn gpn (by have := HF.out.1; omega) (by have := HF.out.2.1; omega) (hps.keepsN hX) (gps.keepsN hX)
  have HS : Hid (∀ X, Keeps no w X → Calls Tryz.prog 57 #[.slice xko xkn xkc, .slice yko ykn ykc] X fun e w' => (∃ B : Bool, e = .returned (.bool B) ∧ Hid (B = true ↔ a6 = b6)) ∧ Keeps no X w') := fun X hX => sameS_any X xko xkn xkc yko ykn ykc a6 b6 hkn gkn (by have := HF.out.2.2.1; omega) (by have := HF.out.2.2.2; omega) (hks.keepsN hX) (gks.keepsN hX)
  clear hpn hps hkn hks gpn gps gkn gks fa fb
  obtain ⟨R, hR⟩ : ∃ R, R = decide (sameMsg ⟨x0, x1, x2, x3, x4, a5, a6⟩ ⟨y0, y1, y2, y3, y4, b5, b6⟩) := ⟨_, rfl⟩
  have HRI : Hid (R = true ↔ x1 = y1 ∧ x2 = y2 ∧ x3 = y3 ∧ x4 = y4 ∧ a5 = b5 ∧ a6 = b6) := by
    show _ ↔ _
    rw [hR, decide_eq_true_eq]
    exact Iff.rfl
  rw [← hR]
  clear hR
  have HNO : Hid (¬ (x1 = y1 ∧ x2 = y2 ∧ x3 = y3 ∧ x4 = y4 ∧ a5 = b5 ∧ a6 = b6) → R = false) := fun h => by
    rw [← Bool.not_eq_true, HRI.out]; exact h
  by_cases e1 : x1 = y1
  rotate_left
  · have e1' : (x1 == y1) = false := by simpa using e1
    have HR : Hid (R = false) := HNO.out (fun h => e1 h.1)
    clear HRI HNO
    go_enter Tryz.func44, Tryz.ntmps44
    go_wp2_with fail
    go_ret
    exact ⟨by rw [HR.out]; rfl, HK.out⟩
  subst e1
  by_cases e2 : x2 = y2
  rotate_left
  · have e2' : (x2 == y2) = false := by simpa using e2
    have HR : Hid (R = false) := HNO.out (fun h => e2 h.2.1)
    clear HRI HNO
    go_enter Tryz.func44, Tryz.ntmps44
    go_wp2_with fail
    go_ret
    exact ⟨by rw [HR.out]; rfl, HK.out⟩
  subst e2
  by_cases e3 : x3 = y3
  rotate_left
  · have e3' : ((x3 : Int) == (y3 : Int)) = false := by simp; omega
    have e3'' : ¬ (x3 : Int) = (y3 : Int) := by omega
    have HR : Hid (R = false) := HNO.out (fun h => e3 h.2.2.1)
    clear HRI HNO
    go_enter Tryz.func44, Tryz.ntmps44
    go_wp2_with fail
    go_ret
    exact ⟨by rw [HR.out]; rfl, HK.out⟩
  subst e3
  by_cases e4 : x4 = y4
  rotate_left
  · have e4' : ((x4 : Int) == (y4 : Int)) = false := by simp; omega
    have e4'' : ¬ (x4 : Int) = (y4 : Int) := by omega
    have HR : Hid (R = false) := HNO.out (fun h => e4 h.2.2.2.1)
    clear HRI HNO
    go_enter Tryz.func44, Tryz.ntmps44
    go_wp2_with fail
    go_ret
    exact ⟨by rw [HR.out]; rfl, HK.out⟩
  subst e4
  have HEQ : Hid (∀ B1 B2 : Bool, (B1 = true ↔ a5 = b5) → (B2 = true ↔ a6 = b6) → R = (B1 && B2)) := by
    intro B1 B2 h1 h2
    rw [Bool.eq_iff_iff, HRI.out, Bool.and_eq_true, h1, h2]
    simp
  clear HRI HNO
  go_enter Tryz.func44, Tryz.ntmps44
  go_wp2_with fail
  refine Calls.mono (HP.out _ HK.out) ?_
  rintro e w2 ⟨⟨B1, rfl, hB1⟩, hk2⟩
  have HB1 : Hid (B1 = true ↔ a5 = b5) := hB1
  have HK2 : Hid (Keeps no w w2) := HK.out.trans hk2
  have hbl := hk2.at (blk_alloc (blk_new w (.cells #[.int .i64 x1, .int .i64 x2, .int .u64 (x3 : Nat), .int .u64 (x4 : Nat), .slice xpo xpn xpc, .slice xko xkn xkc, .slice xwo 0 xwc, .slice xvo 0 xvc] 45)) (.cells #[.int .i64 x1, .int .i64 x2, .int .u64 (x3 : Nat), .int .u64 (x4 : Nat), .slice ypo ypn ypc, .slice yko ykn ykc, .slice ywo 0 ywc, .slice yvo 0 yvc] 45)) id
  have hbr : w2.heap[w.heap.size + 1]? = some (.cells #[.int .i64 x1, .int .i64 x2, .int .u64 (x3 : Nat), .int .u64 (x4 : Nat), .slice ypo ypn ypc, .slice yko ykn ykc, .slice ywo 0 ywc, .slice yvo 0 yvc] 45 (0, 0)) := by
    have h := hk2.at (blk_new (w.alloc (.cells #[.int .i64 x1, .int .i64 x2, .int .u64 (x3 : Nat), .int .u64 (x4 : Nat), .slice xpo xpn xpc, .slice xko xkn xkc, .slice xwo 0 xwc, .slice xvo 0 xvc] 45)) (.cells #[.int .i64 x1, .int .i64 x2, .int .u64 (x3 : Nat), .int .u64 (x4 : Nat), .slice ypo ypn ypc, .slice yko ykn ykc, .slice ywo 0 ywc, .slice yvo 0 yvc] 45)) id
    simpa using h
  have HBB : Hid (w2.heap[w.heap.size]? = some (.cells #[.int .i64 x1, .int .i64 x2, .int .u64 (x3 : Nat), .int .u64 (x4 : Nat), .slice xpo xpn xpc, .slice xko xkn xkc, .slice xwo 0 xwc, .slice xvo 0 xvc] 45 (0, 0)) ∧ w2.heap[w.heap.size + 1]? = some (.cells #[.int .i64 x1, .int .i64 x2, .int .u64 (x3 : Nat), .int .u64 (x4 : Nat), .slice ypo ypn ypc, .slice yko ykn ykc, .slice ywo 0 ywc, .slice yvo 0 yvc] 45 (0, 0))) := ⟨hbl, hbr⟩
  clear hbl hbr hB1 hk2 HK HP
  cases B1 with
  | false =>
    have HR : Hid (R = false) := by
      show _ = _
      have := HEQ.out false (decide (a6 = b6)) (by simpa using HB1.out) (by simp)
      rw [this]; rfl
    clear HEQ HB1
    go_wp2_with fail
    go_ret
    exact ⟨by rw [HR.out]; rfl, HK2.out⟩
  | true =>
    have z5 := cell_of_blk HBB.out.1 5
    have z5' := cell_of_blk HBB.out.2 5
    simp only [List.getElem?_toArray, List.getElem?_cons_succ, List.getElem?_cons_zero] at z5 z5'
    go_wp2_with fail
    refine Calls.mono (HS.out _ HK2.out) ?_
    rintro e w3 ⟨⟨B2, rfl, hB2⟩, hk3⟩
    have HR : Hid (R = B2) := by
      show _ = _
      have := HEQ.out true B2 (by simpa using HB1.out) hB2.out
      rw [this]; rfl
    have HK3 : Hid (Keeps no w w3) := HK2.out.trans hk3
    have k1 := hk3.at HBB.out.1 id
    have k2 := hk3.at HBB.out.2 id
    have z6 := cell_of_blk k1 6
    have z6' := cell_of_blk k2 6
    have z7 := cell_of_blk k1 7
    have z7' := cell_of_blk k2 7
    simp only [List.getElem?_toArray, List.getElem?_cons_succ, List.getElem?_cons_zero] at z6 z6' z7 z7'
    clear k1 k2 HBB hk3 hB2 HEQ HB1 HK2 HS z5 z5'
    cases B2 with
    | false =>
      go_wp2_with fail
      go_ret
      exact ⟨by rw [HR.out]; rfl, HK3.out⟩
    | true =>
      go_wp2_with fail
      go_ret
      exact ⟨by rw [HR.out]; rfl, HK3.out⟩
theorem sameM_grown {W : World} (ra rb : RQ) (a b : Qn) (ha : QOf W ra a) (hb : QOf W rb b) (fa : FitQ a) (fb : FitQ b) (d : Nat) (os : Array Obj) :
    Calls Tryz.prog 44 #[aggM ra, aggM rb] (Sort.grow (redrawn W d) os) fun e w'' => e = .returned (.bool (decide (sameMsg a b))) ∧ ∃ p : Regrown, w'' = Sort.grow (redrawn W p.d) p.os :=
  call_grown (fun X hX => sameM_any X ra rb a b (ha.keepsN hX) (hb.keepsN hX) fa fb) d os
set_option maxRecDepth 10000 in
set_option maxHeartbeats 2000000 in
theorem samePosts_any (w : World) (oa : Option Addr) (na ca : Nat) (ob : Option Addr) (nb cb : Nat) (ra rb : List RQ) (qa qb : List Qn) (hna : na = qa.length) (hnb : nb = qb.length) (hfa : FitQs qa) (hfb : FitQs qb) (ha : Qs w oa ca ra qa) (hb : Qs w ob cb rb qb) :
    Calls Tryz.prog 19 #[.slice oa na ca, .slice ob nb cb] w fun e w' => e = .returned (.bool (decide (qa = qb))) ∧ Keeps no w w' := by
  have HA : Hid (na = qa.length) := hna
  have HB : Hid (nb = qb.length) := hnb
  have hA : (na : Int) ≤ 64 := by have := hfa.1; omega
  have hB : (nb : Int) ≤ 64 := by have := hfb.1; omega
  have HFA : Hid (FitQs qa) := hfa
  have HFB : Hid (FitQs qb) := hfb
  have HVA : Hid (Qs w oa ca ra qa) := ha
  have HVB : Hid (Qs w ob cb rb qb) := hb
  obtain ⟨R, hR⟩ : ∃ R, R = decide (qa = qb) := ⟨_, rfl⟩
  have HR : Hid (R = true ↔ qa = qb) := by show _ ↔ _; rw [hR, decide_eq_true_eq]
  rw [← hR]
  clear hna hnb hfa hfb ha hb hR
  by_cases hne : na = nb
  rotate_left
  · have hne' : ¬ ((na : Nat) : Int) = (nb : Nat) := by omega
    have HF : Hid (R = false) := by show _ = _; rw [← Bool.not_eq_true, HR.out]; exact fun e => hne (by rw [HA.out, HB.out, e])
    clear HR
    go_enter Tryz.func19, Tryz.ntmps19
    go_wp2
    go_ret
    exact ⟨by rw [HF.out]; rfl, Keeps.refl _ _⟩
  subst hne
  go_enter Tryz.func19, Tryz.ntmps19
  go_wp2_with fail
  go_loopw [5] (fun i wr => ∃ k : Nat, k ≤ na ∧ i = .int .i64 k ∧ Hid (qa.take k = qb.take k) ∧ Hid (Keeps no w wr)) (fun i _ => na - (intOf i).toNat)
  case atStart => exact ⟨0, by omega, rfl, show qa.take 0 = qb.take 0 by simp, Keeps.refl _ _⟩
  case round =>
    rename World => wr
    obtain ⟨k, hk, rfl, HT, HK⟩ := hrel
    by_cases h2 : k < na
    · have hka : k < qa.length := by have := HA.out; omega
      have hkb : k < qb.length := by have := HB.out; omega
      have h2' : (k : Int) < na := by omega
      obtain ⟨b1, off1, x, ho1, A1, q1⟩ := (HVA.out.keepsN HK.out).at hka
      obtain ⟨b2, off2, y, ho2, A2, q2⟩ := (HVB.out.keepsN HK.out).at hkb
      subst ho1
      subst ho2
      have cS := sameM_grown x y _ _ q1 q2 (HFA.out.at hka) (HFB.out.at hkb)
      have HE : Hid ((x.part = y.part ∧ sameMsg (qa.getD k q0) (qb.getD k q0)) ↔ qa.getD k q0 = qb.getD k q0) := by
        show _ ↔ _
        rw [q_eq, q1.part, q2.part]
      have HTS : Hid ((qa.getD k q0 = qb.getD k q0 → qa.take (k + 1) = qb.take (k + 1)) ∧ (¬ qa.getD k q0 = qb.getD k q0 → R = false)) := by
        refine ⟨fun e => ?_, fun e => ?_⟩
        · rw [take_succ_getD qa k q0 hka, take_succ_getD qb k q0 hkb, HT.out, e]
        · rw [← Bool.not_eq_true, HR.out]; exact fun h => e (by rw [h])
      have HPB : Hid (0 ≤ x.part ∧ x.part ≤ 64 ∧ 0 ≤ y.part ∧ y.part ≤ 64) := ⟨by rw [q1.part]; exact (HFA.out.at hka).part.1, by rw [q1.part]; exact (HFA.out.at hka).part.2, by rw [q2.part]; exact (HFB.out.at hkb).part.1, by rw [q2.part]; exact (HFB.out.at hkb).part.2⟩
      obtain ⟨x0, x1, x2, x3, x4, xpo, xpn, xpc, xko, xkn, xkc, xwo, xwc, xvo, xvc⟩ := x
      obtain ⟨y0, y1, y2, y3, y4, ypo, ypn, ypc, yko, ykn, ykc, ywo, ywc, yvo, yvc⟩ := y
      obtain ⟨s0, s1, s2, s3, s4, s5, s6, s7, s8⟩ := A1
      obtain ⟨t0, t1, t2, t3, t4, t5, t6, t7, t8⟩ := A2
      simp only at s0 s1 s2 s3 s4 s5 s6 s7 s8 t0 t1 t2 t3 t4 t5 t6 t7 t8 HE HPB
      unfold aggM at cS
      simp only at cS
      obtain ⟨Bq, hBq⟩ : ∃ B, B = decide (sameMsg (qa.getD k q0) (qb.getD k q0)) := ⟨_, rfl⟩
      rw [← hBq] at cS
      have HBq : Hid (Bq = true ↔ sameMsg (qa.getD k q0) (qb.getD k q0)) := by show _ ↔ _; rw [hBq, decide_eq_true_eq]
      clear hBq q1 q2 hka hkb
      have HC : Hid (∀ d os, Calls Tryz.prog 44 #[.agg #[.int .i64 x1, .int .i64 x2, .int .u64 (x3 : Nat), .int .u64 (x4 : Nat), .slice xpo xpn xpc, .slice xko xkn xkc, .slice xwo 0 xwc, .slice xvo 0 xvc], .agg #[.int .i64 y1, .int .i64 y2, .int .u64 (y3 : Nat), .int .u64 (y4 : Nat), .slice ypo ypn ypc, .slice yko ykn ykc, .slice ywo 0 ywc, .slice yvo 0 yvc]] (Sort.grow (redrawn wr d) os) fun e w'' => e = .returned (.bool Bq) ∧ ∃ p : Regrown, w'' = Sort.grow (redrawn wr p.d) p.os) := cS
      clear cS
      have a0 := cell_regrown s0
      have a1 := cell_regrown s1
      have a2 := cell_regrown s2
      have a3 := cell_regrown s3
      have a4 := cell_regrown s4
      have a5 := cell_regrown s5
      have a6 := cell_regrown s6
      have a7 := cell_regrown s7
      have a8 := cell_regrown s8
      have c0 := cell_regrown t0
      have c1 := cell_regrown t1
      have c2 := cell_regrown t2
      have c3 := cell_regrown t3
      have c4 := cell_regrown t4
      have c5 := cell_regrown t5
      have c6 := cell_regrown t6
      have c7 := cell_regrown t7
      have c8 := cell_regrown t8
      clear s0 s1 s2 s3 s4 s5 s6 s7 s8 t0 t1 t2 t3 t4 t5 t6 t7 t8
      by_cases h3 : x0 = y0
      · subst h3
        have HS1 : Hid (sameMsg (qa.getD k q0) (qb.getD k q0) → qa.take (k + 1) = qb.take (k + 1)) := fun h => HTS.out.1 (HE.out.1 ⟨rfl, h⟩)
        have HS0 : Hid (¬ sameMsg (qa.getD k q0) (qb.getD k q0) → R = false) := fun h => HTS.out.2 (fun e => h (HE.out.2 e).2)
        clear HTS HE
        go_wp2_with fail
        refine wp_region_quiet_below (by kernel_rfl) (by kernel_rfl) ?_
        repeat (go_big_quiet_step (exact HC.out _ _))
        refine wpQuiet_nil ?_
        intro _ hw'
        obtain ⟨⟨dq, osq⟩, rfl⟩ := hw'
        have K1 : Hid (Keeps no w (Sort.grow (redrawn wr dq) osq)) := HK.out.trans (keeps_grown ..)
        generalize Sort.grow (redrawn wr dq) osq = u1 at K1 ⊢
        clear a0 a1 a2 a3 a4 a5 a6 a7 a8 c0 c1 c2 c3 c4 c5 c6 c7 c8 HC
        cases Bq with
        | true =>
          have HN : Hid (qa.take (k + 1) = qb.take (k + 1)) := HS1.out (by simpa using HBq.out)
          clear HS1 HS0 HBq
          go_wp2_with fail
          go_roundw
          case rel => exact ⟨k + 1, by omega, by go_num, HN, K1⟩
          case measure => simp [intOf]; omega
        | false =>
          have HN : Hid (R = false) := HS0.out (by simpa using HBq.out)
          clear HS1 HS0 HBq
          go_wp2_with fail
          go_ret
          exact ⟨by rw [HN.out]; rfl, K1.out⟩
      · have h3' : (x0 == y0) = false := by simpa using h3
        have h3'' : (x0 != y0) = true := by simpa using h3
        have HN : Hid (R = false) := HTS.out.2 (fun e => h3 (HE.out.2 e).1)
        clear HTS HE HBq
        go_wp2_with fail
        refine wp_region_quiet_below (by kernel_rfl) (by kernel_rfl) ?_
        repeat (go_big_quiet_step (fail))
        refine wpQuiet_nil ?_
        intro _ hw'
        obtain ⟨⟨dq, osq⟩, rfl⟩ := hw'
        have K1 : Hid (Keeps no w (Sort.grow (redrawn wr dq) osq)) := HK.out.trans (keeps_grown ..)
        generalize Sort.grow (redrawn wr dq) osq = u1 at K1 ⊢
        clear a0 a1 a2 a3 a4 a5 a6 a7 a8 c0 c1 c2 c3 c4 c5 c6 c7 c8 HC
        go_wp2_with fail
        go_ret
        exact ⟨by rw [HN.out]; rfl, K1.out⟩
    · have h2' : ¬ (k : Int) < na := by omega
      have HF : Hid (R = true) := by
        have h := HT.out
        rw [List.take_of_length_le (by have := HA.out; omega), List.take_of_length_le (by have := HB.out; omega)] at h
        exact HR.out.2 h
      go_wp2
      go_ret
      exact ⟨by rw [HF.out]; rfl, HK.out⟩
end Go.Proofs.YtghnhkhhpeoheaaGreat
