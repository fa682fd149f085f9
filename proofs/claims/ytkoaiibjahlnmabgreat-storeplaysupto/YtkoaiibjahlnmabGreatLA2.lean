import Derived.Test.YtkoaiibjahlnmabGreatLA1
/- areKept. -/
namespace Go.Proofs.YtkoaiibjahlnmabGreat
open Go.RowKit Go.Maps Go.Sort Orl
set_option linter.unusedVariables false
set_option linter.unusedSimpArgs false

def okKv (x : KV) : Bool := decide (65536 ≤ x.m.2) && (decide (x.val.size ≤ 65535) && (okKeys x.keys && inn x.keys x.m.1))
def okKept (ks : List KV) : Bool := ks.all okKv && rising ltk ks
structure InK (w : World) (ks : List KV) : Prop where
  key : ∀ x ∈ ks, Sl TE w x.o x.c x.keys ∧ x.keys.length ≤ 8796093021952 ∧ x.m.2 < 18446744073709551616 ∧ x.m.1.size ≤ 140737488355328 ∧ x.val.size ≤ 140737488355328
theorem InK.keepsN {w w' : World} {ks : List KV} (h : InK w ks) (hk : Keeps no w w') : InK w' ks := ⟨fun x hx => ⟨(h.key x hx).1.keepsN hk, (h.key x hx).2⟩⟩
set_option maxRecDepth 10000 in
set_option maxHeartbeats 1000000 in
theorem areKept_any (w : World) (a : Option Addr) (n c : Nat) (ks : List KV) (hn : n = ks.length) (hl : ks.length ≤ 140737488355328) (hs : Sl KE w a c ks) (hi : InK w ks) :
    Calls Tryz.prog 55 #[.slice a n c] w fun e w' => e = .returned (.bool (okKept ks)) ∧ Keeps no w w' := by
  have HA : Hid (n = ks.length) := hn
  have hA : (n : Int) ≤ 140737488355328 := by omega
  have HL : Hid (ks.length ≤ 140737488355328) := hl
  obtain ⟨R, hR⟩ : ∃ R, okKept ks = R := ⟨_, rfl⟩
  have HR : Hid (okKept ks = R) := hR
  have HS : Hid (Sl KE w a c ks ∧ InK w ks) := ⟨hs, hi⟩
  rw [hR]
  clear hR hn hl hi hs
  go_enter Tryz.func55, Tryz.ntmps55
  go_wp2_with fail
  go_loopw [8] (fun i wr => ∃ k : Nat, k ≤ n ∧ i = .int .i64 (k : Int) ∧ Hid (Keeps no w wr) ∧ Hid (∀ j, j < k → okKv (ks.getD j kv0) = true)) (fun i _ => n - (intOf i).toNat)
  case atStart => exact ⟨0, by omega, rfl, Keeps.refl _ _, fun j hj => absurd hj (Nat.not_lt_zero _)⟩
  case round =>
    obtain ⟨k, hk, rfl, HK, HT⟩ := hrel
    by_cases h2 : k < n
    · have hka : k < ks.length := by have := HA.out; omega
      obtain ⟨b1, off1, e1, d0, d1, d2, d3, d4⟩ := (HS.out.1.keepsN HK.out).atK hka
      obtain ⟨x, hx⟩ : ∃ x, x = ks.getD k kv0 := ⟨_, rfl⟩
      have hin := (HS.out.2.keepsN HK.out).key _ (getD_mem_lt kv0 hka)
      rw [← hx] at d0 d1 d2 d3 d4 hin
      have HX : Hid (x = ks.getD k kv0) := hx
      have hfail : okKv x = false → R = false := fun h => by
        rw [← HR.out]
        have h1 : ks.all okKv = false := by
          rw [List.all_eq_false]
          exact ⟨ks.getD k kv0, getD_mem_lt kv0 hka, by rw [← hx, h]; simp⟩
        unfold okKept
        rw [h1]; rfl
      have HF : Hid (okKv x = false → R = false) := hfail
      obtain ⟨⟨xk, xi⟩, xv, xo, xc, xks, xst⟩ := x
      obtain ⟨nk, hnk⟩ : ∃ nk, nk = xks.length := ⟨_, rfl⟩
      simp only at d0 d1 d2 d3 d4 hin
      rw [← hnk] at d3
      have h3 : (k : Int) < n := by omega
      have HW := fun W => isWrite_any W xi hin.2.2.1
      have HKY := fun X (hX : Keeps no wr X) => areKeys_any X xo nk xc xks hnk (by have := hin.2.1; omega) (hin.1.keepsN hX)
      have HAM := fun X (hX : Keeps no wr X) (hinc : Inc lts xks) => among_any X xo nk xc xks xk hnk (by have := hin.2.1; omega) (hin.1.keepsN hX) hinc
      have HWH : Hid (∀ W, Calls Tryz.prog 34 #[.int .u64 ((xi : Nat) : Int)] W fun e w' => e = .returned (.bool (decide (65536 ≤ xi))) ∧ w' = W) := HW
      have HKYH : Hid (∀ X, Keeps no wr X → Calls Tryz.prog 35 #[.slice xo nk xc] X fun e w' => e = .returned (.bool (okKeys xks)) ∧ Keeps no X w') := HKY
      have HAMH : Hid (∀ X, Keeps no wr X → Inc lts xks → Calls Tryz.prog 66 #[.string xk, .slice xo nk xc] X fun e w' => e = .returned (.bool (inn xks xk)) ∧ Keeps no X w') := HAM
      clear hka hx hfail hin hnk HW HKY HAM
      subst e1
      have hkA : Keeps no wr ((wr.alloc (.cells #[.string xk, .int .u64 ((xi : Nat) : Int), .string xv, .slice xo nk xc, .int .i64 xst] 51)).alloc (.cells #[.string xk, .int .u64 ((xi : Nat) : Int), .string xv, .slice xo nk xc] 44)) := ((Keeps.refl no wr).alloc _).alloc _
      have hbV : ((wr.alloc (.cells #[.string xk, .int .u64 ((xi : Nat) : Int), .string xv, .slice xo nk xc, .int .i64 xst] 51)).alloc (.cells #[.string xk, .int .u64 ((xi : Nat) : Int), .string xv, .slice xo nk xc] 44)).heap[wr.heap.size + 1]? = some (.cells #[.string xk, .int .u64 ((xi : Nat) : Int), .string xv, .slice xo nk xc] 44 (0, 0)) := by
        have := blk_new (wr.alloc (.cells #[.string xk, .int .u64 ((xi : Nat) : Int), .string xv, .slice xo nk xc, .int .i64 xst] 51)) (.cells #[.string xk, .int .u64 ((xi : Nat) : Int), .string xv, .slice xo nk xc] 44)
        rwa [show (wr.alloc (.cells #[.string xk, .int .u64 ((xi : Nat) : Int), .string xv, .slice xo nk xc, .int .i64 xst] 51)).heap.size = wr.heap.size + 1 by simp] at this
      have HKA : Hid (Keeps no wr ((wr.alloc (.cells #[.string xk, .int .u64 ((xi : Nat) : Int), .string xv, .slice xo nk xc, .int .i64 xst] 51)).alloc (.cells #[.string xk, .int .u64 ((xi : Nat) : Int), .string xv, .slice xo nk xc] 44))) := hkA
      have HBV : Hid (((wr.alloc (.cells #[.string xk, .int .u64 ((xi : Nat) : Int), .string xv, .slice xo nk xc, .int .i64 xst] 51)).alloc (.cells #[.string xk, .int .u64 ((xi : Nat) : Int), .string xv, .slice xo nk xc] 44)).heap[wr.heap.size + 1]? = some (.cells #[.string xk, .int .u64 ((xi : Nat) : Int), .string xv, .slice xo nk xc] 44 (0, 0))) := hbV
      clear hkA hbV
      cases q1 : decide (65536 ≤ xi) with
      | false =>
        rw [q1] at HWH
        have HE : Hid (R = false) := HF.out (by simp only [okKv, q1, Bool.false_and])
        clear q1
        go_wp2_with fail
        refine (HWH.out _).mono ?_
        rintro e w1 ⟨rfl, hw1⟩
        subst w1
        go_wp2_with fail
        go_ret
        exact ⟨by rw [HE.out]; rfl, HK.out.trans HKA.out⟩
      | true =>
      rw [q1] at HWH
      have Q1 : Hid (decide (65536 ≤ xi) = true) := q1
      clear q1
      by_cases q2 : xv.size ≤ 65535
      · have q2' : ¬ (65535 : Int) < xv.size := by omega
        have q2'' : decide ((65535 : Int) < xv.size) = false := by simpa using q2'
        have Q2 : Hid (xv.size ≤ 65535) := q2
        clear q2
        cases q3 : okKeys xks with
        | false =>
          rw [q3] at HKYH
          have HE : Hid (R = false) := HF.out (by simp only [okKv, q3, Bool.false_and, Bool.and_false])
          clear q3
          go_wp2_with fail
          refine (HWH.out _).mono ?_
          rintro e w1 ⟨rfl, hw1⟩
          subst w1
          go_wp2_with fail
          refine (HKYH.out _ HKA.out).mono ?_
          rintro e w2 ⟨rfl, hk2⟩
          have K2 : Hid (Keeps no w w2) := (HK.out.trans HKA.out).trans hk2
          clear hk2
          go_wp2_with fail
          go_ret
          exact ⟨by rw [HE.out]; rfl, K2.out⟩
        | true =>
        rw [q3] at HKYH
        have Q3 : Hid (okKeys xks = true) := q3
        clear q3
        cases q4 : inn xks xk with
        | false =>
          rw [q4] at HAMH
          have HE : Hid (R = false) := HF.out (by simp only [okKv, q4, Bool.and_false])
          clear q4
          go_wp2_with fail
          refine (HWH.out _).mono ?_
          rintro e w1 ⟨rfl, hw1⟩
          subst w1
          go_wp2_with fail
          refine (HKYH.out _ HKA.out).mono ?_
          rintro e w2 ⟨rfl, hk2⟩
          have K2 : Hid (Keeps no wr w2 ∧ Keeps no w w2) := ⟨HKA.out.trans hk2, (HK.out.trans HKA.out).trans hk2⟩
          have g0 : w2.cell? ⟨wr.heap.size + 1, 0, none⟩ = some (.string xk) := cell_of_blk (hk2.at HBV.out id) 0
          have g3 : w2.cell? ⟨wr.heap.size + 1, 3, none⟩ = some (.slice xo nk xc) := cell_of_blk (hk2.at HBV.out id) 3
          clear hk2
          go_wp2_with fail
          refine (HAMH.out _ K2.out.1 (okKeys_iff.1 Q3.out).2.2).mono ?_
          rintro e w3 ⟨rfl, hk3⟩
          have K3 : Hid (Keeps no w w3) := K2.out.2.trans hk3
          clear hk3
          go_wp2_with fail
          go_ret
          exact ⟨by rw [HE.out]; rfl, K3.out⟩
        | true =>
          rw [q4] at HAMH
          have Q4 : Hid (inn xks xk = true) := q4
          clear q4
          go_wp2_with fail
          refine (HWH.out _).mono ?_
          rintro e w1 ⟨rfl, hw1⟩
          subst w1
          go_wp2_with fail
          refine (HKYH.out _ HKA.out).mono ?_
          rintro e w2 ⟨rfl, hk2⟩
          have K2 : Hid (Keeps no wr w2 ∧ Keeps no w w2) := ⟨HKA.out.trans hk2, (HK.out.trans HKA.out).trans hk2⟩
          have g0 : w2.cell? ⟨wr.heap.size + 1, 0, none⟩ = some (.string xk) := cell_of_blk (hk2.at HBV.out id) 0
          have g3 : w2.cell? ⟨wr.heap.size + 1, 3, none⟩ = some (.slice xo nk xc) := cell_of_blk (hk2.at HBV.out id) 3
          clear hk2
          go_wp2_with fail
          refine (HAMH.out _ K2.out.1 (okKeys_iff.1 Q3.out).2.2).mono ?_
          rintro e w3 ⟨rfl, hk3⟩
          have K3 : Hid (Keeps no w w3) := K2.out.2.trans hk3
          clear hk3 g0 g3
          go_wp2_with fail
          go_roundw
          case rel =>
            refine ⟨k + 1, by omega, by go_num, K3, fun j hj => ?_⟩
            by_cases e : j = k
            · subst e
              rw [← HX.out]
              simp only [okKv, Q1.out, Q3.out, Q4.out, Bool.true_and, Bool.and_true, decide_eq_true_eq]
              exact Q2.out
            · exact HT.out j (by omega)
          case measure => simp [intOf]; omega
      · have q2' : (65535 : Int) < xv.size := by omega
        have q2'' : decide ((65535 : Int) < xv.size) = true := by simpa using q2'
        have HE : Hid (R = false) := HF.out (by simp only [okKv, q2, decide_false, Bool.false_and, Bool.and_false])
        clear q2
        go_wp2_with fail
        refine (HWH.out _).mono ?_
        rintro e w1 ⟨rfl, hw1⟩
        subst w1
        go_wp2_with fail
        go_ret
        exact ⟨by rw [HE.out]; rfl, HK.out.trans HKA.out⟩
    · have h3 : ¬ (k : Int) < n := by omega
      have hall : ks.all okKv = true := by
        rw [List.all_eq_true]
        intro x hx
        obtain ⟨j, hj, rfl⟩ := List.getElem_of_mem hx
        have := HT.out j (by have := HA.out; omega)
        have e : ks.getD j kv0 = ks[j] := by simp [List.getD_eq_getElem?_getD, hj]
        rw [e] at this
        exact this
      have hr := fun X (hX : Keeps no w X) => risingK_any X a n c ks HA.out HL.out (HS.out.1.keepsN hX)
      have e : rising ltk ks = R := by
        rw [← HR.out]
        unfold okKept
        rw [hall]
        simp
      rw [e] at hr
      have HRR : Hid (∀ X, Keeps no w X → Calls Tryz.prog 82 #[.slice a n c, .func (.func 83) #[] #[]] X fun e w' => e = .returned (.bool R) ∧ Keeps no X w') := hr
      clear hr e hall
      go_wp2_with fail
      refine (HRR.out _ HK.out).mono ?_
      rintro e w1 ⟨rfl, hk1⟩
      go_wp2_with fail
      go_ret
      exact ⟨rfl, HK.out.trans hk1⟩
/-! ### slices.Equal -/
set_option maxRecDepth 10000 in
theorem equalT_any (w : World) (oa : Option Addr) (na ca : Nat) (ob : Option Addr) (nb cb : Nat) (sa sb : List Tx) (hna : na = sa.length) (hnb : nb = sb.length) (hla : sa.length ≤ 8796093022000) (hlb : sb.length ≤ 8796093022000) (ha : Sl TE w oa ca sa) (hb : Sl TE w ob cb sb) :
    Calls Tryz.prog 60 #[.slice oa na ca, .slice ob nb cb] w fun e w' => (∃ B : Bool, e = .returned (.bool B) ∧ Hid (B = true ↔ sa = sb)) ∧ Keeps no w w' := by
  have HA : Hid (na = sa.length) := hna
  have HB : Hid (nb = sb.length) := hnb
  have hA : (na : Int) ≤ 8796093022000 := by omega
  have hB : (nb : Int) ≤ 8796093022000 := by omega
  clear hna hnb hla hlb
  by_cases hne : na = nb
  · subst hne
    go_enter Tryz.func60, Tryz.ntmps60
    go_wp2_with fail
    go_loopw [13] (fun i wr => ∃ k m : Nat, k ≤ na ∧ i = .int .i64 k ∧ wr = w.drewN m ∧ Hid (sa.take k = sb.take k)) (fun i _ => na - (intOf i).toNat)
    case atStart => exact ⟨0, 0, by omega, rfl, rfl, show sa.take 0 = sb.take 0 by simp⟩
    case round =>
      obtain ⟨k, m, hk, rfl, rfl, HT⟩ := hrel
      by_cases h2 : k < na
      · have hka : k < sa.length := by have := HA.out; omega
        have hkb : k < sb.length := by have := HB.out; omega
        obtain ⟨b1, off1, rfl, d1⟩ := ha.at hka
        obtain ⟨b2, off2, rfl, d2⟩ := hb.at hkb
        obtain ⟨x, hx⟩ : ∃ x, x = sa.getD k e0 := ⟨_, rfl⟩
        obtain ⟨y, hy⟩ : ∃ y, y = sb.getD k e0 := ⟨_, rfl⟩
        rw [← hx] at d1
        rw [← hy] at d2
        have HX : Hid (x = sa.getD k e0) := hx
        have HY : Hid (y = sb.getD k e0) := hy
        clear hx hy hka hkb
        by_cases hxy : x = y
        · have hxy' : (x.toList == y.toList) = true := by rw [tx_eq]; simpa using hxy
          clear hxy
          go_wp2
          go_quiet (fail)
          go_wp2
          go_roundw
          case rel =>
            refine ⟨k + 1, _, by omega, by go_num, rfl, ?_⟩
            rw [tx_eq, decide_eq_true_eq] at hxy'
            have := HT.out
            show sa.take (k + 1) = sb.take (k + 1)
            rw [take_succ_getD sa k e0 (by have := HA.out; omega), take_succ_getD sb k e0 (by have := HB.out; omega), this, ← HX.out, ← HY.out, hxy']
          case measure => simp [intOf]; omega
        · have hxy' : (x.toList == y.toList) = false := by rw [tx_eq]; simpa using hxy
          go_wp2
          go_quiet (fail)
          go_wp2
          go_ret
          refine ⟨⟨false, rfl, ⟨fun h => (by cases h), fun e => ?_⟩⟩, ((Keeps.refl _ _).drewN _).drewN _⟩
          exact absurd (by rw [HX.out, HY.out, e]) hxy
      · go_wp2
        go_ret
        refine ⟨⟨true, rfl, ⟨fun _ => ?_, fun _ => rfl⟩⟩, (Keeps.refl _ _).drewN _⟩
        have := HT.out
        rwa [List.take_of_length_le (by have := HA.out; omega), List.take_of_length_le (by have := HB.out; omega)] at this
  · have hne' : ¬ ((na : Nat) : Int) = (nb : Nat) := by omega
    go_enter Tryz.func60, Tryz.ntmps60
    go_wp2
    go_ret
    refine ⟨⟨false, rfl, ⟨fun h => (by cases h), fun e => ?_⟩⟩, Keeps.refl _ _⟩
    exact absurd (by rw [HA.out, HB.out, e]) hne
end Go.Proofs.YtkoaiibjahlnmabGreat
