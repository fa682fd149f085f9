import Derived.Test.YtlpfoieoopjmgaaKin
namespace Go.Proofs.Ytlpfoieoopjmgaa
open Go.RowKit
set_option linter.unusedVariables false
set_option linter.unusedSimpArgs false

theorem tx_ext {x y : Tx} (h : x.data.toList = y.data.toList) : x = y := by
  cases x; cases y; exact congrArg ByteArray.mk (Array.toList_inj.1 h)
theorem toList_inj (x y : Tx) : x.toList = y.toList ↔ x = y := by
  rw [Lib.toList_data, Lib.toList_data]
  exact ⟨tx_ext, fun e => by rw [e]⟩
theorem neq38 (x1 x2 y1 y2 : Tx) (w : World) : (binOp .neq 38 (.agg #[.string x1, .string x2]) (.agg #[.string y1, .string y2])).run Try.prog w = .ok (.bool (!(decide (x1 = y1) && decide (x2 = y2)))) w := by
  have u9 := Try.underlying9
  have a9 := Try.isAgg9
  have z9 := Try.sizeOf9
  have hS : Try.prog.underlying 38 = some (.struct (Try.prog.fieldsOf 38)) := by kernel_rfl
  have hp : Try.prog.stoodInHeld 38 = false := by kernel_rfl
  rw [run_neq_struct, show (10000 : Nat) = 9999 + 1 from rfl, run_equalIn_agg w 9999 38 _ _ hS hp]
  simp only [Program.fieldsOf, Try.underlying38]
  go_simp
  by_cases h1 : x1 = y1 <;> by_cases h2 : x2 = y2 <;> simp [h1, h2, toList_inj]

set_option maxRecDepth 10000 in
theorem sameQ_any (w : World) (oa : Option Addr) (na ca : Nat) (ob : Option Addr) (nb cb : Nat) (sa sb : List Tx) (hna : na = sa.length) (hnb : nb = sb.length) (hla : (sa.length : Int) ≤ 8796093022208) (hlb : (sb.length : Int) ≤ 8796093022208) (ha : Sl TE w oa ca sa) (hb : Sl TE w ob cb sb) :
    Calls Try.prog 12 #[.slice oa na ca, .slice ob nb cb] w fun e w' => (∃ B : Bool, e = .returned (.bool B) ∧ Hid (B = true ↔ sa = sb)) ∧ ∃ m, w' = w.drewN m := by
  have HA : Hid (na = sa.length) := hna
  have HB : Hid (nb = sb.length) := hnb
  have hA : (na : Int) ≤ 8796093022208 := by omega
  have hB : (nb : Int) ≤ 8796093022208 := by omega
  clear hna hnb hla hlb
  by_cases hne : na = nb
  · subst hne
    go_enter Try.func12, Try.ntmps12
    go_wp2_with fail
    go_loopw [5] (fun i wr => ∃ k m : Nat, k ≤ na ∧ i = .int .i64 k ∧ wr = w.drewN m ∧ Hid (sa.take k = sb.take k)) (fun i _ => na - (intOf i).toNat)
    case atStart => exact ⟨0, 0, by omega, rfl, rfl, show sa.take 0 = sb.take 0 by simp⟩
    case round =>
      obtain ⟨k, m, hk, rfl, rfl, HT⟩ := hrel
      by_cases h2 : k < na
      · have hka : k < sa.length := by have := HA.out; omega
        have hkb : k < sb.length := by have := HB.out; omega
        obtain ⟨b1, off1, rfl, d1⟩ := ha.at hka
        obtain ⟨b2, off2, rfl, d2⟩ := hb.at hkb
        obtain ⟨x, hx⟩ : ∃ x, x = sa.getD k e0 := ⟨_, rfl⟩
        obtain ⟨y, hy⟩ : ∃ y, y = sb.getD k e0 := ⟨_, rfl⟩
        rw [← hx] at d1
        rw [← hy] at d2
        have HX : Hid (x = sa.getD k e0) := hx
        have HY : Hid (y = sb.getD k e0) := hy
        clear hx hy hka hkb
        by_cases hxy : x = y
        · have hxy' : (x.toList == y.toList) = true := by rw [tx_eq]; simpa using hxy
          clear hxy
          go_wp2
          go_quiet (fail)
          go_wp2
          go_roundw
          case rel =>
            refine ⟨k + 1, _, by omega, by go_num, rfl, ?_⟩
            rw [tx_eq, decide_eq_true_eq] at hxy'
            have := HT.out
            show sa.take (k + 1) = sb.take (k + 1)
            rw [take_succ_getD sa k e0 (by have := HA.out; omega), take_succ_getD sb k e0 (by have := HB.out; omega), this, ← HX.out, ← HY.out, hxy']
          case measure => simp [intOf]; omega
        · have hxy' : (x.toList == y.toList) = false := by rw [tx_eq]; simpa using hxy
          go_wp2
          go_quiet (fail)
          go_wp2
          go_ret
          refine ⟨⟨false, rfl, ⟨fun h => (by cases h), fun e => ?_⟩⟩, _, World.drewN_drewN _ _ _⟩
          exact absurd (by rw [HX.out, HY.out, e]) hxy
      · go_wp2
        go_ret
        refine ⟨⟨true, rfl, ⟨fun _ => ?_, fun _ => rfl⟩⟩, _, rfl⟩
        have := HT.out
        rwa [List.take_of_length_le (by have := HA.out; omega), List.take_of_length_le (by have := HB.out; omega)] at this
  · have hne' : ¬ ((na : Nat) : Int) = (nb : Nat) := by omega
    go_enter Try.func12, Try.ntmps12
    go_wp2
    go_ret
    refine ⟨⟨false, rfl, ⟨fun h => (by cases h), fun e => ?_⟩⟩, 0, rfl⟩
    exact absurd (by rw [HA.out, HB.out, e]) hne

set_option maxRecDepth 10000 in
theorem samePQ_any (w : World) (oa : Option Addr) (na ca : Nat) (ob : Option Addr) (nb cb : Nat) (sa sb : List Pr) (hna : na = sa.length) (hnb : nb = sb.length) (hla : (sa.length : Int) ≤ 8796093022208) (hlb : (sb.length : Int) ≤ 8796093022208) (ha : Sl PE w oa ca sa) (hb : Sl PE w ob cb sb) :
    Calls Try.prog 15 #[.slice oa na ca, .slice ob nb cb] w fun e w' => (∃ B : Bool, e = .returned (.bool B) ∧ Hid (B = true ↔ sa = sb)) ∧ ∃ m, w' = w.drewN m := by
  have HA : Hid (na = sa.length) := hna
  have HB : Hid (nb = sb.length) := hnb
  have hA : (na : Int) ≤ 8796093022208 := by omega
  have hB : (nb : Int) ≤ 8796093022208 := by omega
  clear hna hnb hla hlb
  by_cases hne : na = nb
  · subst hne
    go_enter Try.func15, Try.ntmps15
    go_wp2_with fail
    go_loopw [5] (fun i wr => ∃ k m : Nat, k ≤ na ∧ i = .int .i64 k ∧ wr = w.drewN m ∧ Hid (sa.take k = sb.take k)) (fun i _ => na - (intOf i).toNat)
    case atStart => exact ⟨0, 0, by omega, rfl, rfl, show sa.take 0 = sb.take 0 by simp⟩
    case round =>
      obtain ⟨k, m, hk, rfl, rfl, HT⟩ := hrel
      by_cases h2 : k < na
      · have hka : k < sa.length := by have := HA.out; omega
        have hkb : k < sb.length := by have := HB.out; omega
        obtain ⟨b1, off1, rfl, d1, d3⟩ := ha.atP hka
        obtain ⟨b2, off2, rfl, d2, d4⟩ := hb.atP hkb
        rcases hx : sa.getD k p0 with ⟨x1, x2⟩
        rcases hy : sb.getD k p0 with ⟨y1, y2⟩
        rw [hx] at d1 d3
        rw [hy] at d2 d4
        simp only at d1 d2 d3 d4
        have HX : Hid (sa.getD k p0 = (x1, x2)) := hx
        have HY : Hid (sb.getD k p0 = (y1, y2)) := hy
        clear hx hy hka hkb
        have hq := neq38 x1 x2 y1 y2
        by_cases hxy : x1 = y1 ∧ x2 = y2
        · obtain ⟨rfl, rfl⟩ := hxy
          simp only [decide_true, Bool.and_self, Bool.not_true] at hq
          go_wp2
          go_quiet (fail)
          go_wp2
          go_roundw
          case rel =>
            refine ⟨k + 1, _, by omega, by go_num, rfl, ?_⟩
            have := HT.out
            show sa.take (k + 1) = sb.take (k + 1)
            rw [take_succ_getD sa k p0 (by have := HA.out; omega), take_succ_getD sb k p0 (by have := HB.out; omega), this, HX.out, HY.out]
          case measure => simp [intOf] <;> omega
        · have e : (!(decide (x1 = y1) && decide (x2 = y2))) = true := by
            by_cases h1 : x1 = y1 <;> by_cases h2 : x2 = y2 <;> simp [h1, h2] <;> exact hxy ⟨h1, h2⟩
          rw [e] at hq
          have HXY : Hid (¬ (x1 = y1 ∧ x2 = y2)) := hxy
          clear e hxy
          go_wp2
          go_quiet (fail)
          go_wp2
          go_ret
          refine ⟨⟨false, rfl, ⟨fun h => (by cases h), fun e => ?_⟩⟩, _, World.drewN_drewN _ _ _⟩
          have h := HX.out
          rw [e, HY.out] at h
          injection h with h1 h2
          exact absurd ⟨h1.symm, h2.symm⟩ HXY.out
      · go_wp2
        go_ret
        refine ⟨⟨true, rfl, ⟨fun _ => ?_, fun _ => rfl⟩⟩, _, rfl⟩
        have := HT.out
        rwa [List.take_of_length_le (by have := HA.out; omega), List.take_of_length_le (by have := HB.out; omega)] at this
  · have hne' : ¬ ((na : Nat) : Int) = (nb : Nat) := by omega
    go_enter Try.func15, Try.ntmps15
    go_wp2
    go_ret
    refine ⟨⟨false, rfl, ⟨fun h => (by cases h), fun e => ?_⟩⟩, 0, rfl⟩
    exact absurd (by rw [HA.out, HB.out, e]) hne

/-- same, where the two are one: nothing but draws -/
theorem sameQ_yes (w : World) (oa : Option Addr) (na ca : Nat) (ob : Option Addr) (nb cb : Nat) (l : List Tx) (hna : na = l.length) (hnb : nb = l.length) (hl : (l.length : Int) ≤ 8796093022208) (ha : Sl TE w oa ca l) (hb : Sl TE w ob cb l) :
    Calls Try.prog 12 #[.slice oa na ca, .slice ob nb cb] w fun e w' => e = .returned (.bool true) ∧ ∃ m, w' = w.drewN m := by
  refine (sameQ_any w oa na ca ob nb cb l l hna hnb hl hl ha hb).mono ?_
  rintro e w' ⟨⟨B, rfl, hB⟩, hk⟩
  rw [hB.out.2 rfl]
  exact ⟨rfl, hk⟩
theorem samePQ_yes (w : World) (oa : Option Addr) (na ca : Nat) (ob : Option Addr) (nb cb : Nat) (l : List Pr) (hna : na = l.length) (hnb : nb = l.length) (hl : (l.length : Int) ≤ 8796093022208) (ha : Sl PE w oa ca l) (hb : Sl PE w ob cb l) :
    Calls Try.prog 15 #[.slice oa na ca, .slice ob nb cb] w fun e w' => e = .returned (.bool true) ∧ ∃ m, w' = w.drewN m := by
  refine (samePQ_any w oa na ca ob nb cb l l hna hnb hl hl ha hb).mono ?_
  rintro e w' ⟨⟨B, rfl, hB⟩, hk⟩
  rw [hB.out.2 rfl]
  exact ⟨rfl, hk⟩

end Go.Proofs.Ytlpfoieoopjmgaa
