import Derived.Test.YtpfbbfbghldmjaaB6
namespace Go.Proofs.Ytpfbbfbghldmjaa
open Go.RowKit Go.Sort Orl
set_option linter.unusedVariables false
set_option linter.unusedSimpArgs false

theorem toList_inj (x y : Tx) : x.toList = y.toList ↔ x = y := by
  rw [Lib.toList_data, Lib.toList_data]
  exact ⟨tx_ext, fun e => by rw [e]⟩
theorem neq34 (x1 x2 y1 y2 : Tx) (w : World) : (binOp .neq 34 (.agg #[.string x1, .string x2]) (.agg #[.string y1, .string y2])).run Try.prog w = .ok (.bool (!(decide (x1 = y1) && decide (x2 = y2)))) w := by
  have u9 := Try.underlying9
  have a9 := Try.isAgg9
  have z9 := Try.sizeOf9
  have hS : Try.prog.underlying 34 = some (.struct (Try.prog.fieldsOf 34)) := by kernel_rfl
  have hp : Try.prog.stoodInHeld 34 = false := by kernel_rfl
  rw [run_neq_struct, show (10000 : Nat) = 9999 + 1 from rfl, run_equalIn_agg w 9999 34 _ _ hS hp]
  simp only [Program.fieldsOf, Try.underlying34]
  go_simp
  by_cases h1 : x1 = y1 <;> by_cases h2 : x2 = y2 <;> simp [h1, h2, toList_inj]

set_option maxRecDepth 10000 in
theorem samePairs_any (w : World) (oa : Option Addr) (na ca : Nat) (ob : Option Addr) (nb cb : Nat) (sa sb : List Pr) (hna : na = sa.length) (hnb : nb = sb.length) (hla : Small sa) (hlb : Small sb) (ha : Sl PE w oa ca sa) (hb : Sl PE w ob cb sb) :
    Calls Try.prog 21 #[.slice oa na ca, .slice ob nb cb] w fun e w' => (∃ B : Bool, e = .returned (.bool B) ∧ Hid (B = true ↔ sa = sb)) ∧ Keeps no w w' := by
  have HA : Hid (na = sa.length) := hna
  have HB : Hid (nb = sb.length) := hnb
  have hA : (na : Int) ≤ 100000 := by unfold Small at hla; omega
  have hB : (nb : Int) ≤ 100000 := by unfold Small at hlb; omega
  clear hna hnb hla hlb
  by_cases hne : na = nb
  · subst hne
    go_enter Try.func21, Try.ntmps21
    go_wp2_with fail
    go_loopw [5] (fun i wr => ∃ k m : Nat, k ≤ na ∧ i = .int .i64 k ∧ wr = w.drewN m ∧ Hid (sa.take k = sb.take k)) (fun i _ => na - (intOf i).toNat)
    case atStart => exact ⟨0, 0, by omega, rfl, rfl, show sa.take 0 = sb.take 0 by simp⟩
    case round =>
      obtain ⟨k, m, hk, rfl, rfl, HT⟩ := hrel
      by_cases h2 : k < na
      · have hka : k < sa.length := by have := HA.out; omega
        have hkb : k < sb.length := by have := HB.out; omega
        obtain ⟨b1, off1, rfl, d1, d3⟩ := ha.atP hka
        obtain ⟨b2, off2, rfl, d2, d4⟩ := hb.atP hkb
        rcases hx : sa.getD k p0 with ⟨x1, x2⟩
        rcases hy : sb.getD k p0 with ⟨y1, y2⟩
        rw [hx] at d1 d3
        rw [hy] at d2 d4
        simp only at d1 d2 d3 d4
        have HX : Hid (sa.getD k p0 = (x1, x2)) := hx
        have HY : Hid (sb.getD k p0 = (y1, y2)) := hy
        clear hx hy hka hkb
        have hq := neq34 x1 x2 y1 y2
        by_cases hxy : x1 = y1 ∧ x2 = y2
        · obtain ⟨rfl, rfl⟩ := hxy
          simp only [decide_true, Bool.and_self, Bool.not_true] at hq
          go_wp2
          go_quiet (fail)
          go_wp2
          go_roundw
          case rel =>
            refine ⟨k + 1, _, by omega, by go_num, rfl, ?_⟩
            have := HT.out
            show sa.take (k + 1) = sb.take (k + 1)
            rw [take_succ_getD sa k p0 (by have := HA.out; omega), take_succ_getD sb k p0 (by have := HB.out; omega), this, HX.out, HY.out]
          case measure => simp [intOf] <;> omega
        · have e : (!(decide (x1 = y1) && decide (x2 = y2))) = true := by
            by_cases h1 : x1 = y1 <;> by_cases h2 : x2 = y2 <;> simp [h1, h2] <;> exact hxy ⟨h1, h2⟩
          rw [e] at hq
          have HXY : Hid (¬ (x1 = y1 ∧ x2 = y2)) := hxy
          clear e hxy
          go_wp2
          go_quiet (fail)
          go_wp2
          go_ret
          refine ⟨⟨false, rfl, ⟨fun h => (by cases h), fun e => ?_⟩⟩, ((Keeps.refl _ _).drewN _).drewN _⟩
          have h := HX.out
          rw [e, HY.out] at h
          injection h with h1 h2
          exact absurd ⟨h1.symm, h2.symm⟩ HXY.out
      · go_wp2
        go_ret
        refine ⟨⟨true, rfl, ⟨fun _ => ?_, fun _ => rfl⟩⟩, (Keeps.refl _ _).drewN _⟩
        have := HT.out
        rwa [List.take_of_length_le (by have := HA.out; omega), List.take_of_length_le (by have := HB.out; omega)] at this
  · have hne' : ¬ ((na : Nat) : Int) = (nb : Nat) := by omega
    go_enter Try.func21, Try.ntmps21
    go_wp2
    go_ret
    refine ⟨⟨false, rfl, ⟨fun h => (by cases h), fun e => ?_⟩⟩, Keeps.refl _ _⟩
    exact absurd (by rw [HA.out, HB.out, e]) hne
end Go.Proofs.Ytpfbbfbghldmjaa
