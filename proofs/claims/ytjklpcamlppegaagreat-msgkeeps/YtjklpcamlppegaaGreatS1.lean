/- The statements' own helps: same, sameTexts, Same. -/
import Derived.Test.YtjklpcamlppegaaGreatQ6
namespace Go.Proofs.YtjklpcamlppegaaGreat
open Go.RowKit Go.Sort Orl Pk
set_option linter.unusedVariables false
set_option linter.unusedSimpArgs false

set_option maxRecDepth 10000 in
theorem sameTexts_any (w : World) (oa : Option Addr) (na ca : Nat) (ob : Option Addr) (nb cb : Nat) (sa sb : List Tx) (hna : na = sa.length) (hnb : nb = sb.length) (hla : sa.length ≤ 8796093022000) (hlb : sb.length ≤ 8796093022000) (ha : Sl TE w oa ca sa) (hb : Sl TE w ob cb sb) :
    Calls Tryz.prog 15 #[.slice oa na ca, .slice ob nb cb] w fun e w' => (∃ B : Bool, e = .returned (.bool B) ∧ Hid (B = true ↔ sa = sb)) ∧ Keeps no w w' := by
  have HA : Hid (na = sa.length) := hna
  have HB : Hid (nb = sb.length) := hnb
  have hA : (na : Int) ≤ 8796093022000 := by omega
  have hB : (nb : Int) ≤ 8796093022000 := by omega
  clear hna hnb hla hlb
  by_cases hne : na = nb
  · subst hne
    go_enter Tryz.func15, Tryz.ntmps15
    go_wp2_with fail
    go_loopw [5] (fun i wr => ∃ k m : Nat, k ≤ na ∧ i = .int .i64 k ∧ wr = w.drewN m ∧ Hid (sa.take k = sb.take k)) (fun i _ => na - (intOf i).toNat)
    case atStart => exact ⟨0, 0, by omega, rfl, rfl, show sa.take 0 = sb.take 0 by simp⟩
    case round =>
      obtain ⟨k, m, hk, rfl, rfl, HT⟩ := hrel
      by_cases h2 : k < na
      · have hka : k < sa.length := by have := HA.out; omega
        have hkb : k < sb.length := by have := HB.out; omega
        obtain ⟨b1, off1, rfl, d1⟩ := ha.at hka
        obtain ⟨b2, off2, rfl, d2⟩ := hb.at hkb
        obtain ⟨x, hx⟩ : ∃ x, x = sa.getD k e0 := ⟨_, rfl⟩
        obtain ⟨y, hy⟩ : ∃ y, y = sb.getD k e0 := ⟨_, rfl⟩
        rw [← hx] at d1
        rw [← hy] at d2
        have HX : Hid (x = sa.getD k e0) := hx
        have HY : Hid (y = sb.getD k e0) := hy
        clear hx hy hka hkb
        by_cases hxy : x = y
        · have hxy' : (x.toList == y.toList) = true := by rw [tx_eq]; simpa using hxy
          clear hxy
          go_wp2
          go_quiet (fail)
          go_wp2
          go_roundw
          case rel =>
            refine ⟨k + 1, _, by omega, by go_num, rfl, ?_⟩
            rw [tx_eq, decide_eq_true_eq] at hxy'
            have := HT.out
            show sa.take (k + 1) = sb.take (k + 1)
            rw [take_succ_getD sa k e0 (by have := HA.out; omega), take_succ_getD sb k e0 (by have := HB.out; omega), this, ← HX.out, ← HY.out, hxy']
          case measure => simp [intOf]; omega
        · have hxy' : (x.toList == y.toList) = false := by rw [tx_eq]; simpa using hxy
          go_wp2
          go_quiet (fail)
          go_wp2
          go_ret
          refine ⟨⟨false, rfl, ⟨fun h => (by cases h), fun e => ?_⟩⟩, ((Keeps.refl _ _).drewN _).drewN _⟩
          exact absurd (by rw [HX.out, HY.out, e]) hxy
      · go_wp2
        go_ret
        refine ⟨⟨true, rfl, ⟨fun _ => ?_, fun _ => rfl⟩⟩, (Keeps.refl _ _).drewN _⟩
        have := HT.out
        rwa [List.take_of_length_le (by have := HA.out; omega), List.take_of_length_le (by have := HB.out; omega)] at this
  · have hne' : ¬ ((na : Nat) : Int) = (nb : Nat) := by omega
    go_enter Tryz.func15, Tryz.ntmps15
    go_wp2
    go_ret
    refine ⟨⟨false, rfl, ⟨fun h => (by cases h), fun e => ?_⟩⟩, Keeps.refl _ _⟩
    exact absurd (by rw [HA.out, HB.out, e]) hne


theorem toList_inj (x y : Tx) : x.toList = y.toList ↔ x = y := by
  rw [Lib.toList_data, Lib.toList_data]
  exact ⟨tx_ext, fun e => by rw [e]⟩
theorem neqP (x1 x2 y1 y2 : Tx) (w : World) : (binOp .neq 51 (.agg #[.string x1, .string x2]) (.agg #[.string y1, .string y2])).run Tryz.prog w = .ok (.bool (!(decide (x1 = y1) && decide (x2 = y2)))) w := by
  have u9 := Tryz.underlying9
  have a9 := Tryz.isAgg9
  have z9 := Tryz.sizeOf9
  have hS : Tryz.prog.underlying 51 = some (.struct (Tryz.prog.fieldsOf 51)) := by kernel_rfl
  have hp : Tryz.prog.stoodInHeld 51 = false := by kernel_rfl
  rw [run_neq_struct, show (10000 : Nat) = 9999 + 1 from rfl, run_equalIn_agg w 9999 51 _ _ hS hp]
  simp only [Program.fieldsOf, Tryz.underlying51]
  go_simp
  by_cases h1 : x1 = y1 <;> by_cases h2 : x2 = y2 <;> simp [h1, h2, toList_inj]
theorem neqW (x1 y1 : Tx) (x2 y2 : Nat) (w : World) : (binOp .neq 53 (.agg #[.string x1, .int .u64 (x2 : Nat)]) (.agg #[.string y1, .int .u64 (y2 : Nat)])).run Tryz.prog w = .ok (.bool (!(decide (x1 = y1) && decide (x2 = y2)))) w := by
  have u9 := Tryz.underlying9
  have a9 := Tryz.isAgg9
  have z9 := Tryz.sizeOf9
  have u23 := Tryz.underlying23
  have a23 := Tryz.isAgg23
  have z23 := Tryz.sizeOf23
  have hS : Tryz.prog.underlying 53 = some (.struct (Tryz.prog.fieldsOf 53)) := by kernel_rfl
  have hp : Tryz.prog.stoodInHeld 53 = false := by kernel_rfl
  rw [run_neq_struct, show (10000 : Nat) = 9999 + 1 from rfl, run_equalIn_agg w 9999 53 _ _ hS hp]
  simp only [Program.fieldsOf, Tryz.underlying53]
  go_simp
  by_cases h1 : x1 = y1 <;> by_cases h2 : x2 = y2 <;> simp [h1, h2, toList_inj] <;> omega
theorem same_bytes (w : World) (oa : Option Addr) (na ca : Nat) (ob : Option Addr) (nb cb : Nat) (a b : List Nat) (hna : na = a.length) (hnb : nb = b.length) (ha : BRow w oa a) (hb : BRow w ob b) :
    Calls Tryz.prog 12 #[.slice oa na ca, .slice ob nb cb] w fun e w' => e = .returned (.bool (decide (a = b))) ∧ w' = w := by
  have h1 := run_text w oa a na ca hna ha
  have h2 := run_text w ob b nb cb hnb hb
  have HE : Hid (((text a).toList == (text b).toList) = decide (a = b)) := by
    show _ = _
    rw [tx_eq]
    by_cases h : a = b
    · subst h; simp
    · have : ¬ text a = text b := fun e => h (by rw [← nats_text a ha.1, ← nats_text b hb.1, e])
      rw [decide_eq_false h, decide_eq_false this]
  generalize text a = ta at h1 HE
  generalize text b = tb at h2 HE
  clear hna hnb
  go_enter Tryz.func12, Tryz.ntmps12
  go_wp2
  go_ret
  refine ⟨?_, rfl⟩
  rw [← HE.out]
  rfl
end Go.Proofs.YtjklpcamlppegaaGreat
