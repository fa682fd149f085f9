/- The walk of IdentGives. -/
import Derived.Test.YtkapjgoomceglaaG1
namespace Go.Proofs.Ytkapjgoomceglaa
open Go.RowKit
set_option linter.unusedVariables false
set_option linter.unusedSimpArgs false

/-- what a slice of int shows -/
structure RowI (w : World) (a : Option Addr) (ts : List Int) : Prop where
  row : ts = [] ∨ ∃ b off, a = some ⟨b, off, none⟩ ∧ ∀ j, j < ts.length → w.cell? ⟨b, off + j, none⟩ = some (.int .i64 (ts.getD j 0))
  len : ts.length ≤ 9223372036854775807

def two (x y : Int) : Nat → Int := fun j => if j = 0 then x else y

set_option maxRecDepth 10000 in
set_option maxHeartbeats 4000000 in
theorem identGives_any (w : World) (c0 c1 f0 f1 : Int) (o : Option Addr) (cap : Nat) (ts : List Int) (hrow : RowI w o ts)
    (x0 : -9223372036854775808 ≤ c0) (x1 : c0 ≤ 9223372036854775807) (x2 : -9223372036854775808 ≤ c1) (x3 : c1 ≤ 9223372036854775807) (y0 : 0 ≤ f0) (y1 : f0 ≤ 18446744073709551615) (y2 : 0 ≤ f1) (y3 : f1 ≤ 18446744073709551615) :
    Calls Try.prog 6 #[.int .i64 c0, .int .i64 c1, .int .u64 f0, .int .u64 f1, .slice o ts.length cap] w fun e w' => e = .returned (.bool true) ∧ Keeps (fun _ => False) w w' := by
  obtain ⟨N, hN⟩ : ∃ N, N = ts.length := ⟨_, rfl⟩
  rw [← hN]
  have HN : Hid (N = ts.length) := hN
  have hN5 : (N : Int) ≤ 9223372036854775807 := by have := hrow.len; omega
  clear hN
  go_enter Try.func6, Try.ntmps6
  go_wp2_with fail
  refine (alive_any w).mono ?_
  rintro e w1 ⟨rfl, hk1⟩
  go_wp2_with fail
  have hst : St w ((((w1.alloc (.cells #[.int .i64 c0, .int .i64 c1] 45)).alloc (.cells #[.int .u64 f0, .int .u64 f1] 46)).alloc (.cells #[.pointer none, .pointer none] 47)).alloc (.cells #[.pointer none, .pointer none] 49))
      w1.heap.size (w1.heap.size + 1) (w1.heap.size + 1 + 1) (w1.heap.size + 1 + 1 + 1) (two c0 c1) (two f0 f1) (fun _ => none) (fun _ => none) := by
    have hz := hk1.size
    refine ⟨blk_alloc (blk_alloc (blk_alloc (blk_new _ _) _) _) _, blk_alloc (blk_alloc ?_ _) _, blk_alloc ?_ _, ?_, fun j hj => .inl ⟨rfl, rfl⟩, fun a h => (by cases h), fun a h => (by cases h), by omega, by omega, fun j a h => (by cases h), fun j a h => (by cases h), (((hk1.alloc _).alloc _).alloc _).alloc _⟩
    · have := blk_new (w1.alloc (.cells #[.int .i64 c0, .int .i64 c1] 45)) (.cells #[.int .u64 f0, .int .u64 f1] 46)
      simpa [two, pv] using this
    · have := blk_new ((w1.alloc (.cells #[.int .i64 c0, .int .i64 c1] 45)).alloc (.cells #[.int .u64 f0, .int .u64 f1] 46)) (.cells #[.pointer none, .pointer none] 47)
      simpa [two, pv] using this
    · have := blk_new (((w1.alloc (.cells #[.int .i64 c0, .int .i64 c1] 45)).alloc (.cells #[.int .u64 f0, .int .u64 f1] 46)).alloc (.cells #[.pointer none, .pointer none] 47)) (.cells #[.pointer none, .pointer none] 49)
      simpa [two, pv] using this
  have HS : Hid (St w _ _ _ _ _ _ _ _ _) := hst
  have hC0 : ∀ k, -9223372036854775808 ≤ two c0 c1 k := fun k => by unfold two; split <;> omega
  have hC1 : ∀ k, two c0 c1 k ≤ 9223372036854775807 := fun k => by unfold two; split <;> omega
  have hF0 : ∀ k, 0 ≤ two f0 f1 k := fun k => by unfold two; split <;> omega
  have hF1 : ∀ k, two f0 f1 k ≤ 18446744073709551615 := fun k => by unfold two; split <;> omega
  have HC : Hid (∀ k, (-9223372036854775808 ≤ two c0 c1 k ∧ two c0 c1 k ≤ 9223372036854775807) ∧ (0 ≤ two f0 f1 k ∧ two f0 f1 k ≤ 18446744073709551615)) := fun k => ⟨⟨hC0 k, hC1 k⟩, hF0 k, hF1 k⟩
  clear hst hk1 hC0 hC1 hF0 hF1
  generalize ((((w1.alloc (.cells #[.int .i64 c0, .int .i64 c1] 45)).alloc (.cells #[.int .u64 f0, .int .u64 f1] 46)).alloc (.cells #[.pointer none, .pointer none] 47)).alloc (.cells #[.pointer none, .pointer none] 49)) = wa at HS ⊢
  generalize two c0 c1 = C at HS HC
  generalize two f0 f1 = F at HS HC
  generalize w1.heap.size + 1 + 1 + 1 = br at HS ⊢
  generalize w1.heap.size + 1 + 1 = bs at HS ⊢
  generalize w1.heap.size + 1 = b2 at HS ⊢
  generalize w1.heap.size = b1 at HS ⊢
  clear w1
  go_loopw [15] (fun i wr => ∃ (k : Nat) (P R : Nat → Option Nat), k ≤ 2 ∧ i = .int .i64 k ∧ Hid (St w wr b1 b2 bs br C F P R)) (fun i _ => 2 - (intOf i).toNat)
  case atStart => exact ⟨0, _, _, by omega, rfl, HS.out⟩
  case round =>
    clear HS
    obtain ⟨k, P, R, hk, rfl, HS⟩ := hrel
    by_cases hk2 : k < 2
    · have q1 := HS.out.cK hk2
      have q2 := HS.out.fK hk2
      obtain ⟨⟨m0, m1⟩, m2, m3⟩ := HC.out k
      by_cases hok : 0 ≤ C k ∧ C k ≤ 65535 ∧ F k ≤ 281474976710655
      · obtain ⟨o1, o2, o3⟩ := hok
        go_wp2_with fail
        go_region_with (go_at_call 10; go_must (refine (of_yes _ (C k) (F k) o1 o2 m2 o3).mono ?_); rintro e w2 ⟨rfl, hs2, hk2'⟩)
        all_goals
          have HS2 : Hid (St w w2 b1 b2 bs br C F P R) := HS.out.keeps ((Keeps.refl _ wr).drew.trans hk2')
          have HI2 : Hid (IsS 59 w2 wr.heap.size (C k) (max (F k) 1) 0) := hs2
          have HZ : Hid (wr.heap.size ≤ w2.heap.size) := hk2'.size
          clear hs2 hk2' q1 q2
          have q1 := HS2.out.cK hk2
          have q2 := HS2.out.fK hk2
          go_wp2_with fail
          go_region_with (go_at_call 16; go_must (refine (refOf_yes _ (C k) (F k) o1 o2 m2 o3).mono ?_); rintro e w3 ⟨rfl, ht3, hk3⟩)
          all_goals
            have HS3 : Hid (St w w3 b1 b2 bs br C F P R) := HS2.out.keeps ((Keeps.refl _ w2).drew.trans hk3)
            have HI3 : Hid (IsS 59 w3 wr.heap.size (C k) (max (F k) 1) 0) := HI2.out.keeps ((Keeps.refl _ w2).drew.trans hk3) (fun h => h)
            have HJ3 : Hid (IsS 61 w3 w2.heap.size (C k) (max (F k) 1) 0) := ht3
            clear ht3 hk3 q1 q2
            have q3 := HS3.out.sK hk2
            have q4 := HS3.out.rK hk2
            have g3 := frozen_of_blk HS3.out.s k
            have g4 := frozen_of_blk HS3.out.r k
            have hrs : br ≠ bs := ne_of_types HS3.out.r HS3.out.s (by decide)
            have q5 : (w3.setCell ⟨bs, k, none⟩ (.pointer (some ⟨wr.heap.size, 0, none⟩))).cell? ⟨br, k, none⟩ = some (pv (R k)) := (keeps_set w3 bs k _).cell q4 hrs
            have g5 : (w3.setCell ⟨bs, k, none⟩ (.pointer (some ⟨wr.heap.size, 0, none⟩))).frozen? ⟨br, k, none⟩ = false := frozen_of_blk (blk_set_ne HS3.out.r hrs _) k
            go_wp2_with fail
            go_roundw
            case rel =>
              refine ⟨k + 1, upd P k (some wr.heap.size), upd R k (some w2.heap.size), by omega, by go_num, HS3.out.put hk2 (.inr ⟨_, _, _, _, _, rfl, rfl, HI3.out, HJ3.out⟩) ?_ ?_ ?_ ?_⟩
              · intro j a hj e1 e2
                cases e1
                exact Nat.lt_irrefl _ (HS.out.ltP hj e2)
              · intro j a hj e1 e2
                cases e1
                exact Nat.lt_irrefl _ (HS2.out.ltR hj e2)
              · intro a e1
                cases e1
                exact HS.out.keep.size
              · intro a e1
                cases e1
                exact HS2.out.keep.size
            case measure => simp [intOf]; omega
      · have HOK : Hid (¬ (0 ≤ C k ∧ C k ≤ 65535 ∧ F k ≤ 281474976710655)) := hok
        clear hok
        go_wp2_with fail
        go_region_with (go_at_call 10; go_must (refine (of_noK _ (C k) (F k) m0 m1 m2 m3 HOK.out).mono ?_); rintro e w2 ⟨rfl, hk2'⟩)
        all_goals
          have HS2 : Hid (St w w2 b1 b2 bs br C F P R) := HS.out.keeps ((Keeps.refl _ wr).drew.trans hk2')
          clear q1 q2 hk2'
          have q1 := HS2.out.cK hk2
          have q2 := HS2.out.fK hk2
          go_wp2_with fail
          go_region_with (go_at_call 16; go_must (refine (refOf_noK _ (C k) (F k) m0 m1 m2 m3 HOK.out).mono ?_); rintro e w3 ⟨rfl, hk3⟩)
          all_goals
            have HS3 : Hid (St w w3 b1 b2 bs br C F P R) := HS2.out.keeps ((Keeps.refl _ w2).drew.trans hk3)
            clear hk3 q1 q2
            have q3 := HS3.out.sK hk2
            have q4 := HS3.out.rK hk2
            have g3 := frozen_of_blk HS3.out.s k
            have g4 := frozen_of_blk HS3.out.r k
            have hrs : br ≠ bs := ne_of_types HS3.out.r HS3.out.s (by decide)
            have q5 : (w3.setCell ⟨bs, k, none⟩ (.pointer none)).cell? ⟨br, k, none⟩ = some (pv (R k)) := (keeps_set w3 bs k _).cell q4 hrs
            have g5 : (w3.setCell ⟨bs, k, none⟩ (.pointer none)).frozen? ⟨br, k, none⟩ = false := frozen_of_blk (blk_set_ne HS3.out.r hrs _) k
            go_wp2_with fail
            go_roundw
            case rel => exact ⟨k + 1, upd P k none, upd R k none, by omega, by go_num, HS3.out.put hk2 (.inl ⟨rfl, rfl⟩) (fun j a hj e1 e2 => by cases e1) (fun j a hj e1 e2 => by cases e1) (fun a e1 => by cases e1) (fun a e1 => by cases e1)⟩
            case measure => simp [intOf]; omega
    · clear HC
      go_wp2_with fail
      rename World => wq
      go_loopw [20] (fun i wr => ∃ (k : Nat), k ≤ N ∧ i = .int .i64 k ∧ Hid (St w wr b1 b2 bs br C F P R)) (fun i _ => N - (intOf i).toNat)
      case atStart => exact ⟨0, by omega, rfl, HS.out⟩
      case round =>
        clear HS
        obtain ⟨i, hi, rfl, HS⟩ := hrel
        by_cases hi2 : i < N
        · obtain ⟨K, hK, hand⟩ : ∃ K : Nat, K < 2 ∧ bits .and .i64 ((i : Nat) : Int) 1 = (K : Nat) := ⟨i % 2, by omega, by rw [i64_and1]; omega⟩
          obtain ⟨b, off, rfl, hc⟩ := hrow.row.resolve_left (fun h => by have := HN.out; rw [h] at this; simp at this; omega)
          have HCI : Hid (w.cell? ⟨b, off + i, none⟩ = some (.int .i64 (ts.getD i 0))) := hc i (by have := HN.out; omega)
          clear hc
          generalize ts.getD i 0 = T at HCI
          obtain ⟨r, r0, r1, hr⟩ : ∃ r : Int, 0 ≤ r ∧ r ≤ 15 ∧ bits .and .i64 T 15 = r := ⟨T % 16, by omega, by omega, i64_and15 T⟩
          have q := HS.out.sK hK
          rcases HS.out.p K hK with ⟨hP, hR⟩ | ⟨a, b', c, n, l, hP, hR, _, _⟩
          · rw [hP] at q
            replace q : wr.cell? ⟨bs, K, none⟩ = some (.pointer none) := q
            clear hP hR
            go_wp2_with fail
            go_roundw
            case rel => exact ⟨i + 1, by omega, by go_num, HS.out⟩
            case measure => simp [intOf]; omega
          · rw [hP] at q
            replace q : wr.cell? ⟨bs, K, none⟩ = some (.pointer (some ⟨a, 0, none⟩)) := q
            have HP : Hid (P K = some a) := hP
            have HR : Hid (R K = some b') := hR
            clear hP hR
            go_wp2_with fail
            clear q
            rename World => wp
            go_loopw [22] (fun v wr => ∃ j : Int, 0 ≤ j ∧ j ≤ r + 1 ∧ v = .int .i64 j ∧ Hid (St w wr b1 b2 bs br C F P R)) (fun v _ => (r + 1 - intOf v).toNat)
            case atStart => exact ⟨0, by omega, by omega, rfl, HS.out⟩
            case round =>
              clear HS
              obtain ⟨j, j0, j1, rfl, HS⟩ := hrel
              have ct : wr.cell? ⟨b, off + i, none⟩ = some (.int .i64 T) := HS.out.keep.cell HCI.out (fun h => h)
              by_cases hj : j ≤ r
              · obtain ⟨c, n, l, HA, HB⟩ : ∃ c n l : Int, Hid (IsS 59 wr a c n l) ∧ Hid (IsS 61 wr b' c n l) := by
                  rcases HS.out.p K hK with ⟨h0, _⟩ | ⟨a1, a2, c, n, l, h1, h2, h3, h4⟩
                  · rw [HP.out] at h0; cases h0
                  · rw [HP.out] at h1; rw [HR.out] at h2; cases h1; cases h2
                    exact ⟨c, n, l, h3, h4⟩
                obtain ⟨x, e, n', l', e1, e2, e3, e4, hca, hcb⟩ := next_both c n l HA.out.n0 HA.out.n1 HA.out.c0 HA.out.c1
                have HCA : Hid _ := hca
                have HCB : Hid _ := hcb
                clear hca hcb
                have q1 : wr.cell? ⟨bs, K, none⟩ = some (.pointer (some ⟨a, 0, none⟩)) := by have := HS.out.sK hK; rwa [HP.out] at this
                go_wp2_with fail
                refine (HCA.out wr a HA.out).mono ?_
                rintro e5 w5 ⟨rfl, hs5, hk5⟩
                have hba : b' ≠ a := ne_of_types HB.out.blk HA.out.blk (by decide)
                have HB5 : Hid (IsS 61 w5 b' c n l) := HB.out.keeps hk5 hba
                have HA5 : Hid (IsS 59 w5 a c n' l') := hs5
                have HK5 : Hid (Keeps (fun k => k = a) wr w5) := hk5
                have q2 : w5.cell? ⟨br, K, none⟩ = some (.pointer (some ⟨b', 0, none⟩)) := hk5.cell (by have := HS.out.rK hK; rwa [HR.out] at this) (fun e => ne_of_types HS.out.r HA.out.blk (by decide) e)
                clear hs5 hk5 q1
                go_wp2_with fail
                refine (HCB.out w5 b' HB5.out).mono ?_
                rintro e6 w6 ⟨rfl, ht6, hk6⟩
                have HS6 : Hid (St w w6 b1 b2 bs br C F P R) := HS.out.next hK HP.out HR.out HA.out HB.out HA5.out HK5.out ht6 hk6
                have HA6 : Hid (IsS 59 w6 a c n' l') := HA5.out.keeps hk6 (fun e => hba e.symm)
                have HB6 : Hid (IsS 61 w6 b' c n' l') := ht6
                have q3 : w6.cell? ⟨bs, K, none⟩ = some (.pointer (some ⟨a, 0, none⟩)) := by have := HS6.out.sK hK; rwa [HP.out] at this
                have q4 : w6.cell? ⟨br, K, none⟩ = some (.pointer (some ⟨b', 0, none⟩)) := by have := HS6.out.rK hK; rwa [HR.out] at this
                clear ht6 hk6 q2
                go_wp2_with fail
                go_quiet ((first
                  | (go_at_call 13; exact Calls.quiet_of_same (last_any _ a c n' l' (HA6.out.keeps (keeps_drewN (fun _ => False) w6 _) (fun h => h))))
                  | (go_at_call 18; exact Calls.quiet_of_same (refLast_any _ b' c n' l' (HB6.out.keeps (keeps_drewN (fun _ => False) w6 _) (fun h => h))))
                  | (go_at_call 11; exact Calls.quiet_of_same (left_any _ a c n' l' (HA6.out.keeps (keeps_drewN (fun _ => False) w6 _) (fun h => h))))
                  | (go_at_call 19; exact Calls.quiet_of_same (refLeft_any _ b' c n' l' (HB6.out.keeps (keeps_drewN (fun _ => False) w6 _) (fun h => h))))))
                go_wp2_with fail
                go_roundw
                case rel => exact ⟨j + 1, by omega, by omega, by go_num, HS6.out.keeps (keeps_drewN _ w6 _)⟩
                case measure => simp [intOf]; omega
              · obtain ⟨K', hK', hsub⟩ : ∃ K' : Nat, K' < 2 ∧ (1 : Int) - (K : Nat) = (K' : Nat) := ⟨1 - K, by omega, by omega⟩
                have q := HS.out.sK hK'
                rcases HS.out.p K' hK' with ⟨hP, hR⟩ | ⟨a1, a2, c, n, l, hP, hR, h3, h4⟩
                · rw [hP] at q
                  replace q : wr.cell? ⟨bs, K', none⟩ = some (.pointer none) := q
                  clear hP hR
                  go_wp2_with fail
                  go_quiet (fail)
                  go_wp2_with fail
                  go_roundw
                  case rel => exact ⟨i + 1, by omega, by go_num, HS.out.keeps (keeps_drewN _ wr _)⟩
                  case measure => simp [intOf]; omega
                · have q2 := HS.out.rK hK'
                  rw [hP] at q
                  rw [hR] at q2
                  replace q : wr.cell? ⟨bs, K', none⟩ = some (.pointer (some ⟨a1, 0, none⟩)) := q
                  replace q2 : wr.cell? ⟨br, K', none⟩ = some (.pointer (some ⟨a2, 0, none⟩)) := q2
                  have HA : Hid (IsS 59 wr a1 c n l) := h3
                  have HB : Hid (IsS 61 wr a2 c n l) := h4
                  clear hP hR h3 h4
                  go_wp2_with fail
                  go_quiet ((first
                    | (go_at_call 13; exact Calls.quiet_of_same (last_any _ a1 c n l (HA.out.keeps (keeps_drewN (fun _ => False) wr _) (fun h => h))))
                    | (go_at_call 18; exact Calls.quiet_of_same (refLast_any _ a2 c n l (HB.out.keeps (keeps_drewN (fun _ => False) wr _) (fun h => h))))
                    | (go_at_call 11; exact Calls.quiet_of_same (left_any _ a1 c n l (HA.out.keeps (keeps_drewN (fun _ => False) wr _) (fun h => h))))
                    | (go_at_call 19; exact Calls.quiet_of_same (refLeft_any _ a2 c n l (HB.out.keeps (keeps_drewN (fun _ => False) wr _) (fun h => h))))))
                  go_wp2_with fail
                  go_roundw
                  case rel => exact ⟨i + 1, by omega, by go_num, HS.out.keeps (keeps_drewN _ wr _)⟩
                  case measure => simp [intOf]; omega
        · go_wp2_with fail
          go_ret
          exact ⟨rfl, HS.out.keep⟩
end Go.Proofs.Ytkapjgoomceglaa
