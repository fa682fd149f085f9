/- may: whether an event may be, by itself. -/
import Derived.Test.YtjkljljmjjnneaaGreatDoorW3
namespace Go.Proofs.YtjkljljmjjnneaaGreatDoor
open Go.RowKit Go.Sort Orl
set_option linter.unusedVariables false
set_option linter.unusedSimpArgs false

def zeroB (x q : Int) (i : Nat) (vs : List Ver) : Bool := decide (x = 0) && decide (q = 0) && decide (i = 0) && decide (vs.length = 0)
def verB (v : Ver) : Bool := !decide (v.id = 0) || (decide (v.val.size = 0) && decide (v.keys.length = 0))
def ansB (x q : Int) (vs : List Ver) (t : Int) : Bool := decide (x = t) && decide (1 ≤ q) && decide (q ≤ 6) && vs.all verB
def mayB (e : Ev) : Bool := decide (0 ≤ e.client ∧ e.client < 16) && decide (1 ≤ e.txn) &&
  (if e.kind = 1 then decide (e.keys.length = 0) && zeroB e.atxn e.ares e.aid e.vers
   else if e.kind = 2 then decide (e.id = 0) && decide (e.pairs.length = 0) && zeroB e.atxn e.ares e.aid e.vers
   else if e.kind = 3 then decide (e.id = 0) && decide (e.pairs.length = 0) && decide (e.keys.length = 0) && ansB e.atxn e.ares e.vers e.txn
   else false)
theorem isClient_any (w : World) (c : Int) : Calls Tryz.prog 21 #[.int .i64 c] w fun e w' => e = .returned (.bool (decide (0 ≤ c ∧ c < 16))) ∧ w' = w := by
  by_cases h1 : 0 ≤ c
  · have e : decide (0 ≤ c ∧ c < 16) = decide (c < 16) := by rw [decide_eq_decide]; constructor <;> intro h <;> omega
    rw [e]
    go_enter Tryz.func21, Tryz.ntmps21
    go_wp2_with fail
    go_ret
    exact ⟨rfl, rfl⟩
  · rw [decide_eq_false (by omega)]
    go_enter Tryz.func21, Tryz.ntmps21
    go_wp2_with fail
    go_ret
    exact ⟨rfl, rfl⟩
theorem isZero_any (w : World) (x q : Int) (i : Nat) (vo : Option Addr) (vn vc : Nat) (vs : List Ver) (hn : vn = vs.length) (hb : (vn : Int) ≤ 2199023255500) :
    Calls Tryz.prog 30 #[.agg #[.int .i64 x, .int .i64 q, .int .u64 (i : Nat), .slice vo vn vc]] w fun e w' => e = .returned (.bool (zeroB x q i vs)) ∧ Keeps no w w' := by
  unfold zeroB
  rw [← hn]
  clear hn
  have HK : Hid (∀ cs t, Keeps no w (w.alloc (.cells cs t))) := fun cs t => (Keeps.refl _ _).alloc _
  by_cases h1 : x = 0
  · subst h1
    by_cases h2 : q = 0
    · subst h2
      by_cases h3 : i = 0
      · subst h3
        by_cases h4 : vn = 0
        · subst h4
          go_enter Tryz.func30, Tryz.ntmps30
          go_wp2_with fail
          go_ret
          exact ⟨rfl, HK.out _ _⟩
        · have h4' : ¬ (vn : Int) = 0 := by omega
          rw [decide_eq_false h4]
          go_enter Tryz.func30, Tryz.ntmps30
          go_wp2_with fail
          go_ret
          exact ⟨by simp [h4], HK.out _ _⟩
      · have h3' : ¬ (i : Int) = 0 := by omega
        rw [decide_eq_false h3]
        go_enter Tryz.func30, Tryz.ntmps30
        go_wp2_with fail
        go_ret
        exact ⟨by simp, HK.out _ _⟩
    · rw [decide_eq_false h2]
      go_enter Tryz.func30, Tryz.ntmps30
      go_wp2_with fail
      go_ret
      exact ⟨by simp, HK.out _ _⟩
  · rw [decide_eq_false h1]
    go_enter Tryz.func30, Tryz.ntmps30
    go_wp2_with fail
    go_ret
    exact ⟨by simp, HK.out _ _⟩
theorem all_take {α : Type} (f : α → Bool) (d : α) (l : List α) (k : Nat) (h : k < l.length) : (l.take (k + 1)).all f = ((l.take k).all f && f (l.getD k d)) := by
  rw [take_succ_getD l k d h, List.all_append]; simp
theorem all_false {α : Type} (f : α → Bool) (l : List α) (k : Nat) (h : (l.take k).all f = false) : l.all f = false := by
  have e := List.take_append_drop k l
  rw [← e, List.all_append, h, Bool.false_and]
set_option maxRecDepth 10000 in
set_option maxHeartbeats 4000000 in
theorem mayAnswer_any (w : World) (x q : Int) (i : Nat) (vo : Option Addr) (vn vc : Nat) (rs : List RV) (vs : List Ver) (t : Int) (hn : vn = vs.length) (hv : Vers w vo vc rs vs) (hb : (vn : Int) ≤ 2199023255500) (hk : ∀ v ∈ vs, v.keys.length ≤ 8796093022000) :
    Calls Tryz.prog 31 #[.agg #[.int .i64 x, .int .i64 q, .int .u64 (i : Nat), .slice vo vn vc], .int .i64 t] w fun e w' => e = .returned (.bool (ansB x q vs t)) ∧ Keeps no w w' := by
  have HV : Hid (vn = vs.length ∧ Vers w vo vc rs vs ∧ ∀ v ∈ vs, v.keys.length ≤ 8796093022000) := ⟨hn, hv, hk⟩
  have HK : Hid (∀ cs t, Keeps no w (w.alloc (.cells cs t))) := fun cs t => (Keeps.refl _ _).alloc _
  unfold ansB
  clear hn hv hk
  by_cases h1 : x = t
  · subst h1
    rw [decide_eq_true rfl]
    by_cases h2 : 1 ≤ q
    · have h2' : ¬ q < 1 := by omega
      by_cases h3 : q ≤ 6
      · have h3' : ¬ q > 6 := by omega
        rw [decide_eq_true h2, decide_eq_true h3]
        simp only [Bool.true_and]
        have HK1 : Hid (∀ cs t, ∀ W, W = w.alloc (.cells cs t) → Keeps no w W) := by
          rintro cs t W rfl; exact HK.out _ _
        go_enter Tryz.func31, Tryz.ntmps31
        go_wp2_with fail
        go_loopw [24] (fun s24 wr => ∃ k : Nat, k ≤ vn ∧ s24 = .int .i64 (k : Nat) ∧ Hid (Keeps no w wr ∧ (vs.take k).all verB = true)) (fun s24 _ => vn - (intOf s24).toNat)
        case atStart => exact ⟨0, by omega, rfl, HK.out _ _, rfl⟩
        case round =>
          rename World => wr
          obtain ⟨k, hkk, rfl, HR⟩ := hrel
          by_cases hlt : k < vn
          · have hlt' : (k : Int) < vn := by omega
            have hkl : k < vs.length := by have := HV.out.1; omega
            have hvk := HV.out.2.1.keepsN HR.out.1
            obtain ⟨g, off, e0', c0, c1, c2, c3⟩ := hvk.sl.atV (j := k) (by rw [hvk.len]; exact hkl)
            have hve := HV.out.2.1.each k hkl
            have HAL : Hid ((vs.take (k + 1)).all verB = verB (vs.getD k v0)) := by
              show _ = _
              rw [all_take _ v0 _ _ hkl, HR.out.2, Bool.true_and]
            have hkn : ((vs.getD k v0).keys.length : Int) ≤ 8796093022000 := by have := HV.out.2.2 _ (getD_mem_lt v0 hkl); omega
            obtain ⟨r, hr⟩ : ∃ r, r = rs.getD k r0 := ⟨_, rfl⟩
            rw [← hr] at c0 c1 c2 c3 hve
            generalize vs.getD k v0 = v at HAL hve hkn
            clear hr hvk hkl
            obtain ⟨rk, ri, rv, ro, rn, rc⟩ := r
            obtain ⟨d1, d2, d3, d4, -⟩ := hve
            simp only at c0 c1 c2 c3 d1 d2 d3 d4
            subst d1 d2 d3 d4
            subst e0'
            have HN : Hid (∀ cs t, Keeps no w (wr.alloc (.cells cs t))) := fun cs t => HR.out.1.trans ((Keeps.refl _ _).alloc _)
            by_cases e1 : v.id = 0
            · have e1' : ((v.id : Nat) : Int) = 0 := by omega
              by_cases e2 : v.val.size = 0
              · have hz : v.val.data.toList = [] := List.length_eq_zero_iff.1 (by rw [Array.length_toList]; exact e2)
                have ht : (v.val.toList == ([] : List UInt8)) = true := by rw [Lib.toList_data, hz]; rfl
                by_cases e3 : v.keys.length = 0
                · have HB : Hid ((vs.take (k + 1)).all verB = true) := by show _ = _; rw [HAL.out]; unfold verB; simp [e1, e2, e3]
                  clear hz HAL
                  rw [e3] at c3
                  go_wp2_with fail
                  go_roundw
                  case rel => exact ⟨k + 1, by omega, by go_num, HN.out _ _, HB.out⟩
                  case measure => first | (simp [intOf]; done) | (simp [intOf]; omega)
                · have e3' : ¬ ((v.keys.length : Nat) : Int) = 0 := by omega
                  have HB : Hid (vs.all verB = false) := all_false _ _ (k + 1) (by rw [HAL.out]; unfold verB; simp [e1, e3])
                  clear hz HAL
                  generalize v.keys.length = n3 at c3 e3 e3' hkn
                  go_wp2_with fail
                  go_ret
                  exact ⟨by simp [HB.out, h2, h3], HN.out _ _⟩
              · have ht : (v.val.toList == ([] : List UInt8)) = false := by
                  rw [Lib.toList_data, beq_eq_false_iff_ne]
                  intro e
                  apply e2
                  have := congrArg List.length e
                  rw [Array.length_toList] at this
                  exact this
                have HB : Hid (vs.all verB = false) := all_false _ _ (k + 1) (by rw [HAL.out]; unfold verB; simp [e1, e2])
                clear HAL
                go_wp2_with fail
                go_ret
                exact ⟨by simp [HB.out, h2, h3], HN.out _ _⟩
            · have e1' : ¬ ((v.id : Nat) : Int) = 0 := by omega
              have HB : Hid ((vs.take (k + 1)).all verB = true) := by show _ = _; rw [HAL.out]; unfold verB; simp [e1]
              clear HAL
              go_wp2_with fail
              go_roundw
              case rel => exact ⟨k + 1, by omega, by go_num, HN.out _ _, HB.out⟩
              case measure => first | (simp [intOf]; done) | (simp [intOf]; omega)
          · have hlt' : ¬ (k : Int) < vn := by omega
            have HE : Hid (vs.all verB = true) := by
              have := HR.out.2
              rw [List.take_of_length_le (by have := HV.out.1; omega)] at this
              exact this
            go_wp2_with fail
            go_ret
            exact ⟨by simp [HE.out, h2, h3], HR.out.1⟩
      · have h3' : q > 6 := by omega
        rw [decide_eq_false h3]
        go_enter Tryz.func31, Tryz.ntmps31
        go_wp2_with fail
        go_ret
        exact ⟨by simp, HK.out _ _⟩
    · have h2' : q < 1 := by omega
      rw [decide_eq_false h2]
      go_enter Tryz.func31, Tryz.ntmps31
      go_wp2_with fail
      go_ret
      exact ⟨by simp, HK.out _ _⟩
  · rw [decide_eq_false h1]
    go_enter Tryz.func31, Tryz.ntmps31
    go_wp2_with fail
    go_ret
    exact ⟨by simp, HK.out _ _⟩
end Go.Proofs.YtjkljljmjjnneaaGreatDoor
