import Derived.Test.YtagekdmkidbhpaaGreatSv
import Derived.Test.YtagekdmkidbhpaaGreatLS
/- SameKept, SameLasts. -/
namespace Go.Proofs.YtagekdmkidbhpaaGreat
open Go.RowKit Go.Maps Go.Sort Orl
set_option linter.unusedVariables false
set_option linter.unusedSimpArgs false

theorem neqL (x1 y1 : Tx) (x2 y2 : Nat) (w : World) : (binOp .neq 53 (.agg #[.string x1, .int .u64 ((x2 : Nat) : Int)]) (.agg #[.string y1, .int .u64 ((y2 : Nat) : Int)])).run Tryz.prog w = .ok (.bool (!(decide (x1 = y1) && decide (x2 = y2)))) w := by
  have u9 := Tryz.underlying9
  have a9 := Tryz.isAgg9
  have z9 := Tryz.sizeOf9
  have ui := Tryz.underlying42
  have ai := Tryz.isAgg42
  have zi := Tryz.sizeOf42
  have hS : Tryz.prog.underlying 53 = some (.struct (Tryz.prog.fieldsOf 53)) := by kernel_rfl
  have hp : Tryz.prog.stoodInHeld 53 = false := by kernel_rfl
  rw [run_neq_struct, show (10000 : Nat) = 9999 + 1 from rfl, run_equalIn_agg w 9999 53 _ _ hS hp]
  simp only [Program.fieldsOf, Tryz.underlying53]
  go_simp
  by_cases h1 : x1 = y1 <;> by_cases h2 : x2 = y2 <;> simp [h1, h2, toList_inj] <;> omega
def KvEq (x y : KV) : Prop := x.m = y.m ∧ x.val = y.val ∧ x.keys = y.keys ∧ x.stamp = y.stamp
def KsEq (a b : List KV) : Prop := a.length = b.length ∧ ∀ j, j < a.length → KvEq (a.getD j kv0) (b.getD j kv0)
def OkKs (w : World) (ks : List KV) : Prop := ∀ x ∈ ks, Sl TE w x.o x.c x.keys ∧ x.keys.length ≤ 1048576
theorem OkKs.keepsN {w w' : World} {ks : List KV} (h : OkKs w ks) (hk : Keeps no w w') : OkKs w' ks := fun x hx => ⟨(h x hx).1.keepsN hk, (h x hx).2⟩
set_option maxRecDepth 10000 in
set_option maxHeartbeats 1000000 in
theorem sameKept_any (w : World) (oa : Option Addr) (na ca : Nat) (ob : Option Addr) (nb cb : Nat) (ka kb : List KV) (hna : na = ka.length) (hnb : nb = kb.length) (hla : ka.length ≤ 1954687338211) (ha : Sl KE w oa ca ka) (hb : Sl KE w ob cb kb) (hoa : OkKs w ka) (hob : OkKs w kb) (he : KsEq ka kb) :
    Calls Tryz.prog 9 #[.slice oa na ca, .slice ob nb cb] w fun e w' => e = .returned (.bool true) ∧ Keeps no w w' := by
  have hnn : nb = na := by rw [hna, hnb, he.1]
  subst hnn
  have HA : Hid (nb = ka.length ∧ nb = kb.length ∧ Sl KE w oa ca ka ∧ Sl KE w ob cb kb ∧ OkKs w ka ∧ OkKs w kb ∧ KsEq ka kb) := ⟨hna, hnb, ha, hb, hoa, hob, he⟩
  have hA : (nb : Int) ≤ 1954687338211 := by omega
  clear hna hnb hla ha hb hoa hob he
  go_enter Tryz.func9, Tryz.ntmps9
  go_wp2_with fail
  go_loopw [5] (fun i wr => ∃ k : Nat, k ≤ nb ∧ i = .int .i64 k ∧ Hid (Keeps no w wr)) (fun i _ => nb - (intOf i).toNat)
  case atStart => exact ⟨0, by omega, rfl, Keeps.refl _ _⟩
  case round =>
    obtain ⟨k, hk, rfl, HK⟩ := hrel
    by_cases hlt : k < nb
    · have hlt' : (k : Int) < nb := by omega
      have hka : k < ka.length := by have := HA.out.1; omega
      have hkb : k < kb.length := by have := HA.out.2.1; omega
      obtain ⟨b1, off1, e1, d0, d1, d2, d3, d4⟩ := (HA.out.2.2.1.keepsN HK.out).atK hka
      obtain ⟨b2, off2, e2, f0, f1, f2, f3, f4⟩ := (HA.out.2.2.2.1.keepsN HK.out).atK hkb
      have heq := HA.out.2.2.2.2.2.2.2 k hka
      have hx1 := HA.out.2.2.2.2.1 _ (getD_mem_lt kv0 hka)
      have hx2 := HA.out.2.2.2.2.2.1 _ (getD_mem_lt kv0 hkb)
      generalize ka.getD k kv0 = x at *
      generalize kb.getD k kv0 = y at *
      obtain ⟨⟨xk, xi⟩, xv, xo, xc, xks, xst⟩ := x
      obtain ⟨⟨yk, yi⟩, yv, yo, yc, yks, yst⟩ := y
      obtain ⟨q1, q2, q3, q4⟩ := heq
      simp only at q1 q2 q3 q4
      injection q1 with q1 q1'
      subst q1 q1' q2 q3 q4
      simp only at d0 d1 d2 d3 d4 f0 f1 f2 f3 f4 hx1 hx2
      obtain ⟨nk, hnk⟩ : ∃ nk, nk = xks.length := ⟨_, rfl⟩
      rw [← hnk] at d3 f3
      subst e1 e2
      have cS := call_grown (W := wr) (f := 17) (args := #[.agg #[.string xk, .int .u64 ((xi : Nat) : Int), .string xv, .slice xo nk xc], .agg #[.string xk, .int .u64 ((xi : Nat) : Int), .string xv, .slice yo nk yc]]) (v := .bool true) (fun X hX => (sameVersion_any X ⟨xk, _, xv, xo, nk, xc⟩ ⟨xk, _, xv, yo, nk, yc⟩ xks xks hnk hnk (by have := hx1.2; omega) (by have := hx1.2; omega) (hx1.1.keepsN (HK.out.trans hX)) (hx2.1.keepsN (HK.out.trans hX))).mono (fun e w' ⟨⟨B, hB, hB2⟩, hk⟩ => ⟨by rw [hB, hB2.out.2 ⟨rfl, rfl, rfl, rfl⟩], hk⟩))
      have z0 := cell_regrown d0
      have z1 := cell_regrown d1
      have z2 := cell_regrown d2
      have z3 := cell_regrown d3
      have z4 := cell_regrown d4
      have y0 := cell_regrown f0
      have y1 := cell_regrown f1
      have y2 := cell_regrown f2
      have y3 := cell_regrown f3
      have y4 := cell_regrown f4
      clear hka hkb hx1 hx2 hnk d0 d1 d2 d3 d4 f0 f1 f2 f3 f4
      go_wp2_with fail
      refine wp_region_quiet_below (by kernel_rfl) (by kernel_rfl) ?_
      repeat (go_big_quiet_step (exact cS _ _))
      refine wpQuiet_nil ?_
      intro _ hw'
      obtain ⟨⟨dq, osq⟩, rfl⟩ := hw'
      have H2 : Hid (Keeps no w (Sort.grow (redrawn wr dq) osq)) := HK.out.trans (keeps_grownQ ..)
      generalize Sort.grow (redrawn wr dq) osq = w2 at H2 ⊢
      clear cS z0 z1 z2 z3 z4 y0 y1 y2 y3 y4
      go_wp2_with fail
      go_roundw
      case rel => exact ⟨k + 1, by omega, by go_num, H2⟩
      case measure => simp [intOf]; omega
    · have hlt' : ¬ (k : Int) < nb := by omega
      go_wp2_with fail
      go_ret
      exact ⟨rfl, HK.out⟩
set_option maxRecDepth 10000 in
theorem sameLasts_any (w : World) (oa : Option Addr) (na ca : Nat) (ob : Option Addr) (nb cb : Nat) (ls : List Mk) (hna : na = ls.length) (hnb : nb = ls.length) (hla : ls.length ≤ 5864062014634) (ha : Sl LE w oa ca ls) (hb : Sl LE w ob cb ls) :
    Calls Tryz.prog 11 #[.slice oa na ca, .slice ob nb cb] w fun e w' => e = .returned (.bool true) ∧ Keeps no w w' := by
  have hnn : nb = na := by rw [hna, hnb]
  subst hnn
  have HA : Hid (nb = ls.length ∧ Sl LE w oa ca ls ∧ Sl LE w ob cb ls) := ⟨hna, ha, hb⟩
  have hA : (nb : Int) ≤ 5864062014634 := by omega
  clear hna hnb hla ha hb
  go_enter Tryz.func11, Tryz.ntmps11
  go_wp2_with fail
  go_loopw [5] (fun i wr => ∃ k : Nat, k ≤ nb ∧ i = .int .i64 k ∧ Hid (Keeps no w wr)) (fun i _ => nb - (intOf i).toNat)
  case atStart => exact ⟨0, by omega, rfl, Keeps.refl _ _⟩
  case round =>
    obtain ⟨k, hk, rfl, HK⟩ := hrel
    by_cases hlt : k < nb
    · have hlt' : (k : Int) < nb := by omega
      have hka : k < ls.length := by have := HA.out.1; omega
      obtain ⟨b1, off1, e1, d0, d1⟩ := (HA.out.2.1.keepsN HK.out).atL hka
      obtain ⟨b2, off2, e2, f0, f1⟩ := (HA.out.2.2.keepsN HK.out).atL hka
      generalize ls.getD k (e0, 0) = x at *
      obtain ⟨xk, xi⟩ := x
      simp only at d0 d1 f0 f1
      subst e1 e2
      have hne := fun W => neqL xk xk xi xi W
      simp only [decide_true, Bool.and_self, Bool.not_true] at hne
      clear hka
      go_wp2_with fail
      go_quiet (fail)
      go_wp2_with fail
      go_roundw
      case rel => exact ⟨k + 1, by omega, by go_num, HK.out.trans (kq_of rfl rfl rfl rfl)⟩
      case measure => simp [intOf]; omega
    · have hlt' : ¬ (k : Int) < nb := by omega
      go_wp2_with fail
      go_ret
      exact ⟨rfl, HK.out⟩
end Go.Proofs.YtagekdmkidbhpaaGreat
