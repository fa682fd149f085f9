import Derived.Test.YtileipnoiocdlaaWE
import Derived.Lib.QuietBelow
/- The law's worlds: what is committed last. -/
namespace Go.Proofs.Ytileipnoiocdlaa
open Go.RowKit Go.Sort Orl
set_option linter.unusedVariables false
set_option linter.unusedSimpArgs false

def hasB (ws : List Wr) (i : Nat) (k : Tx) : Bool := inn (ws.getD i wr0).1 k
def donB (P : Nat) (ws : List Wr) (i : Nat) (k : Tx) : Bool := decide ((ws.getD i wr0).2 / 2 ^ pl P k % 2 = 1)
/-- of the first j writes the last that is committed where the key is -/
def latP (P : Nat) (ws : List Wr) (k : Tx) : Nat → Ver
  | 0 => botV' k
  | j + 1 => if (hasB ws j k && donB P ws j k) = true then verP ws j k else latP P ws k j
theorem u64_bit (x : Nat) : bits .and .u64 (x : Int) 1 = ((x % 2 : Nat) : Int) := by
  have h1 : (BitVec.ofInt 64 1).toNat = 2 ^ 1 - 1 := by decide
  have key : (BitVec.ofInt 64 (x : Int) &&& BitVec.ofInt 64 1).toNat = ((x : Int) % ((2 ^ 64 : Nat) : Int)).toNat % 2 ^ 1 := by
    rw [BitVec.toNat_and, BitVec.toNat_ofInt, h1, Nat.and_two_pow_sub_one_eq_mod]
  show IntKind.u64.wrap ((BitVec.ofInt 64 (x : Int) &&& BitVec.ofInt 64 1).toNat : Nat) = _
  rw [key, IntKind.wrap_u64]
  omega
structure GoodW (ws : List Wr) : Prop where
  len : ws.length ≤ 12
  val : ∀ j, j < ws.length → valK (ws.getD j wr0).1 = true
  done : ∀ j, j < ws.length → (ws.getD j wr0).2 < 18446744073709551616
theorem GoodW.fit {ws : List Wr} (h : GoodW ws) : FitWs ws := by
  have key : ∀ x ∈ ws, ∃ j, j < ws.length ∧ ws.getD j wr0 = x := fun x hx => by
    obtain ⟨j, hj, e⟩ := List.getElem_of_mem hx
    exact ⟨j, hj, by rw [List.getD_eq_getElem?_getD, List.getElem?_eq_getElem hj, e]; rfl⟩
  refine ⟨by have := h.len; omega, fun x hx => ?_, fun x hx => ?_⟩
  · obtain ⟨j, hj, rfl⟩ := key x hx
    have := (valK_iff _).1 (h.val j hj)
    exact ⟨by have := this.1.2; omega, fun k hk => by have := this.2.1 k hk; omega⟩
  · obtain ⟨j, hj, rfl⟩ := key x hx
    exact h.done j hj
theorem verTo_of {w w1 w' : World} {v : Ver} {e : Ending} (h : VerTo w1 v e w') (k : Keeps no w w1) : VerTo w v e w' := by
  obtain ⟨r, he, hv, hn, hk⟩ := h
  exact ⟨r, he, hv, hn.of_le k.size, k.trans hk⟩
set_option maxRecDepth 10000 in
set_option maxHeartbeats 2000000 in
theorem latest_any (w : World) (P : Nat) (o : Option Addr) (n c : Nat) (rs : List RWr) (ws : List Wr) (hn : n = ws.length) (hw : Wrs w o c rs ws) (hf : GoodW ws) (h1 : 1 ≤ P) (h2 : P ≤ 64) (k : Tx) (hk : k.size ≤ 140737488351232) :
    Calls Try.prog 37 #[aggWd (P : Int) o n c, .string k] w (VerTo w (latP P ws k ws.length)) := by
  have HW : Hid (Wrs w o c rs ws ∧ GoodW ws ∧ n = ws.length ∧ (1 ≤ P ∧ P ≤ 64) ∧ k.size ≤ 140737488351232) := ⟨hw, hf, hn, ⟨h1, h2⟩, hk⟩
  have hn12 : (n : Int) ≤ 12 := by have := hf.len; omega
  obtain ⟨A, hA⟩ : ∃ A, A = w.heap.size := ⟨_, rfl⟩
  have HA : Hid (w.heap.size = A) := hA.symm
  have HK : Hid (∀ W, W = (w.alloc (.cells #[.int .i64 P, .slice o n c] 59)).alloc (.cells #[.string ⟨#[]⟩, .int .u64 0, .string ⟨#[]⟩, .slice none 0 0] 46) → (W.heap[A]? = some (.cells #[.int .i64 P, .slice o n c] 59 (0, 0)) ∧ W.heap[A + 1]? = some (.cells #[.string ⟨#[]⟩, .int .u64 0, .string ⟨#[]⟩, .slice none 0 0] 46 (0, 0))) ∧ Keeps no w W) := by
    rintro W rfl
    have h := two_blk w (.cells #[.int .i64 P, .slice o n c] 59) (.cells #[.string ⟨#[]⟩, .int .u64 0, .string ⟨#[]⟩, .slice none 0 0] 46)
    rw [← hA] at h
    exact ⟨h, ((Keeps.refl _ _).alloc _).alloc _⟩
  have hPn : (P : Int) ≤ 64 := by omega
  clear hn hw hf h1 h2 hk
  unfold aggWd
  go_enter Try.func37, Try.ntmps37
  go_upto_region 1 with fail
  have h1 := HK.out _ rfl
  rw [← hA]
  clear hA
  generalize (w.alloc (.cells #[.int .i64 P, .slice o n c] 59)).alloc (.cells #[.string ⟨#[]⟩, .int .u64 0, .string ⟨#[]⟩, .slice none 0 0] 46) = w1 at h1 ⊢
  have HB1 : Hid (w1.heap[A]? = some (.cells #[.int .i64 P, .slice o n c] 59 (0, 0)) ∧ w1.heap[A + 1]? = some (.cells #[.string ⟨#[]⟩, .int .u64 0, .string ⟨#[]⟩, .slice none 0 0] 46 (0, 0)) ∧ Keeps no w w1) := ⟨h1.1.1, h1.1.2, h1.2⟩
  have c1 : w1.cell? ⟨A, 1, none⟩ = some (.slice o n c) := by rw [cell_of_blk h1.1.1]; rfl
  clear h1 HK
  go_wp2_with fail
  go_loopw [5] (fun s wr => ∃ j : Nat, j ≤ n ∧ s = .int .i64 ((j : Int) - 1) ∧ Hid (latP P ws k n = latP P ws k j ∧ Keeps no w1 wr)) (fun s _ => (intOf s + 1).toNat)
  case atStart => exact ⟨n, by omega, rfl, rfl, Keeps.refl _ _⟩
  case round =>
    rename World => wr
    obtain ⟨j, hj, rfl, HI⟩ := hrel
    rcases j with _ | j
    · have hlt : ¬ (((0 : Nat) : Int) - 1 ≥ 0) := by omega
      have hz0 := HI.out.2.at HB1.out.2.1 id
      obtain ⟨x0, x1, x2, x3⟩ := cells4 hz0
      have f0 := frozen_of_blk hz0 0
      have f1 := frozen_of_blk hz0 1
      have f2 := frozen_of_blk hz0 2
      have f3 := frozen_of_blk hz0 3
      have hS4 := set4 (b0 := .string k) (b1 := .int .u64 0) (b2 := .string ⟨#[]⟩) (b3 := .slice none 0 0) hz0
      have HKE : Hid (Keeps no w _) := (HB1.out.2.2.trans HI.out.2).then hS4.2 (fun q e => .inr (by have := HA.out; unfold eqB at e; omega))
      have HLE : Hid (latP P ws k ws.length = botV' k) := by have := HI.out.1; rwa [HW.out.2.2.1] at this
      clear HI
      go_wp2_with fail
      (try simp only [Exit.inBlock, Exit.then])
      refine bodyPost_ret (results_row1 rfl _ _ (A + 1) _ rfl (run_loadVar_row _ _ _ _ _ _ _ hS4.1 Try.underlying46 rfl (ver_size _ _ _ _))) rfl ?_
      rw [HLE.out]
      exact ⟨⟨k, 0, e0, none, 0, 0⟩, rfl, ⟨rfl, rfl, rfl, rfl, own_nil _⟩, new_none _, HKE.out⟩
    · have hjw : j < ws.length := by have := HW.out.2.2.1; omega
      have e1 : (((j + 1 : Nat) : Int) - 1) = (j : Int) := by omega
      rw [e1]
      clear e1
      have hj0 : (0 : Int) ≤ (j : Int) := by omega
      have hjn : (j : Int) < n := by omega
      have K1 : Keeps no w wr := HB1.out.2.2.trans HI.out.2
      have hWr := HW.out.1.keepsN K1
      obtain ⟨b, off, ko, kc, ho, d0, d1, hs⟩ := hWr.at hjw
      subst ho
      have a1 : wr.cell? ⟨A, 1, none⟩ = some (.slice (some ⟨b, off, none⟩) n c) := HI.out.2.cellN c1
      have a0 : wr.cell? ⟨A, 0, none⟩ = some (.int .i64 (P : Nat)) := HI.out.2.cellN (by rw [cell_of_blk HB1.out.1]; rfl)
      have HHB : Hid (Calls Try.prog 38 #[.agg #[.int .i64 (P : Nat), .slice (some ⟨b, off, none⟩) n c], .int .i64 (j : Nat), .string k] wr fun e w' => e = .returned (.bool (hasB ws j k)) ∧ Keeps no wr w') := has_any wr _ _ n c rs ws HW.out.2.2.1 hWr HW.out.2.1.fit j hjw k
      have HHG : Hid (∀ d os, Calls Try.prog 38 #[.agg #[.int .i64 (P : Nat), .slice (some ⟨b, off, none⟩) n c], .int .i64 (j : Nat), .string k] (Sort.grow (redrawn wr d) os) fun e w'' => e = .returned (.bool (hasB ws j k)) ∧ ∃ p : Regrown, w'' = Sort.grow (redrawn wr p.d) p.os) := fun d os => call_grown (fun X hX => has_any X _ _ n c rs ws HW.out.2.2.1 (hWr.keepsN hX) HW.out.2.1.fit j hjw k) d os
      have HPG : Hid (∀ d os, Calls Try.prog 55 #[.string k, .int .i64 (P : Nat)] (Sort.grow (redrawn wr d) os) fun e w'' => e = .returned (.int .i64 (pl P k : Nat)) ∧ ∃ p : Regrown, w'' = Sort.grow (redrawn wr p.d) p.os) := fun d os => call_grown (fun X hX => (part_any X k P HW.out.2.2.2.1.1 HW.out.2.2.2.1.2 (by have := HW.out.2.2.2.2; unfold maxLen; omega)).mono fun e w' ⟨he, hw'⟩ => ⟨he, by rw [hw']; exact Keeps.refl _ _⟩) d os
      have HVR : Hid (∀ X, Keeps no wr X → hasB ws j k = true → Calls Try.prog 39 #[.agg #[.int .i64 (P : Nat), .slice (some ⟨b, off, none⟩) n c], .int .i64 (j : Nat), .string k] X (VerTo X (verP ws j k))) := fun X hX _ => version_any X _ _ n c rs ws HW.out.2.2.1 (hWr.keepsN hX) HW.out.2.1.fit j hjw (by have := HW.out.2.1.len; omega) k HW.out.2.2.2.2 (HW.out.2.1.val j hjw)
      have HST : Hid (latP P ws k (j + 1) = if (hasB ws j k && donB P ws j k) = true then verP ws j k else latP P ws k j) := rfl
      have HQ : Hid (pl P k < 64 ∧ (ws.getD j wr0).2 < 18446744073709551616 ∧ donB P ws j k = decide ((ws.getD j wr0).2 / 2 ^ pl P k % 2 = 1)) := ⟨Nat.lt_of_lt_of_le (pl_lt k (by have := HW.out.2.2.2.1.1; omega)) HW.out.2.2.2.1.2, HW.out.2.1.done j hjw, rfl⟩
      generalize (ws.getD j wr0).2 = dn at d1 HQ
      generalize pl P k = Q at HPG HQ
      generalize hasB ws j k = hB at HHB HHG HVR HST
      generalize donB P ws j k = dB at HST HQ
      generalize verP ws j k = vP at HVR HST
      have hq0 : (Q : Int) < 64 := by have := HQ.out.1; omega
      have s0 := cell_regrown a0
      have s1 := cell_regrown a1
      have s2 := cell_regrown d1
      clear hWr hs d0 hjw
      cases hB with
      | false =>
        go_wp2_with fail
        refine wp_region_quiet_below (by kernel_rfl) (by kernel_rfl) ?_
        repeat (go_big_quiet_step (first | exact HHG.out _ _ | exact HPG.out _ _))
        refine wpQuiet_nil ?_
        intro _ hw'
        obtain ⟨⟨dq, osq⟩, rfl⟩ := hw'
        have K2 : Hid (Keeps no w1 (Sort.grow (redrawn wr dq) osq)) := HI.out.2.trans (keeps_grown ..)
        generalize Sort.grow (redrawn wr dq) osq = u1 at K2 ⊢
        have HN : Hid (latP P ws k n = latP P ws k j) := by show _ = _; rw [HI.out.1, HST.out, if_neg (by simp)]
        clear a0 a1 d1 s0 s1 s2 HHB HHG HPG HVR HI
        go_wp2_with fail
        go_roundw
        case rel => exact ⟨j, by omega, rfl, HN.out, K2.out⟩
        case measure => first | (simp [intOf]; done) | (simp [intOf]; omega)
      | true =>
        have HBT : Hid ((bits .and .u64 ((dn : Int) / 2 ^ Q) 1 == 1) = dB) := by
          show _ = _
          have hbit := u64_bit (dn / 2 ^ Q)
          have e : (((dn / 2 ^ Q : Nat)) : Int) = (dn : Int) / 2 ^ Q := by simp
          rw [← e, hbit, HQ.out.2.2]
          rw [Bool.eq_iff_iff, beq_iff_eq, decide_eq_true_eq]
          omega
        go_wp2_with fail
        refine wp_region_quiet_below (by kernel_rfl) (by kernel_rfl) ?_
        repeat (go_big_quiet_step (first | exact HHG.out _ _ | exact HPG.out _ _))
        rw [HBT.out]
        refine wpQuiet_nil ?_
        intro _ hw'
        obtain ⟨⟨dq, osq⟩, rfl⟩ := hw'
        have K2 : Hid (Keeps no w1 (Sort.grow (redrawn wr dq) osq) ∧ Keeps no wr (Sort.grow (redrawn wr dq) osq)) := ⟨HI.out.2.trans (keeps_grown ..), keeps_grown ..⟩
        generalize Sort.grow (redrawn wr dq) osq = u1 at K2 ⊢
        have HN : Hid (latP P ws k n = if dB = true then vP else latP P ws k j) := by show _ = _; rw [HI.out.1, HST.out, Bool.true_and]
        have b1 := K2.out.2.cellN a1
        have b0 := K2.out.2.cellN a0
        clear a0 a1 d1 s0 s1 s2 HHB HHG HPG HI HST HBT HQ
        cases dB with
        | false =>
          have HN2 : Hid (latP P ws k n = latP P ws k j) := HN.out
          clear HN HVR
          go_wp2_with fail
          go_roundw
          case rel => exact ⟨j, by omega, rfl, HN2.out, K2.out.1⟩
          case measure => first | (simp [intOf]; done) | (simp [intOf]; omega)
        | true =>
          have HN2 : Hid (latP P ws k n = vP) := HN.out
          clear HN
          have HVC : Hid (Calls Try.prog 39 #[.agg #[.int .i64 (P : Nat), .slice (some ⟨b, off, none⟩) n c], .int .i64 (j : Nat), .string k] u1 (VerTo u1 vP)) := HVR.out _ K2.out.2 trivial
          clear HVR
          go_wp2_with fail
          refine HVC.out.mono ?_
          rintro e w5 ⟨⟨rk, ri, rv, ro, rn, rc⟩, rfl, hv, hnw, hk5⟩
          have hk15 : Keeps no w1 w5 := K2.out.1.trans hk5
          have hz0 := hk15.at HB1.out.2.1 id
          obtain ⟨x0, x1, x2, x3⟩ := cells4 hz0
          have f0 := frozen_of_blk hz0 0
          have f1 := frozen_of_blk hz0 1
          have f2 := frozen_of_blk hz0 2
          have f3 := frozen_of_blk hz0 3
          have hS4 := set4 (b0 := .string rk) (b1 := .int .u64 (ri : Nat)) (b2 := .string rv) (b3 := .slice ro rn rc) hz0
          have HKE : Hid (Keeps no w _ ∧ VerN _ ⟨rk, ri, rv, ro, rn, rc⟩ vP) := ⟨(HB1.out.2.2.trans hk15).then hS4.2 (fun q e => .inr (by have := HA.out; unfold eqB at e; omega)), hv.keeps hS4.2 (fun q hq e => by
            have h1 := hnw q hq
            have h2 := lt_of_block HB1.out.2.1
            have h3 := K2.out.1.size
            unfold eqB at e
            omega)⟩
          have HNW : Hid (New w ro) := fun q hq => by
            have h1 := hnw q hq
            have h3 := (HB1.out.2.2.trans K2.out.1).size
            omega
          have HLE : Hid (latP P ws k ws.length = vP) := by have := HN2.out; rwa [HW.out.2.2.1] at this
          clear hv hnw hk5 hk15 hz0 K2 HN2 HVC
          unfold aggV
          go_wp2_with fail
          (try simp only [Exit.inBlock, Exit.then])
          refine bodyPost_ret (results_row1 rfl _ _ (A + 1) _ rfl (run_loadVar_row _ _ _ _ _ _ _ hS4.1 Try.underlying46 rfl (ver_size _ _ _ _))) rfl ?_
          rw [HLE.out]
          exact ⟨⟨rk, ri, rv, ro, rn, rc⟩, rfl, HKE.out.2, HNW.out, HKE.out.1⟩
end Go.Proofs.Ytileipnoiocdlaa
