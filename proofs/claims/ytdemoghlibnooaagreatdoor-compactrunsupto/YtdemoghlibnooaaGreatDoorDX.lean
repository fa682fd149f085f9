import Derived.Test.YtdemoghlibnooaaGreatDoorDV
import Derived.Test.YtdemoghlibnooaaGreatDoorBC
namespace Go.Proofs.YtdemoghlibnooaaGreatDoor
open Go.RowKit Go.Maps Go.Sort Orl
set_option linter.unusedVariables false
set_option linter.unusedSimpArgs false
theorem rNew_any (w : World) : Calls Tryz.prog 25 #[] w fun e w' => ∃ p, e = .returned (.pointer (some ⟨p, 0, none⟩)) ∧ Hid (RO (fun b => w.heap.size ≤ b) w' p none 0 0 none 0 0 [] [] ∧ Keeps no w w') := by
  go_enter Tryz.func25, Tryz.ntmps25
  go_wp2_with fail
  go_ret
  exact ⟨w.heap.size, rfl, ⟨blk_new w _, own_nil _, fun x hx => (by cases hx), own_nil _, rfl, rfl, by simp, by simp, Nat.le_refl _, fun b ⟨x, e, _⟩ => (by cases e), fun x hx => (by cases hx), fun b ⟨x, e, _⟩ => (by cases e)⟩, (Keeps.refl no w).alloc _⟩
theorem lt_P {P : Nat → Prop} {t : Nat} (h : ∀ j, j < t → P j) (h1 : P t) : ∀ j, j < t + 1 → P j := fun j hj => by
  by_cases e : j = t
  · rw [e]; exact h1
  · exact h j (by omega)
theorem hasC_succ (ks : List KV) (i t : Nat) (ht : t < ks.length) : hasC (ks.take (t + 1)) i = hasC (ks.take t) i + (if (ks.getD t kv0).m.2 = i then 1 else 0) := by
  unfold hasC
  rw [take_succ_getD ks t kv0 ht, List.filter_append, List.length_append]
  congr 1
  generalize ks.getD t kv0 = x
  by_cases h : x.m.2 = i
  · rw [if_pos h]; simp [h]
  · rw [if_neg h]; simp [h]
end Go.Proofs.YtdemoghlibnooaaGreatDoor
namespace Go.Proofs.YtdemoghlibnooaaGreatDoor
open Go.RowKit Go.Maps Go.Sort Orl
set_option linter.unusedVariables false
set_option linter.unusedSimpArgs false
end Go.Proofs.YtdemoghlibnooaaGreatDoor
namespace Go.Proofs.YtdemoghlibnooaaGreatDoor
open Go.RowKit Go.Maps Go.Sort Orl
set_option linter.unusedVariables false
set_option linter.unusedSimpArgs false
def mayB (i : Nat) (ps : List Pr) (keys : List Tx) : Bool := decide (65536 ≤ i) && (okKeys keys && okPairs ps keys)
theorem okPut_may (i : Nat) (ps : List Pr) (keys : List Tx) (now : Int) : okPut i ps keys now = (mayB i ps keys && tickB now) := by
  unfold okPut mayB
  cases decide (65536 ≤ i) <;> cases okKeys keys <;> cases okPairs ps keys <;> rfl
theorem pairs_f1 {ps : List Pr} {keys : List Tx} {t : Nat} (ht : t < ps.length) (h : 65535 < (ps.getD t p0).2.size ∨ inn keys (ps.getD t p0).1 = false) : okPairs ps keys = false := by
  have h1 : (ps.all fun p => decide (p.2.size ≤ 65535) && inn keys p.1) = false := by
    rw [List.all_eq_false]
    refine ⟨_, getD_mem_lt p0 ht, ?_⟩
    rcases h with h | h
    · rw [decide_eq_false (by omega)]; simp
    · rw [h, Bool.and_false]; simp
  unfold okPairs
  rw [h1]; rfl
theorem pairs_f2 {ps : List Pr} {keys : List Tx} {t : Nat} (ht : t + 1 < ps.length) (h : ltp (ps.getD t p0) (ps.getD (t + 1) p0) = false) : okPairs ps keys = false := by
  unfold okPairs
  rw [rising_fail p0 ps t ht h, Bool.and_false, Bool.and_false]
theorem pairs_ok {ps : List Pr} {keys : List Tx} (h0 : 0 < ps.length) (h1 : ∀ j, j < ps.length → (ps.getD j p0).2.size ≤ 65535 ∧ inn keys (ps.getD j p0).1 = true) (h2 : ∀ j, j + 1 < ps.length → ltp (ps.getD j p0) (ps.getD (j + 1) p0) = true) : okPairs ps keys = true := by
  have h3 : (ps.all fun p => decide (p.2.size ≤ 65535) && inn keys p.1) = true := by
    rw [List.all_eq_true]
    intro x hx
    obtain ⟨j, hj, rfl⟩ := List.getElem_of_mem hx
    have := h1 j hj
    rw [List.getD_eq_getElem?_getD, List.getElem?_eq_getElem hj] at this
    obtain ⟨q1, q2⟩ := this
    have q1' : (ps[j]).2.size ≤ 65535 := q1
    have q2' : inn keys (ps[j]).1 = true := q2
    rw [decide_eq_true q1', q2']; rfl
  unfold okPairs
  rw [h3, decide_eq_true h0, rising_of_all p0 ps h2]; rfl
set_option maxRecDepth 10000 in
set_option maxHeartbeats 1000000 in
theorem rMay_any (w : World) (i : Nat) (ps : List Pr) (keys : List Tx) (ap : Option Addr) (np cp : Nat) (ak : Option Addr) (nk ck : Nat) (hnp : np = ps.length) (hnk : nk = keys.length) (hlp : ps.length ≤ 8796093021952) (hlk : keys.length ≤ 8796093021952) (hsp : Sl PE w ap cp ps) (hsk : Sl TE w ak ck keys) (hz : ∀ x ∈ keys, x.size ≤ 140737488351232) (hzp : ∀ x ∈ ps, x.2.size ≤ 140737488351232) :
    Calls Tryz.prog 71 #[.int .u64 ((i : Nat) : Int), .slice ap np cp, .slice ak nk ck] w fun e w' => e = .returned (.bool (mayB i ps keys)) ∧ Keeps no w w' := by
  have HA : Hid (np = ps.length ∧ nk = keys.length ∧ keys.length ≤ 8796093021952 ∧ Sl PE w ap cp ps ∧ Sl TE w ak ck keys ∧ (∀ x ∈ keys, x.size ≤ 140737488351232) ∧ ∀ x ∈ ps, x.2.size ≤ 140737488351232) := ⟨hnp, hnk, hlk, hsp, hsk, hz, hzp⟩
  have hA : (np : Int) ≤ 8796093021952 := by omega
  obtain ⟨R, hR⟩ : ∃ R, mayB i ps keys = R := ⟨_, rfl⟩
  have HR : Hid ((decide (65536 ≤ i) && (okKeys keys && okPairs ps keys)) = R) := hR
  rw [hR]
  obtain ⟨B1, hB1⟩ : ∃ B, decide (65536 ≤ i) = B := ⟨_, rfl⟩
  have HB1 : Hid (decide (65536 ≤ i) = B1) := hB1
  have c1 := fun X => refID_any X i
  rw [hB1] at c1
  clear hnp hnk hlp hlk hsp hsk hz hzp hR hB1
  go_enter Tryz.func71, Tryz.ntmps71
  go_wp2_with fail
  refine (c1 _).mono ?_
  rintro e w1 ⟨rfl, hw1⟩
  subst w1
  clear c1
  cases B1
  · go_wp2_with fail
    go_ret
    exact ⟨by rw [← HR.out, HB1.out]; rfl, Keeps.refl _ _⟩
  · go_wp2_with fail
    refine (refWhole_any w ak nk ck keys HA.out.2.1 (by have := HA.out.2.2.1; omega) HA.out.2.2.2.2.2.1 HA.out.2.2.2.2.1).mono ?_
    rintro e w1 ⟨rfl, hk1⟩
    have HK1 : Hid (Keeps no w w1) := hk1
    obtain ⟨B2, hB2⟩ : ∃ B, okKeys keys = B := ⟨_, rfl⟩
    have HB2 : Hid (okKeys keys = B2) := hB2
    rw [hB2]
    clear hk1 hB2
    cases B2
    · go_wp2_with fail
      go_ret
      exact ⟨by rw [← HR.out, HB1.out, HB2.out]; rfl, HK1.out⟩
    · have HRR : Hid (R = okPairs ps keys) := by rw [← HR.out, HB1.out, HB2.out]; rfl
      by_cases h0 : np = 0
      · have HE : Hid (R = false) := by
          show _ = _
          rw [HRR.out]
          have := HA.out.1
          unfold okPairs
          rw [decide_eq_false (by omega), Bool.false_and, Bool.and_false]
        subst h0
        go_wp2_with fail
        go_ret
        exact ⟨by rw [HE.out]; rfl, HK1.out⟩
      · have h0' : ¬ (np : Int) < 1 := by omega
        clear h0
        go_wp2_with fail
        go_loopw [7, 8] (fun z _ wr => ∃ t : Nat, t ≤ np ∧ z = .int .i64 t ∧ Hid (Keeps no w wr ∧ (∀ j, j < t → (ps.getD j p0).2.size ≤ 65535 ∧ inn keys (ps.getD j p0).1 = true) ∧ ∀ j, j + 1 < t → ltp (ps.getD j p0) (ps.getD (j + 1) p0) = true)) (fun z _ _ => np - (intOf z).toNat)
        case atStart => exact ⟨0, by omega, rfl, HK1.out, fun j hj => absurd hj (Nat.not_lt_zero _), fun j hj => absurd hj (Nat.not_lt_zero _)⟩
        case round =>
          obtain ⟨t, ht, rfl, HT⟩ := hrel
          by_cases htl : t < np
          · have htl' : (t : Int) < np := by omega
            have hta : t < ps.length := by have := HA.out.1; omega
            obtain ⟨g, off, e1, d0, d1⟩ := (HA.out.2.2.2.1.keepsN HT.out.1).atP hta
            subst e1
            have hsz := HA.out.2.2.2.2.2.2 _ (getD_mem_lt p0 hta)
            obtain ⟨x, hx⟩ : ∃ x, x = ps.getD t p0 := ⟨_, rfl⟩
            rw [← hx] at d0 d1 hsz
            have HX : Hid (x = ps.getD t p0 ∧ t < ps.length) := ⟨hx, hta⟩
            obtain ⟨xk, xv⟩ := x
            simp only at d0 d1 hsz
            have hxb : (xv.size : Int) ≤ 140737488351232 := by omega
            clear hx hta hsz
            go_upto_region 7 with fail
            have HKA : Hid (Keeps no w (wr.alloc (.cells #[.string xk, .string xv] 85)) ∧ (wr.alloc (.cells #[.string xk, .string xv] 85)).heap[wr.heap.size]? = some (.cells #[.string xk, .string xv] 85 (0, 0))) := ⟨HT.out.1.alloc _, blk_new wr _⟩
            generalize wr.alloc (.cells #[.string xk, .string xv] 85) = wa at HKA ⊢
            generalize wr.heap.size = ga at HKA ⊢
            obtain ⟨B3, hB3⟩ : ∃ B, inn keys xk = B := ⟨_, rfl⟩
            have HB0 : Hid (inn keys xk = B3) := hB3
            have cH := call_grown (W := wa) (f := 113) (args := #[.slice ak nk ck, .string xk]) (v := .bool B3) (fun X hX => by rw [← hB3]; exact (refHas_any X ak nk ck keys xk HA.out.2.1 (by have := HA.out.2.2.1; omega) (HA.out.2.2.2.2.1.keepsN (HKA.out.1.trans hX))).mono (fun e w' ⟨h1, h2⟩ => ⟨h1, by rw [h2]; exact Keeps.refl _ _⟩))
            have z0 := cell_regrown (cell_of_blk HKA.out.2 0)
            have z1 := cell_regrown (cell_of_blk HKA.out.2 1)
            clear hB3 d0 d1
            cases B3
            · have HF : Hid (R = false) := by
                show _ = _
                rw [HRR.out]
                exact pairs_f1 HX.out.2 (by rw [← HX.out.1]; exact .inr HB0.out)
              go_wp2_with fail
              refine wp_region_quiet_below (by kernel_rfl) (by kernel_rfl) ?_
              repeat (go_big_quiet_step (exact cH _ _))
              refine wpQuiet_nil ?_
              intro _ hw'
              obtain ⟨⟨dq, osq⟩, rfl⟩ := hw'
              have HK2 : Hid (Keeps no w (Sort.grow (redrawn wa dq) osq)) := HKA.out.1.trans (keeps_grownQ ..)
              generalize Sort.grow (redrawn wa dq) osq = w2 at HK2 ⊢
              clear cH z0 z1
              go_wp2_with fail
              go_ret
              exact ⟨by rw [HF.out]; rfl, HK2.out⟩
            · have HB3 : Hid (inn keys (ps.getD t p0).1 = true) := by rw [← HX.out.1]; exact HB0.out
              by_cases hvl : 65535 < xv.size
              · have hvl' : (65535 : Int) < (xv.size : Int) := by omega
                have hvd : decide ((65535 : Int) < (xv.size : Int)) = true := decide_eq_true hvl'
                have HF : Hid (R = false) := by
                  show _ = _
                  rw [HRR.out]
                  exact pairs_f1 HX.out.2 (by rw [← HX.out.1]; exact .inl hvl)
                clear hvl
                go_wp2_with fail
                refine wp_region_quiet_below (by kernel_rfl) (by kernel_rfl) ?_
                repeat (go_big_quiet_step (exact cH _ _))
                refine wpQuiet_nil ?_
                intro _ hw'
                obtain ⟨⟨dq, osq⟩, rfl⟩ := hw'
                have HK2 : Hid (Keeps no w (Sort.grow (redrawn wa dq) osq)) := HKA.out.1.trans (keeps_grownQ ..)
                generalize Sort.grow (redrawn wa dq) osq = w2 at HK2 ⊢
                clear cH z0 z1
                go_wp2_with fail
                go_ret
                exact ⟨by rw [HF.out]; rfl, HK2.out⟩
              · have hvl' : ¬ (65535 : Int) < (xv.size : Int) := by omega
                have hvd : decide ((65535 : Int) < (xv.size : Int)) = false := decide_eq_false hvl'
                have HSZ : Hid ((ps.getD t p0).2.size ≤ 65535) := by rw [← HX.out.1]; show xv.size ≤ 65535; omega
                clear hvl
                by_cases ht0 : t = 0
                · have htp : decide ((0 : Int) < (t : Int)) = false := decide_eq_false (by omega)
                  have htq : decide (0 < t) = false := decide_eq_false (by omega)
                  have HT0 : Hid (t = 0) := ht0
                  clear ht0
                  go_wp2_with fail
                  refine wp_region_quiet_below (by kernel_rfl) (by kernel_rfl) ?_
                  repeat (go_big_quiet_step (exact cH _ _))
                  refine wpQuiet_nil ?_
                  intro _ hw'
                  obtain ⟨⟨dq, osq⟩, rfl⟩ := hw'
                  have HK2 : Hid (Keeps no w (Sort.grow (redrawn wa dq) osq)) := HKA.out.1.trans (keeps_grownQ ..)
                  generalize Sort.grow (redrawn wa dq) osq = w2 at HK2 ⊢
                  clear cH z0 z1
                  go_wp2_with fail
                  go_roundw
                  case rel => exact ⟨t + 1, by omega, by go_num, HK2.out, lt_P HT.out.2.1 ⟨HSZ.out, HB3.out⟩, lt_lt HT.out.2.2 (.inl HT0.out)⟩
                  case measure => simp [intOf]; omega
                · obtain ⟨q, hq⟩ : ∃ q, t = q + 1 := ⟨t - 1, by omega⟩
                  have hqa : q < ps.length := by have := HX.out.2; omega
                  obtain ⟨g', off', e1, f0, f1⟩ := (HA.out.2.2.2.1.keepsN HKA.out.1).atP hqa
                  cases e1
                  obtain ⟨y, hy⟩ : ∃ y, y = ps.getD q p0 := ⟨_, rfl⟩
                  rw [← hy] at f0 f1
                  obtain ⟨yk, yv⟩ := y
                  simp only at f0 f1
                  have HY : Hid ((yk, yv) = ps.getD q p0 ∧ t = q + 1) := ⟨hy, hq⟩
                  have y0 := cell_regrown f0
                  have htp : decide ((0 : Int) < (t : Int)) = true := decide_eq_true (by omega)
                  have htq : decide (0 < t) = true := decide_eq_true (by omega)
                  have hts : IntKind.i64.wrap ((t : Int) - 1) = ((q : Nat) : Int) := by rw [IntKind.wrap_i64]; omega
                  have hsn : ((q : Nat) : Int) < np := by omega
                  clear hy hq ht0 hqa f0 f1
                  cases hlt : Op.bytesLess yk.toList xk.toList
                  · have HF : Hid (R = false) := by
                      show _ = _
                      rw [HRR.out]
                      refine pairs_f2 (t := q) (by have := HX.out.2; have := HY.out.2; omega) ?_
                      rw [← HY.out.2, ← HY.out.1, ← HX.out.1]
                      exact hlt
                    go_wp2_with fail
                    refine wp_region_quiet_below (by kernel_rfl) (by kernel_rfl) ?_
                    repeat (go_big_quiet_step (exact cH _ _))
                    refine wpQuiet_nil ?_
                    intro _ hw'
                    obtain ⟨⟨dq, osq⟩, rfl⟩ := hw'
                    have HK2 : Hid (Keeps no w (Sort.grow (redrawn wa dq) osq)) := HKA.out.1.trans (keeps_grownQ ..)
                    generalize Sort.grow (redrawn wa dq) osq = w2 at HK2 ⊢
                    clear cH z0 z1
                    go_wp2_with fail
                    go_ret
                    exact ⟨by rw [HF.out]; rfl, HK2.out⟩
                  · have HLT : Hid (ltp (ps.getD (t - 1) p0) (ps.getD t p0) = true) := by
                      rw [← HX.out.1, HY.out.2, Nat.add_sub_cancel, ← HY.out.1]
                      exact hlt
                    go_wp2_with fail
                    refine wp_region_quiet_below (by kernel_rfl) (by kernel_rfl) ?_
                    repeat (go_big_quiet_step (exact cH _ _))
                    refine wpQuiet_nil ?_
                    intro _ hw'
                    obtain ⟨⟨dq, osq⟩, rfl⟩ := hw'
                    have HK2 : Hid (Keeps no w (Sort.grow (redrawn wa dq) osq)) := HKA.out.1.trans (keeps_grownQ ..)
                    generalize Sort.grow (redrawn wa dq) osq = w2 at HK2 ⊢
                    clear cH z0 z1
                    go_wp2_with fail
                    go_roundw
                    case rel => exact ⟨t + 1, by omega, by go_num, HK2.out, lt_P HT.out.2.1 ⟨HSZ.out, HB3.out⟩, lt_lt HT.out.2.2 (.inr HLT.out)⟩
                    case measure => simp [intOf]; omega
          · have htl' : ¬ (t : Int) < np := by omega
            have HF : Hid (R = true) := by
              show _ = _
              rw [HRR.out]
              exact pairs_ok (by have := HA.out.1; omega) (fun j hj => HT.out.2.1 j (by have := HA.out.1; omega)) (fun j hj => HT.out.2.2 j (by have := HA.out.1; omega))
            go_wp2_with fail
            go_ret
            exact ⟨by rw [HF.out]; rfl, HT.out.1⟩
end Go.Proofs.YtdemoghlibnooaaGreatDoor
namespace Go.Proofs.YtdemoghlibnooaaGreatDoor
open Go.RowKit Go.Sort Orl
set_option linter.unusedVariables false
set_option linter.unusedSimpArgs false
theorem slK : Tryz.prog.underlying 76 = some (.slice (Tryz.prog.elem 76)) := by kernel_rfl
theorem slL : Tryz.prog.underlying 109 = some (.slice (Tryz.prog.elem 109)) := by kernel_rfl
theorem cutK_h (w0 : World) (o : Option Addr) (c : Nat) (xs : List KV) (n I : Nat) (i : Int) (hi : i = (I : Nat)) (hn : n = xs.length) (hI : I ≤ n) (h : Sl KE w0 o c xs) :
    (∀ w, (Instr.slice 76 (.slice o n c) none (some (.int .i64 i)) none).run Tryz.prog w = .ok (.slice o I c) w) ∧ Sl KE w0 o c (xs.take I) := by
  subst hi hn
  have hcap := h.cap
  refine ⟨?_, ⟨h.row.take okK I, by rw [List.length_take]; omega, h.nil⟩⟩
  match o, h with
  | none, h =>
    obtain rfl : c = 0 := h.nil rfl
    intro w
    rw [run_slice_h w 76 none _ 0 slK .i64 _ (by omega) (by omega)]
    obtain rfl : I = 0 := by omega
    go_simp
  | some ad, h =>
    intro w
    rw [run_slice_h w 76 (some ad) _ c slK .i64 _ (by omega) (by omega)]
    go_simp
theorem cutK_l (w0 : World) (o : Option Addr) (c : Nat) (xs : List KV) (n I : Nat) (i : Int) (hi : i = (I : Nat)) (hn : n = xs.length) (hI : I ≤ n) (h : Sl KE w0 o c xs) :
    ∃ A d, (∀ w, (Instr.slice 76 (.slice o n c) (some (.int .i64 i)) none none).run Tryz.prog w = .ok (.slice A (n - I) d) w) ∧ Sl KE w0 A d (xs.drop I) ∧ SubO o A := by
  subst hi hn
  have hcap := h.cap
  match o, h with
  | none, h =>
    obtain rfl : c = 0 := h.nil rfl
    obtain rfl : I = 0 := by omega
    have h0 : xs = [] := List.length_eq_zero_iff.mp (by omega)
    subst h0
    refine ⟨none, 0, fun w => ?_, ⟨.inl rfl, by simp, fun _ => rfl⟩, fun _ h => h⟩
    rw [run_slice_l w 76 none _ 0 slK .i64 _ (by omega) (by simp)]
    go_simp
  | some ad, h =>
    refine ⟨some (if c = I then ad else ad.add (I * 5)), c - I, fun w => ?_, ⟨h.row.drop okK I (fun hlt b off e => ?_), by rw [List.length_drop]; omega, by simp⟩, sub_add _ _ _ _⟩
    · rw [run_slice_l w 76 (some ad) _ c slK .i64 _ (by omega) (by omega)]
      by_cases h : c = I
      · go_simp
      · go_simp
    · cases e
      rw [if_neg (by omega), addr_add]
      simp [KE]
theorem cutL_h (w0 : World) (o : Option Addr) (c : Nat) (xs : List Mk) (n I : Nat) (i : Int) (hi : i = (I : Nat)) (hn : n = xs.length) (hI : I ≤ n) (h : Sl LE w0 o c xs) :
    (∀ w, (Instr.slice 109 (.slice o n c) none (some (.int .i64 i)) none).run Tryz.prog w = .ok (.slice o I c) w) ∧ Sl LE w0 o c (xs.take I) := by
  subst hi hn
  have hcap := h.cap
  refine ⟨?_, ⟨h.row.take okL I, by rw [List.length_take]; omega, h.nil⟩⟩
  match o, h with
  | none, h =>
    obtain rfl : c = 0 := h.nil rfl
    intro w
    rw [run_slice_h w 109 none _ 0 slL .i64 _ (by omega) (by omega)]
    obtain rfl : I = 0 := by omega
    go_simp
  | some ad, h =>
    intro w
    rw [run_slice_h w 109 (some ad) _ c slL .i64 _ (by omega) (by omega)]
    go_simp
theorem cutL_l (w0 : World) (o : Option Addr) (c : Nat) (xs : List Mk) (n I : Nat) (i : Int) (hi : i = (I : Nat)) (hn : n = xs.length) (hI : I ≤ n) (h : Sl LE w0 o c xs) :
    ∃ A d, (∀ w, (Instr.slice 109 (.slice o n c) (some (.int .i64 i)) none none).run Tryz.prog w = .ok (.slice A (n - I) d) w) ∧ Sl LE w0 A d (xs.drop I) ∧ SubO o A := by
  subst hi hn
  have hcap := h.cap
  match o, h with
  | none, h =>
    obtain rfl : c = 0 := h.nil rfl
    obtain rfl : I = 0 := by omega
    have h0 : xs = [] := List.length_eq_zero_iff.mp (by omega)
    subst h0
    refine ⟨none, 0, fun w => ?_, ⟨.inl rfl, by simp, fun _ => rfl⟩, fun _ h => h⟩
    rw [run_slice_l w 109 none _ 0 slL .i64 _ (by omega) (by simp)]
    go_simp
  | some ad, h =>
    refine ⟨some (if c = I then ad else ad.add (I * 2)), c - I, fun w => ?_, ⟨h.row.drop okL I (fun hlt b off e => ?_), by rw [List.length_drop]; omega, by simp⟩, sub_add _ _ _ _⟩
    · rw [run_slice_l w 109 (some ad) _ c slL .i64 _ (by omega) (by omega)]
      by_cases h : c = I
      · go_simp
      · go_simp
    · cases e
      rw [if_neg (by omega), addr_add]
      simp [LE]
end Go.Proofs.YtdemoghlibnooaaGreatDoor
