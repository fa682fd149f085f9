import Derived.Test.YtkoaiibjahlnmaaOf
import Derived.Test.YtkoaiibjahlnmaaSv
/- stamps. -/
namespace Go.Proofs.Ytkoaiibjahlnmaa
open Go.RowKit Go.Maps Go.Sort Orl
set_option linter.unusedVariables false
set_option linter.unusedSimpArgs false

def befO (ks : List KV) (m : Mk) : Int := ks.foldl (fun b y => if y.m = m then y.stamp else b) (-2)
theorem befO_snoc (l : List KV) (y : KV) (m : Mk) : befO (l ++ [y]) m = if y.m = m then y.stamp else befO l m := by simp [befO]
/-- the stamp is as it must be -/
structure StO (s : St) (ks0 : List KV) (now : Int) (x : KV) : Prop where
  a : x.m.2 < s.last x.m.1 ↔ 0 ≤ x.stamp
  b : ¬ x.m.2 < s.last x.m.1 → x.stamp = -1
  c : 0 ≤ befO ks0 x.m → x.stamp = befO ks0 x.m
  d : befO ks0 x.m < 0 → x.m.2 < s.last x.m.1 → x.stamp = now
  sz : x.m.1.size ≤ 65535
theorem Sl.atK {w : World} {a : Option Addr} {c : Nat} {xs : List KV} (h : Sl KE w a c xs) {j : Nat} (hj : j < xs.length) : ∃ b off, a = some ⟨b, off, none⟩ ∧ w.cell? ⟨b, off + j * 5, none⟩ = some (.string (xs.getD j kv0).m.1) ∧ w.cell? ⟨b, off + j * 5 + 1, none⟩ = some (.int .u64 (((xs.getD j kv0).m.2 : Nat) : Int)) ∧ w.cell? ⟨b, off + j * 5 + 2, none⟩ = some (.string (xs.getD j kv0).val) ∧ w.cell? ⟨b, off + j * 5 + 3, none⟩ = some (.slice (xs.getD j kv0).o (xs.getD j kv0).keys.length (xs.getD j kv0).c) ∧ w.cell? ⟨b, off + j * 5 + 4, none⟩ = some (.int .i64 (xs.getD j kv0).stamp) := by
  rcases h.row with e | ⟨b, off, rfl, hc⟩
  · subst e; simp at hj
  · refine ⟨b, off, rfl, hc (j * 5) _ ?_, ?_, ?_, ?_, ?_⟩
    · have := cells_at okK kv0 xs j 0 hj (by decide)
      simpa [KE] using this
    · rw [Nat.add_assoc]
      refine hc (j * 5 + 1) _ ?_
      have := cells_at okK kv0 xs j 1 hj (by decide)
      simpa [KE] using this
    · rw [Nat.add_assoc]
      refine hc (j * 5 + 2) _ ?_
      have := cells_at okK kv0 xs j 2 hj (by decide)
      simpa [KE] using this
    · rw [Nat.add_assoc]
      refine hc (j * 5 + 3) _ ?_
      have := cells_at okK kv0 xs j 3 hj (by decide)
      simpa [KE] using this
    · rw [Nat.add_assoc]
      refine hc (j * 5 + 4) _ ?_
      have := cells_at okK kv0 xs j 4 hj (by decide)
      simpa [KE] using this
theorem kq_of {a b : World} (h1 : b.os = a.os) (h2 : b.tape = a.tape) (h3 : b.output = a.output) (h4 : b.heap = a.heap) : Keeps no a b := ⟨h1, h2, h3, by rw [h4]; exact Nat.le_refl _, fun k _ _ => by rw [h4]⟩
set_option maxRecDepth 10000 in
set_option maxHeartbeats 4000000 in
theorem stamps_any {w0 w : World} {p : Nat} {s : St} {N : Nat} {P : Nat → Prop} (h : Ow w0 w p s N P) (o0 : Option Addr) (n0 c0 : Nat) (ks0 : List KV) (h0 : n0 = ks0.length) (hl0 : ks0.length ≤ 1000000) (hs0 : Sl KE w o0 c0 ks0) (o1 : Option Addr) (n1 c1 : Nat) (ks1 : List KV) (h1 : n1 = ks1.length) (hl1 : ks1.length ≤ 1000000) (hs1 : Sl KE w o1 c1 ks1) (now : Int) (hst : ∀ x ∈ ks1, StO s ks0 now x) :
    Calls Try.prog 19 #[.slice o0 n0 c0, .slice o1 n1 c1, .pointer (some ⟨p, 0, none⟩), .int .i64 now] w fun e w' => e = .returned (.bool true) ∧ Keeps no w w' := by
  have HA : Hid (n0 = ks0.length ∧ n1 = ks1.length ∧ Sl KE w o0 c0 ks0 ∧ Sl KE w o1 c1 ks1 ∧ Ow w0 w p s N P ∧ ∀ x ∈ ks1, StO s ks0 now x) := ⟨h0, h1, hs0, hs1, h, hst⟩
  have hb0 : (n0 : Int) ≤ 1000000 := by omega
  have hb1 : (n1 : Int) ≤ 1000000 := by omega
  clear h h0 hl0 hs0 h1 hl1 hs1 hst
  go_enter Try.func19, Try.ntmps19
  go_wp2_with fail
  go_loopw [9] (fun i wr => ∃ k : Nat, k ≤ n1 ∧ i = .int .i64 k ∧ Hid (Keeps no w wr)) (fun i _ => n1 - (intOf i).toNat)
  case atStart => exact ⟨0, by omega, rfl, Keeps.refl _ _⟩
  case round =>
    obtain ⟨k, hk, rfl, HK⟩ := hrel
    by_cases hlt : k < n1
    · have hlt' : (k : Int) < n1 := by omega
      have hka : k < ks1.length := by have := HA.out.2.1; omega
      obtain ⟨b1, off1, e1, d0, d1, d2, d3, d4⟩ := (HA.out.2.2.2.1.keepsN HK.out).atK hka
      obtain ⟨x, hx⟩ : ∃ x, x = ks1.getD k kv0 := ⟨_, rfl⟩
      rw [← hx] at d0 d1 d2 d3 d4
      have HX : Hid (StO s ks0 now x) := HA.out.2.2.2.2.2 x (by rw [hx]; exact getD_mem_lt _ hka)
      have HO1 : Hid (o1 = some ⟨b1, off1, none⟩) := e1
      obtain ⟨⟨xk, xi⟩, xv, xo, xc, xks, xst⟩ := x
      obtain ⟨nk, hnk⟩ : ∃ nk, nk = xks.length := ⟨_, rfl⟩
      simp only at d0 d1 d2 d3 d4
      rw [← hnk] at d3
      clear hka hx hnk
      subst e1
      obtain ⟨R, hR⟩ : ∃ R, R = wr.heap.size := ⟨_, rfl⟩
      obtain ⟨w1, hw1⟩ : ∃ w1, w1 = wr.alloc (.cells #[.string xk, .int .u64 ((xi : Nat) : Int), .string xv, .slice xo nk xc] 38) := ⟨_, rfl⟩
      have hk1 : Keeps no wr w1 := by rw [hw1]; exact (Keeps.refl no wr).alloc _
      have hb : w1.heap[R]? = some (.cells #[.string xk, .int .u64 ((xi : Nat) : Int), .string xv, .slice xo nk xc] 38 (0, 0)) := by rw [hw1, hR]; exact blk_new wr _
      obtain ⟨la, hla⟩ : ∃ la, la = s.last xk := ⟨_, rfl⟩
      have c2 := call_grown (W := w1) (f := 15) (args := #[.pointer (some ⟨p, 0, none⟩), .string xk]) (v := .int .u64 ((la : Nat) : Int)) (fun X hX => ((HA.out.2.2.2.2.1.go ((HK.out.trans hk1).trans hX)).last xk HX.out.sz).mono (fun e w' h => ⟨by rw [hla]; exact h.1, by rw [h.2]; exact Keeps.refl _ _⟩))
      have z0 := cell_regrown (cell_of_blk hb 0)
      have z1 := cell_regrown (cell_of_blk hb 1)
      have HK1 : Hid (Keeps no w w1 ∧ Keeps no wr w1 ∧ w1.heap[R]? = some (.cells #[.string xk, .int .u64 ((xi : Nat) : Int), .string xv, .slice xo nk xc] 38 (0, 0)) ∧ wr.cell? ⟨b1, off1 + k * 5 + 4, none⟩ = some (.int .i64 xst)) := ⟨HK.out.trans hk1, hk1, hb, d4⟩
      have HLA : Hid (la = s.last xk) := hla
      clear hk1 hb hla
      go_upto_region 5 with fail
      rw [← hw1, ← hR]
      clear hw1 hR HK d0 d1 d2 d3 d4
      have hcase : ((xi : Int) < la ∧ 0 ≤ xst) ∨ (¬ (xi : Int) < la ∧ xst = -1) := by
        have h1 := HX.out.a
        have h2 := HX.out.b
        simp only at h1 h2
        rw [← HLA.out] at h1 h2
        by_cases hc : xi < la
        · exact .inl ⟨by omega, h1.1 hc⟩
        · exact .inr ⟨by omega, h2 hc⟩
      rcases hcase with ⟨q1, q2⟩ | ⟨q1, q2⟩
      · have q1' : decide ((xi : Int) < la) = true := by simpa using q1
        have q2' : decide (0 ≤ xst) = true := by simpa using q2
        have HF : Hid (∀ z, z = befO ks0 (xk, xi) → (0 ≤ z → xst = z) ∧ (z < 0 → xst = now)) := fun z hz => ⟨fun h => by rw [hz]; exact HX.out.c (by rw [← hz]; exact h), fun h => HX.out.d (by rw [← hz]; exact h) (by have := HLA.out; simp only; omega)⟩
        refine wp_region_quiet_below (by kernel_rfl) (by kernel_rfl) ?_
        repeat (go_big_quiet_step (exact c2 _ _))
        refine wpQuiet_nil ?_
        intro _ hw'
        obtain ⟨⟨dq, osq⟩, rfl⟩ := hw'
        have H2 : Hid (Keeps no w1 (Sort.grow (redrawn w1 dq) osq)) := keeps_grownQ ..
        generalize Sort.grow (redrawn w1 dq) osq = w2 at H2 ⊢
        have d0 : w2.cell? ⟨R, 0, none⟩ = some (.string xk) := cell_of_blk (H2.out.at HK1.out.2.2.1 id) 0
        have d1 : w2.cell? ⟨R, 1, none⟩ = some (.int .u64 ((xi : Nat) : Int)) := cell_of_blk (H2.out.at HK1.out.2.2.1 id) 1
        have d4 : w2.cell? ⟨b1, off1 + k * 5 + 4, none⟩ = some (.int .i64 xst) := (HK1.out.2.1.trans H2.out).cellN HK1.out.2.2.2
        have HKW : Hid (Keeps no w w2) := HK1.out.1.trans H2.out
        have HC : Hid (∀ X, Keeps no w2 X → X.cell? ⟨R, 0, none⟩ = some (.string xk) ∧ X.cell? ⟨R, 1, none⟩ = some (.int .u64 ((xi : Nat) : Int)) ∧ X.cell? ⟨b1, off1 + k * 5 + 4, none⟩ = some (.int .i64 xst)) := fun X hX => ⟨hX.cellN d0, hX.cellN d1, hX.cellN d4⟩
        clear z0 z1 c2 HK1 H2
        go_wp2_with fail
        clear d0 d1 d4
        go_loopw [12, 13] (fun bb kk wq => ∃ (j : Nat) (z : Int), j ≤ n0 ∧ kk = .int .i64 j ∧ bb = .int .i64 z ∧ Hid (z = befO (ks0.take j) (xk, xi) ∧ Keeps no w2 wq)) (fun _ kk _ => n0 - (intOf kk).toNat)
        case atStart => exact ⟨0, -2, by omega, rfl, rfl, by simp [befO], kq_of rfl rfl rfl rfl⟩
        case round =>
          obtain ⟨j, z, hj, rfl, rfl, HZ⟩ := hrel
          rename World => wq
          obtain ⟨d0, d1, d4⟩ := HC.out wq HZ.out.2
          by_cases hj0 : j < n0
          · have hj0' : (j : Int) < n0 := by omega
            have hja : j < ks0.length := by have := HA.out.1; omega
            obtain ⟨b2, off2, e2, f0, f1, f2, f3, f4⟩ := (HA.out.2.2.1.keepsN (HKW.out.trans HZ.out.2)).atK hja
            obtain ⟨y, hy⟩ : ∃ y, y = ks0.getD j kv0 := ⟨_, rfl⟩
            rw [← hy] at f0 f1 f4
            have HBS : Hid (befO (ks0.take (j + 1)) (xk, xi) = if y.m = (xk, xi) then y.stamp else befO (ks0.take j) (xk, xi)) := (show _ = _ by rw [take_succ_getD ks0 j kv0 hja, befO_snoc, hy])
            obtain ⟨⟨yk, yi⟩, yv, yo, yc, yks, yst⟩ := y
            simp only at f0 f1 f4 HBS
            clear hja hy f2 f3 d4
            subst e2
            by_cases hke : yk = xk
            · have e3 : (yk.toList == xk.toList) = true := by rw [tx_eq]; simpa using hke
              by_cases hie : yi = xi
              · have e4 : (((yi : Nat) : Int) == ((xi : Nat) : Int)) = true := by rw [hie]; simp
                have HE : Hid (yk = xk ∧ yi = xi) := ⟨hke, hie⟩
                clear hke hie
                go_wp2_with fail
                go_quiet (fail)
                go_wp2_with fail
                first | go_quiet (fail) | skip
                go_wp2_with fail
                go_roundw
                case rel => exact ⟨j + 1, yst, by omega, by go_num, rfl, by rw [HBS.out, HE.out.1, HE.out.2, if_pos rfl], HZ.out.2.trans (kq_of rfl rfl rfl rfl)⟩
                case measure => simp [intOf]; omega
              · have e4 : (((yi : Nat) : Int) == ((xi : Nat) : Int)) = false := by simp; omega
                have HE : Hid (¬ yi = xi) := hie
                clear hke hie
                go_wp2_with fail
                go_quiet (fail)
                go_wp2_with fail
                go_roundw
                case rel => exact ⟨j + 1, z, by omega, by go_num, rfl, by rw [HBS.out, if_neg (fun e => HE.out (congrArg Prod.snd e))]; exact HZ.out.1, HZ.out.2.trans (kq_of rfl rfl rfl rfl)⟩
                case measure => simp [intOf]; omega
            · have e3 : (yk.toList == xk.toList) = false := by rw [tx_eq]; simpa using hke
              have HE : Hid (¬ yk = xk) := hke
              clear hke
              go_wp2_with fail
              go_quiet (fail)
              go_wp2_with fail
              go_roundw
              case rel => exact ⟨j + 1, z, by omega, by go_num, rfl, by rw [HBS.out, if_neg (fun e => HE.out (congrArg Prod.fst e))]; exact HZ.out.1, HZ.out.2.trans (kq_of rfl rfl rfl rfl)⟩
              case measure => simp [intOf]; omega
          have hj0' : ¬ (j : Int) < n0 := by omega
          have HTK : Hid (ks0.take j = ks0) := List.take_of_length_le (by have := HA.out.1; omega)
          have HKQ : Hid (Keeps no w wq) := HKW.out.trans HZ.out.2
          by_cases hz0 : 0 ≤ z
          · have e1 := (HF.out z (by rw [HZ.out.1, HTK.out])).1 hz0
            have hz0' : decide (0 ≤ z) = true := by simpa using hz0
            have hz1' : decide (z < 0) = false := by simp; omega
            clear HZ HTK
            subst e1
            go_wp2_with fail
            first | go_quiet (fail) | skip
            go_wp2_with fail
            go_roundw
            case rel => exact ⟨k + 1, by omega, by go_num, HKQ.out.trans (kq_of rfl rfl rfl rfl)⟩
            case measure => simp [intOf]; omega
          · have e1 := (HF.out z (by rw [HZ.out.1, HTK.out])).2 (by omega)
            have hz0' : decide (0 ≤ z) = false := by simpa using hz0
            have hz1 : z < 0 := by omega
            have hz1' : decide (z < 0) = true := by simpa using hz1
            clear HZ HTK
            subst e1
            go_wp2_with fail
            first | go_quiet (fail) | skip
            go_wp2_with fail
            go_roundw
            case rel => exact ⟨k + 1, by omega, by go_num, HKQ.out.trans (kq_of rfl rfl rfl rfl)⟩
            case measure => simp [intOf]; omega
      · have q1' : decide ((xi : Int) < la) = false := by simpa using q1
        subst q2
        have HF : Hid (∀ z, z = befO ks0 (xk, xi) → ¬ 0 ≤ z) := fun z hz h => by
          have := HX.out.c (by rw [← hz]; exact h)
          simp only at this
          rw [← hz] at this
          omega
        refine wp_region_quiet_below (by kernel_rfl) (by kernel_rfl) ?_
        repeat (go_big_quiet_step (exact c2 _ _))
        refine wpQuiet_nil ?_
        intro _ hw'
        obtain ⟨⟨dq, osq⟩, rfl⟩ := hw'
        have H2 : Hid (Keeps no w1 (Sort.grow (redrawn w1 dq) osq)) := keeps_grownQ ..
        generalize Sort.grow (redrawn w1 dq) osq = w2 at H2 ⊢
        have d0 : w2.cell? ⟨R, 0, none⟩ = some (.string xk) := cell_of_blk (H2.out.at HK1.out.2.2.1 id) 0
        have d1 : w2.cell? ⟨R, 1, none⟩ = some (.int .u64 ((xi : Nat) : Int)) := cell_of_blk (H2.out.at HK1.out.2.2.1 id) 1
        have d4 : w2.cell? ⟨b1, off1 + k * 5 + 4, none⟩ = some (.int .i64 (-1)) := (HK1.out.2.1.trans H2.out).cellN HK1.out.2.2.2
        have HKW : Hid (Keeps no w w2) := HK1.out.1.trans H2.out
        have HC : Hid (∀ X, Keeps no w2 X → X.cell? ⟨R, 0, none⟩ = some (.string xk) ∧ X.cell? ⟨R, 1, none⟩ = some (.int .u64 ((xi : Nat) : Int)) ∧ X.cell? ⟨b1, off1 + k * 5 + 4, none⟩ = some (.int .i64 (-1))) := fun X hX => ⟨hX.cellN d0, hX.cellN d1, hX.cellN d4⟩
        clear z0 z1 c2 HK1 H2
        go_wp2_with fail
        clear d0 d1 d4
        go_loopw [12, 13] (fun bb kk wq => ∃ (j : Nat) (z : Int), j ≤ n0 ∧ kk = .int .i64 j ∧ bb = .int .i64 z ∧ Hid (z = befO (ks0.take j) (xk, xi) ∧ Keeps no w2 wq)) (fun _ kk _ => n0 - (intOf kk).toNat)
        case atStart => exact ⟨0, -2, by omega, rfl, rfl, by simp [befO], kq_of rfl rfl rfl rfl⟩
        case round =>
          obtain ⟨j, z, hj, rfl, rfl, HZ⟩ := hrel
          rename World => wq
          obtain ⟨d0, d1, d4⟩ := HC.out wq HZ.out.2
          by_cases hj0 : j < n0
          · have hj0' : (j : Int) < n0 := by omega
            have hja : j < ks0.length := by have := HA.out.1; omega
            obtain ⟨b2, off2, e2, f0, f1, f2, f3, f4⟩ := (HA.out.2.2.1.keepsN (HKW.out.trans HZ.out.2)).atK hja
            obtain ⟨y, hy⟩ : ∃ y, y = ks0.getD j kv0 := ⟨_, rfl⟩
            rw [← hy] at f0 f1 f4
            have HBS : Hid (befO (ks0.take (j + 1)) (xk, xi) = if y.m = (xk, xi) then y.stamp else befO (ks0.take j) (xk, xi)) := (show _ = _ by rw [take_succ_getD ks0 j kv0 hja, befO_snoc, hy])
            obtain ⟨⟨yk, yi⟩, yv, yo, yc, yks, yst⟩ := y
            simp only at f0 f1 f4 HBS
            clear hja hy f2 f3 d4
            subst e2
            by_cases hke : yk = xk
            · have e3 : (yk.toList == xk.toList) = true := by rw [tx_eq]; simpa using hke
              by_cases hie : yi = xi
              · have e4 : (((yi : Nat) : Int) == ((xi : Nat) : Int)) = true := by rw [hie]; simp
                have HE : Hid (yk = xk ∧ yi = xi) := ⟨hke, hie⟩
                clear hke hie
                go_wp2_with fail
                go_quiet (fail)
                go_wp2_with fail
                first | go_quiet (fail) | skip
                go_wp2_with fail
                go_roundw
                case rel => exact ⟨j + 1, yst, by omega, by go_num, rfl, by rw [HBS.out, HE.out.1, HE.out.2, if_pos rfl], HZ.out.2.trans (kq_of rfl rfl rfl rfl)⟩
                case measure => simp [intOf]; omega
              · have e4 : (((yi : Nat) : Int) == ((xi : Nat) : Int)) = false := by simp; omega
                have HE : Hid (¬ yi = xi) := hie
                clear hke hie
                go_wp2_with fail
                go_quiet (fail)
                go_wp2_with fail
                go_roundw
                case rel => exact ⟨j + 1, z, by omega, by go_num, rfl, by rw [HBS.out, if_neg (fun e => HE.out (congrArg Prod.snd e))]; exact HZ.out.1, HZ.out.2.trans (kq_of rfl rfl rfl rfl)⟩
                case measure => simp [intOf]; omega
            · have e3 : (yk.toList == xk.toList) = false := by rw [tx_eq]; simpa using hke
              have HE : Hid (¬ yk = xk) := hke
              clear hke
              go_wp2_with fail
              go_quiet (fail)
              go_wp2_with fail
              go_roundw
              case rel => exact ⟨j + 1, z, by omega, by go_num, rfl, by rw [HBS.out, if_neg (fun e => HE.out (congrArg Prod.fst e))]; exact HZ.out.1, HZ.out.2.trans (kq_of rfl rfl rfl rfl)⟩
              case measure => simp [intOf]; omega
          have hj0' : ¬ (j : Int) < n0 := by omega
          have HTK : Hid (ks0.take j = ks0) := List.take_of_length_le (by have := HA.out.1; omega)
          have HKQ : Hid (Keeps no w wq) := HKW.out.trans HZ.out.2
          have hz0 := HF.out z (by rw [HZ.out.1, HTK.out])
          have hz0' : decide (0 ≤ z) = false := by simpa using hz0
          have hz1 : z < 0 := by omega
          have hz1' : decide (z < 0) = true := by simpa using hz1
          clear HZ HTK
          go_wp2_with fail
          first | go_quiet (fail) | skip
          go_wp2_with fail
          go_roundw
          case rel => exact ⟨k + 1, by omega, by go_num, HKQ.out.trans (kq_of rfl rfl rfl rfl)⟩
          case measure => simp [intOf]; omega
    · have hlt' : ¬ (k : Int) < n1 := by omega
      go_wp2_with fail
      go_ret
      exact ⟨rfl, HK.out⟩
end Go.Proofs.Ytkoaiibjahlnmaa
