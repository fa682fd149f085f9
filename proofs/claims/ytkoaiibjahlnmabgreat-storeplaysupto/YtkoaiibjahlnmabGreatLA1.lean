import Derived.Test.YtkoaiibjahlnmabGreatSK
/- Load: what may be. -/
namespace Go.Proofs.YtkoaiibjahlnmabGreat
open Go.RowKit Go.Maps Go.Sort Orl
set_option linter.unusedVariables false
set_option linter.unusedSimpArgs false

def ltl (p q : Mk) : Bool := lts p.1 q.1
def ltk (x y : KV) : Bool := ltM x.m y.m
theorem load1_any (x y : Mk) (W : World) : Calls Tryz.prog 57 #[.agg #[.string x.1, .int .u64 ((x.2 : Nat) : Int)], .agg #[.string y.1, .int .u64 ((y.2 : Nat) : Int)]] W fun e w' => e = .returned (.int .i64 (cmpT x.1 y.1)) ∧ Keeps no W w' := by
  obtain ⟨x1, x2⟩ := x
  obtain ⟨y1, y2⟩ := y
  have hcon := fun W' => compare_any x1 y1 W'
  simp only
  generalize cmpT x1 y1 = r at hcon ⊢
  go_enter Tryz.func57, Tryz.ntmps57
  go_wp2_with (go_at_call 58; refine (hcon _).mono ?_; rintro e w' ⟨rfl, rfl⟩)
  go_ret
  exact ⟨rfl, ((Keeps.refl _ _).alloc _).alloc _⟩
theorem keeps_grow (W : World) (q : Nat) (os : Array Obj) : Keeps no W (Sort.grow (W.drewN q) os) := keeps_grownQ W (W.drewN q).drawn os
theorem byKeyK (x y : Mk) (W : World) : Calls Tryz.prog 45 #[.agg #[.string x.1, .int .u64 ((x.2 : Nat) : Int)], .agg #[.string y.1, .int .u64 ((y.2 : Nat) : Int)]] W fun e w' => e = .returned (.int .i64 (cmpM x y)) ∧ Keeps no W w' :=
  (byKey_any x y W).mono fun e w' ⟨h, q, os, hw⟩ => ⟨h, by rw [hw]; exact keeps_grow W q os⟩
theorem sizeMk (a b : Value) : (Tryz.prog.info? 81).map (·.size) = some (#[a, b] : Array Value).size := by
  show _ = some 2
  kernel_rfl
theorem loadMk {w : World} {g : Nat} {a b : Value} (h : w.heap[g]? = some (.cells #[a, b] 81 (0, 0))) : (loadVar 81 ⟨g, 0, none⟩).run Tryz.prog w = .ok (.agg #[a, b]) w := run_loadVar_row _ _ _ _ _ _ _ h Tryz.underlying81 rfl (sizeMk _ _)
theorem markOf_any (k : Tx) (i : Nat) (v : Tx) (o : Option Addr) (n c : Nat) (st : Int) (W : World) : Calls Tryz.prog 61 #[.agg #[.string k, .int .u64 ((i : Nat) : Int), .string v, .slice o n c, .int .i64 st]] W fun e w' => e = .returned (.agg #[.string k, .int .u64 ((i : Nat) : Int)]) ∧ Keeps no W w' := by
  have hb := blk_new (W.alloc (.cells #[.string k, .int .u64 ((i : Nat) : Int), .string v, .slice o n c, .int .i64 st] 51)) (.cells #[.string k, .int .u64 ((i : Nat) : Int)] 81)
  rw [show (W.alloc (.cells #[.string k, .int .u64 ((i : Nat) : Int), .string v, .slice o n c, .int .i64 st] 51)).heap.size = W.heap.size + 1 by simp] at hb
  have HB : Hid (_ = _) := hb
  clear hb
  go_enter Tryz.func61, Tryz.ntmps61
  go_wp2_with fail
  refine bodyPost_ret (results_row1 rfl _ _ (W.heap.size + 1) _ rfl (loadMk HB.out)) rfl ?_
  exact ⟨rfl, ((Keeps.refl _ _).alloc _).alloc _⟩
theorem areKept1_any (xk : Tx) (xi : Nat) (xv : Tx) (xo : Option Addr) (nx xc : Nat) (xst : Int) (yk : Tx) (yi : Nat) (yv : Tx) (yo : Option Addr) (ny yc : Nat) (yst : Int) (W : World) : Calls Tryz.prog 83 #[.agg #[.string xk, .int .u64 ((xi : Nat) : Int), .string xv, .slice xo nx xc, .int .i64 xst], .agg #[.string yk, .int .u64 ((yi : Nat) : Int), .string yv, .slice yo ny yc, .int .i64 yst]] W fun e w' => e = .returned (.int .i64 (cmpM (xk, xi) (yk, yi))) ∧ Keeps no W w' := by
  have h3 := fun X => byKeyK (xk, xi) (yk, yi) X
  generalize cmpM (xk, xi) (yk, yi) = r at h3 ⊢
  simp only at h3
  obtain ⟨B, hB⟩ : ∃ B, B = W.heap.size := ⟨_, rfl⟩
  obtain ⟨w1, hw1⟩ : ∃ w1, w1 = (W.alloc (.cells #[.string xk, .int .u64 ((xi : Nat) : Int), .string xv, .slice xo nx xc, .int .i64 xst] 51)).alloc (.cells #[.string yk, .int .u64 ((yi : Nat) : Int), .string yv, .slice yo ny yc, .int .i64 yst] 51) := ⟨_, rfl⟩
  have hk1 : Keeps no W w1 := by rw [hw1]; exact ((Keeps.refl no W).alloc _).alloc _
  have hb1 : w1.heap[B]? = some (.cells #[.string xk, .int .u64 ((xi : Nat) : Int), .string xv, .slice xo nx xc, .int .i64 xst] 51 (0, 0)) := by rw [hw1, hB]; exact blk_alloc (blk_new W _) _
  have hb2 : w1.heap[B + 1]? = some (.cells #[.string yk, .int .u64 ((yi : Nat) : Int), .string yv, .slice yo ny yc, .int .i64 yst] 51 (0, 0)) := by
    rw [hw1, hB]
    have := blk_new (W.alloc (.cells #[.string xk, .int .u64 ((xi : Nat) : Int), .string xv, .slice xo nx xc, .int .i64 xst] 51)) (.cells #[.string yk, .int .u64 ((yi : Nat) : Int), .string yv, .slice yo ny yc, .int .i64 yst] 51)
    rwa [show (W.alloc (.cells #[.string xk, .int .u64 ((xi : Nat) : Int), .string xv, .slice xo nx xc, .int .i64 xst] 51)).heap.size = W.heap.size + 1 by simp] at this
  have c1 := call_grown (W := w1) (fun X hX => markOf_any xk xi xv xo nx xc xst X)
  have c2 := call_grown (W := w1) (fun X hX => markOf_any yk yi yv yo ny yc yst X)
  have c3 := call_grown (W := w1) (fun X hX => h3 X)
  have z0 := cell_regrown (cell_of_blk hb1 0)
  have z1 := cell_regrown (cell_of_blk hb1 1)
  have z2 := cell_regrown (cell_of_blk hb1 2)
  have z3 := cell_regrown (cell_of_blk hb1 3)
  have z4 := cell_regrown (cell_of_blk hb1 4)
  have y0 := cell_regrown (cell_of_blk hb2 0)
  have y1 := cell_regrown (cell_of_blk hb2 1)
  have y2 := cell_regrown (cell_of_blk hb2 2)
  have y3 := cell_regrown (cell_of_blk hb2 3)
  have y4 := cell_regrown (cell_of_blk hb2 4)
  have HK : Hid (Keeps no W w1) := hk1
  clear hk1 hb1 hb2 h3
  go_enter Tryz.func83, Tryz.ntmps83
  go_upto_region 1 with fail
  rw [← hw1, ← hB]
  clear hw1 hB
  refine wp_region_quiet_below (by kernel_rfl) (by kernel_rfl) ?_
  repeat (go_big_quiet_step (first | (go_at_call_of 61 (Value.agg #[.string xk, .int .u64 ((xi : Nat) : Int), .string xv, .slice xo nx xc, .int .i64 xst]); exact c1 _ _) | (go_at_call_of 61 (Value.agg #[.string yk, .int .u64 ((yi : Nat) : Int), .string yv, .slice yo ny yc, .int .i64 yst]); exact c2 _ _) | (go_at_call 45; exact c3 _ _)))
  refine wpQuiet_nil ?_
  intro _ hw'
  obtain ⟨⟨dq, osq⟩, rfl⟩ := hw'
  have H2 : Hid (Keeps no W (Sort.grow (redrawn w1 dq) osq)) := HK.out.trans (keeps_grownQ ..)
  generalize Sort.grow (redrawn w1 dq) osq = w2 at H2 ⊢
  clear c1 c2 c3 z0 z1 z2 z3 z4 y0 y1 y2 y3 y4
  go_wp2_with fail
  go_ret
  exact ⟨rfl, H2.out⟩
theorem cmpM_iff {x y : Mk} : ltM x y = decide (cmpM x y < 0) := by rw [← ltOfM]; rfl
theorem cmpM_ge {x y : Mk} (h : ltM x y = false) : 0 ≤ cmpM x y := by
  rw [cmpM_iff, decide_eq_false_iff_not] at h
  omega
theorem cmpM_lt {x y : Mk} (h : ltM x y = true) : cmpM x y < 0 := by
  rw [cmpM_iff, decide_eq_true_eq] at h
  exact h
set_option maxRecDepth 10000 in
theorem risingL_any (w : World) (a : Option Addr) (n c : Nat) (xs : List Mk) (hn : n = xs.length) (hl : xs.length ≤ 140737488355328) (hs : Sl LE w a c xs) :
    Calls Tryz.prog 56 #[.slice a n c, .func (.func 57) #[] #[]] w fun e w' => e = .returned (.bool (rising ltl xs)) ∧ Keeps no w w' := by
  have HA : Hid (n = xs.length) := hn
  have hA : (n : Int) ≤ 140737488355328 := by omega
  clear hn hl
  obtain ⟨R, hR⟩ : ∃ R, rising ltl xs = R := ⟨_, rfl⟩
  have HR : Hid (rising ltl xs = R) := hR
  rw [hR]
  clear hR
  have HS : Hid (Sl LE w a c xs) := hs
  clear hs
  go_enter Tryz.func56, Tryz.ntmps56
  go_wp2_with fail
  go_loopw [5] (fun i wr => ∃ k : Nat, k ≤ n ∧ i = .int .i64 ((k : Int) + 1) ∧ Hid (Keeps no w wr) ∧ Hid (∀ j, j < k → j + 1 < xs.length → ltl (xs.getD j (e0, 0)) (xs.getD (j + 1) (e0, 0)) = true)) (fun i _ => n + 1 - (intOf i).toNat)
  case atStart => exact ⟨0, by omega, rfl, Keeps.refl _ _, fun j hj => absurd hj (Nat.not_lt_zero _)⟩
  case round =>
    obtain ⟨k, hk, rfl, HK, HT⟩ := hrel
    by_cases h2 : k + 1 < n
    · have hka : k + 1 < xs.length := by have := HA.out; omega
      obtain ⟨b1, off1, rfl, d1, d1'⟩ := (HS.out.keepsN HK.out).atL (j := k) (by omega)
      obtain ⟨b2, off2, e2, d2, d2'⟩ := (HS.out.keepsN HK.out).atL hka
      cases e2
      obtain ⟨x, hx⟩ : ∃ x, x = xs.getD k (e0, 0) := ⟨_, rfl⟩
      obtain ⟨y, hy⟩ : ∃ y, y = xs.getD (k + 1) (e0, 0) := ⟨_, rfl⟩
      rw [← hx] at d1 d1'
      rw [← hy] at d2 d2'
      have HX : Hid (x = xs.getD k (e0, 0)) := hx
      have HY : Hid (y = xs.getD (k + 1) (e0, 0)) := hy
      clear hx hy hka
      have h3 : (k : Int) + 1 < n := by omega
      have h4 : (k : Int) < n := by omega
      have hwk : IntKind.i64.wrap (k : Int) = (k : Int) := by rw [IntKind.wrap_i64]; omega
      have z1 := cell_regrown d1
      have z1' := cell_regrown d1'
      have z2 := cell_regrown d2
      have z2' := cell_regrown d2'
      have hq := fun W => load1_any x y W
      cases hxy : ltl x y
      · have hge := cmpT_ge hxy
        generalize cmpT x.1 y.1 = C at hq hge
        have cS := call_grown (W := wr) (fun X hX => hq X)
        clear hq
        go_wp2_with fail
        refine wp_region_quiet_below (by kernel_rfl) (by kernel_rfl) ?_
        repeat (go_big_quiet_step (exact cS _ _))
        refine wpQuiet_nil ?_
        intro _ hw'
        obtain ⟨⟨dq, osq⟩, rfl⟩ := hw'
        have K1 : Hid (Keeps no w (Sort.grow (redrawn wr dq) osq)) := HK.out.trans (keeps_grownQ ..)
        generalize Sort.grow (redrawn wr dq) osq = u1 at K1 ⊢
        clear d1 d1' d2 d2' z1 z1' z2 z2' cS
        go_wp2_with fail
        go_ret
        refine ⟨?_, K1.out⟩
        have hf := rising_fail (lt := ltl) (e0, 0) xs k (by have := HA.out; omega) (by rw [← HX.out, ← HY.out]; exact hxy)
        rw [← HR.out, hf]; rfl
      · have hge := cmpT_lt hxy
        rw [hge] at hq
        have cS := call_grown (W := wr) (fun X hX => hq X)
        clear hq hge
        go_wp2_with fail
        refine wp_region_quiet_below (by kernel_rfl) (by kernel_rfl) ?_
        repeat (go_big_quiet_step (exact cS _ _))
        refine wpQuiet_nil ?_
        intro _ hw'
        obtain ⟨⟨dq, osq⟩, rfl⟩ := hw'
        have K1 : Hid (Keeps no w (Sort.grow (redrawn wr dq) osq)) := HK.out.trans (keeps_grownQ ..)
        generalize Sort.grow (redrawn wr dq) osq = u1 at K1 ⊢
        clear d1 d1' d2 d2' z1 z1' z2 z2' cS
        go_wp2_with fail
        go_roundw
        case rel =>
          refine ⟨k + 1, by omega, by go_num, K1, fun j hj hj2 => ?_⟩
          by_cases e : j = k
          · subst e; rw [← HX.out, ← HY.out]; exact hxy
          · exact HT.out j (by omega) hj2
        case measure => simp [intOf]; omega
    · have h3 : ¬ (k : Int) + 1 < n := by omega
      go_wp2_with fail
      go_ret
      refine ⟨?_, HK.out⟩
      have hf := rising_of_all (lt := ltl) (e0, 0) xs (fun i hi => HT.out i (by have := HA.out; omega) hi)
      rw [← HR.out, hf]; rfl

set_option maxRecDepth 10000 in
theorem risingK_any (w : World) (a : Option Addr) (n c : Nat) (xs : List KV) (hn : n = xs.length) (hl : xs.length ≤ 140737488355328) (hs : Sl KE w a c xs) :
    Calls Tryz.prog 82 #[.slice a n c, .func (.func 83) #[] #[]] w fun e w' => e = .returned (.bool (rising ltk xs)) ∧ Keeps no w w' := by
  have HA : Hid (n = xs.length) := hn
  have hA : (n : Int) ≤ 140737488355328 := by omega
  clear hn hl
  obtain ⟨R, hR⟩ : ∃ R, rising ltk xs = R := ⟨_, rfl⟩
  have HR : Hid (rising ltk xs = R) := hR
  rw [hR]
  clear hR
  have HS : Hid (Sl KE w a c xs) := hs
  clear hs
  go_enter Tryz.func82, Tryz.ntmps82
  go_wp2_with fail
  go_loopw [5] (fun i wr => ∃ k : Nat, k ≤ n ∧ i = .int .i64 ((k : Int) + 1) ∧ Hid (Keeps no w wr) ∧ Hid (∀ j, j < k → j + 1 < xs.length → ltk (xs.getD j kv0) (xs.getD (j + 1) kv0) = true)) (fun i _ => n + 1 - (intOf i).toNat)
  case atStart => exact ⟨0, by omega, rfl, Keeps.refl _ _, fun j hj => absurd hj (Nat.not_lt_zero _)⟩
  case round =>
    obtain ⟨k, hk, rfl, HK, HT⟩ := hrel
    by_cases h2 : k + 1 < n
    · have hka : k + 1 < xs.length := by have := HA.out; omega
      obtain ⟨b1, off1, rfl, d1, d12, d13, d14, d1'⟩ := (HS.out.keepsN HK.out).atK (j := k) (by omega)
      obtain ⟨b2, off2, e2, d2, d22, d23, d24, d2'⟩ := (HS.out.keepsN HK.out).atK hka
      cases e2
      obtain ⟨x, hx⟩ : ∃ x, x = xs.getD k kv0 := ⟨_, rfl⟩
      obtain ⟨y, hy⟩ : ∃ y, y = xs.getD (k + 1) kv0 := ⟨_, rfl⟩
      rw [← hx] at d1 d12 d13 d14 d1'
      rw [← hy] at d2 d22 d23 d24 d2'
      have HX : Hid (x = xs.getD k kv0) := hx
      have HY : Hid (y = xs.getD (k + 1) kv0) := hy
      clear hx hy hka
      have h3 : (k : Int) + 1 < n := by omega
      have h4 : (k : Int) < n := by omega
      have hwk : IntKind.i64.wrap (k : Int) = (k : Int) := by rw [IntKind.wrap_i64]; omega
      obtain ⟨⟨xk, xi⟩, xv, xo, xc, xks, xst⟩ := x
      obtain ⟨⟨yk, yi⟩, yv, yo, yc, yks, yst⟩ := y
      obtain ⟨nx, hnx⟩ : ∃ nx, nx = xks.length := ⟨_, rfl⟩
      obtain ⟨ny, hny⟩ : ∃ ny, ny = yks.length := ⟨_, rfl⟩
      simp only at d1 d12 d13 d14 d1' d2 d22 d23 d24 d2'
      rw [← hnx] at d14
      rw [← hny] at d24
      have z1 := cell_regrown d1
      have z12 := cell_regrown d12
      have z13 := cell_regrown d13
      have z14 := cell_regrown d14
      have z1' := cell_regrown d1'
      have z2 := cell_regrown d2
      have z22 := cell_regrown d22
      have z23 := cell_regrown d23
      have z24 := cell_regrown d24
      have z2' := cell_regrown d2'
      clear hnx hny
      have hq := fun W => areKept1_any xk xi xv xo nx xc xst yk yi yv yo ny yc yst W
      cases hxy : ltM (xk, xi) (yk, yi)
      · have hge := cmpM_ge hxy
        generalize cmpM (xk, xi) (yk, yi) = C at hq hge
        have cS := call_grown (W := wr) (fun X hX => hq X)
        clear hq
        go_wp2_with fail
        refine wp_region_quiet_below (by kernel_rfl) (by kernel_rfl) ?_
        repeat (go_big_quiet_step (exact cS _ _))
        refine wpQuiet_nil ?_
        intro _ hw'
        obtain ⟨⟨dq, osq⟩, rfl⟩ := hw'
        have K1 : Hid (Keeps no w (Sort.grow (redrawn wr dq) osq)) := HK.out.trans (keeps_grownQ ..)
        generalize Sort.grow (redrawn wr dq) osq = u1 at K1 ⊢
        clear d1 d12 d13 d14 d1' d2 d22 d23 d24 d2' z1 z12 z13 z14 z1' z2 z22 z23 z24 z2' cS
        go_wp2_with fail
        go_ret
        refine ⟨?_, K1.out⟩
        have hf := rising_fail (lt := ltk) kv0 xs k (by have := HA.out; omega) (by rw [← HX.out, ← HY.out]; exact hxy)
        rw [← HR.out, hf]; rfl
      · have hge := cmpM_lt hxy
        generalize cmpM (xk, xi) (yk, yi) = C at hq hge
        have hge' : ¬ 0 ≤ C := by omega
        have cS := call_grown (W := wr) (fun X hX => hq X)
        clear hq
        go_wp2_with fail
        refine wp_region_quiet_below (by kernel_rfl) (by kernel_rfl) ?_
        repeat (go_big_quiet_step (exact cS _ _))
        refine wpQuiet_nil ?_
        intro _ hw'
        obtain ⟨⟨dq, osq⟩, rfl⟩ := hw'
        have K1 : Hid (Keeps no w (Sort.grow (redrawn wr dq) osq)) := HK.out.trans (keeps_grownQ ..)
        generalize Sort.grow (redrawn wr dq) osq = u1 at K1 ⊢
        clear d1 d12 d13 d14 d1' d2 d22 d23 d24 d2' z1 z12 z13 z14 z1' z2 z22 z23 z24 z2' cS
        go_wp2_with fail
        go_roundw
        case rel =>
          refine ⟨k + 1, by omega, by go_num, K1, fun j hj hj2 => ?_⟩
          by_cases e : j = k
          · subst e; rw [← HX.out, ← HY.out]; exact hxy
          · exact HT.out j (by omega) hj2
        case measure => simp [intOf]; omega
    · have h3 : ¬ (k : Int) + 1 < n := by omega
      go_wp2_with fail
      go_ret
      refine ⟨?_, HK.out⟩
      have hf := rising_of_all (lt := ltk) kv0 xs (fun i hi => HT.out i (by have := HA.out; omega) hi)
      rw [← HR.out, hf]; rfl

theorem swoK : SWO ltk where
  irrefl x := swoM.irrefl _
  trans x y z h1 h2 := swoM.trans _ _ _ h1 h2
  ntrans x y z h1 h2 := swoM.ntrans _ _ _ h1 h2
theorem swoL : SWO ltl where
  irrefl x := swoT.irrefl _
  trans x y z h1 h2 := swoT.trans _ _ _ h1 h2
  ntrans x y z h1 h2 := swoT.ntrans _ _ _ h1 h2
def fitsB (stamp : Int) (old : Bool) : Bool := if old then tickB stamp else decide (stamp = -1)
theorem fits_any (st : Int) (old : Bool) (w : World) : Calls Tryz.prog 59 #[.int .i64 st, .bool old] w fun e w' => e = .returned (.bool (fitsB st old)) ∧ w' = w := by
  cases old with
  | true =>
    have h := fun X => isTick_any X st
    show Calls _ _ _ _ fun e w' => e = .returned (.bool (tickB st)) ∧ w' = w
    generalize tickB st = B at h ⊢
    go_enter Tryz.func59, Tryz.ntmps59
    go_wp2_with fail
    refine (h _).mono ?_
    rintro e w1 ⟨rfl, hw⟩
    subst w1
    go_wp2_with fail
    go_ret
    exact ⟨rfl, rfl⟩
  | false =>
    by_cases h : st = -1
    · have e1 : fitsB st false = true := by simp [fitsB, h]
      rw [e1]
      have h' : (st == -1) = true := by simpa using h
      clear h
      go_enter Tryz.func59, Tryz.ntmps59
      go_wp2_with fail
      go_ret
      exact ⟨rfl, rfl⟩
    · have e1 : fitsB st false = false := by simp [fitsB, h]
      rw [e1]
      have h' : (st == -1) = false := by simpa using h
      clear h
      go_enter Tryz.func59, Tryz.ntmps59
      go_wp2_with fail
      go_ret
      exact ⟨rfl, rfl⟩
end Go.Proofs.YtkoaiibjahlnmabGreat
