import Derived.Test.YtagekdmkidbhpaaGreatKP
import Derived.Test.YtagekdmkidbhpaaGreatDW
/- The document's Due, Next. -/
namespace Go.Proofs.YtagekdmkidbhpaaGreat
open Go.RowKit Go.Maps Go.Sort Orl
set_option linter.unusedVariables false
set_option linter.unusedSimpArgs false

theorem Rl.len {s : St} {ks : List KV} {ls : List Mk} (h : Rl s ks ls) (hok : Ok s) : ls.length ≤ ks.length := by
  have hnd : ls.Nodup := by
    have := inc_nodup swoT h.la.1
    unfold List.Nodup at this ⊢
    rw [List.pairwise_map] at this
    exact List.Pairwise.imp (fun hab e => hab (by rw [e])) this
  have := len_sub ls (ks.map (·.m)) hnd (fun l hl => by
    obtain ⟨k, i⟩ := l
    obtain ⟨h1, h2⟩ := (h.la.2 k i).1 hl
    have := hok.la k (by rw [h1]; exact h2)
    rw [h1] at this
    exact h.all _ this)
  rw [List.length_map] at this
  exact this
theorem Rl.kd {s : St} {ks kb : List KV} {ls : List Mk} (h : Rl s ks ls) (he : KsEq ks kb) : KsP s kb := by
  refine ⟨fun x hx => ?_, by rw [← ksEq_m he]; exact h.inc, fun m hm => by rw [← ksEq_m he]; exact h.all m hm⟩
  obtain ⟨j, hj, rfl⟩ := List.getElem_of_mem hx
  have hj1 : j < ks.length := by rw [he.1]; exact hj
  obtain ⟨q1, q2, q3, q4⟩ := he.2 j hj1
  have g2 : kb.getD j kv0 = kb[j] := getD_at hj kv0
  rw [g2] at q1 q2 q3 q4
  rw [← q1, h.is _ (getD_mem_lt kv0 hj1), q2, q3, q4]
theorem KsP.len {s : St} {ks : List KV} (h : KsP s ks) (hS : Supp s) : ks.length ≤ 384 := by
  have := nodup_le (inc_nodup swoM h.inc) (U := Um) (fun m hm => by
    obtain ⟨x, hx, rfl⟩ := List.mem_map.1 hm
    exact hS _ (by rw [h.is x hx]; simp))
  rw [Um_len, List.length_map] at this
  exact this
/-- what the document's calls read -/
structure Rs (w : World) (r : Nat) (s : St) : Prop where
  ex : ∃ oK nK cK oL nL cL ks ls, RD w r oK nK cK oL nL cL ks ls ∧ RK w ks ∧ Rl s ks ls
  ok : Ok s
  su : Supp s
theorem Rs.go {w w' : World} {r : Nat} {s : St} (h : Rs w r s) (hk : Keeps no w w') : Rs w' r s := by
  obtain ⟨oK, nK, cK, oL, nL, cL, ks, ls, h1, h2, h3⟩ := h.ex
  exact ⟨⟨oK, nK, cK, oL, nL, cL, ks, ls, h1.keepsN hk, h2.keepsN hk, h3⟩, h.ok, h.su⟩
theorem Rs.kept {w : World} {r : Nat} {s : St} (h : Rs w r s) :
    Calls Tryz.prog 29 #[.pointer (some ⟨r, 0, none⟩)] w fun e w' => ∃ o n c ks, e = .returned (.slice o n c) ∧ Hid (n = ks.length ∧ ks.length ≤ 384) ∧ Hid (Kl w ks o c w' ∧ KsP s ks ∧ Keeps no w w') := by
  obtain ⟨oK, nK, cK, oL, nL, cL, ks, ls, h1, h2, h3⟩ := h.ex
  refine (rKept_any w r oK nK cK oL nL cL ks ls h1 h2).mono ?_
  rintro e w' ⟨o, n, c, rfl, hx⟩
  obtain ⟨ks', hn, hkl, he⟩ := hx.out
  exact ⟨o, n, c, ks', rfl, ⟨hn, (h3.kd he).len h.su⟩, hkl, h3.kd he, hkl.keep⟩
theorem Rs.last {w : World} {r : Nat} {s : St} (h : Rs w r s) (k : Tx) :
    Calls Tryz.prog 57 #[.pointer (some ⟨r, 0, none⟩), .string k] w fun e w' => e = .returned (.int .u64 ((s.last k : Nat) : Int)) ∧ Keeps no w w' := by
  obtain ⟨oK, nK, cK, oL, nL, cL, ks, ls, h1, h2, h3⟩ := h.ex
  have := rLast_any w r oK nK cK oL nL cL ks ls h1 k
  rw [lastIn_is h3.la] at this
  exact this
theorem rdue_bad (w : World) (p : Nat) (now ret : Int) (hb : (tickB now && retB ret) = false) : Calls Tryz.prog 27 #[.pointer (some ⟨p, 0, none⟩), .int .i64 now, .int .i64 ret] w fun e w' => e = .returned (.tuple #[.slice none 0 0, .int .i64 1]) ∧ Keeps no w w' := by
  have hc : now < 0 ∨ (0 ≤ now ∧ 1099511627776 < now) ∨ (0 ≤ now ∧ now ≤ 1099511627776 ∧ ret < 0) ∨ (0 ≤ now ∧ now ≤ 1099511627776 ∧ 0 ≤ ret ∧ 1048576 < ret) := by
    by_cases h1 : tickB now = true
    · rw [h1, Bool.true_and] at hb
      have h2 := tick_iff.1 h1
      simp [retB] at hb
      by_cases h3 : 0 ≤ ret
      · have := hb h3; omega
      · omega
    · have h2 : ¬ (0 ≤ now ∧ now ≤ 1099511627776) := fun h => h1 (tick_iff.2 h)
      omega
  clear hb
  rcases hc with h | ⟨h1, h⟩ | ⟨h1, h2, h⟩ | ⟨h1, h2, h3, h⟩
  all_goals (go_enter Tryz.func27, Tryz.ntmps27)
  all_goals (go_wp2_with fail)
  all_goals go_ret2
  all_goals exact ⟨rfl, Keeps.refl _ _⟩
theorem rnext_bad (w : World) (p : Nat) (ret : Int) (hb : retB ret = false) : Calls Tryz.prog 28 #[.pointer (some ⟨p, 0, none⟩), .int .i64 ret] w fun e w' => e = .returned (.tuple #[.int .i64 0, .bool false, .int .i64 1]) ∧ Keeps no w w' := by
  have hc : ret < 0 ∨ (0 ≤ ret ∧ 1048576 < ret) := by
    simp [retB] at hb
    by_cases h3 : 0 ≤ ret
    · have := hb h3; omega
    · omega
  clear hb
  rcases hc with h | ⟨h1, h⟩
  all_goals (go_enter Tryz.func28, Tryz.ntmps28)
  all_goals (go_wp2_with fail)
  all_goals go_ret3
  all_goals exact ⟨rfl, Keeps.refl _ _⟩
theorem dsOf_len (t : Int) (ks : List KV) : (dsOf t ks).length ≤ ks.length := by have := ds_rs t ks; omega
set_option maxRecDepth 10000 in
set_option maxHeartbeats 1000000 in
theorem Rs.due {w : World} {r : Nat} {s : St} (h : Rs w r s) (now ret : Int) (ht : tickB now = true) (hr : retB ret = true) :
    Calls Tryz.prog 27 #[.pointer (some ⟨r, 0, none⟩), .int .i64 now, .int .i64 ret] w fun e w' => ∃ o n c ds, e = .returned (.tuple #[.slice o n c, .int .i64 0]) ∧ Hid (n = ds.length ∧ ds.length ≤ 384) ∧ Hid (Own WE w' o c ds ∧ New w o ∧ Keeps no w w') ∧ Hid (IsDue s (now - ret) ds) := by
  have h3 := h.kept
  have HR : Hid (Rs w r s) := h
  obtain ⟨hta, htb⟩ := tick_iff.1 ht
  obtain ⟨hra, hrb⟩ : 0 ≤ ret ∧ ret ≤ 1048576 := by simpa [retB] using hr
  have q1 : decide (now < 0) = false := decide_eq_false (by omega)
  have q2 : decide (1099511627776 < now) = false := decide_eq_false (by omega)
  have q3 : decide (ret < 0) = false := decide_eq_false (by omega)
  have q4 : decide (1048576 < ret) = false := decide_eq_false (by omega)
  clear h ht hr
  go_enter Tryz.func27, Tryz.ntmps27
  go_wp2_with fail
  refine h3.mono ?_
  rintro e w1 ⟨o, n, c, ks, rfl, hn, hks⟩
  have hnb : (n : Int) ≤ 384 := by have := hn.out; omega
  obtain ⟨t, ht⟩ : ∃ t : Int, now - ret = t := ⟨_, rfl⟩
  have HT : Hid (now - ret = t) := ht
  clear h3
  go_wp2_with fail
  go_loopw [8, 10, 11] (fun s8 i _ wr => ∃ (k : Nat) (v : Value), k ≤ n ∧ i = .int .i64 k ∧ s8 = v ∧ Hid (∃ a m d ds, v = .slice a m d ∧ m = ds.length ∧ Own WE wr a d ds ∧ New w1 a ∧ Keeps no w1 wr ∧ ds = dsOf t (ks.take k))) (fun _ i _ _ => n - (intOf i).toNat)
  case atStart => exact ⟨0, _, by omega, rfl, rfl, none, 0, 0, [], rfl, rfl, own_nil _, new_none _, Keeps.refl _ _, by simp [dsOf]⟩
  case round =>
    obtain ⟨k, v, hk, rfl, rfl, HG⟩ := hrel
    obtain ⟨a, m, d, ds, rfl, hm, hod, hnw, hkp, hds⟩ := HG.out
    have HD : Hid (m = ds.length ∧ Own WE wr a d ds ∧ New w1 a ∧ Keeps no w1 wr ∧ ds = dsOf t (ks.take k)) := ⟨hm, hod, hnw, hkp, hds⟩
    clear HG hm hod hnw hds
    by_cases hlt : k < n
    · have hlt' : (k : Int) < n := by omega
      have hkl : k < ks.length := by rw [← hn.out.1]; exact hlt
      obtain ⟨b, off, rfl, d0, d1, d2, d3, d4⟩ := atK (hks.out.1.own.sl.keepsN hkp) hkl
      have hxm := getD_mem_lt kv0 hkl
      have hxk := hks.out.2.1.is _ hxm
      have hds1 := @ds_at t ks k hkl
      have hds2 := @rs_at t ks k hkl
      obtain ⟨x, hx⟩ : ∃ x, x = ks.getD k kv0 := ⟨_, rfl⟩
      rw [← hx] at d0 d1 d2 d3 d4 hxm hxk hds1 hds2
      have hold := HR.out.ok.old hxk
      have hst := HR.out.ok.st _ _ hxk
      simp only at hold hst
      have HX : Hid ((x.stamp ≠ -1 ↔ x.m.2 < s.last x.m.1) ∧ (duK t x = true → dsOf t (ks.take (k + 1)) = ds ++ [x.m]) ∧ (duK t x = false → dsOf t (ks.take (k + 1)) = ds)) := ⟨hold, fun h => by rw [(hds1 h).2.2.1, HD.out.2.2.2.2], fun h => by rw [(hds2 h).2.2.2, HD.out.2.2.2.2]⟩
      have hdl : ds.length ≤ 384 := by
        rw [HD.out.2.2.2.2]
        have := dsOf_len t (ks.take k)
        have := List.length_take_le k ks
        have := hn.out
        omega
      obtain ⟨W1, hW1⟩ : ∃ W1, W1 = wr.alloc (.cells #[.string x.m.1, .int .u64 ((x.m.2 : Nat) : Int), .string x.val, .slice x.o x.keys.length x.c] 45) := ⟨_, rfl⟩
      have hk1 : Keeps no wr W1 := by rw [hW1]; exact (Keeps.refl no wr).alloc _
      have hbk : W1.heap[wr.heap.size]? = some (.cells #[.string x.m.1, .int .u64 ((x.m.2 : Nat) : Int), .string x.val, .slice x.o x.keys.length x.c] 45 (0, 0)) := by rw [hW1]; exact blk_new wr _
      obtain ⟨B, hB⟩ : ∃ B, wr.heap.size = B := ⟨_, rfl⟩
      rw [hB] at hbk
      have HW : Hid (Keeps no wr W1 ∧ W1.heap[B]? = some (.cells #[.string x.m.1, .int .u64 ((x.m.2 : Nat) : Int), .string x.val, .slice x.o x.keys.length x.c] 45 (0, 0)) ∧ W1.cell? ⟨b, off + k * 5 + 4, none⟩ = some (.int .i64 x.stamp)) := ⟨hk1, hbk, hk1.cellN d4⟩
      have hsb : x.stamp = -1 ∨ (0 ≤ x.stamp ∧ x.stamp ≤ 1099511627776) := by
        by_cases h : x.m.2 < s.last x.m.1
        · exact .inr (hst.1 h)
        · exact .inl (hst.2 h)
      clear hx hkl hkp hxm hxk hds1 hds2 hold hst hk1 hbk
      obtain ⟨⟨xk, xi⟩, xv, xo, xc, xks, xst⟩ := x
      simp only at d0 d1 d2 d3 d4 hW1 HX HW hsb
      generalize xks.length = xn at d3 hW1 HW
      go_upto_region 9 with fail
      rw [← hW1]
      clear hW1 hB d0 d1 d2 d3 d4
      have cLa := call_grown (W := W1) (f := 57) (args := #[.pointer (some ⟨r, 0, none⟩), .string xk]) (v := .int .u64 ((s.last xk : Nat) : Int)) (fun X hX => (HR.out.go (((hks.out.2.2.trans HD.out.2.2.2.1).trans HW.out.1).trans hX)).last xk)
      have z4 := cell_regrown HW.out.2.2
      have y0 := cell_regrown (cell_of_blk HW.out.2.1 0)
      have y1 := cell_regrown (cell_of_blk HW.out.2.1 1)
      obtain ⟨D, hD⟩ : ∃ D, D = duK t ⟨(xk, xi), xv, xo, xc, xks, xst⟩ := ⟨_, rfl⟩
      have HDU : Hid (D = duK t ⟨(xk, xi), xv, xo, xc, xks, xst⟩) := hD
      clear hD
      go_cut [60] from 43 to 59 (fun s60 X => s60 = .bool D ∧ Hid (Keeps no W1 X))
      case first =>
        by_cases hs : xst = -1
        · have hlo : ¬ xi < s.last xk := fun h => HX.out.1.2 h hs
          have hc1 : decide ((xi : Int) < (s.last xk : Int)) = false := decide_eq_false (by omega)
          have hc2 : decide (xi < s.last xk) = false := decide_eq_false hlo
          have hdu : D = false := by rw [HDU.out]; simp [duK, hs]
          subst hdu
          clear hs
          refine wp_region_quiet_below (by kernel_rfl) (by kernel_rfl) ?_
          repeat (go_big_quiet_step (exact cLa _ _))
          refine wpQuiet_nil ?_
          intro _ hw'
          obtain ⟨⟨dq, osq⟩, rfl⟩ := hw'
          have HK2 : Hid (Keeps no W1 (Sort.grow (redrawn W1 dq) osq)) := keeps_grownQ ..
          generalize Sort.grow (redrawn W1 dq) osq = W2 at HK2 ⊢
          go_wp2_with fail
          go_meet
          exact ⟨rfl, HK2⟩
        · have hlo : xi < s.last xk := HX.out.1.1 hs
          have hc1 : decide ((xi : Int) < (s.last xk : Int)) = true := decide_eq_true (by omega)
          have hc2 : decide (xi < s.last xk) = true := decide_eq_true hlo
          by_cases hle : xst ≤ t
          · have hdu : D = true := by rw [HDU.out]; simp [duK, hs, hle]
            subst hdu
            have hl1 : decide (xst ≤ t) = true := decide_eq_true hle
            have hl2 : decide (xst ≤ now - ret) = true := decide_eq_true (by omega)
            clear hs
            refine wp_region_quiet_below (by kernel_rfl) (by kernel_rfl) ?_
            repeat (go_big_quiet_step (exact cLa _ _))
            refine wpQuiet_nil ?_
            intro _ hw'
            obtain ⟨⟨dq, osq⟩, rfl⟩ := hw'
            have HK2 : Hid (Keeps no W1 (Sort.grow (redrawn W1 dq) osq)) := keeps_grownQ ..
            generalize Sort.grow (redrawn W1 dq) osq = W2 at HK2 ⊢
            go_wp2_with fail
            go_meet
            exact ⟨rfl, HK2⟩
          · have hdu : D = false := by rw [HDU.out]; simp [duK, hle]
            subst hdu
            have hl1 : decide (xst ≤ t) = false := decide_eq_false hle
            have hl2 : decide (xst ≤ now - ret) = false := decide_eq_false (by omega)
            clear hs
            refine wp_region_quiet_below (by kernel_rfl) (by kernel_rfl) ?_
            repeat (go_big_quiet_step (exact cLa _ _))
            refine wpQuiet_nil ?_
            intro _ hw'
            obtain ⟨⟨dq, osq⟩, rfl⟩ := hw'
            have HK2 : Hid (Keeps no W1 (Sort.grow (redrawn W1 dq) osq)) := keeps_grownQ ..
            generalize Sort.grow (redrawn W1 dq) osq = W2 at HK2 ⊢
            go_wp2_with fail
            go_meet
            exact ⟨rfl, HK2⟩
      case rest =>
      obtain ⟨rfl, HK2⟩ := hcut
      rename World => W2
      have hk2 := HD.out.2.2.2.1.trans (HW.out.1.trans HK2.out)
      have hod := HD.out.2.1.keepsN (HW.out.1.trans HK2.out)
      have y0 := HK2.out.cellN (cell_of_blk HW.out.2.1 0)
      have y1 := HK2.out.cellN (cell_of_blk HW.out.2.1 1)
      have HR0 : Hid (Row WE (W2.alloc (.cells #[.string xk, .int .u64 ((xi : Nat) : Int)] 49)) (some ⟨W2.heap.size, 0, none⟩) [(xk, xi)]) := (own_oneW W2 (xk, xi)).row
      have HBD : Hid ((ds.length + [((xk, xi) : Mk)].length) * WE.nb ≤ 140737488355328 ∧ ds.length + [((xk, xi) : Mk)].length ≤ 140737488355328) := ⟨by simp [WE]; omega, by simp; omega⟩
      have HO : Hid (Own WE W2 a d ds ∧ Keeps no w1 W2) := ⟨hod, hk2⟩
      clear hod hk2 cLa z4 hdl
      cases D with
      | true =>
        have HE : Hid (dsOf t (ks.take (k + 1)) = ds ++ [(xk, xi)]) := HX.out.2.1 HDU.out.symm
        go_wp2_with (at_builtin; refine wpList_app okWa rfl _ _ rfl _ _ _ ds rfl HD.out.1 (HO.out.1.keepsN ((Keeps.refl _ _).alloc _)) _ _ _ [(xk, xi)] rfl rfl (fun h => by cases h) HR0.out HBD.out.1 HBD.out.2 ?_; intro o1 c1 w3 ho3 hap3)
        go_roundw
        case rel =>
          have hnn := hap3.new HD.out.2.2.1 (HO.out.2.alloc _)
          refine ⟨k + 1, _, by omega, by go_num, rfl, o1, _, c1, _, rfl, ?_, ho3, hnn.1, hnn.2, HE.out.symm⟩
          rw [List.length_append, ← HD.out.1]; rfl
        case measure => simp [intOf]; omega
      | false =>
        have HE : Hid (dsOf t (ks.take (k + 1)) = ds) := HX.out.2.2 HDU.out.symm
        go_wp2_with fail
        go_roundw
        case rel => exact ⟨k + 1, _, by omega, by go_num, rfl, a, m, d, ds, rfl, HD.out.1, HO.out.1, HD.out.2.2.1, HO.out.2, HE.out.symm⟩
        case measure => simp [intOf]; omega
    · have HT2 : Hid (ks.take k = ks) := List.take_of_length_le (by rw [← hn.out.1]; omega)
      rw [HT2.out] at HD
      go_wp2_with fail
      go_ret2
      refine ⟨a, m, d, ds, rfl, ⟨HD.out.1, ?_⟩, ⟨HD.out.2.1, HD.out.2.2.1.of_le hks.out.2.2.size, hks.out.2.2.trans HD.out.2.2.2.1⟩, ?_⟩
      · rw [HD.out.2.2.2.2]; have := dsOf_len t ks; have := hn.out; omega
      · rw [HT.out, HD.out.2.2.2.2]; exact dsOf_is hks.out.2.1 _
end Go.Proofs.YtagekdmkidbhpaaGreat
/- The document's Next. -/
namespace Go.Proofs.YtagekdmkidbhpaaGreat
open Go.RowKit Go.Maps Go.Sort Orl
set_option linter.unusedVariables false
set_option linter.unusedSimpArgs false

structure Nx (ks : List KV) (k : Nat) (ret z : Int) (is : Bool) : Prop where
  no : is = false → z = 0 ∧ ∀ j, j < k → (ks.getD j kv0).stamp = -1
  yes : is = true → ∃ L, z = L + ret ∧ (∃ x ∈ ks, x.stamp = L ∧ x.stamp ≠ -1) ∧ ∀ j, j < k → (ks.getD j kv0).stamp ≠ -1 → L ≤ (ks.getD j kv0).stamp
theorem lt_stepN {P : Nat → Prop} {t : Nat} (h : ∀ j, j < t → P j) (h1 : P t) : ∀ j, j < t + 1 → P j := fun j hj => by
  rcases Nat.lt_or_ge j t with e | e
  · exact h j e
  · have : j = t := by omega
    rw [this]; exact h1
theorem Nx.skip {ks : List KV} {k : Nat} {ret z : Int} {is : Bool} (h : Nx ks k ret z is) (hs : (ks.getD k kv0).stamp = -1) : Nx ks (k + 1) ret z is :=
  ⟨fun e => ⟨(h.no e).1, lt_stepN (h.no e).2 hs⟩, fun e => by
    obtain ⟨L, h1, h2, h3⟩ := h.yes e
    exact ⟨L, h1, h2, lt_stepN h3 (fun hn => absurd hs hn)⟩⟩
theorem Nx.high {ks : List KV} {k : Nat} {ret z : Int} (h : Nx ks k ret z true) (hs : ¬ (ks.getD k kv0).stamp + ret < z) : Nx ks (k + 1) ret z true :=
  ⟨(fun e => by cases e), fun e => by
    obtain ⟨L, h1, h2, h3⟩ := h.yes e
    exact ⟨L, h1, h2, lt_stepN h3 (fun _ => by omega)⟩⟩
theorem Nx.set {ks : List KV} {k : Nat} {ret z : Int} {is : Bool} (h : Nx ks k ret z is) (hk : k < ks.length) (hs : (ks.getD k kv0).stamp ≠ -1) (hc : is = false ∨ (ks.getD k kv0).stamp + ret < z) : Nx ks (k + 1) ret ((ks.getD k kv0).stamp + ret) true :=
  ⟨(fun e => by cases e), fun _ => ⟨_, rfl, ⟨_, getD_mem_lt kv0 hk, rfl, hs⟩, lt_stepN (fun j hj hn => by
    cases is with
    | false => exact absurd ((h.no rfl).2 j hj) hn
    | true =>
      obtain ⟨L, h1, h2, h3⟩ := h.yes rfl
      have := h3 j hj hn
      rcases hc with hc | hc
      · cases hc
      · omega) (fun _ => Int.le_refl _)⟩⟩
theorem Nx.done {s : St} {ks : List KV} {ret z : Int} {is : Bool} (h : Nx ks ks.length ret z is) (hk : KsP s ks) : ∃ L, z = nextZ L ret is ∧ IsNext s L is := by
  have hall : ∀ m v, s.V m = some v → ∃ j, j < ks.length ∧ (ks.getD j kv0).stamp = v.stamp := fun m v hv => by
    obtain ⟨x, hx, rfl⟩ := List.mem_map.1 (hk.all m (by rw [hv]; simp))
    have h1 := hk.is x hx
    rw [hv] at h1
    injection h1 with h1
    obtain ⟨j, hj, hje⟩ := List.mem_iff_getElem.1 hx
    refine ⟨j, hj, ?_⟩
    rw [getD_at hj, hje, h1]
  cases is with
  | false =>
    obtain ⟨h1, h2⟩ := h.no rfl
    refine ⟨0, h1, (fun e => by cases e), fun _ m v hv => ?_⟩
    obtain ⟨j, hj, e⟩ := hall m v hv
    rw [← e]; exact h2 j hj
  | true =>
    obtain ⟨L, h1, ⟨x, hx, h2, h3⟩, h4⟩ := h.yes rfl
    refine ⟨L, h1, fun _ => ⟨⟨x.m, _, hk.is x hx, h3, h2⟩, fun m v hv hs => ?_⟩, fun e => by cases e⟩
    obtain ⟨j, hj, e⟩ := hall m v hv
    rw [← e]; exact h4 j hj (by rw [e]; exact hs)
set_option maxRecDepth 10000 in
set_option maxHeartbeats 1000000 in
theorem Rs.next {w : World} {r : Nat} {s : St} (h : Rs w r s) (ret : Int) (hr : retB ret = true) :
    Calls Tryz.prog 28 #[.pointer (some ⟨r, 0, none⟩), .int .i64 ret] w fun e w' => ∃ (z : Int) (is : Bool), e = .returned (.tuple #[.int .i64 z, .bool is, .int .i64 0]) ∧ Hid (Keeps no w w') ∧ Hid (∃ L, z = nextZ L ret is ∧ IsNext s L is) := by
  have h3 := h.kept
  have HR : Hid (Rs w r s) := h
  obtain ⟨hra, hrb⟩ : 0 ≤ ret ∧ ret ≤ 1048576 := by simpa [retB] using hr
  have q3 : decide (ret < 0) = false := decide_eq_false (by omega)
  have q4 : decide (1048576 < ret) = false := decide_eq_false (by omega)
  clear h hr
  go_enter Tryz.func28, Tryz.ntmps28
  go_wp2_with fail
  refine h3.mono ?_
  rintro e w1 ⟨o, n, c, ks, rfl, hn, hks⟩
  have hnb : (n : Int) ≤ 384 := by have := hn.out; omega
  clear h3
  go_wp2_with fail
  go_loopw [8, 9, 10, 11] (fun s8 s9 i _ wr => ∃ (k : Nat) (z : Int) (is : Bool), k ≤ n ∧ i = .int .i64 k ∧ s8 = .int .i64 z ∧ s9 = .bool is ∧ 0 ≤ z ∧ z ≤ 1099512676352 ∧ Hid (Nx ks k ret z is ∧ Keeps no w1 wr)) (fun _ _ i _ _ => n - (intOf i).toNat)
  case atStart => exact ⟨0, 0, false, by omega, rfl, rfl, rfl, by omega, by omega, ⟨fun _ => ⟨rfl, fun j hj => by omega⟩, fun e => by cases e⟩, Keeps.refl _ _⟩
  case round =>
    obtain ⟨k, z, is, hk, rfl, rfl, rfl, hz0, hz1, HG⟩ := hrel
    by_cases hlt : k < n
    · have hlt' : (k : Int) < n := by omega
      have hkl : k < ks.length := by rw [← hn.out.1]; exact hlt
      obtain ⟨b, off, rfl, d0, d1, d2, d3, d4⟩ := atK (hks.out.1.own.sl.keepsN HG.out.2) hkl
      have hxm := getD_mem_lt kv0 hkl
      have hxk := hks.out.2.1.is _ hxm
      have n1 := HG.out.1.skip
      have n2 := HG.out.1.set hkl
      obtain ⟨x, hx⟩ : ∃ x, x = ks.getD k kv0 := ⟨_, rfl⟩
      rw [← hx] at d0 d1 d2 d3 d4 hxm hxk n1 n2
      have n3 : is = true → ¬ x.stamp + ret < z → Nx ks (k + 1) ret z is := fun e hn => by
        have := HG.out.1
        rw [e] at this ⊢
        exact this.high (by rw [← hx]; exact hn)
      have hold := HR.out.ok.old hxk
      have hst := HR.out.ok.st _ _ hxk
      simp only at hold hst
      have HX : Hid ((x.stamp ≠ -1 ↔ x.m.2 < s.last x.m.1) ∧ (x.stamp = -1 → Nx ks (k + 1) ret z is) ∧ (x.stamp ≠ -1 → (is = false ∨ x.stamp + ret < z) → Nx ks (k + 1) ret (x.stamp + ret) true) ∧ (is = true → ¬ x.stamp + ret < z → Nx ks (k + 1) ret z is)) := ⟨hold, n1, n2, n3⟩
      obtain ⟨W1, hW1⟩ : ∃ W1, W1 = wr.alloc (.cells #[.string x.m.1, .int .u64 ((x.m.2 : Nat) : Int), .string x.val, .slice x.o x.keys.length x.c] 45) := ⟨_, rfl⟩
      have hk1 : Keeps no wr W1 := by rw [hW1]; exact (Keeps.refl no wr).alloc _
      have hbk : W1.heap[wr.heap.size]? = some (.cells #[.string x.m.1, .int .u64 ((x.m.2 : Nat) : Int), .string x.val, .slice x.o x.keys.length x.c] 45 (0, 0)) := by rw [hW1]; exact blk_new wr _
      obtain ⟨B, hB⟩ : ∃ B, wr.heap.size = B := ⟨_, rfl⟩
      rw [hB] at hbk
      have HW : Hid (Keeps no wr W1 ∧ W1.heap[B]? = some (.cells #[.string x.m.1, .int .u64 ((x.m.2 : Nat) : Int), .string x.val, .slice x.o x.keys.length x.c] 45 (0, 0)) ∧ W1.cell? ⟨b, off + k * 5 + 4, none⟩ = some (.int .i64 x.stamp)) := ⟨hk1, hbk, hk1.cellN d4⟩
      have hsb : -1 ≤ x.stamp ∧ x.stamp ≤ 1099511627776 ∧ (x.stamp ≠ -1 → 0 ≤ x.stamp) := by
        by_cases h : x.m.2 < s.last x.m.1
        · have := hst.1 h; omega
        · have := hst.2 h; omega
      obtain ⟨hsb0, hsb1, hsb2⟩ := hsb
      have HSB : Hid (x.stamp ≠ -1 → 0 ≤ x.stamp) := hsb2
      clear hx hkl hxm hxk hold hst hk1 hbk n1 n2 n3 hsb2
      obtain ⟨⟨xk, xi⟩, xv, xo, xc, xks, xst⟩ := x
      simp only at d0 d1 d2 d3 d4 hW1 HX HW hsb0 hsb1 HSB
      generalize xks.length = xn at d3 hW1 HW
      go_upto_region 10 with fail
      rw [← hW1]
      clear hW1 hB d0 d1 d2 d3 d4
      have cLa := call_grown (W := W1) (f := 57) (args := #[.pointer (some ⟨r, 0, none⟩), .string xk]) (v := .int .u64 ((s.last xk : Nat) : Int)) (fun X hX => (HR.out.go (((hks.out.2.2.trans HG.out.2).trans HW.out.1).trans hX)).last xk)
      have z4 := cell_regrown HW.out.2.2
      have y0 := cell_regrown (cell_of_blk HW.out.2.1 0)
      have y1 := cell_regrown (cell_of_blk HW.out.2.1 1)
      obtain ⟨D, hD⟩ : ∃ D : Bool, D = (decide (xst ≠ -1) && (!is || decide (xst + ret < z))) := ⟨_, rfl⟩
      have HDU : Hid (D = (decide (xst ≠ -1) && (!is || decide (xst + ret < z)))) := hD
      clear hD
      go_cut [56] from 35 to 55 (fun s56 X => s56 = .bool D ∧ Hid (Keeps no W1 X))
      case first =>
        by_cases hs : xst = -1
        · have hlo : ¬ xi < s.last xk := fun h => HX.out.1.2 h hs
          have hc1 : decide ((xi : Int) < (s.last xk : Int)) = false := decide_eq_false (by omega)
          have hc2 : decide (xi < s.last xk) = false := decide_eq_false hlo
          have hdu : D = false := by rw [HDU.out]; simp [hs]
          subst hdu
          clear hs
          refine wp_region_quiet_below (by kernel_rfl) (by kernel_rfl) ?_
          repeat (go_big_quiet_step (exact cLa _ _))
          refine wpQuiet_nil ?_
          intro _ hw'
          obtain ⟨⟨dq, osq⟩, rfl⟩ := hw'
          have HK2 : Hid (Keeps no W1 (Sort.grow (redrawn W1 dq) osq)) := keeps_grownQ ..
          generalize Sort.grow (redrawn W1 dq) osq = W2 at HK2 ⊢
          go_wp2_with fail
          go_meet
          exact ⟨rfl, HK2⟩
        · have hlo : xi < s.last xk := HX.out.1.1 hs
          have hc1 : decide ((xi : Int) < (s.last xk : Int)) = true := decide_eq_true (by omega)
          have hc2 : decide (xi < s.last xk) = true := decide_eq_true hlo
          cases is with
          | false =>
            have hdu : D = true := by rw [HDU.out]; simp [hs]
            subst hdu
            clear hs
            refine wp_region_quiet_below (by kernel_rfl) (by kernel_rfl) ?_
            repeat (go_big_quiet_step (exact cLa _ _))
            refine wpQuiet_nil ?_
            intro _ hw'
            obtain ⟨⟨dq, osq⟩, rfl⟩ := hw'
            have HK2 : Hid (Keeps no W1 (Sort.grow (redrawn W1 dq) osq)) := keeps_grownQ ..
            generalize Sort.grow (redrawn W1 dq) osq = W2 at HK2 ⊢
            go_wp2_with fail
            go_meet
            exact ⟨rfl, HK2⟩
          | true =>
            by_cases hle : xst + ret < z
            · have hdu : D = true := by rw [HDU.out]; simp [hs, hle]
              subst hdu
              have hl1 : decide (xst + ret < z) = true := decide_eq_true hle
              clear hs
              refine wp_region_quiet_below (by kernel_rfl) (by kernel_rfl) ?_
              repeat (go_big_quiet_step (exact cLa _ _))
              refine wpQuiet_nil ?_
              intro _ hw'
              obtain ⟨⟨dq, osq⟩, rfl⟩ := hw'
              have HK2 : Hid (Keeps no W1 (Sort.grow (redrawn W1 dq) osq)) := keeps_grownQ ..
              generalize Sort.grow (redrawn W1 dq) osq = W2 at HK2 ⊢
              go_wp2_with fail
              go_meet
              exact ⟨rfl, HK2⟩
            · have hdu : D = false := by rw [HDU.out]; simp [hle]
              subst hdu
              have hl1 : decide (xst + ret < z) = false := decide_eq_false hle
              clear hs
              refine wp_region_quiet_below (by kernel_rfl) (by kernel_rfl) ?_
              repeat (go_big_quiet_step (exact cLa _ _))
              refine wpQuiet_nil ?_
              intro _ hw'
              obtain ⟨⟨dq, osq⟩, rfl⟩ := hw'
              have HK2 : Hid (Keeps no W1 (Sort.grow (redrawn W1 dq) osq)) := keeps_grownQ ..
              generalize Sort.grow (redrawn W1 dq) osq = W2 at HK2 ⊢
              go_wp2_with fail
              go_meet
              exact ⟨rfl, HK2⟩
      case rest =>
      obtain ⟨rfl, HK2⟩ := hcut
      rename World => W2
      have z4 := HK2.out.cellN HW.out.2.2
      have HO : Hid (Keeps no w1 W2) := HG.out.2.trans (HW.out.1.trans HK2.out)
      clear cLa y0 y1
      cases D with
      | true =>
        have hh := HDU.out
        have hs : xst ≠ -1 := fun e => by simp [e] at hh
        have HE : Hid (Nx ks (k + 1) ret (xst + ret) true) := HX.out.2.2.1 hs (by
          cases is with
          | false => exact .inl rfl
          | true => right; simpa [hs] using hh)
        have hs0 := HSB.out hs
        clear hh hs
        go_wp2_with fail
        go_roundw
        case rel => exact ⟨k + 1, xst + ret, true, by omega, by go_num, rfl, rfl, by omega, by omega, HE.out, HO.out⟩
        case measure => simp [intOf]; omega
      | false =>
        have HE : Hid (Nx ks (k + 1) ret z is) := by
          by_cases hs : xst = -1
          · exact HX.out.2.1 hs
          · have hh := HDU.out
            cases is with
            | false => simp [hs] at hh
            | true => exact HX.out.2.2.2 rfl (fun hl => by simp [hs, hl] at hh)
        go_wp2_with fail
        go_roundw
        case rel => exact ⟨k + 1, z, is, by omega, by go_num, rfl, rfl, hz0, hz1, HE.out, HO.out⟩
        case measure => simp [intOf]; omega
    · have hkn : k = n := by omega
      have HF : Hid (∃ L, z = nextZ L ret is ∧ IsNext s L is) := by
        have := HG.out.1
        rw [hkn, hn.out.1] at this
        exact this.done hks.out.2.1
      go_wp2_with fail
      go_ret3
      exact ⟨z, is, rfl, hks.out.2.2.trans HG.out.2, HF.out⟩
end Go.Proofs.YtagekdmkidbhpaaGreat
/- Both stores; the document's Collect. -/
namespace Go.Proofs.YtagekdmkidbhpaaGreat
open Go.RowKit Go.Maps Go.Sort Orl
set_option linter.unusedVariables false
set_option linter.unusedSimpArgs false

theorem Ow.wide {w0 w w' : World} {p : Nat} {s : St} {N : Nat} {P : Nat → Prop} (h : Ow w0 w p s N P) (hk : Keeps P w w') : Ow w0 w' p s N (fun b => P b ∨ (w.heap.size ≤ b ∧ b < w'.heap.size)) := by
  obtain ⟨T, h1, h4⟩ := h
  refine ⟨T, ⟨h1.is.keeps hk (fun b hb hc => hb (h4 b hc).1), h1.ok, h1.new, h1.keep.then hk (fun b hb => .inr (h4 b hb).2.1)⟩, fun b hb => ?_⟩
  rcases hb with hb | ⟨hb1, hb2⟩
  · exact ⟨(h4 b hb).1, (h4 b hb).2.1, Nat.lt_of_lt_of_le (h4 b hb).2.2 hk.size⟩
  · refine ⟨?_, Nat.le_trans h1.keep.size hb1, hb2⟩
    cases e : T b with
    | none => rfl
    | some r => have := h1.is.lt b (by rw [e]; simp); omega
theorem RO.inb {B : Nat → Prop} {w : World} {p : Nat} {oK : Option Addr} {nK cK : Nat} {oL : Option Addr} {nL cL : Nat} {ks : List KV} {ls : List Mk} (h : RO B w p oK nK cK oL nL cL ks ls) : RO (fun b => B b ∧ b < w.heap.size) w p oK nK cK oL nL cL ks ls :=
  ⟨h.b, h.k, h.key, h.l, h.nk, h.nl, h.lk, h.ll, ⟨h.bp, lt_of_block h.b⟩, fun b hb => ⟨h.bk b hb, h.k.lt b hb⟩, fun x hx b hb => ⟨h.bt x hx b hb, (h.key x hx).lt b hb⟩, fun b hb => ⟨h.bl b hb, h.l.lt b hb⟩⟩
/-- the document's store in the state s, of its own: B -/
def Rb (B : Nat → Prop) (w : World) (r : Nat) (s : St) : Prop := (∃ oK nK cK oL nL cL ks ls, RO B w r oK nK cK oL nL cL ks ls ∧ Rl s ks ls) ∧ Ok s ∧ Supp s
theorem Rb.rs {B : Nat → Prop} {w : World} {r : Nat} {s : St} (h : Rb B w r s) : Rs w r s := by
  obtain ⟨⟨oK, nK, cK, oL, nL, cL, ks, ls, h1, h2⟩, ok, su⟩ := h
  exact ⟨⟨oK, nK, cK, oL, nL, cL, ks, ls, h1.rd, ⟨fun x hx => ⟨(h1.key x hx).sl, by have := ok.v.len (h2.is x hx); simp only at this; omega⟩⟩, h2⟩, ok, su⟩
theorem Rb.keeps {B : Nat → Prop} {w w' : World} {r : Nat} {s : St} (h : Rb B w r s) {S : Nat → Prop} (hk : Keeps S w w') (hS : ∀ b, B b → ¬ S b) : Rb B w' r s := by
  obtain ⟨⟨oK, nK, cK, oL, nL, cL, ks, ls, h1, h2⟩, ok, su⟩ := h
  exact ⟨⟨oK, nK, cK, oL, nL, cL, ks, ls, h1.keeps hk (fun b hb hn => hS b hb hn), h2⟩, ok, su⟩
theorem Rb.go {B : Nat → Prop} {w w' : World} {r : Nat} {s : St} (h : Rb B w r s) (hk : Keeps no w w') : Rb B w' r s := h.keeps hk (fun _ _ => id)
theorem Rb.inb {B : Nat → Prop} {w : World} {r : Nat} {s : St} (h : Rb B w r s) : Rb (fun b => B b ∧ b < w.heap.size) w r s := by
  obtain ⟨⟨oK, nK, cK, oL, nL, cL, ks, ls, h1, h2⟩, ok, su⟩ := h
  exact ⟨⟨oK, nK, cK, oL, nL, cL, ks, ls, h1.inb, h2⟩, ok, su⟩
theorem Rb.aft {B : Nat → Prop} {w w' : World} {r : Nat} {s : St} {ks : List KV} {ls : List Mk} (ha : Aft B w r ks ls w') (hr : Rl s ks ls) (ok : Ok s) (su : Supp s) : Rb (fun b => B b ∨ w.heap.size ≤ b) w' r s ∧ Keeps B w w' := by
  obtain ⟨⟨oK, nK, cK, oL, nL, cL, h1⟩, h2⟩ := ha
  exact ⟨⟨⟨oK, nK, cK, oL, nL, cL, ks, ls, h1, hr⟩, ok, su⟩, h2⟩
theorem ok_putO {s : St} (h : Ok s) (x : OV) (now : Int) : Ok (putO s x now) := by
  unfold putO
  split
  · rename_i hp
    exact ok_put h (by have := (idn_le x.i).2; show idn x.i < _; omega) hp
  · exact h
theorem ok_comO {s : St} (h : Ok s) (x : OV) (now : Int) : Ok (comO s x now) := by
  unfold comO
  split
  · rename_i hp
    exact ok_commit h hp
  · exact h
/-- the document's Put, of a script's step -/
theorem Rb.put {B : Nat → Prop} {w : World} {r : Nat} {s : St} (h : Rb B w r s) (x : OV) (now : Int) (o : Option Addr) (n c : Nat) (o2 : Option Addr) (n2 c2 : Nat) (hn : n = x.ps.length) (hn2 : n2 = x.keys.length) (hsp : Sl PE w o c x.ps) (hsk : Sl TE w o2 c2 x.keys) (hBp : ∀ b, inO o b ∨ inO o2 b → ¬ B b ∧ b < w.heap.size) :
    Calls Tryz.prog 24 #[.pointer (some ⟨r, 0, none⟩), .int .u64 ((x.id : Nat) : Int), .slice o n c, .slice o2 n2 c2, .int .i64 now] w fun e w' => ∃ (b : Bool) (z : Int), e = .returned (.tuple #[.bool b, .int .i64 z]) ∧ Hid (Rb (fun b => B b ∨ w.heap.size ≤ b) w' r (putO s x now) ∧ Keeps B w w') := by
  obtain ⟨⟨oK, nK, cK, oL, nL, cL, ks, ls, h1, h2⟩, ok, su⟩ := h
  have hk384 : ks.length ≤ 384 := KsP.len (s := s) ⟨h2.is, h2.inc, h2.all⟩ su
  have hz1 : ∀ k ∈ x.keys, k.size ≤ 140737488351232 := fun k hk => by have := NM_size (names_mem hk); omega
  have hz2 : ∀ q ∈ x.ps, q.2.size ≤ 140737488351232 := fun q hq => by rw [(ps_mem hq).2.2]; have := cut3_size x.v; omega
  have hpl := ps_len x
  have hkl := keys_len x
  cases hok : okPut x.id x.ps x.keys now with
  | true =>
    refine (rPut_good B w r oK nK cK oL nL cL ks ls h1 s h2 x.id x.ps x.keys now o n c o2 n2 c2 hn hn2 hsp hsk hz1 hz2 (fun b hb => (hBp b (.inl hb)).1) (fun b hb => (hBp b (.inr hb)).1) (fun b hb => (hBp b hb).2) hok (by omega)).mono ?_
    rintro e w' ⟨he, hx⟩
    obtain ⟨ks', ha, hr, _⟩ := hx.out
    have e1 : putO s x now = putAll x.id x.keys now s (miss s x.id x.ps) := by unfold putO; rw [if_pos hok]
    refine ⟨_, _, he, Rb.aft ha (by rw [e1]; exact hr) (ok_putO ok x now) (supp_put su x now)⟩
  | false =>
    refine (rPut_bad w (.pointer (some ⟨r, 0, none⟩)) x.id x.ps x.keys now o n c o2 n2 c2 hn hn2 (by omega) (by omega) hsp hsk hz1 hz2 hok).mono ?_
    rintro e w' ⟨he, hk⟩
    have e1 : putO s x now = s := by unfold putO; rw [if_neg (by rw [hok]; simp)]
    rw [e1]
    exact ⟨_, _, he, ⟨⟨oK, nK, cK, oL, nL, cL, ks, ls, (h1.keepsN hk).mono fun b hb => .inl hb, h2⟩, ok, su⟩, hk.of_no⟩
theorem Rb.commit {B : Nat → Prop} {w : World} {r : Nat} {s : St} (h : Rb B w r s) (x : OV) (now : Int) :
    Calls Tryz.prog 26 #[.pointer (some ⟨r, 0, none⟩), .int .u64 ((x.id : Nat) : Int), .int .i64 now] w fun e w' => ∃ (n z : Int), e = .returned (.tuple #[.int .i64 n, .int .i64 z]) ∧ Hid (Rb (fun b => B b ∨ w.heap.size ≤ b) w' r (comO s x now) ∧ Keeps B w w') := by
  obtain ⟨⟨oK, nK, cK, oL, nL, cL, ks, ls, h1, h2⟩, ok, su⟩ := h
  have hk384 : ks.length ≤ 384 := KsP.len (s := s) ⟨h2.is, h2.inc, h2.all⟩ su
  have hl384 := h2.len ok
  have hid := idn_le x.i
  have hid' : decide (65536 ≤ x.id) = true := decide_eq_true hid.1
  cases hok : tickB now with
  | true =>
    refine (rCommit_good B w r oK nK cK oL nL cL ks ls h1 x.id now (by rw [hid', hok]; rfl) (by omega)).mono ?_
    rintro e w' ⟨he, hx⟩
    have e1 : comO s x now = commitS s x.id now := by unfold comO; rw [if_pos hok]
    refine ⟨_, _, he, Rb.aft hx.out ?_ (ok_comO ok x now) (supp_com su x now)⟩
    rw [e1]
    exact h2.com ok x.id (by have := hid.1; show idn x.i ≠ 0; omega) now
  | false =>
    refine (rCommit_bad w (.pointer (some ⟨r, 0, none⟩)) x.id now (by rw [hok, Bool.and_false])).mono ?_
    rintro e w' ⟨he, hk⟩
    have e1 : comO s x now = s := by unfold comO; rw [if_neg (by rw [hok]; simp)]
    rw [e1]
    exact ⟨_, _, he, ⟨⟨oK, nK, cK, oL, nL, cL, ks, ls, (h1.keepsN hk).mono fun b hb => .inl hb, h2⟩, ok, su⟩, hk.of_no⟩
/-- one that is due goes -/
theorem Rb.drop {B : Nat → Prop} {w : World} {r : Nat} {s : St} (h : Rb B w r s) (k : Tx) (i : Nat) (v : Vr) (hv : s.V (k, i) = some v) (hs : v.stamp ≠ -1) :
    Calls Tryz.prog 62 #[.pointer (some ⟨r, 0, none⟩), .string k, .int .u64 ((i : Nat) : Int)] w fun e w' => e = .returned (.int .i64 0) ∧ Hid (Rb (fun b => B b ∨ w.heap.size ≤ b) w' r (dropS s (k, i)) ∧ Keeps B w w') := by
  obtain ⟨⟨oK, nK, cK, oL, nL, cL, ks, ls, h1, h2⟩, ok, su⟩ := h
  have hk384 : ks.length ≤ 384 := KsP.len (s := s) ⟨h2.is, h2.inc, h2.all⟩ su
  refine (rDrop_some B w r oK nK cK oL nL cL ks ls h1 k i (by rw [h2.there, hv]; rfl) (by rw [lastIn_is h2.la]; exact (ok.old hv).1 hs) (by omega)).mono ?_
  rintro e w' ⟨he, hx⟩
  refine ⟨he, Rb.aft hx.out (h2.drop (k, i) (by rw [hv]; simp)) (ok_drop ok hv hs) (fun m hm => su m (fun e => hm ?_))⟩
  show (if m = (k, i) then none else s.V m) = none
  rw [e]
  split <;> rfl
theorem Rb.mono {B B' : Nat → Prop} {w : World} {r : Nat} {s : St} (h : Rb B w r s) (hB : ∀ b, B b → B' b) : Rb B' w r s := by
  obtain ⟨⟨oK, nK, cK, oL, nL, cL, ks, ls, h1, h2⟩, ok, su⟩ := h
  exact ⟨⟨oK, nK, cK, oL, nL, cL, ks, ls, h1.mono hB, h2⟩, ok, su⟩
theorem Rb.keptK {B : Nat → Prop} {w : World} {r : Nat} {s : St} (h : Rb B w r s) :
    Calls Tryz.prog 29 #[.pointer (some ⟨r, 0, none⟩)] w fun e w' => ∃ o n c ks, e = .returned (.slice o n c) ∧ Hid (Kd s ks o n c w' ∧ Keeps no w w') := by
  refine h.rs.kept.mono ?_
  rintro e w' ⟨o, n, c, ks, rfl, hn, hx⟩
  obtain ⟨hk, hp, hkk⟩ := hx.out
  exact ⟨o, n, c, ks, rfl, ⟨hn.out.1, hk.own, fun x hx => (hk.key x hx).1, hp.is, hp.all, hp.inc, h.2.1, by have := hn.out.2; omega⟩, hkk⟩
theorem Rb.lastsK {B : Nat → Prop} {w : World} {r : Nat} {s : St} (h : Rb B w r s) :
    Calls Tryz.prog 31 #[.pointer (some ⟨r, 0, none⟩)] w fun e w' => ∃ o n c ls, e = .returned (.slice o n c) ∧ Hid (Ld s ls o n c w' ∧ Keeps no w w') := by
  obtain ⟨⟨oK, nK, cK, oL, nL, cL, ks, ls, h1, h2⟩, ok, su⟩ := h
  refine (rLasts_any w r oK nK cK oL nL cL ks ls h1.rd).mono ?_
  rintro e w' ⟨o, n, c, he, hx⟩
  exact ⟨o, n, c, ls, he, ⟨hx.out.1, hx.out.2.1, h2.la, ok, h1.ll⟩, hx.out.2.2.2⟩
set_option maxRecDepth 10000 in
set_option maxHeartbeats 1000000 in
theorem Rb.collect {B : Nat → Prop} {w : World} {r : Nat} {s : St} (h : Rb B w r s) (hB : ∀ b, B b → b < w.heap.size) (now ret : Int) (ht : tickB now = true) (hr : retB ret = true) :
    Calls Tryz.prog 30 #[.pointer (some ⟨r, 0, none⟩), .int .i64 now, .int .i64 ret] w fun e w' => ∃ o n c ds, e = .returned (.tuple #[.slice o n c, .int .i64 0]) ∧ Hid (n = ds.length ∧ ds.length ≤ 384) ∧ Hid (Own WE w' o c ds ∧ New w o) ∧ Hid (IsDue s (now - ret) ds) ∧ Hid (∃ B', Rb B' w' r (collS s (now - ret)) ∧ Keeps B w w' ∧ (∀ b, B' b → B b ∨ w.heap.size ≤ b) ∧ ∀ b, inO o b → ¬ B' b) := by
  have h1 := h.rs.due now ret ht hr
  have HO : Hid (Rb B w r s ∧ ∀ b, B b → b < w.heap.size) := ⟨h, hB⟩
  clear h ht hr hB
  go_enter Tryz.func30, Tryz.ntmps30
  go_wp2_with (go_at_call 27; refine h1.mono ?_; rintro e w1 ⟨o, n, c, ds, rfl, hn, hd, his⟩)
  have hnb : (n : Int) ≤ 384 := by have := hn.out; omega
  clear h1
  go_loopw [10] (fun i wr => ∃ k : Nat, k ≤ n ∧ i = .int .i64 k ∧ Hid (∃ B', Rb B' wr r (cutS s (inM (ds.take k))) ∧ Keeps B w1 wr ∧ (∀ b, B' b → B b ∨ w1.heap.size ≤ b))) (fun i _ => n - (intOf i).toNat)
  case atStart => exact ⟨0, by omega, rfl, B, by rw [show ds.take 0 = [] from rfl, cutS_nil]; exact HO.out.1.go hd.out.2.2, Keeps.refl _ _, fun b hb => .inl hb⟩
  case round =>
    obtain ⟨k, hk, rfl, HG⟩ := hrel
    obtain ⟨B', hb1, hb2, hb3⟩ := HG.out
    have HG2 : Hid (Rb B' wr r (cutS s (inM (ds.take k))) ∧ Keeps B w1 wr ∧ (∀ b, B' b → B b ∨ w1.heap.size ≤ b)) := ⟨hb1, hb2, hb3⟩
    have HOB : Hid (∀ b, inO o b → ¬ B b ∧ b < w1.heap.size) := fun b hb => ⟨fun hc => by have := HO.out.2 b hc; have := hd.out.2.1 b hb; omega, hd.out.1.lt b hb⟩
    clear HG hb1 hb2 hb3
    by_cases hlt : k < n
    · have hlt' : (k : Int) < n := by omega
      have hkl : k < ds.length := by rw [← hn.out.1]; exact hlt
      have hod : Own WE wr o c ds := hd.out.1.keeps HG2.out.2.1 (fun b hb hc => (HOB.out b hb).1 hc)
      obtain ⟨b, off, rfl, d0, d1⟩ := atW hod.sl hkl
      have hstep := his.out.step hkl
      obtain ⟨m, hm⟩ : ∃ m, m = ds.getD k (e0, 0) := ⟨_, rfl⟩
      have hin : m ∈ ds := by rw [hm]; exact getD_mem_lt _ hkl
      rw [← hm] at d0 d1 hstep
      obtain ⟨v, hv, hs1, _⟩ := dueB_iff.1 ((his.out.is m).1 hin)
      have hnot : inM (ds.take k) m = false := by
        cases e : inM (ds.take k) m with
        | false => rfl
        | true =>
          exfalso
          have h1 := inM_iff.1 e
          obtain ⟨j, hj, hje⟩ := List.mem_iff_getElem.1 h1
          rw [List.length_take] at hj
          have h2 := inc_getD his.out.inc (e0, 0) (show j < k by omega) hkl
          rw [← hm] at h2
          have h3 : ds.getD j (e0, 0) = m := by
            rw [getD_at (show j < ds.length by omega), ← hje]
            simp
          rw [h3, swoM.irrefl] at h2
          cases h2
      have hV : (cutS s (inM (ds.take k))).V m = some v := by show (if inM (ds.take k) m then none else s.V m) = _; rw [hnot]; exact hv
      have hdrp : dropR (cutS s (inM (ds.take k))) m = dropS (cutS s (inM (ds.take k))) m := by
        unfold dropR
        rw [hV]
        simp only
        rw [if_neg hs1]
      obtain ⟨mk, mi⟩ := m
      have HDr : Hid (∀ X, Keeps no wr X → Calls Tryz.prog 62 #[.pointer (some ⟨r, 0, none⟩), .string mk, .int .u64 ((mi : Nat) : Int)] X fun e w' => e = .returned (.int .i64 0) ∧ Hid (Rb (fun b => B' b ∨ X.heap.size ≤ b) w' r (cutS s (inM (ds.take (k + 1)))) ∧ Keeps B' X w')) := fun X hX => by
        have := (HG2.out.1.go hX).drop mk mi v hV hs1
        rw [← hdrp, hstep] at this
        exact this
      have HST : Hid (∀ X, Keeps no wr X → X.cell? ⟨b, off + k * 2, none⟩ = some (.string mk) ∧ X.cell? ⟨b, off + k * 2 + 1, none⟩ = some (.int .u64 ((mi : Nat) : Int))) := fun X hX => ⟨hX.cellN d0, hX.cellN d1⟩
      have HNB : Hid (¬ B' b) := fun hc => by
        have h1 := HOB.out b ⟨_, rfl, rfl⟩
        rcases HG2.out.2.2 b hc with h | h
        · exact h1.1 h
        · omega
      have HSB : Hid (∀ X, Keeps B' wr X → X.cell? ⟨b, off + k * 2, none⟩ = some (.string mk) ∧ X.cell? ⟨b, off + k * 2 + 1, none⟩ = some (.int .u64 ((mi : Nat) : Int))) := fun X hX => ⟨hX.cell d0 HNB.out, hX.cell d1 HNB.out⟩
      clear hkl hod hstep hm hin hv hnot hV hdrp hs1 d0 d1
      go_upto_region 5 with fail
      go_region_held3 (fun X => X.cell? ⟨b, off + k * 2, none⟩ = some (.string mk) ∧ X.cell? ⟨b, off + k * 2 + 1, none⟩ = some (.int .u64 ((mi : Nat) : Int))) (first | exact HSB.out _ HKZ.out.2 | exact HST.out _ ((Keeps.refl no _).drew) | exact HST.out _ (Keeps.refl no _)) ((go_at_call 62; refine (HDr.out _ ((Keeps.refl no wr).drew)).mono ?_; rintro e wz ⟨rfl, h9⟩; have HKZ : Hid (Rb (fun b => B' b ∨ wr.heap.size ≤ b) wz r (cutS s (inM (ds.take (k + 1)))) ∧ Keeps B' wr wz) := ⟨h9.out.1, (Keeps.refl B' wr).drew.trans h9.out.2⟩; have hcz := HSB.out _ HKZ.out.2; obtain ⟨hcz0, hcz1⟩ := hcz; clear h9))
      all_goals (try (rename _ ∧ _ => hh; clear hh))
      go_wp2_with fail
      go_roundw
      case rel =>
        refine ⟨k + 1, by omega, by go_num, _, HKZ.out.1, HG2.out.2.1.then HKZ.out.2 HG2.out.2.2, fun b hb => ?_⟩
        rcases hb with hb | hb
        · exact HG2.out.2.2 b hb
        · exact .inr (Nat.le_trans HG2.out.2.1.size hb)
      case measure => simp [intOf]; omega
    · have HT : Hid (ds.take k = ds) := List.take_of_length_le (by rw [← hn.out.1]; omega)
      rw [HT.out] at HG2
      go_wp2_with fail
      go_ret2
      refine ⟨o, n, c, ds, rfl, hn, ⟨hd.out.1.keeps HG2.out.2.1 (fun b hb hc => (HOB.out b hb).1 hc), hd.out.2.1⟩, his, B', ?_, hd.out.2.2.of_no.trans HG2.out.2.1, fun b hb => ?_, fun b hb hc => ?_⟩
      · have := HG2.out.1
        rw [his.out.cut] at this
        exact this
      · rcases HG2.out.2.2 b hb with h | h
        · exact .inl h
        · exact .inr (Nat.le_trans hd.out.2.2.size h)
      · have h1 := HOB.out b hb
        rcases HG2.out.2.2 b hc with h | h
        · exact h1.1 h
        · omega
end Go.Proofs.YtagekdmkidbhpaaGreat
/- Both stores, side by side; every answer, whatever the numbers. -/
namespace Go.Proofs.YtagekdmkidbhpaaGreat
open Go.RowKit Go.Maps Go.Sort Orl
set_option linter.unusedVariables false
set_option linter.unusedSimpArgs false

def erZ (b : Bool) : Int := if b then 0 else 1
def gdB (nw kp : Int) : Bool := tickB nw && retB kp
structure DueX (s : St) (nw kp : Int) (ds : List Mk) : Prop where
  good : gdB nw kp = true → IsDue s (nw - kp) ds
  bad : gdB nw kp = false → ds = []
theorem DueX.same {s : St} {nw kp : Int} {a b : List Mk} (ha : DueX s nw kp a) (hb : DueX s nw kp b) : a = b := by
  cases h : gdB nw kp with
  | true => exact (ha.good h).same (hb.good h)
  | false => rw [ha.bad h, hb.bad h]
structure NextX (s : St) (kp z : Int) (is : Bool) : Prop where
  good : retB kp = true → ∃ L, z = nextZ L kp is ∧ IsNext s L is
  bad : retB kp = false → z = 0 ∧ is = false
theorem NextX.same {s : St} {kp z z' : Int} {is is' : Bool} (ha : NextX s kp z is) (hb : NextX s kp z' is') : z = z' ∧ is = is' := by
  cases h : retB kp with
  | true =>
    obtain ⟨L, h1, h2⟩ := ha.good h
    obtain ⟨L', h1', h2'⟩ := hb.good h
    obtain ⟨e1, e2⟩ := h2.same h2'
    exact ⟨by rw [h1, h1', e2 kp], e1⟩
  | false =>
    obtain ⟨h1, h2⟩ := ha.bad h
    obtain ⟨h1', h2'⟩ := hb.bad h
    exact ⟨by rw [h1, h1'], by rw [h2, h2']⟩
def collX (s : St) (nw kp : Int) : St := if gdB nw kp = true then collS s (nw - kp) else s
theorem supp_collX {s : St} (h : Supp s) (nw kp : Int) : Supp (collX s nw kp) := by
  unfold collX
  split
  · exact supp_cut h _
  · exact h
theorem gd_parts {nw kp : Int} (h : gdB nw kp = true) : tickB nw = true ∧ retB kp = true := by
  unfold gdB at h
  simpa using h
section
variable {w0 w w' : World} {p : Nat} {s : St} {P : Nat → Prop}
theorem Ow.dueX (h : Ow w0 w p s 384 P) (nw kp : Int) :
    Calls Tryz.prog 13 #[.pointer (some ⟨p, 0, none⟩), .int .i64 nw, .int .i64 kp] w fun e w' => ∃ o n c ds, e = .returned (.tuple #[.slice o n c, .int .i64 (erZ (gdB nw kp))]) ∧ Hid (n = ds.length ∧ ds.length ≤ 384) ∧ Hid (Own WE w' o c ds ∧ New w o ∧ Keeps no w w') ∧ Hid (DueX s nw kp ds) := by
  cases hg : gdB nw kp with
  | true =>
    obtain ⟨h1, h2⟩ := gd_parts hg
    refine (h.due nw kp h1 h2 (by omega)).mono ?_
    rintro e w' ⟨v, rfl, o, n, c, ds, rfl, hn, hd, hi⟩
    exact ⟨o, n, c, ds, rfl, ⟨hn.out, hi.out.2⟩, hd, fun _ => hi.out.1, fun hf => by rw [hg] at hf; cases hf⟩
  | false =>
    refine (due_bad w p nw kp hg).mono ?_
    rintro e w' ⟨rfl, hk⟩
    exact ⟨none, 0, 0, [], rfl, ⟨rfl, by simp⟩, ⟨own_nil _, new_none _, hk⟩, (fun hf => by rw [hg] at hf; cases hf), fun _ => rfl⟩
theorem Ow.nextX (h : Ow w0 w p s 384 P) (kp : Int) :
    Calls Tryz.prog 14 #[.pointer (some ⟨p, 0, none⟩), .int .i64 kp] w fun e w' => ∃ (z : Int) (is : Bool), e = .returned (.tuple #[.int .i64 z, .bool is, .int .i64 (erZ (retB kp))]) ∧ Hid (Keeps no w w') ∧ Hid (NextX s kp z is) := by
  cases hg : retB kp with
  | true =>
    refine (h.next kp hg (by omega)).mono ?_
    rintro e w' ⟨z, is, rfl, hk, hx⟩
    exact ⟨z, is, rfl, hk, fun _ => hx.out, fun hf => by rw [hg] at hf; cases hf⟩
  | false =>
    refine (next_bad w p kp hg).mono ?_
    rintro e w' ⟨rfl, hk⟩
    exact ⟨0, false, rfl, hk, (fun hf => by rw [hg] at hf; cases hf), fun _ => ⟨rfl, rfl⟩⟩
theorem Ow.collectX (h : Ow w0 w p s 384 P) (nw kp : Int) :
    Calls Tryz.prog 8 #[.pointer (some ⟨p, 0, none⟩), .int .i64 nw, .int .i64 kp] w fun e w' => ∃ o n c ds, e = .returned (.tuple #[.slice o n c, .int .i64 (erZ (gdB nw kp))]) ∧ Hid (n = ds.length ∧ ds.length ≤ 384) ∧ Hid (Own WE w' o c ds ∧ New w o ∧ Ow w0 w' p (collX s nw kp) 384 (fun b => P b ∨ inO o b) ∧ Keeps (fun b => ¬ P b) w w') ∧ Hid (DueX s nw kp ds) := by
  cases hg : gdB nw kp with
  | true =>
    obtain ⟨h1, h2⟩ := gd_parts hg
    refine (h.collect nw kp h1 h2 (by omega)).mono ?_
    rintro e w' ⟨v, rfl, o, n, c, ds, rfl, hn, hd, hi⟩
    have e1 : collX s nw kp = collS s (nw - kp) := by unfold collX; rw [if_pos hg]
    exact ⟨o, n, c, ds, rfl, ⟨hn.out, hi.out.2⟩, by rw [e1]; exact hd, fun _ => hi.out.1, fun hf => by rw [hg] at hf; cases hf⟩
  | false =>
    refine (collect_bad w p nw kp hg).mono ?_
    rintro e w' ⟨rfl, hk⟩
    have e1 : collX s nw kp = s := by unfold collX; rw [if_neg (by rw [hg]; simp)]
    exact ⟨none, 0, 0, [], rfl, ⟨rfl, by simp⟩, ⟨own_nil _, new_none _, by rw [e1]; exact (h.go hk).sub (fun b hb => by rcases hb with hb | ⟨x, hx, _⟩; exact hb; cases hx), hk.of_no⟩, (fun hf => by rw [hg] at hf; cases hf), fun _ => rfl⟩
end
section
variable {B : Nat → Prop} {w w' : World} {r : Nat} {s : St}
theorem Rb.dueX (h : Rb B w r s) (nw kp : Int) :
    Calls Tryz.prog 27 #[.pointer (some ⟨r, 0, none⟩), .int .i64 nw, .int .i64 kp] w fun e w' => ∃ o n c ds, e = .returned (.tuple #[.slice o n c, .int .i64 (erZ (gdB nw kp))]) ∧ Hid (n = ds.length ∧ ds.length ≤ 384) ∧ Hid (Own WE w' o c ds ∧ New w o ∧ Keeps no w w') ∧ Hid (DueX s nw kp ds) := by
  cases hg : gdB nw kp with
  | true =>
    obtain ⟨h1, h2⟩ := gd_parts hg
    refine (h.rs.due nw kp h1 h2).mono ?_
    rintro e w' ⟨o, n, c, ds, rfl, hn, hd, hi⟩
    exact ⟨o, n, c, ds, rfl, hn, hd, fun _ => hi.out, fun hf => by rw [hg] at hf; cases hf⟩
  | false =>
    refine (rdue_bad w r nw kp hg).mono ?_
    rintro e w' ⟨rfl, hk⟩
    exact ⟨none, 0, 0, [], rfl, ⟨rfl, by simp⟩, ⟨own_nil _, new_none _, hk⟩, (fun hf => by rw [hg] at hf; cases hf), fun _ => rfl⟩
theorem Rb.nextX (h : Rb B w r s) (kp : Int) :
    Calls Tryz.prog 28 #[.pointer (some ⟨r, 0, none⟩), .int .i64 kp] w fun e w' => ∃ (z : Int) (is : Bool), e = .returned (.tuple #[.int .i64 z, .bool is, .int .i64 (erZ (retB kp))]) ∧ Hid (Keeps no w w') ∧ Hid (NextX s kp z is) := by
  cases hg : retB kp with
  | true =>
    refine (h.rs.next kp hg).mono ?_
    rintro e w' ⟨z, is, rfl, hk, hx⟩
    exact ⟨z, is, rfl, hk, fun _ => hx.out, fun hf => by rw [hg] at hf; cases hf⟩
  | false =>
    refine (rnext_bad w r kp hg).mono ?_
    rintro e w' ⟨rfl, hk⟩
    exact ⟨0, false, rfl, hk, (fun hf => by rw [hg] at hf; cases hf), fun _ => ⟨rfl, rfl⟩⟩
theorem rcollect_bad (w : World) (p : Nat) (now ret : Int) (hb : (tickB now && retB ret) = false) : Calls Tryz.prog 30 #[.pointer (some ⟨p, 0, none⟩), .int .i64 now, .int .i64 ret] w fun e w' => e = .returned (.tuple #[.slice none 0 0, .int .i64 1]) ∧ Keeps no w w' := by
  have h1 := rdue_bad w p now ret hb
  clear hb
  go_enter Tryz.func30, Tryz.ntmps30
  go_wp2_with (go_at_call 27; refine h1.mono ?_; rintro e w' ⟨rfl, hk⟩)
  go_loopw [10] (fun i wr => i = .int .i64 0 ∧ wr = w') (fun i _ => 0)
  case atStart => exact ⟨rfl, rfl⟩
  case round =>
    obtain ⟨rfl, rfl⟩ := hrel
    go_wp2_with fail
    go_ret2
    exact ⟨rfl, hk⟩
theorem Rb.collectX (h : Rb B w r s) (hB : ∀ b, B b → b < w.heap.size) (nw kp : Int) :
    Calls Tryz.prog 30 #[.pointer (some ⟨r, 0, none⟩), .int .i64 nw, .int .i64 kp] w fun e w' => ∃ o n c ds, e = .returned (.tuple #[.slice o n c, .int .i64 (erZ (gdB nw kp))]) ∧ Hid (n = ds.length ∧ ds.length ≤ 384) ∧ Hid (Own WE w' o c ds ∧ New w o) ∧ Hid (DueX s nw kp ds) ∧ Hid (∃ B', Rb B' w' r (collX s nw kp) ∧ Keeps B w w' ∧ (∀ b, B' b → B b ∨ w.heap.size ≤ b) ∧ ∀ b, inO o b → ¬ B' b) := by
  cases hg : gdB nw kp with
  | true =>
    obtain ⟨h1, h2⟩ := gd_parts hg
    refine (h.collect hB nw kp h1 h2).mono ?_
    rintro e w' ⟨o, n, c, ds, rfl, hn, hd, hi, hx⟩
    have e1 : collX s nw kp = collS s (nw - kp) := by unfold collX; rw [if_pos hg]
    exact ⟨o, n, c, ds, rfl, hn, hd, ⟨fun _ => hi.out, fun hf => by rw [hg] at hf; cases hf⟩, by rw [e1]; exact hx⟩
  | false =>
    refine (rcollect_bad w r nw kp hg).mono ?_
    rintro e w' ⟨rfl, hk⟩
    have e1 : collX s nw kp = s := by unfold collX; rw [if_neg (by rw [hg]; simp)]
    exact ⟨none, 0, 0, [], rfl, ⟨rfl, by simp⟩, ⟨own_nil _, new_none _⟩, ⟨(fun hf => by rw [hg] at hf; cases hf), fun _ => rfl⟩, B, by rw [e1]; exact h.go hk, hk.of_no, fun b hb => .inl hb, fun b hb => by obtain ⟨x, hx, _⟩ := hb; cases hx⟩
end
/-- both stores: the program's in the state s', the document's in the state s; Q: blocks of neither -/
def Sk (w0 w : World) (p r : Nat) (s' s : St) (Q : Nat → Prop) : Prop := ∃ P B, Ow w0 w p s' 384 P ∧ Rb B w r s ∧ (∀ b, B b → P b ∧ b < w.heap.size) ∧ ∀ b, Q b → P b ∧ ¬ B b
section
variable {w0 w w' : World} {p r : Nat} {s' s : St} {Q : Nat → Prop}
theorem Sk.ow (h : Sk w0 w p r s' s Q) : Ow w0 w p s' 384 no := by
  obtain ⟨P, B, h1, _⟩ := h
  exact h1.sub (fun b hb => hb.elim)
theorem Sk.rb (h : Sk w0 w p r s' s Q) : ∃ B, Rb B w r s := by
  obtain ⟨P, B, _, h2, _⟩ := h
  exact ⟨B, h2⟩
theorem Sk.lt (h : Sk w0 w p r s' s Q) {b : Nat} (hb : Q b) : b < w.heap.size := by
  obtain ⟨P, B, h1, _, _, h4⟩ := h
  exact h1.lt (h4 b hb).1
theorem Sk.sub (h : Sk w0 w p r s' s Q) {Q' : Nat → Prop} (hQ : ∀ b, Q' b → Q b) : Sk w0 w p r s' s Q' := by
  obtain ⟨P, B, h1, h2, h3, h4⟩ := h
  exact ⟨P, B, h1, h2, h3, fun b hb => h4 b (hQ b hb)⟩
theorem Sk.go (h : Sk w0 w p r s' s Q) (hk : Keeps no w w') : Sk w0 w' p r s' s Q := by
  obtain ⟨P, B, h1, h2, h3, h4⟩ := h
  exact ⟨P, B, h1.go hk, h2.go hk, fun b hb => ⟨(h3 b hb).1, Nat.lt_of_lt_of_le (h3 b hb).2 hk.size⟩, h4⟩
theorem Sk.grow (h : Sk w0 w p r s' s Q) (hk : Keeps no w w') : Sk w0 w' p r s' s (fun b => Q b ∨ (w.heap.size ≤ b ∧ b < w'.heap.size)) := by
  obtain ⟨P, B, h1, h2, h3, h4⟩ := h
  refine ⟨_, B, h1.grow hk, h2.go hk, fun b hb => ⟨.inl (h3 b hb).1, Nat.lt_of_lt_of_le (h3 b hb).2 hk.size⟩, fun b hb => ?_⟩
  rcases hb with hb | hb
  · exact ⟨.inl (h4 b hb).1, (h4 b hb).2⟩
  · exact ⟨.inr hb, fun hc => by have := (h3 b hc).2; omega⟩
theorem Sk.opPut (h : Sk w0 w p r s' s Q) (hS : Supp s') (x : OV) (now : Int) (o : Option Addr) (n c : Nat) (o2 : Option Addr) (n2 c2 : Nat) (hn : n = x.ps.length) (hn2 : n2 = x.keys.length) (hsp : Sl PE w o c x.ps) (hsk : Sl TE w o2 c2 x.keys) :
    Calls Tryz.prog 22 #[.pointer (some ⟨p, 0, none⟩), .int .u64 ((x.id : Nat) : Int), .slice o n c, .slice o2 n2 c2, .int .i64 now] w fun e w' => ∃ (B : Bool) (z : Int), e = .returned (.tuple #[.bool B, .int .i64 z]) ∧ Hid (Sk w0 w' p r (putO s' x now) s Q ∧ Keeps (fun b => ¬ Q b) w w') := by
  obtain ⟨P, B, h1, h2, h3, h4⟩ := h
  refine (h1.opPut hS x now o n c o2 n2 c2 hn hn2 hsp hsk).mono ?_
  rintro e w' ⟨b, z, he, _, hx⟩
  exact ⟨b, z, he, ⟨P, B, hx.out.1, h2.keeps hx.out.2 (fun b hb hc => hc (h3 b hb).1), fun b hb => ⟨(h3 b hb).1, Nat.lt_of_lt_of_le (h3 b hb).2 hx.out.2.size⟩, h4⟩, hx.out.2.mono fun b hb hc => hb (h4 b hc).1⟩
theorem Sk.opCommit (h : Sk w0 w p r s' s Q) (hS : Supp s') (x : OV) (now : Int) :
    Calls Tryz.prog 25 #[.pointer (some ⟨p, 0, none⟩), .int .u64 ((x.id : Nat) : Int), .int .i64 now] w fun e w' => ∃ (n z : Int), e = .returned (.tuple #[.int .i64 n, .int .i64 z]) ∧ Hid (Sk w0 w' p r (comO s' x now) s Q ∧ Keeps (fun b => ¬ Q b) w w') := by
  obtain ⟨P, B, h1, h2, h3, h4⟩ := h
  refine (h1.opCommit hS x now).mono ?_
  rintro e w' ⟨b, z, he, hx⟩
  exact ⟨b, z, he, ⟨P, B, hx.out.1, h2.keeps hx.out.2 (fun b hb hc => hc (h3 b hb).1), fun b hb => ⟨(h3 b hb).1, Nat.lt_of_lt_of_le (h3 b hb).2 hx.out.2.size⟩, h4⟩, hx.out.2.mono fun b hb hc => hb (h4 b hc).1⟩
/-- behind the document's call -/
theorem sk_doc {P B : Nat → Prop} (h1 : Ow w0 w p s' 384 P) (h3 : ∀ b, B b → P b ∧ b < w.heap.size) (h4 : ∀ b, Q b → P b ∧ ¬ B b) {B' : Nat → Prop} {s2 : St} (hb : Rb B' w' r s2) (hB : ∀ b, B' b → B b ∨ w.heap.size ≤ b) (hk : Keeps B w w') : Sk w0 w' p r s' s2 Q ∧ Keeps (fun b => ¬ Q b) w w' := by
  refine ⟨⟨_, _, h1.wide (hk.mono fun b hb => (h3 b hb).1), hb.inb, fun b hb => ⟨?_, hb.2⟩, fun b hb => ⟨.inl (h4 b hb).1, fun hc => ?_⟩⟩, hk.mono fun b hb hc => (h4 b hc).2 hb⟩
  · rcases hB b hb.1 with h | h
    · exact .inl (h3 b h).1
    · exact .inr ⟨h, hb.2⟩
  · rcases hB b hc.1 with h | h
    · exact (h4 b hb).2 h
    · have := h1.lt (h4 b hb).1
      omega
theorem Sk.rPut (h : Sk w0 w p r s' s Q) (x : OV) (now : Int) (o : Option Addr) (n c : Nat) (o2 : Option Addr) (n2 c2 : Nat) (hn : n = x.ps.length) (hn2 : n2 = x.keys.length) (hsp : Sl PE w o c x.ps) (hsk : Sl TE w o2 c2 x.keys) (hQ : ∀ b, inO o b ∨ inO o2 b → Q b) :
    Calls Tryz.prog 24 #[.pointer (some ⟨r, 0, none⟩), .int .u64 ((x.id : Nat) : Int), .slice o n c, .slice o2 n2 c2, .int .i64 now] w fun e w' => ∃ (B : Bool) (z : Int), e = .returned (.tuple #[.bool B, .int .i64 z]) ∧ Hid (Sk w0 w' p r s' (putO s x now) Q ∧ Keeps (fun b => ¬ Q b) w w') := by
  obtain ⟨P, B, h1, h2, h3, h4⟩ := h
  refine (h2.put x now o n c o2 n2 c2 hn hn2 hsp hsk (fun b hb => ⟨(h4 b (hQ b hb)).2, h1.lt (h4 b (hQ b hb)).1⟩)).mono ?_
  rintro e w' ⟨b, z, he, hx⟩
  exact ⟨b, z, he, sk_doc h1 h3 h4 hx.out.1 (fun b hb => hb) hx.out.2⟩
theorem Sk.rCommit (h : Sk w0 w p r s' s Q) (x : OV) (now : Int) :
    Calls Tryz.prog 26 #[.pointer (some ⟨r, 0, none⟩), .int .u64 ((x.id : Nat) : Int), .int .i64 now] w fun e w' => ∃ (n z : Int), e = .returned (.tuple #[.int .i64 n, .int .i64 z]) ∧ Hid (Sk w0 w' p r s' (comO s x now) Q ∧ Keeps (fun b => ¬ Q b) w w') := by
  obtain ⟨P, B, h1, h2, h3, h4⟩ := h
  refine (h2.commit x now).mono ?_
  rintro e w' ⟨b, z, he, hx⟩
  exact ⟨b, z, he, sk_doc h1 h3 h4 hx.out.1 (fun b hb => hb) hx.out.2⟩
theorem Sk.collect (h : Sk w0 w p r s' s Q) (nw kp : Int) :
    Calls Tryz.prog 8 #[.pointer (some ⟨p, 0, none⟩), .int .i64 nw, .int .i64 kp] w fun e w' => ∃ o n c ds, e = .returned (.tuple #[.slice o n c, .int .i64 (erZ (gdB nw kp))]) ∧ Hid (n = ds.length ∧ ds.length ≤ 384) ∧ Hid (Own WE w' o c ds ∧ DueX s' nw kp ds) ∧ Hid (Sk w0 w' p r (collX s' nw kp) s (fun b => Q b ∨ inO o b) ∧ Keeps (fun b => ¬ Q b) w w') := by
  obtain ⟨P, B, h1, h2, h3, h4⟩ := h
  refine (h1.collectX nw kp).mono ?_
  rintro e w' ⟨o, n, c, ds, he, hn, hx, hd⟩
  obtain ⟨x1, x2, x3, x4⟩ := hx.out
  refine ⟨o, n, c, ds, he, hn, ⟨x1, hd.out⟩, ⟨_, B, x3, h2.keeps x4 (fun b hb hc => hc (h3 b hb).1), fun b hb => ⟨.inl (h3 b hb).1, Nat.lt_of_lt_of_le (h3 b hb).2 x4.size⟩, fun b hb => ?_⟩, x4.mono fun b hb hc => hb (h4 b hc).1⟩
  rcases hb with hb | hb
  · exact ⟨.inl (h4 b hb).1, (h4 b hb).2⟩
  · exact ⟨.inr hb, fun hc => by have := (h3 b hc).2; have := x2 b hb; omega⟩
theorem Sk.rCollect (h : Sk w0 w p r s' s Q) (nw kp : Int) :
    Calls Tryz.prog 30 #[.pointer (some ⟨r, 0, none⟩), .int .i64 nw, .int .i64 kp] w fun e w' => ∃ o n c ds, e = .returned (.tuple #[.slice o n c, .int .i64 (erZ (gdB nw kp))]) ∧ Hid (n = ds.length ∧ ds.length ≤ 384) ∧ Hid (Own WE w' o c ds ∧ DueX s nw kp ds) ∧ Hid (Sk w0 w' p r s' (collX s nw kp) Q ∧ Keeps (fun b => ¬ Q b) w w') := by
  obtain ⟨P, B, h1, h2, h3, h4⟩ := h
  refine (h2.collectX (fun b hb => (h3 b hb).2) nw kp).mono ?_
  rintro e w' ⟨o, n, c, ds, he, hn, hx, hd, hB⟩
  obtain ⟨B', b1, b2, b3, _⟩ := hB.out
  exact ⟨o, n, c, ds, he, hn, ⟨hx.out.1, hd.out⟩, sk_doc h1 h3 h4 b1 b3 b2⟩
theorem sk_new {w1 : World} {B : Nat → Prop} (h1 : Ow w0 w p St.new 384 no) (hr : Rb B w1 r St.new) (hk : Keeps no w w1) (hB : ∀ b, B b → w.heap.size ≤ b) : Sk w0 w1 p r St.new St.new no :=
  ⟨_, _, h1.grow hk, hr.inb, fun b hb => ⟨.inr ⟨hB b hb.1, hb.2⟩, hb.2⟩, fun b hb => hb.elim⟩
end
end Go.Proofs.YtagekdmkidbhpaaGreat
