import Derived.Test.YtoijeipoblnliaaGreatDoorYC
/- cutTo, small, clean. -/
namespace Go.Proofs.YtoijeipoblnliaaGreatDoor
open Go.RowKit Go.Maps Go.Sort Orl Pk
set_option linter.unusedVariables false
set_option linter.unusedSimpArgs false

theorem slW : Tryz.prog.underlying 25 = some (.slice (Tryz.prog.elem 25)) := by kernel_rfl
theorem cutOW (o : Option Addr) (n c I : Nat) (h1 : I ≤ c) (hnil : o = none → c = 0) : ∀ w, (Instr.slice 25 (.slice o n c) none (some (.int .i64 ((I : Nat) : Int))) none).run Tryz.prog w = .ok (.slice o I c) w := by
  intro w
  match o, hnil with
  | none, hnil =>
    obtain rfl : c = 0 := hnil rfl
    obtain rfl : I = 0 := by omega
    rw [run_slice_h w 25 none _ 0 slW .i64 _ (by omega) (by omega)]
    go_simp
  | some ad, _ =>
    rw [run_slice_h w 25 (some ad) _ c slW .i64 _ (by omega) (by omega)]
    go_simp
theorem cutTo_any (w : World) (o : Option Addr) (n c : Nat) (l : List RW) (m : Nat) (hn : n = l.length) (hs : Sl WE w o c l) :
    Calls Tryz.prog 21 #[.slice o n c, .int .i64 (m : Nat)] w fun e w' => e = .returned (.slice o (min n m) c) ∧ w' = w := by
  have hcut := cutOW o n c (min n m) (by have := hs.cap; omega) hs.nil
  rw [show (((min n m : Nat)) : Int) = min (n : Int) (m : Int) by omega] at hcut
  clear hn hs
  go_enter Tryz.func21, Tryz.ntmps21
  go_wp2_with fail
  go_ret
  exact ⟨rfl, rfl⟩
theorem Sl.cutW {w : World} {o : Option Addr} {c : Nat} {l : List RW} (h : Sl WE w o c l) (m : Nat) : Sl WE w o c (l.take m) := ⟨h.row.take okW m, by rw [List.length_take]; have := h.cap; omega, h.nil⟩

/-- a world, as it came in -/
structure WV where
  gen : Int
  so : Option Addr
  sn : Nat
  sc : Nat
  lo : Option Addr
  ln : Nat
  lc : Nat
  tail : Int
  oth : Int
def WV.val (v : WV) : Value := .agg #[.int .i64 v.gen, .slice v.so v.sn v.sc, .slice v.lo v.ln v.lc, .int .i64 v.tail, .int .i64 v.oth]
structure WIn (w : World) (v : WV) (sl ll : List RW) : Prop where
  gen : I64 v.gen
  tail : I64 v.tail
  oth : I64 v.oth
  sn : v.sn = sl.length
  ln : v.ln = ll.length
  s : Sl WE w v.so v.sc sl
  l : Sl WE w v.lo v.lc ll
  sok : ∀ x ∈ sl, RWok x
  lok : ∀ x ∈ ll, RWok x
  slt : ∀ b, inO v.so b → b < w.heap.size
  llt : ∀ b, inO v.lo b → b < w.heap.size
theorem WIn.keepsN {w w' : World} {v : WV} {sl ll : List RW} (h : WIn w v sl ll) (hk : Keeps no w w') : WIn w' v sl ll :=
  ⟨h.gen, h.tail, h.oth, h.sn, h.ln, h.s.keepsN hk, h.l.keepsN hk, h.sok, h.lok, fun b hb => Nat.lt_of_lt_of_le (h.slt b hb) hk.size, fun b hb => Nat.lt_of_lt_of_le (h.llt b hb) hk.size⟩
/-- what small makes of it -/
def smV (v : WV) : WV := ⟨max v.gen 0, v.so, min v.sn 30, v.sc, v.lo, min v.ln 30, v.lc, v.tail, (rst v.oth 8 : Nat)⟩
theorem WIn.small {w : World} {v : WV} {sl ll : List RW} (h : WIn w v sl ll) : WIn w (smV v) (sl.take 30) (ll.take 30) := by
  have hr := rst_le v.oth 8
  refine ⟨⟨by show _ ≤ max v.gen 0; omega, by have := h.gen.2; show max v.gen 0 ≤ _; omega⟩, h.tail, ⟨by show _ ≤ ((rst v.oth 8 : Nat) : Int); omega, by show ((rst v.oth 8 : Nat) : Int) ≤ _; omega⟩, by show min v.sn 30 = _; rw [List.length_take, h.sn]; omega, by show min v.ln 30 = _; rw [List.length_take, h.ln]; omega, h.s.cutW 30, h.l.cutW 30, fun x hx => h.sok x (List.mem_of_mem_take hx), fun x hx => h.lok x (List.mem_of_mem_take hx), h.slt, h.llt⟩
theorem wv_size (a b c d e : Value) : (Tryz.prog.info? 27).map (·.size) = some (#[a, b, c, d, e] : Array Value).size := by
  rw [show (Tryz.prog.info? 27).map (·.size) = some 5 by kernel_rfl]; rfl
theorem loadWV {w : World} {g : Nat} {a b c d e : Value} (h : w.heap[g]? = some (.cells #[a, b, c, d, e] 27 (0, 0))) : (loadVar 27 ⟨g, 0, none⟩).run Tryz.prog w = .ok (.agg #[a, b, c, d, e]) w :=
  run_loadVar_row _ _ _ _ _ _ _ h Tryz.underlying27 rfl (wv_size _ _ _ _ _)
set_option maxRecDepth 10000 in
theorem small_any (w : World) (v : WV) (sl ll : List RW) (h : WIn w v sl ll) :
    Calls Tryz.prog 12 #[v.val] w fun e w' => e = .returned (smV v).val ∧ Keeps no w w' := by
  obtain ⟨g, so, sn, sc, lo, ln, lc, ta, ot⟩ := v
  have H : Hid (WIn w ⟨g, so, sn, sc, lo, ln, lc, ta, ot⟩ sl ll) := h
  have hg := h.gen
  have hr := fun W => rest_any ot 8 W h.oth (by omega)
  change ∀ W, Calls Tryz.prog 17 #[.int .i64 ot, .int .i64 8] W _ at hr
  have hc1 := fun W (hk : Keeps no w W) => cutTo_any W so sn sc sl 30 H.out.sn (H.out.s.keepsN hk)
  have hc2 := fun W (hk : Keeps no w W) => cutTo_any W lo ln lc ll 30 H.out.ln (H.out.l.keepsN hk)
  unfold WV.val smV
  simp only
  obtain ⟨sm, hsm⟩ : ∃ sm, sm = min sn 30 := ⟨_, rfl⟩
  obtain ⟨lm, hlm⟩ : ∃ lm, lm = min ln 30 := ⟨_, rfl⟩
  obtain ⟨R, hR⟩ : ∃ R, R = rst ot 8 := ⟨_, rfl⟩
  rw [← hsm] at hc1 ⊢
  rw [← hlm] at hc2 ⊢
  rw [← hR] at hr ⊢
  clear h hsm hlm hR
  obtain ⟨hg1, hg2⟩ := hg
  simp only at hg1 hg2
  go_enter Tryz.func12, Tryz.ntmps12
  go_wp2_with fail
  refine (hc1 _ (((Keeps.refl no w).alloc _).alloc _)).mono ?_
  rintro e w1 ⟨rfl, hw⟩
  subst w1
  by_cases hg0 : g < 0
  · go_wp2_with fail
    refine (hc2 _ (((Keeps.refl no w).alloc _).alloc _)).mono ?_
    rintro e w1 ⟨rfl, hw⟩
    subst w1
    go_wp2_with fail
    refine (hr _).mono ?_
    rintro e w1 ⟨rfl, hw⟩
    subst w1
    go_wp2_with fail
    refine bodyPost_ret (results_row1 rfl _ _ (w.heap.size + 1) _ rfl (loadWV (two_new w _ _).2)) rfl ?_
    refine ⟨?_, ((Keeps.refl no w).alloc _).alloc _⟩
    rw [show max g 0 = 0 by omega]
  · go_wp2_with fail
    refine (hc2 _ (((Keeps.refl no w).alloc _).alloc _)).mono ?_
    rintro e w1 ⟨rfl, hw⟩
    subst w1
    go_wp2_with fail
    refine (hr _).mono ?_
    rintro e w1 ⟨rfl, hw⟩
    subst w1
    go_wp2_with fail
    refine bodyPost_ret (results_row1 rfl _ _ (w.heap.size + 1) _ rfl (loadWV (two_new w _ _).2)) rfl ?_
    refine ⟨?_, ((Keeps.refl no w).alloc _).alloc _⟩
    rw [show max g 0 = g by omega]

set_option maxRecDepth 10000 in
theorem clean_any {w0 w : World} {p : Nat} {F : Nat → Prop} {s : Dk.St} (h : Dn w0 w p F s) (ht : Tabs w0) (g : Nat) (hg : (g : Int) ≤ 9223372036854775807) (ho : On s) (hc : ∀ q ∈ s.fs, q.1 = snapB ∨ q.1 = logB g) :
    Calls Tryz.prog 30 #[.pointer (some ⟨p, 0, none⟩), .int .i64 (g : Nat)] w fun e w' => e = .returned (.bool true) ∧ Hid (Dn w0 w' p F s) ∧ Hid (Keeps F w w') := by
  have hL := list_any w p F s h.is
  rw [ho.tick, show Dk.listE s = 0 by unfold Dk.listE; rw [ho.off]; rfl, show Dk.listN s = Dk.names s.fs by unfold Dk.listN; rw [ho.off]; rfl] at hL
  have H : Hid (Dn w0 w p F s ∧ Tabs w0 ∧ ∀ n ∈ Dk.names s.fs, n = snapB ∨ n = logB g) := ⟨h, ht, fun n hn => by obtain ⟨q, hq, rfl⟩ := List.mem_map.1 hn; exact hc q hq⟩
  clear h ht hc ho
  go_enter Tryz.func30, Tryz.ntmps30
  go_wp2_with fail
  refine hL.mono ?_
  rintro e w1 ⟨o1, c1, m1, rfl, hm1, ho1, hnw, hi, hk⟩
  have H1 : Hid (Own TE w1 o1 c1 ((Dk.names s.fs).map mkT) ∧ Dn w0 w1 p F s ∧ Keeps F w w1) := ⟨ho1, H.out.1.same hi hk, hk⟩
  have h16 : (m1 : Int) ≤ 16 := by have := hm1.out; have := hi.ok.len; unfold Dk.names at *; rw [List.length_map] at *; omega
  clear hL ho1 hnw hi hk
  go_wp2_with fail
  go_loopw [7] (fun v wr => ∃ k : Nat, k ≤ m1 ∧ v = .int .i64 k ∧ Hid (Keeps no w1 wr)) (fun v _ => m1 - (intOf v).toNat)
  case atStart => exact ⟨0, by omega, rfl, Keeps.refl _ _⟩
  case round =>
    obtain ⟨k, hk, rfl, HK⟩ := hrel
    rename World => wq
    by_cases hlt : k < m1
    · have hlt' : (k : Int) < m1 := by omega
      have hkl : k < (Dk.names s.fs).length := by have := hm1.out; omega
      have hks : k < ((Dk.names s.fs).map mkT).length := by rw [List.length_map]; exact hkl
      obtain ⟨b, off, rfl, d1⟩ := (H1.out.1.sl.keepsN HK.out).at hks
      obtain ⟨n, hn⟩ : ∃ n, n = (Dk.names s.fs).getD k [] := ⟨_, rfl⟩
      have hd : ((Dk.names s.fs).map mkT).getD k e0 = mkT n := by rw [hn]; simp [List.getD, hkl]
      rw [hd] at d1
      have hor := H.out.2.2 n (by rw [hn, List.getD_eq_getElem?_getD, List.getElem?_eq_getElem hkl]; exact List.getElem_mem hkl)
      have z1 := cell_regrown d1
      have cL := call_grown (W := wq) (f := 10) (args := #[.int .i64 (g : Nat)]) (v := .string (logN g)) (fun X hX => log_any X ((H1.out.2.1.tabs H.out.2.1).pow.keepsN (HK.out.trans hX)) g (by omega) hg)
      clear hn hd hkl hks
      by_cases e1 : n = snapB
      · have t1 : ((mkT n).toList == ([115, 110, 97, 112] : List UInt8)) = true := by rw [Lib.toList_data, data_mkT, e1]; rfl
        clear e1 hor
        go_wp2_with fail
        refine wp_region_quiet_below (by kernel_rfl) (by kernel_rfl) ?_
        repeat (go_big_quiet_step (exact cL _ _))
        refine wpQuiet_nil ?_
        intro _ hw'
        obtain ⟨⟨dq, osq⟩, rfl⟩ := hw'
        have K2 : Hid (Keeps no w1 (Sort.grow (redrawn wq dq) osq)) := HK.out.trans (keeps_grownQ ..)
        generalize Sort.grow (redrawn wq dq) osq = w2 at K2 ⊢
        clear cL z1
        go_wp2_with fail
        go_roundw
        case rel => exact ⟨k + 1, by omega, by go_num, K2⟩
        case measure => simp [intOf] <;> omega
      · have t1 : ((mkT n).toList == ([115, 110, 97, 112] : List UInt8)) = false := by rw [Lib.toList_data, data_mkT, beq_eq_false_iff_ne]; exact e1
        have t2 : ((mkT n).toList == (logN g).toList) = true := by
          rcases hor with h1 | h1
          · exact absurd h1 e1
          · rw [tx_eq, decide_eq_true_eq, h1]; rfl
        clear e1 hor
        generalize logN g = LN at cL t2
        go_wp2_with fail
        refine wp_region_quiet_below (by kernel_rfl) (by kernel_rfl) ?_
        repeat (go_big_quiet_step (exact cL _ _))
        refine wpQuiet_nil ?_
        intro _ hw'
        obtain ⟨⟨dq, osq⟩, rfl⟩ := hw'
        have K2 : Hid (Keeps no w1 (Sort.grow (redrawn wq dq) osq)) := HK.out.trans (keeps_grownQ ..)
        generalize Sort.grow (redrawn wq dq) osq = w2 at K2 ⊢
        clear cL z1
        go_wp2_with fail
        go_roundw
        case rel => exact ⟨k + 1, by omega, by go_num, K2⟩
        case measure => simp [intOf] <;> omega
    · have hlt' : ¬ (k : Int) < m1 := by omega
      go_wp2_with fail
      go_ret
      exact ⟨rfl, H1.out.2.1.beside HK.out, H1.out.2.2.trans HK.out.of_no⟩
end Go.Proofs.YtoijeipoblnliaaGreatDoor
