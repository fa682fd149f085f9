/- The document's net: Lose, Flight. -/
import Derived.Test.YtdbejihkliafiaaD2
namespace Go.Proofs.Ytdbejihkliafiaa
open Go.RowKit Go.Sort
set_option linter.unusedVariables false
set_option linter.unusedSimpArgs false

set_option maxRecDepth 10000 in
theorem dLose_any (w : World) (p : Nat) (F : Nat → Prop) (s : NS) (K : Nat) (pl : Int) (h : IsD w p F s) (hw : NWf s K) (hK : K ≤ 2600000000000) (hpb : -9223372036854775808 ≤ pl ∧ pl ≤ 9223372036854775807) :
    Calls Try.prog 31 #[.pointer (some ⟨p, 0, none⟩), .int .i64 pl] w (NTo IsD w p F (.int .i64 (errS s pl)) (delS s pl)) := by
  have HD : Hid (Calls Try.prog 29 #[.pointer (some ⟨p, 0, none⟩), .int .i64 pl] w (DTo IsD w p F s pl)) := dDeliver_any w p F s K pl h hw hK hpb
  clear h hw hK hpb
  go_enter Try.func31, Try.ntmps31
  go_wp2_with fail
  refine HD.out.mono ?_
  rintro e w1 ⟨r, G, rfl, hr, hz, g1, g2, g3⟩
  obtain ⟨r0, r1, r2, ro, rn, rc⟩ := r
  unfold aggF
  simp only
  have HG : Hid (IsD w1 p G (delS s pl) ∧ (∀ i, G i → F i ∨ w.heap.size ≤ i) ∧ Keeps F w w1) := ⟨g1, g2, g3⟩
  clear hr hz g1 g2 g3 HD
  generalize errS s pl = e at *
  go_wp2_with fail
  go_ret
  exact ⟨rfl, G, HG.out.1.keepsN ((Keeps.refl _ _).alloc _), HG.out.2.1, HG.out.2.2.alloc _⟩
/-- the first i frames copied -/
structure Cf (w wr : World) (o : Option Addr) (c : Nat) (rs : List RF) (fs : List Fr) : Prop where
  fr : Fs DE wr o c rs fs
  new : ∀ i, FB o rs fs.length i → w.heap.size ≤ i
  kp : Keeps no w wr
theorem Cf.push {w wr w2 w3 : World} {o : Option Addr} {c : Nat} {rs : List RF} {fs : List Fr} (h : Cf w wr o c rs fs) {r : RF} {f : Fr} (k2 : Keeps no wr w2) (hr : FOf w2 r f) (hn : ∀ i, zO r.o r.c i → wr.heap.size ≤ i) {o' : Option Addr} {c' : Nat} (ho : Own DE w3 o' c' (rs ++ [r])) (ha : Ap w2 o o' w3) : Cf w w3 o' c' (rs ++ [r]) (fs ++ [f]) := by
  have kk : Keeps (inO o) wr w3 := k2.of_no.trans ha.keeps
  have hr3 : FOf w3 r f := hr.keeps ha.keeps (fun i hi h2 => by
    obtain ⟨ca, hca⟩ := hr.bz.tag i hi
    obtain ⟨cb, hcb⟩ := (h.fr.own.keepsN k2).tag i h2
    rw [hca] at hcb
    injection hcb with hcb
    injection hcb with _ hcb _
    exact absurd hcb (by decide))
  have hf := h.fr.push ho kk (by decide) hr3 hn
  have hs := h.kp.size
  refine ⟨hf, fun i hi => ?_, h.kp.then kk (fun i hi => .inr (h.new i (.inl hi)))⟩
  rcases hi with hi | ⟨j, hj, hi⟩
  · rcases ha.inn i hi with e | e
    · exact h.new i (.inl e)
    · exact Nat.le_trans hs (Nat.le_trans k2.size e)
  · rw [getD_app1, h.fr.len] at hi
    by_cases e : j < fs.length
    · rw [if_pos e] at hi; exact h.new i (.inr ⟨j, e, hi⟩)
    · rw [if_neg e, if_pos (by simp at hj; omega)] at hi
      exact Nat.le_trans hs (hn i hi)
set_option maxRecDepth 10000 in
set_option maxHeartbeats 4000000 in
theorem dFlight_any (w : World) (p : Nat) (F : Nat → Prop) (s : NS) (K : Nat) (h : IsD w p F s) (hw : NWf s K) (hK : K ≤ 2600000000000) :
    Calls Try.prog 22 #[.pointer (some ⟨p, 0, none⟩)] w (FTo DE w s.fl) := by
  obtain ⟨o, n, c, rs, h⟩ := h
  have hnb : (n : Int) ≤ 2600000000000 := by have := hw.len; have := hw.num; have := h.n; omega
  have HL : Hid (NtL DE 71 dC w p F s o n c rs ∧ NWf s K ∧ n = s.fl.length) := ⟨h, hw, h.n⟩
  clear h hw hK
  go_enter Try.func22, Try.ntmps22
  go_wp2_with fail
  go_loopw [3, 4] (fun s3 s4 wr => ∃ (i : Nat) (ol : Option Addr) (cl : Nat), i ≤ n ∧ s3 = .slice ol i cl ∧ s4 = .int .i64 i ∧ Hid (∃ rl, Cf w wr ol cl rl (s.fl.take i))) (fun _ s4 _ => n - (intOf s4).toNat)
  case atStart => exact ⟨0, none, 0, by omega, rfl, rfl, [], fs_nil w, fun i hi => (by rcases hi with ⟨x, e, _⟩ | ⟨j, hj, _⟩ <;> first | cases e | simp at hj), Keeps.refl _ _⟩
  case round =>
    rename World => wr
    obtain ⟨i, ol, cl, hi, rfl, rfl, HC⟩ := hrel
    obtain ⟨rl, hC⟩ := HC.out
    have c3 := hC.kp.cellN HL.out.1.cells.2.2.2
    have hib : (i : Int) ≤ 2600000000000 := by omega
    by_cases hlt : i < n
    · have hlt' : (i : Int) < n := by omega
      have hif : i < s.fl.length := by rw [← HL.out.2.2]; exact hlt
      obtain ⟨bL, eL, hfL, A4⟩ := own_at4 okD (HL.out.1.fs.own.keepsN hC.kp) (j := i) (by rw [HL.out.1.fs.len]; exact hif)
      have hr := (HL.out.1.fs.each i hif).keepsN hC.kp
      have hfe := HL.out.2.1.each _ (getD_mem_lt fr0 hif)
      have HTK : Hid (s.fl.take (i + 1) = s.fl.take i ++ [s.fl.getD i fr0]) := take_succ_getD s.fl i fr0 hif
      subst eL
      have hlt1 : p < wr.heap.size := World.block_lt_of_cell? wr _ c3
      have hlt2 : bL < wr.heap.size := World.block_lt_of_cell? wr _ A4.c0
      generalize s.fl.getD i fr0 = f at hr hfe HTK
      generalize rs.getD i rf0 = r at A4 hr
      obtain ⟨r0, r1, r2, ro, rn, rc⟩ := r
      obtain ⟨a0, a1, a2, a3⟩ := A4
      simp only [Nat.zero_add] at a0 a1 a2 a3
      obtain ⟨B, hB⟩ : ∃ B, B = wr.heap.size := ⟨_, rfl⟩
      have HR : Hid (FOf wr ⟨r0, r1, r2, ro, rn, rc⟩ f ∧ f.bs.length ≤ 140737488355328) := ⟨hr, hfe.2.1⟩
      have HCC : Hid (Cf w wr ol cl rl (s.fl.take i) ∧ i = rl.length) := ⟨hC, by rw [hC.fr.len, List.length_take]; omega⟩
      have HW1 : Hid (∀ W, W = wr.alloc (.cells #[.int .i64 (r0 : Nat), .int .i64 r1, .int .i64 r2, .slice ro rn rc] 72) → W.heap[B]? = some (.cells #[.int .i64 (r0 : Nat), .int .i64 r1, .int .i64 r2, .slice ro rn rc] 72 (0, 0)) ∧ Keeps no wr W) := by
        rintro W rfl
        exact ⟨by rw [hB]; exact blk_new wr _, (Keeps.refl _ _).alloc _⟩
      clear hr hfe hC HC hfL
      go_upto_region 6 with fail
      have hW := HW1.out _ rfl
      rw [← hB]
      generalize wr.alloc (.cells #[.int .i64 (r0 : Nat), .int .i64 r1, .int .i64 r2, .slice ro rn rc] 72) = W at hW ⊢
      have HW2 : Hid (W.heap[B]? = some (.cells #[.int .i64 (r0 : Nat), .int .i64 r1, .int .i64 r2, .slice ro rn rc] 72 (0, 0)) ∧ Keeps no wr W ∧ B = wr.heap.size) := ⟨hW.1, hW.2, hB⟩
      have x3 := cell_of_blk hW.1 3
      simp only [List.getElem?_toArray, List.getElem?_cons_succ, List.getElem?_cons_zero] at x3
      have HSB : Hid (Sl BE W ro rc f.bs ∧ rn = f.bs.length ∧ (([] : List UInt8).length + f.bs.length) * BE.nb ≤ 140737488355328 ∧ ([] : List UInt8).length + f.bs.length ≤ 140737488355328) := by
        refine ⟨HR.out.1.bz.sl.keepsN hW.2, HR.out.1.n, ?_, by have := HR.out.2; simp; omega⟩
        have := HR.out.2
        simp [BE]; omega
      clear hW HW1 hB hlt1 hlt2 a0 a1 a2 a3 c3
      have HX : Hid (∀ o1 c1 w1, Own BE w1 o1 c1 f.bs → Ap W none o1 w1 → w1.cell? ⟨B, 3, none⟩ = some (.slice ro rn rc) ∧ w1.frozen? ⟨B, 3, none⟩ = false) := by
        intro o1 c1 w1 ho1 ha1
        have h5 := ha1.new (new_none W) (Keeps.refl no W)
        have hb := h5.2.at HW2.out.1 (fun h => h)
        exact ⟨by rw [cell_of_blk hb]; rfl, frozen_of_blk hb 3⟩
      go_upto_region 8 with (at_builtin; refine wpList_app okB rfl _ _ rfl none 0 0 [] rfl rfl (own_nil _) ro rn rc f.bs rfl HSB.out.2.1 HSB.out.1.nil HSB.out.1.row HSB.out.2.2.1 HSB.out.2.2.2 ?_; intro o1 c1 w1 ho1 ha1; obtain ⟨g1, g2⟩ := HX.out o1 c1 w1 ho1 ha1)
      have h5 := ha1.new (new_none W) (Keeps.refl no W)
      have hbW : (w1.setCell ⟨B, 3, none⟩ (.slice o1 rn c1)).heap[B]? = some (.cells #[.int .i64 (r0 : Nat), .int .i64 r1, .int .i64 r2, .slice o1 rn c1] 72 (0, 0)) := by
        have h := blk_set (h5.2.at HW2.out.1 (fun h => h)) 3 (.slice o1 rn c1)
        rw [h]; rfl
      have H1 : Hid (Oz BE (w1.setCell ⟨B, 3, none⟩ (.slice o1 rn c1)) o1 c1 f.bs ∧ (∀ i, zO o1 c1 i → wr.heap.size ≤ i) ∧ Keeps no wr (w1.setCell ⟨B, 3, none⟩ (.slice o1 rn c1))) := by
        have ho : Own BE w1 o1 c1 f.bs := by simpa using ho1
        have hk : Keeps (fun i => i = B) w1 (w1.setCell ⟨B, 3, none⟩ (.slice o1 rn c1)) := (Keeps.refl (fun i => i = B) w1).setCell (p := ⟨B, 3, none⟩) (.inl (show B = B from rfl)) _
        refine ⟨(ho.keeps hk (fun i hi e => ?_)).oz, fun i hi => Nat.le_trans HW2.out.2.1.size (h5.1 i hi.2), (HW2.out.2.1.trans h5.2).then hk (fun i hi => .inr (by subst hi; rw [HW2.out.2.2]; exact Nat.le_refl _))⟩
        subst e
        have h1 := h5.1 i hi
        have h2 := lt_of_block HW2.out.1
        omega
      clear ho1 ha1 g1 g2 h5 HX x3
      generalize (w1.setCell ⟨B, 3, none⟩ (.slice o1 rn c1)) = X at hbW H1 ⊢
      have x0 := cell_of_blk hbW 0
      have x1 := cell_of_blk hbW 1
      have x2 := cell_of_blk hbW 2
      have x3 := cell_of_blk hbW 3
      simp only [List.getElem?_toArray, List.getElem?_cons_succ, List.getElem?_cons_zero] at x0 x1 x2 x3
      obtain ⟨Y, hY⟩ : ∃ Y, Y = X.alloc (.cells #[.int .i64 (r0 : Nat), .int .i64 r1, .int .i64 r2, .slice o1 rn c1] 72) := ⟨_, rfl⟩
      have HRW : Hid (Row DE Y (some ⟨X.heap.size, 0, none⟩) [⟨r0, r1, r2, o1, rn, c1⟩] ∧ Own DE Y ol cl rl ∧ Keeps no X Y ∧ (rl.length + 1) * DE.nb ≤ 140737488355328 ∧ rl.length + 1 ≤ 140737488355328) := by
        rw [hY]
        have hl := HCC.out.2
        refine ⟨lit_row okD X [⟨r0, r1, r2, o1, rn, c1⟩] _ (0, 0) rfl, HCC.out.1.fr.own.keepsN (H1.out.2.2.alloc _), (Keeps.refl _ _).alloc _, ?_, by omega⟩
        show (rl.length + 1) * 48 ≤ _
        omega
      clear hbW
      go_wp2_with (at_builtin; rw [← hY]; refine wpList_app okD rfl _ _ rfl ol i cl rl rfl HCC.out.2 HRW.out.2.1 (some ⟨X.heap.size, 0, none⟩) 1 1 [⟨r0, r1, r2, o1, rn, c1⟩] rfl rfl (fun h => by cases h) HRW.out.1 HRW.out.2.2.2.1 HRW.out.2.2.2.2 ?_; intro o2 c2 w2 ho2 ha2)
      have HN : Hid (∃ rl, Cf w w2 o2 c2 rl (s.fl.take (i + 1))) := by
        refine ⟨rl ++ [⟨r0, r1, r2, o1, rn, c1⟩], ?_⟩
        rw [HTK.out]
        exact HCC.out.1.push (r := ⟨r0, r1, r2, o1, rn, c1⟩) (H1.out.2.2.trans HRW.out.2.2.1) ⟨HR.out.1.num, HR.out.1.frm, HR.out.1.dst, HR.out.1.n, H1.out.1.keepsN HRW.out.2.2.1⟩ H1.out.2.1 ho2 ha2
      clear ho2 ha2 HRW hY x0 x1 x2 x3 H1 HCC
      go_roundw
      case rel => exact ⟨i + 1, o2, c2, by omega, by rfl, by go_num, HN⟩
      case measure => simp [intOf]; omega
    · have hlt' : ¬ (i : Int) < n := by omega
      have hie : i = n := by omega
      have HF : Hid (FTo DE w s.fl (.returned (.slice ol i cl)) wr) := by
        have e : s.fl.take i = s.fl := by rw [List.take_of_length_le (by have := HL.out.2.2; omega)]
        rw [e] at hC
        exact ⟨ol, i, cl, rl, rfl, by rw [hie]; exact HL.out.2.2, .inr hC.fr, fun j _ hj => hC.new j hj, hC.kp⟩
      clear hC HC hie
      go_wp2_with fail
      go_ret
      exact HF.out
end Go.Proofs.Ytdbejihkliafiaa
