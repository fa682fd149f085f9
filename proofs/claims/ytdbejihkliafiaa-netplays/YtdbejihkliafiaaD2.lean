/- The document's net: Deliver, Lose. -/
import Derived.Test.YtdbejihkliafiaaD1
namespace Go.Proofs.Ytdbejihkliafiaa
open Go.RowKit Go.Sort
set_option linter.unusedVariables false
set_option linter.unusedSimpArgs false

/-- two results, the first a struct in a cell -/
theorem results_row2 {fn : Func} {p u : Tmp} {ty : TypeId} (h : fn.results = #[.cell p ty, .tmp u]) (tmps : Array Value) (w : World) (g : Nat) (cs : Array Value)
    (hp : tmps.getD p undef = .pointer (some ⟨g, 0, none⟩)) (hl : (loadVar ty ⟨g, 0, none⟩).run Try.prog w = .ok (.agg cs) w) :
    (results fn tmps).run Try.prog w = .ok (.tuple #[.agg cs, tmps.getD u undef]) w := by
  have hp' : tmps[p]?.getD undef = .pointer (some ⟨g, 0, none⟩) := by simpa using hp
  simp [results, h, hp', asAddr, hl]
theorem rfr_size (a b c d : Value) : (Try.prog.info? 72).map (·.size) = some (#[a, b, c, d] : Array Value).size := by
  show _ = some 4
  kernel_rfl
theorem slR : Try.prog.underlying 57 = some (.slice (Try.prog.elem 57)) := by kernel_rfl
/-- s[:I] -/
theorem cutR (o : Option Addr) (n c I : Nat) (h1 : I ≤ c) (hnil : o = none → c = 0) : ∀ w, (Instr.slice 57 (.slice o n c) none (some (.int .i64 ((I : Nat) : Int))) none).run Try.prog w = .ok (.slice o I c) w := by
  intro w
  match o, hnil with
  | none, hnil =>
    obtain rfl : c = 0 := hnil rfl
    obtain rfl : I = 0 := by omega
    rw [run_slice_h w 57 none _ 0 slR .i64 _ (by omega) (by omega)]
    go_simp
  | some ad, _ =>
    rw [run_slice_h w 57 (some ad) _ c slR .i64 _ (by omega) (by omega)]
    go_simp
/-- s[I:] -/
theorem cutRL (w0 : World) (o : Option Addr) (c : Nat) (xs : List RF) (n I : Nat) (hn : n = xs.length) (hI : I ≤ n) (h : Sl DE w0 o c xs) :
    ∃ A d, (∀ w, (Instr.slice 57 (.slice o n c) (some (.int .i64 ((I : Nat) : Int))) none none).run Try.prog w = .ok (.slice A (n - I) d) w) ∧ Sl DE w0 A d (xs.drop I) := by
  subst hn
  have hcap := h.cap
  match o, h with
  | none, h =>
    obtain rfl : c = 0 := h.nil rfl
    obtain rfl : I = 0 := by omega
    have h0 : xs = [] := List.length_eq_zero_iff.mp (by omega)
    subst h0
    refine ⟨none, 0, fun w => ?_, ⟨.inl (by simp), by simp, fun _ => rfl⟩⟩
    rw [run_slice_l w 57 none _ 0 slR .i64 _ (by omega) (by simp)]
    go_simp
  | some ad, h =>
    refine ⟨some (if c = I then ad else ad.add (I * 4)), c - I, fun w => ?_, ⟨h.row.drop okD I (fun hlt b off e => ?_), by rw [List.length_drop]; omega, by simp⟩⟩
    · rw [run_slice_l w 57 (some ad) _ c slR .i64 _ (by omega) (by omega)]
      by_cases h : c = I
      · go_simp
      · go_simp
    · cases e
      rw [if_neg (by omega), addr_add]
      rfl
theorem two_blk (w : World) (a b : Obj) : ((w.alloc a).alloc b).heap[w.heap.size]? = some a ∧ ((w.alloc a).alloc b).heap[w.heap.size + 1]? = some b := by
  refine ⟨blk_alloc (blk_new w a) b, ?_⟩
  have h := blk_new (w.alloc a) b
  have e : (w.alloc a).heap.size = w.heap.size + 1 := by simp
  rwa [e] at h
theorem dto_none {w w' : World} {p : Nat} {F : Nat → Prop} {s : NS} {pl : Int} (h : IsD w p F s) (hh : ¬ hasS s pl = true) (k : Keeps no w w') : DTo IsD w p F s pl (.returned (.tuple #[.agg #[.int .i64 0, .int .i64 0, .int .i64 0, .slice none 0 0], .int .i64 210])) w' := by
  have e1 : errS s pl = 210 := by unfold errS; rw [if_neg hh]
  have e2 : delF s pl = fr0 := by unfold delF; rw [if_neg hh]
  have e3 : delS s pl = s := by unfold delS; rw [if_neg hh]
  refine ⟨rf0, F, by rw [e1]; rfl, by rw [e2]; exact fof_zero w', fun i hi => ?_, by rw [e3]; exact h.keepsN k, fun i hi => .inl hi, k.of_no⟩
  have := hi.1
  simp [rf0] at this
set_option maxRecDepth 10000 in
set_option maxHeartbeats 4000000 in
theorem dDeliver_no (w : World) (p : Nat) (F : Nat → Prop) (s : NS) (K : Nat) (pl : Int) (h : IsD w p F s) (hw : NWf s K) (hK : K ≤ 2600000000000) (hh : ¬ hasS s pl = true) (hpb : -9223372036854775808 ≤ pl ∧ pl ≤ 9223372036854775807) :
    Calls Try.prog 29 #[.pointer (some ⟨p, 0, none⟩), .int .i64 pl] w (DTo IsD w p F s pl) := by
  have HZ : Hid (∀ w', Keeps no w w' → DTo IsD w p F s pl (.returned (.tuple #[.agg #[.int .i64 0, .int .i64 0, .int .i64 0, .slice none 0 0], .int .i64 210])) w') := fun w' k => dto_none h hh k
  obtain ⟨o, n, c, rs, h⟩ := h
  obtain ⟨-, -, -, c3⟩ := h.cells
  have hlt := World.block_lt_of_cell? w _ c3
  simp only at hlt
  have hcs : pl < 0 ∨ (¬ pl < 0 ∧ (n : Int) ≤ pl) := by
    have h1 := h.n
    by_cases h0 : pl < 0
    · exact .inl h0
    · refine .inr ⟨h0, ?_⟩
      rcases (by omega : pl < (n : Int) ∨ (n : Int) ≤ pl) with h2 | h2
      · exact absurd ((has_iff s pl).2 ⟨pl.toNat, by omega, by omega⟩) hh
      · exact h2
  have HN : Hid (n = s.fl.length) := h.n
  have hnb : (n : Int) ≤ 2600000000000 := by have := hw.len; have := hw.num; have := h.n; omega
  clear h hh hw hK
  rcases hcs with h0 | ⟨h0, h1⟩
  all_goals
    go_enter Try.func29, Try.ntmps29
    go_wp2_with fail
    (try simp only [Exit.inBlock, Exit.then])
    refine bodyPost_ret (results_row2 rfl _ _ w.heap.size _ rfl (run_loadVar_row _ _ _ _ _ _ _ (blk_new w _) Try.underlying72 rfl (rfr_size _ _ _ _))) rfl ?_
    exact HZ.out _ ((Keeps.refl _ _).alloc _)
--BEGIN YES
set_option maxRecDepth 10000 in
set_option maxHeartbeats 4000000 in
theorem dDeliver_yes (w : World) (p : Nat) (F : Nat → Prop) (s : NS) (K k : Nat) (h : IsD w p F s) (hw : NWf s K) (hK : K ≤ 2600000000000) (hk : k < s.fl.length) :
    Calls Try.prog 29 #[.pointer (some ⟨p, 0, none⟩), .int .i64 k] w (DTo IsD w p F s k) := by
  obtain ⟨o, n, c, rs, h⟩ := h
  obtain ⟨-, -, -, c3⟩ := h.cells
  have hnb : (n : Int) ≤ 2600000000000 := by have := hw.len; have := hw.num; have := h.n; omega
  have hkn : (k : Int) < n := by have := h.n; omega
  have hk0 : ¬ (k : Int) < 0 := by omega
  have hk1 : ¬ (n : Int) ≤ k := by omega
  obtain ⟨bL, eL, hfL, A4⟩ := own_at4 okD h.fs.own (j := k) (by rw [h.fs.len]; exact hk)
  subst eL
  obtain ⟨r, hr⟩ : ∃ r, r = rs.getD k rf0 := ⟨_, rfl⟩
  rw [← hr] at A4
  obtain ⟨B, hB⟩ : ∃ B, B = w.heap.size := ⟨_, rfl⟩
  have hpB : p < B := by rw [hB]; exact lt_of_block h.blk
  have hlt : p < w.heap.size := lt_of_block h.blk
  have hbl : bL < w.heap.size := World.block_lt_of_cell? w _ A4.c0
  have hsl := h.fs.own.sl
  have hrn : n = rs.length := by rw [h.n, h.fs.len]
  have HCT : Hid (∀ X, (Instr.slice 57 (.slice (some ⟨bL, 0, none⟩) n c) none (some (.int .i64 ((k : Nat) : Int))) none).run Try.prog X = .ok (.slice (some ⟨bL, 0, none⟩) k c) X) := cutR _ n c k (by have := hsl.cap; omega) (fun h => by cases h)
  obtain ⟨A, d, hcl, hsA⟩ := cutRL w (some ⟨bL, 0, none⟩) c rs n (k + 1) hrn (by omega) hsl
  have HL : Hid (NtL DE 71 dC w p F s (some ⟨bL, 0, none⟩) n c rs ∧ k < s.fl.length ∧ r = rs.getD k rf0 ∧ n = rs.length ∧ B = w.heap.size ∧ Sl DE w A d (rs.drop (k + 1))) := ⟨h, hk, hr, hrn, hB, hsA⟩
  have hct := HCT.out
  clear h hw hK hk hr hrn hsl hfL hsA HCT
  obtain ⟨r0, r1, r2, ro, rn, rc⟩ := r
  obtain ⟨a0, a1, a2, a3⟩ := A4
  simp only [Nat.zero_add] at a0 a1 a2 a3
  have HU : Hid (∀ U, U = ((w.alloc (.cells #[.int .i64 0, .int .i64 0, .int .i64 0, .slice none 0 0] 72)).alloc (.cells #[.int .i64 (r0 : Nat), .int .i64 r1, .int .i64 r2, .slice ro rn rc] 72)) → U.heap[B]? = some (.cells #[.int .i64 0, .int .i64 0, .int .i64 0, .slice none 0 0] 72 (0, 0)) ∧ U.heap[B + 1]? = some (.cells #[.int .i64 (r0 : Nat), .int .i64 r1, .int .i64 r2, .slice ro rn rc] 72 (0, 0)) ∧ Keeps no w U ∧ B + 2 = U.heap.size) := by
    rintro U rfl
    have h2 := two_blk w (.cells #[.int .i64 0, .int .i64 0, .int .i64 0, .slice none 0 0] 72) (.cells #[.int .i64 (r0 : Nat), .int .i64 r1, .int .i64 r2, .slice ro rn rc] 72)
    rw [← hB] at h2
    exact ⟨h2.1, h2.2, ((Keeps.refl _ _).alloc _).alloc _, by rw [hB]; simp⟩
  go_enter Try.func29, Try.ntmps29
  go_upto_region 4 with fail
  have hU := HU.out _ rfl
  rw [← hB]
  generalize ((w.alloc (.cells #[.int .i64 0, .int .i64 0, .int .i64 0, .slice none 0 0] 72)).alloc (.cells #[.int .i64 (r0 : Nat), .int .i64 r1, .int .i64 r2, .slice ro rn rc] 72)) = U at hU ⊢
  have HUU : Hid (U.heap[B]? = some (.cells #[.int .i64 0, .int .i64 0, .int .i64 0, .slice none 0 0] 72 (0, 0)) ∧ U.heap[B + 1]? = some (.cells #[.int .i64 (r0 : Nat), .int .i64 r1, .int .i64 r2, .slice ro rn rc] 72 (0, 0)) ∧ Keeps no w U ∧ B + 2 = U.heap.size) := hU
  clear hU HU hB hlt hbl
  have c3U := HUU.out.2.2.1.cellN c3
  have HB1 : Hid ((([] : List RF).length + (rs.take k).length) * DE.nb ≤ 140737488355328 ∧ ([] : List RF).length + (rs.take k).length ≤ 140737488355328 ∧ k = (rs.take k).length) := by
    have := HL.out.2.2.2.1
    have e : (rs.take k).length = k := by rw [List.length_take]; omega
    rw [e]
    refine ⟨?_, by simp; omega, rfl⟩
    show (0 + k) * 48 ≤ _
    omega
  clear c3 a0 a1 a2 a3
  go_upto_region 6 with (at_builtin; refine wpList_app okD rfl _ _ rfl none 0 0 [] rfl rfl (own_nil _) (some ⟨bL, 0, none⟩) k c (rs.take k) rfl HB1.out.2.2 (fun h => by cases h) ((HL.out.1.fs.own.row.keepsN HUU.out.2.2.1).take okD k) HB1.out.1 HB1.out.2.1 ?_; intro o1 c1 w1 ho1 ha1)
  have H1 : Hid (Own DE w1 o1 c1 (rs.take k) ∧ New U o1 ∧ Keeps no U w1 ∧ k = (rs.take k).length) := by
    have h5 := ha1.new (new_none U) (Keeps.refl no U)
    exact ⟨by simpa using ho1, h5.1, h5.2, HB1.out.2.2⟩
  have c31 := H1.out.2.2.1.cellN c3U
  have HB2 : Hid (((rs.take k).length + (rs.drop (k + 1)).length) * DE.nb ≤ 140737488355328 ∧ (rs.take k).length + (rs.drop (k + 1)).length ≤ 140737488355328 ∧ n - (k + 1) = (rs.drop (k + 1)).length) := by
    have h1 := HL.out.2.2.2.1
    have h2 := HB1.out.2.2
    rw [← h2, List.length_drop]
    refine ⟨?_, by omega, by omega⟩
    show (k + (rs.length - (k + 1))) * 48 ≤ _
    omega
  clear ho1 ha1 c3U HB1
  have hcl2 : ∀ X, (Instr.slice 57 (.slice (some ⟨bL, 0, none⟩) n c) (some (.int .i64 ((k : Int) + 1))) none none).run Try.prog X = .ok (.slice A (n - (k + 1)) d) X := hcl
  have HSA : Hid (Sl DE w1 A d (rs.drop (k + 1))) := HL.out.2.2.2.2.2.keepsN (HUU.out.2.2.1.trans H1.out.2.2.1)
  have hb1 := (HUU.out.2.2.1.trans H1.out.2.2.1).at HL.out.1.blk (fun h => h)
  have HNE : Hid (∀ o2 c2 w2, Own DE w2 o2 c2 (rs.take k ++ rs.drop (k + 1)) → Ap w1 o1 o2 w2 → w2.cell? ⟨p, 3, none⟩ = some (.slice (some ⟨bL, 0, none⟩) n c) ∧ w2.frozen? ⟨p, 3, none⟩ = false ∧ New U o2 ∧ Keeps no U w2) := by
    intro o2 c2 w2 ho2 ha2
    have h5 := ha2.new H1.out.2.1 H1.out.2.2.1
    have hbp := (HUU.out.2.2.1.trans h5.2).at HL.out.1.blk (fun h => h)
    exact ⟨by rw [cell_of_blk hbp]; rfl, frozen_of_blk hbp 3, h5.1, h5.2⟩
  clear hcl hct hb1
  go_upto_region 7 with (at_builtin; refine wpList_app okD rfl _ _ rfl o1 k c1 (rs.take k) rfl H1.out.2.2.2 H1.out.1 A (n - (k + 1)) d (rs.drop (k + 1)) rfl HB2.out.2.2 HSA.out.nil HSA.out.row HB2.out.1 HB2.out.2.1 ?_; intro o2 c2 w2 ho2 ha2; obtain ⟨g1, g2, g3, g4⟩ := HNE.out o2 c2 w2 ho2 ha2)
  obtain ⟨m, hm⟩ : ∃ m, m = k + (n - (k + 1)) := ⟨_, rfl⟩
  rw [← hm]
  have HV : Hid (∀ W, W = (w2.setCell ⟨p, 3, none⟩ (.slice o2 m c2)).setCells B 0 [.int .i64 (r0 : Nat), .int .i64 r1, .int .i64 r2, .slice ro rn rc] → W.heap[B]? = some (.cells #[.int .i64 (r0 : Nat), .int .i64 r1, .int .i64 r2, .slice ro rn rc] 72 (0, 0)) ∧ DTo IsD w p F s k (.returned (.tuple #[.agg #[.int .i64 (r0 : Nat), .int .i64 r1, .int .i64 r2, .slice ro rn rc], .int .i64 0])) W) := by
    rintro W rfl
    have kU : Keeps no w w2 := HUU.out.2.2.1.trans g4
    have hBw : w.heap.size ≤ B := by rw [HL.out.2.2.2.2.1]; exact Nat.le_refl _
    have k3 : Keeps (fun i => i = p) w (w2.setCell ⟨p, 3, none⟩ (.slice o2 m c2)) := (kU.of_no : Keeps (fun i => i = p) w w2).setCell (p := ⟨p, 3, none⟩) (.inl (show p = p from rfl)) _
    have k4 : Keeps (fun i => i = p) w ((w2.setCell ⟨p, 3, none⟩ (.slice o2 m c2)).setCells B 0 [.int .i64 (r0 : Nat), .int .i64 r1, .int .i64 r2, .slice ro rn rc]) := keeps_setCells' _ _ k3 (.inr hBw)
    have k24 : Keeps (fun i => i = p ∨ i = B) w2 ((w2.setCell ⟨p, 3, none⟩ (.slice o2 m c2)).setCells B 0 [.int .i64 (r0 : Nat), .int .i64 r1, .int .i64 r2, .slice ro rn rc]) := keeps_setCells' _ _ ((Keeps.refl (fun i => i = p ∨ i = B) w2).setCell (p := ⟨p, 3, none⟩) (.inl (.inl (show p = p from rfl))) _) (.inl (.inr rfl))
    have hbB : (w2.setCell ⟨p, 3, none⟩ (.slice o2 m c2)).heap[B]? = some (.cells #[.int .i64 0, .int .i64 0, .int .i64 0, .slice none 0 0] 72 (0, 0)) := blk_set_ne (g4.at HUU.out.1 (fun h => h)) (p := ⟨p, 3, none⟩) (show B ≠ p by omega) _
    have hbp : ((w2.setCell ⟨p, 3, none⟩ (.slice o2 m c2)).setCells B 0 [.int .i64 (r0 : Nat), .int .i64 r1, .int .i64 r2, .slice ro rn rc]).heap[p]? = some (.cells (dC s.parts s.clients s.num (.slice o2 m c2)) 71 (0, 0)) := by
      have h1 := blk_set (kU.at HL.out.1.blk (fun h => h)) 3 (.slice o2 m c2)
      have h2 := (keeps_setCells (g := B) [.int .i64 (r0 : Nat), .int .i64 r1, .int .i64 r2, .slice ro rn rc] 0 (w2.setCell ⟨p, 3, none⟩ (.slice o2 m c2))).at h1 (show ¬ p = B by omega)
      rw [h2]
      rfl
    have hoW : Own DE ((w2.setCell ⟨p, 3, none⟩ (.slice o2 m c2)).setCells B 0 [.int .i64 (r0 : Nat), .int .i64 r1, .int .i64 r2, .slice ro rn rc]) o2 c2 (rs.eraseIdx k) := by
      rw [List.eraseIdx_eq_take_drop_succ]
      refine ho2.keeps k24 (fun i hi e => ?_)
      have h1 := g3 i hi
      have h2 := HUU.out.2.2.2
      rcases e with e | e <;> omega
    obtain ⟨G, q1, q2, q3, q4, q5⟩ := HL.out.1.del (by decide) (by decide) (by decide) HL.out.2.1 k4 (fun i hi => .inl hi) hoW (by rw [hm, List.eraseIdx_eq_take_drop_succ, List.length_append, ← H1.out.2.2.2, ← HB2.out.2.2]) (fun i hi => .inr (by have h1 := g3 i hi; have h3 := HUU.out.2.2.1.size; omega)) hbp
    rw [← HL.out.2.2.1] at q4 q5
    have e1 : errS s (k : Int) = 0 := by unfold errS; rw [if_pos ((has_iff s k).2 ⟨k, rfl, HL.out.2.1⟩)]
    exact ⟨blk_whole hbB _ rfl, ⟨r0, r1, r2, ro, rn, rc⟩, G, by rw [e1]; rfl, q4, fun i hi => ⟨.inl (q5 i hi).1, (q5 i hi).2⟩, q1, q2, q3⟩
  have hx := g4.at HUU.out.2.1 (fun h => h)
  have hy := g4.at HUU.out.1 (fun h => h)
  have hx2 := blk_set_ne hx (p := ⟨p, 3, none⟩) (show B + 1 ≠ p by omega) (.slice o2 m c2)
  have hy2 := blk_set_ne hy (p := ⟨p, 3, none⟩) (show B ≠ p by omega) (.slice o2 m c2)
  generalize w2.setCell ⟨p, 3, none⟩ (.slice o2 m c2) = w3 at HV hx2 hy2 ⊢
  have x0 := cell_of_blk hx2 0
  have x1 := cell_of_blk hx2 1
  have x2 := cell_of_blk hx2 2
  have x3 := cell_of_blk hx2 3
  have y0 := cell_of_blk hy2 0
  have y1 := cell_of_blk hy2 1
  have y2 := cell_of_blk hy2 2
  have y3 := cell_of_blk hy2 3
  have f0 := frozen_of_blk hy2 0
  have f1 := frozen_of_blk hy2 1
  have f2 := frozen_of_blk hy2 2
  have f3 := frozen_of_blk hy2 3
  simp only [List.getElem?_toArray, List.getElem?_cons_succ, List.getElem?_cons_zero] at x0 x1 x2 x3 y0 y1 y2 y3
  clear hx hy hx2 hy2 ho2 ha2 g1 g2 g3 g4 HNE HSA HB2 H1 HUU hcl2 hm c31
  go_wp2_with fail
  have hE := HV.out _ rfl
  (try simp only [Exit.inBlock, Exit.then])
  refine bodyPost_ret (results_row2 rfl _ _ B _ rfl (run_loadVar_row _ _ _ _ _ _ _ hE.1 Try.underlying72 rfl (rfr_size _ _ _ _))) rfl ?_
  exact hE.2
theorem dDeliver_any (w : World) (p : Nat) (F : Nat → Prop) (s : NS) (K : Nat) (pl : Int) (h : IsD w p F s) (hw : NWf s K) (hK : K ≤ 2600000000000) (hpb : -9223372036854775808 ≤ pl ∧ pl ≤ 9223372036854775807) :
    Calls Try.prog 29 #[.pointer (some ⟨p, 0, none⟩), .int .i64 pl] w (DTo IsD w p F s pl) := by
  by_cases hh : hasS s pl = true
  · obtain ⟨k, rfl, hk⟩ := (has_iff s pl).1 hh
    exact dDeliver_yes w p F s K k h hw hK hk
  · exact dDeliver_no w p F s K pl h hw hK hh hpb
end Go.Proofs.Ytdbejihkliafiaa
