/- The net's leave. -/
import Derived.Test.YtdbejihkliafiaaC4
namespace Go.Proofs.Ytdbejihkliafiaa
open Go.RowKit Go.Sort
set_option linter.unusedVariables false
set_option linter.unusedSimpArgs false

theorem slU : Try.prog.underlying 60 = some (.slice (Try.prog.elem 60)) := by kernel_rfl
theorem cutU3 (g off n c k : Nat) (hk : k < n) (hn : n ≤ c) : ∃ v, ∀ X, (Instr.slice 60 (.slice (some ⟨g, off, none⟩) n c) (some (.int .i64 ((k : Nat) : Int))) (some (.int .i64 ((k : Int) + 1))) (some (.int .i64 (n : Int)))).run Try.prog X = .ok v X := by
  refine ⟨.slice (some (if n = k then ⟨g, off, none⟩ else (⟨g, off, none⟩ : Addr).add (k * 4))) 1 (n - k), fun X => ?_⟩
  rw [run_slice_lhm X 60 (some ⟨g, off, none⟩) _ c slU .i64 .i64 .i64 _ _ _ (by omega) (by omega) (by omega) (by omega)]
  have h : ¬ n = k := by omega
  have e : ((k : Int) + 1).toNat - k = 1 := by omega
  go_simp
  try simp [h, e]
theorem cutUh (g off n c I : Nat) (h1 : I ≤ c) : ∀ X, (Instr.slice 60 (.slice (some ⟨g, off, none⟩) n c) none (some (.int .i64 ((I : Nat) : Int))) none).run Try.prog X = .ok (.slice (some ⟨g, off, none⟩) I c) X := by
  intro X
  rw [run_slice_h X 60 (some ⟨g, off, none⟩) _ c slU .i64 _ (by omega) (by omega)]
  go_simp
theorem cutUl (g off n c I : Nat) (hI : I ≤ n) (hn : n ≤ c) : ∃ A : Addr, (I < c → A = ⟨g, off + I * 4, none⟩) ∧ ∀ X, (Instr.slice 60 (.slice (some ⟨g, off, none⟩) n c) (some (.int .i64 ((I : Nat) : Int))) none none).run Try.prog X = .ok (.slice (some A) (n - I) (c - I)) X := by
  refine ⟨if c = I then ⟨g, off, none⟩ else (⟨g, off, none⟩ : Addr).add (I * 4), fun h => ?_, fun X => ?_⟩
  · rw [if_neg (by omega), addr_add]
  · rw [run_slice_l X 60 (some ⟨g, off, none⟩) _ c slU .i64 _ (by omega) (by omega)]
    by_cases h : c = I
    · go_simp
    · go_simp
theorem cutUlh (g off n c I J : Nat) (hI : I ≤ J) (hJ : J ≤ c) (hc : I < c) : ∀ X, (Instr.slice 60 (.slice (some ⟨g, off, none⟩) n c) (some (.int .i64 ((I : Nat) : Int))) (some (.int .i64 ((J : Nat) : Int))) none).run Try.prog X = .ok (.slice (some ⟨g, off + I * 4, none⟩) (J - I) (c - I)) X := by
  intro X
  rw [run_slice_lh X 60 (some ⟨g, off, none⟩) _ c slU .i64 .i64 _ _ (by omega) (by omega) (by omega)]
  have h : ¬ c = I := by omega
  go_simp
  try rw [addr_add]
  try (first | rfl | (congr 1; omega))
theorem clear1 (w : World) (g o c : Nat) (cur : Array Value) (hg : w.heap[g]? = some (.cells cur 67 (0, 0))) (hc : o + 4 ≤ cur.size) :
    (Builtin.clear_ #[60] 0 #[.slice (some ⟨g, o, none⟩) 1 c]).run Try.prog w = .ok (.tuple #[]) (w.setCells g o z4) := by
  obtain ⟨i0, hi, hz0, hz1, hz2⟩ := info_parts infoUE
  have hv : (zeroValue 67).run Try.prog w = .ok (.agg #[.int .i64 0, .int .i64 0, .int .i64 0, .string ⟨#[]⟩]) w := by simp [zeroValue, typeInfo, hi, hz0]
  have hzc : (Builtin.zeroCells (Value.agg #[.int .i64 0, .int .i64 0, .int .i64 0, .string ⟨#[]⟩]).cells 1).toList = z4 := by kernel_rfl
  have hst := run_storeCells_cells (P := Try.prog) g o z4 0 w (fun j hj => by rw [cell_of_blk hg]; simp [z4] at hj ⊢; omega) (fun j hj => frozen_of_blk hg _) (by intro u hu; simp [z4] at hu; rcases hu with rfl | rfl <;> rfl)
  simp only [Nat.add_zero] at hst
  simp [Builtin.clear_, run_underlying Try.underlying60, hv, hzc, hst]
--BEGIN DEL
set_option maxRecDepth 10000 in
set_option maxHeartbeats 2000000 in
theorem delete_any (w : World) (g off n c k : Nat) (xs : List Fr) (h : Win UE w (some ⟨g, off, none⟩) c xs) (hn : n = xs.length) (hk : k < n) (hnb : n ≤ 2600000000000) :
    Calls Try.prog 35 #[.slice (some ⟨g, off, none⟩) n c, .int .i64 (k : Nat), .int .i64 ((k : Int) + 1)] w fun e w' => e = .returned (.slice (some ⟨g, off, none⟩) (n - 1) c) ∧ Win UE w' (some ⟨g, off, none⟩) c (xs.eraseIdx k) ∧ Keeps (fun i => i = g) w w' := by
  obtain ⟨m, hm⟩ : ∃ m, m + 1 = n := ⟨n - 1, by omega⟩
  have hmm : n - 1 = m := by omega
  rw [hmm]
  have hnc : n ≤ c := by have := h.1; omega
  obtain ⟨cur, hg, hcs⟩ : ∃ cur, w.heap[g]? = some (.cells cur 67 (0, 0)) ∧ off + c * 4 ≤ cur.size := by
    rcases h.2 with ⟨e, _⟩ | ⟨g', off', cur, e, hg, hcs, _⟩
    · cases e
    · cases e; exact ⟨cur, hg, hcs⟩
  obtain ⟨i0, hi, hz0, hz1, hz2⟩ := info_parts infoUE
  obtain ⟨v3, hs3⟩ := cutU3 g off n c k hk hnc
  have hsh := cutUh g off n c k (by omega)
  obtain ⟨A, hA, hsl⟩ := cutUl g off n c (k + 1) (by omega) hnc
  have hsl' : ∀ X, (Instr.slice 60 (.slice (some ⟨g, off, none⟩) n c) (some (.int .i64 ((k : Int) + 1))) none none).run Try.prog X = .ok (.slice (some A) (n - (k + 1)) (c - (k + 1))) X := hsl
  have hld := lenU (xs.drop (k + 1))
  rw [List.length_drop] at hld
  have hgd : w.drew.heap[g]? = some (.cells cur 67 (0, 0)) := hg
  have hcu := cutUlh g off m c m (m + 1) (by omega) (by omega) (by omega)
  have hcu' : ∀ X, (Instr.slice 60 (.slice (some ⟨g, off, none⟩) m c) (some (.int .i64 ((m : Nat) : Int))) (some (.int .i64 ((n : Nat) : Int))) none).run Try.prog X = .ok (.slice (some ⟨g, off + m * 4, none⟩) 1 (c - m)) X := by
    intro X
    have h1 := hcu X
    rw [show m + 1 - m = 1 by omega, hm] at h1
    exact h1
  have hap : (Builtin.append_ #[60, 60] 60 #[.slice (some ⟨g, off, none⟩) k c, .slice (some A) (n - (k + 1)) (c - (k + 1))]).run Try.prog w.drew = .ok (.slice (some ⟨g, off, none⟩) m c) (w.drew.setCells g (off + k * 4) (UE.cells (xs.drop (k + 1)))) := by
    have hr := run_append_room_cells (P := Try.prog) w.drew 60 60 67 i0 Try.underlying60 hi g off k c A (n - (k + 1)) (c - (k + 1)) (UE.cells (xs.drop (k + 1))) (by rw [hz1, hld, hn]) (fun j u hj => by
      have hjl := (List.getElem?_eq_some_iff.1 hj).1
      rw [hld] at hjl
      rw [hA (by omega), addr_add]
      have hrow := (h.row.drop okU (k + 1) (a' := some ⟨g, off + (k + 1) * 4, none⟩) (fun _ b o e => by cases e; rfl))
      have := hrow.news j u hj
      rw [addr_add] at this
      exact this) (cells_one okU _) (by omega) (fun j hj => by
      rw [hld] at hj
      rw [cell_of_blk hgd, hz1]; simp; omega) (fun j hj => frozen_of_blk hgd _)
    rw [hz1, show k + (n - (k + 1)) = m by omega] at hr
    exact hr
  obtain ⟨w1, hw1⟩ : ∃ w1, w1 = w.drew.setCells g (off + k * 4) (UE.cells (xs.drop (k + 1))) := ⟨_, rfl⟩
  rw [← hw1] at hap
  obtain ⟨cur1, a1, a2, a3⟩ := blk_setCells (UE.cells (xs.drop (k + 1))) (off + k * 4) hgd
  rw [← hw1] at a1
  have hcl := clear1 w1 g (off + m * 4) (c - m) cur1 a1 (by rw [a2]; omega)
  have HE : Hid (Win UE (w1.setCells g (off + m * 4) z4) (some ⟨g, off, none⟩) c (xs.eraseIdx k) ∧ Keeps (fun i => i = g) w (w1.setCells g (off + m * 4) z4)) := by
    have h1 := win_down (h.keepsN ((Keeps.refl no w).drew)) (k := k) (by omega)
    rw [show xs.length - 1 = m by omega, ← hw1] at h1
    refine ⟨h1, ?_⟩
    refine keeps_setCells' _ _ ?_ (.inl rfl)
    rw [hw1]
    exact keeps_setCells' _ _ ((Keeps.refl _ w).drew) (.inl rfl)
  have HAP : Hid ((Builtin.append_ #[60, 60] 60 #[.slice (some ⟨g, off, none⟩) k c, .slice (some A) (n - (k + 1)) (c - (k + 1))]).run Try.prog w.drew = .ok (.slice (some ⟨g, off, none⟩) m c) w1) := hap
  have hk1 : ((k : Int) == (k : Int) + 1) = false := by simp; omega
  generalize hD : n - (k + 1) = D at *
  generalize hD2 : c - (k + 1) = D2 at *
  generalize hD3 : c - m = D3 at *
  clear h hn hap hw1 a1 a2 a3 hg hgd hcs hz0 hz1 hz2 hi hsl hcu hA hld hD hD2 hD3 hm hmm
  go_enter Try.func35, Try.ntmps35
  go_upto_region 5 with fail
  go_region_law (refine step_appRun rfl (.tmp 22) (.tmp 25) 60 60 rfl _ _ rfl rfl HAP.out ?_)
  go_wp2_with fail
  go_ret
  exact ⟨rfl, HE.out⟩
--END DEL
--BEGIN LEAVE
theorem div2 (k n : Nat) : decide (((n : Int).tdiv 2) ≤ (k : Int)) = decide (n / 2 ≤ k) := by
  have : (n : Int).tdiv 2 = ((n / 2 : Nat) : Int) := by
    rw [Int.tdiv_eq_ediv_of_nonneg (by omega)]; rfl
  rw [this]
  simp
  try omega
set_option maxRecDepth 10000 in
set_option maxHeartbeats 2000000 in
theorem leave_down (w : World) (p : Nat) (F : Nat → Prop) (s : NS) (K k : Nat) (h : IsN w p F s) (hw : NWf s K) (hK : K ≤ 2600000000000) (hk : k < s.fl.length) (hd : s.fl.length / 2 ≤ k) :
    Calls Try.prog 27 #[.pointer (some ⟨p, 0, none⟩), .int .i64 (k : Nat)] w fun e w' => e = .returned (.tuple #[]) ∧ IsN w' p F (delS s (k : Int)) ∧ Keeps F w w' := by
  obtain ⟨o, n, c, h⟩ := h
  obtain ⟨-, -, -, c3⟩ := h.cells
  have hn := h.n
  obtain ⟨g, off, rfl⟩ : ∃ g off, o = some ⟨g, off, none⟩ := by
    rcases h.win.2 with ⟨e, e0⟩ | ⟨g, off, cur, e, _⟩
    · have := h.win.1; omega
    · exact ⟨g, off, e⟩
  have HD : Hid (Calls Try.prog 35 #[.slice (some ⟨g, off, none⟩) n c, .int .i64 (k : Nat), .int .i64 ((k : Int) + 1)] w fun e w' => e = .returned (.slice (some ⟨g, off, none⟩) (n - 1) c) ∧ Win UE w' (some ⟨g, off, none⟩) c (s.fl.eraseIdx k) ∧ Keeps (fun i => i = g) w w') := delete_any w g off n c k s.fl h.win hn (by omega) (by have := hw.len; have := hw.num; omega)
  have hpg : ¬ p = g := fun e => h.ne g ⟨_, rfl, rfl⟩ e.symm
  have HN : Hid (∀ w1, Win UE w1 (some ⟨g, off, none⟩) c (s.fl.eraseIdx k) → Keeps (fun i => i = g) w w1 → w1.cell? ⟨p, 3, none⟩ = some (.slice (some ⟨g, off, none⟩) n c) ∧ w1.frozen? ⟨p, 3, none⟩ = false ∧ IsN (w1.setCell ⟨p, 3, none⟩ (.slice (some ⟨g, off, none⟩) (n - 1) c)) p F (delS s (k : Int)) ∧ Keeps F w (w1.setCell ⟨p, 3, none⟩ (.slice (some ⟨g, off, none⟩) (n - 1) c))) := by
    intro w1 hwin hkp
    have hb1 := hkp.at h.blk hpg
    have hb2 := blk_set hb1 3 (.slice (some ⟨g, off, none⟩) (n - 1) c)
    have e2 : (w1.setCell ⟨p, 3, none⟩ (.slice (some ⟨g, off, none⟩) (n - 1) c)).heap[p]? = some (.cells (nC s.parts s.clients s.num (.slice (some ⟨g, off, none⟩) (n - 1) c)) 62 (0, 0)) := by rw [hb2]; rfl
    have k2 : Keeps (fun i => i = p) w1 (w1.setCell ⟨p, 3, none⟩ (.slice (some ⟨g, off, none⟩) (n - 1) c)) := (Keeps.refl (fun i => i = p) w1).setCell (p := ⟨p, 3, none⟩) (.inl (show p = p from rfl)) _
    have k3 : Keeps (fun i => i = g ∨ i = p) w (w1.setCell ⟨p, 3, none⟩ (.slice (some ⟨g, off, none⟩) (n - 1) c)) := (hkp.mono (fun i hi => .inl hi)).trans (k2.mono (fun i hi => .inr hi))
    refine ⟨by rw [cell_of_blk hb1]; rfl, frozen_of_blk hb1 3, h.del hk k3 (fun i hi => ?_) (hwin.keeps k2 (fun i hi e => ?_)) (by omega) (fun i hi => hi) e2⟩
    · rcases hi with rfl | rfl
      · exact h.fF i ⟨_, rfl, rfl⟩
      · exact h.pF
    · obtain ⟨x, ex, rfl⟩ := hi
      cases ex
      exact hpg e.symm
  have hdd : True := trivial
  have hdd3 : ¬ (k : Int) < (n : Int) / 2 := by omega
  have hdd4 : (n : Int) / 2 ≤ (k : Int) := by omega
  clear hdd
  have hnb : (n : Int) ≤ 2600000000000 := by have := hw.len; have := hw.num; omega
  have hkb : (k : Int) ≤ 2600000000000 := by omega
  clear h hw hK hk hd hn
  go_enter Try.func27, Try.ntmps27
  go_wp2_with fail
  refine HD.out.mono ?_
  rintro e w1 ⟨rfl, hwin, hkp⟩
  obtain ⟨x1, x2, x3⟩ := HN.out w1 hwin hkp
  obtain ⟨n1, hn1⟩ : ∃ n1, n1 = n - 1 := ⟨_, rfl⟩
  rw [← hn1] at x3 ⊢
  have HX : Hid (IsN (w1.setCell ⟨p, 3, none⟩ (.slice (some ⟨g, off, none⟩) n1 c)) p F (delS s (k : Int)) ∧ Keeps F w (w1.setCell ⟨p, 3, none⟩ (.slice (some ⟨g, off, none⟩) n1 c))) := x3
  clear x3 hwin hkp HN HD hn1
  go_wp2_with fail
  (try simp only [Exit.inBlock, Exit.then]); refine bodyPost_ret (results_none rfl _ _ _) rfl ?_
  exact ⟨rfl, HX.out⟩
--END LEAVE
--BEGIN UP
theorem cutU1 (g off n c : Nat) (h1 : 1 ≤ n) (hc : 1 < c) : ∀ X, (Instr.slice 60 (.slice (some ⟨g, off, none⟩) n c) (some (.int .i64 1)) none none).run Try.prog X = .ok (.slice (some ⟨g, off + 4, none⟩) (n - 1) (c - 1)) X := by
  intro X
  rw [run_slice_l X 60 (some ⟨g, off, none⟩) _ c slU .i64 _ (by omega) (by omega)]
  have h : ¬ c = 1 := by omega
  go_simp
  try rw [addr_add]
  try simp [h]
set_option maxRecDepth 10000 in
set_option maxHeartbeats 2000000 in
theorem leave_up (w : World) (p : Nat) (F : Nat → Prop) (s : NS) (K k : Nat) (h : IsN w p F s) (hw : NWf s K) (hK : K ≤ 2600000000000) (hk : k < s.fl.length) (hd : k < s.fl.length / 2) :
    Calls Try.prog 27 #[.pointer (some ⟨p, 0, none⟩), .int .i64 (k : Nat)] w fun e w' => e = .returned (.tuple #[]) ∧ IsN w' p F (delS s (k : Int)) ∧ Keeps F w w' := by
  obtain ⟨o, n, c, h⟩ := h
  obtain ⟨-, -, -, c3⟩ := h.cells
  have hn := h.n
  obtain ⟨g, off, cur, rfl, hg, hcs⟩ : ∃ g off cur, o = some ⟨g, off, none⟩ ∧ w.heap[g]? = some (.cells cur 67 (0, 0)) ∧ off + c * 4 ≤ cur.size := by
    rcases h.win.2 with ⟨e, e0⟩ | ⟨g, off, cur, e, e1, e2, _⟩
    · have := h.win.1; omega
    · exact ⟨g, off, cur, e, e1, e2⟩
  have hpg : ¬ p = g := fun e => h.ne g ⟨_, rfl, rfl⟩ e.symm
  have hc1 := h.win.1
  obtain ⟨i0, hi, hz0, hz1, hz2⟩ := info_parts infoUE
  have hsl := cutU1 g off n c (by omega) (by omega)
  have hsh := cutUh g off n c k (by omega)
  have hlt := lenU (s.fl.take k)
  rw [List.length_take, Nat.min_eq_left (by omega)] at hlt
  have hgd : w.drew.heap[g]? = some (.cells cur 67 (0, 0)) := hg
  have hcp : (Builtin.copy_ #[60, 60] 3 #[.slice (some ⟨g, off + 4, none⟩) (n - 1) (c - 1), .slice (some ⟨g, off, none⟩) k c]).run Try.prog w.drew = .ok (goInt k) (w.drew.setCells g (off + 4) (UE.cells (s.fl.take k))) := by
    refine run_copyK w.drew 60 3 67 i0 Try.underlying60 hi g (off + 4) (n - 1) (c - 1) ⟨g, off, none⟩ k c k (UE.cells (s.fl.take k)) (Nat.min_eq_left (by omega)) (by rw [hz1, hlt]) (fun j u hj => ?_) (fun j hj => ?_) (fun j hj => frozen_of_blk hgd _) (cells_one okU _)
    · exact (h.win.row.take okU k).news j u hj
    · rw [cell_of_blk hgd]; simp; omega
  obtain ⟨w1, hw1⟩ : ∃ w1, w1 = w.drew.setCells g (off + 4) (UE.cells (s.fl.take k)) := ⟨_, rfl⟩
  rw [← hw1] at hcp
  obtain ⟨cur1, a1, a2, a3⟩ := blk_setCells (UE.cells (s.fl.take k)) (off + 4) hgd
  rw [← hw1] at a1
  have kp1 : Keeps (fun i => i = g) w w1 := by
    rw [hw1]; exact keeps_setCells' _ _ ((Keeps.refl _ w).drew) (.inl rfl)
  have hbp1 := kp1.at h.blk hpg
  have c31 : w1.cell? ⟨p, 3, none⟩ = some (.slice (some ⟨g, off, none⟩) n c) := by rw [cell_of_blk hbp1]; rfl
  have fp1 : w1.frozen? ⟨p, 3, none⟩ = false := frozen_of_blk hbp1 3
  have ex : ∀ i, i < 4 → ∃ u, w1.cell? ⟨g, off + i, none⟩ = some u := fun i hi4 => by
    rw [cell_of_blk a1]; exact ⟨_, Array.getElem?_eq_getElem (by rw [a2]; omega)⟩
  obtain ⟨u0, y0⟩ := ex 0 (by decide)
  obtain ⟨u1, y1⟩ := ex 1 (by decide)
  obtain ⟨u2, y2⟩ := ex 2 (by decide)
  obtain ⟨u3, y3⟩ := ex 3 (by decide)
  rw [Nat.add_zero] at y0
  have f0 := frozen_of_blk a1 off
  have f1 := frozen_of_blk a1 (off + 1)
  have f2 := frozen_of_blk a1 (off + 2)
  have f3 := frozen_of_blk a1 (off + 3)
  have HN : Hid (∀ w2, w2 = w1.setCells g off z4 → w2.cell? ⟨p, 3, none⟩ = some (.slice (some ⟨g, off, none⟩) n c) ∧ w2.frozen? ⟨p, 3, none⟩ = false ∧ IsN (w2.setCell ⟨p, 3, none⟩ (.slice (some ⟨g, off + 4, none⟩) (n - 1) (c - 1))) p F (delS s (k : Int)) ∧ Keeps F w (w2.setCell ⟨p, 3, none⟩ (.slice (some ⟨g, off + 4, none⟩) (n - 1) (c - 1)))) := by
    rintro w2 rfl
    have hwin := win_up (h.win.keepsN ((Keeps.refl no w).drew)) (k := k) (by omega)
    rw [← hw1] at hwin
    have hkp : Keeps (fun i => i = g) w (w1.setCells g off z4) := keeps_setCells' _ _ kp1 (.inl rfl)
    have hb1 := hkp.at h.blk hpg
    have hb2 := blk_set hb1 3 (.slice (some ⟨g, off + 4, none⟩) (n - 1) (c - 1))
    have e2 : ((w1.setCells g off z4).setCell ⟨p, 3, none⟩ (.slice (some ⟨g, off + 4, none⟩) (n - 1) (c - 1))).heap[p]? = some (.cells (nC s.parts s.clients s.num (.slice (some ⟨g, off + 4, none⟩) (n - 1) (c - 1))) 62 (0, 0)) := by rw [hb2]; rfl
    have k2 : Keeps (fun i => i = p) (w1.setCells g off z4) ((w1.setCells g off z4).setCell ⟨p, 3, none⟩ (.slice (some ⟨g, off + 4, none⟩) (n - 1) (c - 1))) := (Keeps.refl (fun i => i = p) (w1.setCells g off z4)).setCell (p := ⟨p, 3, none⟩) (.inl (show p = p from rfl)) _
    have k3 : Keeps (fun i => i = g ∨ i = p) w ((w1.setCells g off z4).setCell ⟨p, 3, none⟩ (.slice (some ⟨g, off + 4, none⟩) (n - 1) (c - 1))) := (hkp.mono (fun i hi => .inl hi)).trans (k2.mono (fun i hi => .inr hi))
    refine ⟨by rw [cell_of_blk hb1]; rfl, frozen_of_blk hb1 3, h.del hk k3 (fun i hi => ?_) (hwin.keeps k2 (fun i hi e => ?_)) (by omega) (fun i hi => ?_) e2⟩
    · rcases hi with rfl | rfl
      · exact h.fF i ⟨_, rfl, rfl⟩
      · exact h.pF
    · obtain ⟨x, ex, rfl⟩ := hi
      cases ex
      exact hpg e.symm
    · obtain ⟨x, ex, rfl⟩ := hi
      cases ex
      exact ⟨_, rfl, rfl⟩
  have hdd : True := trivial
  have hdd3 : (k : Int) < (n : Int) / 2 := by omega
  clear hdd
  have hnb : (n : Int) ≤ 2600000000000 := by have := hw.len; have := hw.num; omega
  have hn0 : (0 : Int) < (n : Int) := by omega
  have HCP : Hid ((Builtin.copy_ #[60, 60] 3 #[.slice (some ⟨g, off + 4, none⟩) (n - 1) (c - 1), .slice (some ⟨g, off, none⟩) k c]).run Try.prog w.drew = .ok (goInt k) w1) := hcp
  generalize hA1 : n - 1 = n1 at *
  generalize hA2 : c - 1 = m1 at *
  clear h hw hK hk hd hn hcp hw1 a1 a2 a3 hg hgd hcs hz0 hz1 hz2 hi kp1 hbp1 hlt ex hc1 hA1 hA2
  go_enter Try.func27, Try.ntmps27
  go_upto_region 2 with fail
  go_region_law (refine step_copyRun rfl (.tmp 27) (.tmp 33) 60 60 rfl _ _ rfl rfl HCP.out ?_)
  all_goals go_wp2_with fail
  all_goals go_end0
  all_goals exact ⟨rfl, (HN.out _ rfl).2.2⟩
theorem leave_any (w : World) (p : Nat) (F : Nat → Prop) (s : NS) (K k : Nat) (h : IsN w p F s) (hw : NWf s K) (hK : K ≤ 2600000000000) (hk : k < s.fl.length) :
    Calls Try.prog 27 #[.pointer (some ⟨p, 0, none⟩), .int .i64 (k : Nat)] w fun e w' => e = .returned (.tuple #[]) ∧ IsN w' p F (delS s (k : Int)) ∧ Keeps F w w' := by
  by_cases hd : s.fl.length / 2 ≤ k
  · exact leave_down w p F s K k h hw hK hk hd
  · exact leave_up w p F s K k h hw hK hk (by omega)
--END UP
end Go.Proofs.Ytdbejihkliafiaa
