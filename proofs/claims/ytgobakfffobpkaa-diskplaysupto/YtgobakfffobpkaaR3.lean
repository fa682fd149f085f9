/- The document's disk: one file of the list turned; a crash; the counting. -/
import Derived.Test.YtgobakfffobpkaaR2
import Derived.Deep.RegionHeld3
namespace Go.Proofs.Ytgobakfffobpkaa
open Go.RowKit Dk
set_option linter.unusedVariables false
set_option linter.unusedSimpArgs false

theorem cells_set1 (u : Value) (f' : RF) : ∀ (fs : List RF) (j i : Nat), j < fs.length → i < 3 → f'.cells = ((fs.getD j rf0).cells).set i u → (FE.cells fs).set (j * 3 + i) u = FE.cells (fs.set j f')
  | [], j, i, hj, _, _ => by simp at hj
  | x :: r, 0, i, _, hi, he => by
    simp only [El.cells, List.flatMap_cons, List.set_cons_zero]
    have hx : (FE.enc x).length = 3 := rfl
    have he' : FE.enc f' = (FE.enc x).set i u := by simp only [List.getD_cons_zero] at he; exact he
    rw [he', Nat.zero_mul, Nat.zero_add, List.set_append_left _ _ (by rw [hx]; exact hi)]
  | x :: r, j + 1, i, hj, hi, he => by
    have ih := cells_set1 u f' r j i (by simpa using hj) hi (by simpa using he)
    simp only [El.cells, List.flatMap_cons, List.set_cons_succ] at ih ⊢
    have hx : (FE.enc x).length = 3 := rfl
    rw [List.set_append_right _ _ (by rw [hx]; omega), hx, show (j + 1) * 3 + i - 3 = j * 3 + i by omega, ih]
theorem own_setF {w : World} {g c : Nat} {fs : List RF} (h : Own FE w (some ⟨g, 0, none⟩) c fs) {j i : Nat} (hj : j < fs.length) (hi : i < 3) (u : Value) (f' : RF) (he : f'.cells = ((fs.getD j rf0).cells).set i u) : Own FE (w.setCell ⟨g, j * 3 + i, none⟩ u) (some ⟨g, 0, none⟩) c (fs.set j f') := by
  rcases h.shape with ⟨e, _, _⟩ | ⟨g', cur, e, hg, h2, h3, h4, h5⟩
  · cases e
  · cases e
    refine own_of_shape okF (blk_set hg (j * 3 + i) u) (by simpa using h2) h3 (by simpa using h4) ?_
    rw [← cells_set1 u f' fs j i hj hi he, ← h5]
    simp [List.take_set]

/-! ### a crash -/
def crR (k : Int) (f : RF) : RF := ⟨f.nm, f.o, cutN k ⟨f.bs, f.sy⟩, f.bs.take (cutN k ⟨f.bs, f.sy⟩), cutN k ⟨f.bs, f.sy⟩⟩
theorem crR_ent (k : Int) (f : RF) : (crR k f).ent = (f.ent.1, crF k f.ent.2) := rfl
def crL (k : Int) (j : Nat) (fs : List RF) : List RF := (fs.take j).map (crR k) ++ fs.drop j
theorem crL_zero (k : Int) (fs : List RF) : crL k 0 fs = fs := by simp [crL]
theorem crL_len (k : Int) (j : Nat) (fs : List RF) : (crL k j fs).length = fs.length := by simp [crL]; omega
theorem crL_at (k : Int) (j : Nat) (fs : List RF) (hj : j < fs.length) : (crL k j fs).getD j rf0 = fs.getD j rf0 := by
  unfold crL
  rw [List.getD_eq_getElem?_getD, List.getElem?_append_right (by simp; omega)]
  simp [List.getD_eq_getElem?_getD, Nat.min_eq_left (Nat.le_of_lt hj)]
theorem crL_next (k : Int) (j : Nat) (fs : List RF) (hj : j < fs.length) : (crL k j fs).set j (crR k (fs.getD j rf0)) = crL k (j + 1) fs := by
  unfold crL
  rw [List.set_append_right _ _ (by simp; omega), List.length_map, List.length_take, Nat.min_eq_left (Nat.le_of_lt hj), Nat.sub_self, List.drop_eq_getElem_cons hj, List.set_cons_zero, take_succ_getD fs j rf0 hj, List.map_append, List.append_assoc]
  rfl
theorem crL_all (k : Int) (fs : List RF) : crL k fs.length fs = fs.map (crR k) := by simp [crL]
theorem cutN_val {f : RF} {k : Int} (h : f.sy ≤ f.bs.length) : cutN k ⟨f.bs, f.sy⟩ = if k < (f.bs.length : Int) - f.sy then f.sy + k.toNat else f.bs.length := by
  show f.sy + min k.toNat (f.bs.length - f.sy) = _
  split <;> omega
/-- s[:n:n] -/
theorem cut3 (o : Option Addr) (n c I : Nat) (h1 : I ≤ c) (hnil : o = none → c = 0) (hc : c ≤ 9223372036854775807) : ∀ w, (Instr.slice 22 (.slice o n c) none (some (.int .i64 ((I : Nat) : Int))) (some (.int .i64 ((I : Nat) : Int)))).run Try.prog w = .ok (.slice o I I) w := by
  intro w
  rw [run_slice_hm w 22 o _ c sl22 .i64 .i64 _ _ (by omega) (by omega) (by omega)]
  match o, hnil with
  | none, hnil => go_simp
  | some ad, _ => go_simp

/-- behind j files of a crash -/
theorem cr_next {w wq : World} {r : Nat} {F : Nat → Prop} {s : St} {g cF : Nat} {fs : List RF} {k : Int} {j : Nat} (hD : RD w r F s (some ⟨g, 0, none⟩) cF fs) (hj : j < fs.length) (hO : Own FE wq (some ⟨g, 0, none⟩) cF (crL k j fs)) {q m : Nat} (hq : q = cutN k ⟨(fs.getD j rf0).bs, (fs.getD j rf0).sy⟩) :
    Own FE ((wq.setCell ⟨g, j * 3 + 1, none⟩ (.slice (fs.getD j rf0).o q q)).setCell ⟨g, j * 3 + 2, none⟩ (.int .i64 ((q : Nat) : Int))) (some ⟨g, 0, none⟩) cF (crL k (j + 1) fs) := by
  have hf : fs.getD j rf0 ∈ fs := getD_mem fs j rf0 hj
  have hsy : (fs.getD j rf0).sy ≤ (fs.getD j rf0).bs.length := hD.ok.sy (fs.getD j rf0).ent (by rw [hD.eq]; exact List.mem_map_of_mem hf)
  have hqn : q ≤ (fs.getD j rf0).bs.length := by rw [hq]; exact cutN_le k hsy
  have hl : j < (crL k j fs).length := by rw [crL_len]; exact hj
  have hat := crL_at k j fs hj
  have hnx := crL_next k j fs hj
  generalize fs.getD j rf0 = f at *
  have h1 := own_setF hO hl (i := 1) (by omega) (.slice f.o q q) ⟨f.nm, f.o, q, f.bs.take q, f.sy⟩ (by rw [hat]; simp [RF.cells, List.length_take, Nat.min_eq_left hqn])
  have h2 := own_setF h1 (by simpa using hl) (i := 2) (by omega) (.int .i64 ((q : Nat) : Int)) (crR k f) (by
    have : ((crL k j fs).set j ⟨f.nm, f.o, q, f.bs.take q, f.sy⟩).getD j rf0 = ⟨f.nm, f.o, q, f.bs.take q, f.sy⟩ := by
      simp [List.getD_eq_getElem?_getD, hl]
    rw [this]
    simp [RF.cells, crR, ← hq])
  rw [List.set_set, hnx] at h2
  exact h2
theorem rcr_end {w wr w' : World} {r : Nat} {F : Nat → Prop} {s : St} {oF : Option Addr} {cF : Nat} {fs : List RF} {k : Int} (hD : RD w r F s oF cF fs) (ho : s.off = false) (hK : Keeps (inO oF) w wr) (hO : Own FE wr oF cF (crL k fs.length fs)) (hks : Keeps (fun i => i = r) wr w') (hb : w'.heap[r]? = some (.cells (rcells oF fs.length cF (crash k s)) 82 (0, 0))) : IsR w' r F (crash k s) ∧ Keeps F w w' := by
  have hbw := hK.at hD.blk hD.o_r
  have hfsy : ∀ f ∈ fs, f.sy ≤ f.bs.length := fun f hf => hD.ok.sy f.ent (by rw [hD.eq]; exact List.mem_map_of_mem hf)
  refine ⟨⟨oF, cF, fs.map (crR k), ?_⟩, (hK.mono hD.fo).trans (hks.mono fun i e => by subst e; exact hD.fr)⟩
  rw [crL_all] at hO
  have hoc : (crash k s).calls = -1 ∧ (crash k s).keep = s.keep ∧ (crash k s).ref = s.ref := by unfold crash; rw [ho]; exact ⟨rfl, rfl, rfl⟩
  refine ⟨by simpa using hb, hO.keeps hks (fun i h1 e => by subst e; exact ne_blk hO hbw (by decide) h1), ?_, ?_, ?_, hD.fr, hD.fo, ?_, fun i hi => Nat.lt_of_lt_of_le (hD.lt i hi) (Nat.le_trans hK.size hks.size), crash_ok hD.ok, by rw [hoc.1]; unfold i64; omega, by rw [hoc.2.1]; exact hD.ki, by rw [hoc.2.2]; exact hD.ri⟩
  · rw [crash_fs ho, hD.eq]
    simp [mapv, Function.comp_def, crR_ent]
  · intro f hf
    obtain ⟨f0, hf0, rfl⟩ := List.mem_map.1 hf
    have h1 := ((hD.each f0 hf0).keeps hK (hD.f_o hf0)).keeps hks (fun i h1 e => by subst e; exact hD.f_r hf0 h1)
    exact h1.cut (cutN_le k (hfsy f0 hf0))
  · rw [List.pairwise_map]
    exact hD.apart
  · intro f hf
    obtain ⟨f0, hf0, rfl⟩ := List.mem_map.1 hf
    exact hD.ff f0 hf0

set_option maxRecDepth 100000 in
set_option maxHeartbeats 0 in
theorem rcrash_on (w : World) (r : Nat) (F : Nat → Prop) (s : St) (k : Int) (h : IsR w r F s) (hoff : s.off = false) (hk : i64 k) :
    Calls Try.prog 52 #[.pointer (some ⟨r, 0, none⟩), .int .i64 k] w fun e w' => e = .returned (.tuple #[]) ∧ IsR w' r F (crash k s) ∧ Keeps F w w' := by
  obtain ⟨oF, cF, fs, h⟩ := h
  obtain ⟨N, hN⟩ : ∃ N, N = fs.length := ⟨_, rfl⟩
  have HN : Hid (N = fs.length) := hN
  have h16 : N ≤ 16 := by have := h.ok.len; have := h.eq; rw [h.eq] at this; have h2 := h.ok.len; rw [h.eq] at h2; simp at h2; omega
  have HD : Hid (RD w r F s oF cF fs) := h
  have HO : Hid (s.off = false) := hoff
  have k1 := hk.1
  have k2 := hk.2
  have c1 : w.cell? ⟨r, 1, none⟩ = some (.bool false) := by rw [← hoff]; exact cell_of_blk h.blk 1
  clear hN h hoff hk
  go_enter Try.func52, Try.ntmps52
  go_wp2_with fail
  clear c1
  go_loopw [4] (fun i wr => ∃ (j : Nat), j ≤ N ∧ i = .int .i64 j ∧ Hid (Keeps (inO oF) w wr ∧ Own FE wr oF cF (crL k j fs))) (fun i _ => N - (intOf i).toNat)
  case atStart => exact ⟨0, by omega, rfl, ⟨Keeps.refl _ _, by rw [crL_zero]; exact HD.out.own⟩⟩
  case round =>
    obtain ⟨j, hj, rfl, HI⟩ := hrel
    have hbw := HI.out.1.at HD.out.blk HD.out.o_r
    have c0 : wr.cell? ⟨r, 0, none⟩ = some (.slice oF N cF) := by rw [HN.out]; exact cell_of_blk hbw 0
    have HB : Hid (wr.heap[r]? = some (.cells (rcells oF fs.length cF s) 82 (0, 0))) := hbw
    clear hbw
    by_cases hlt : j < N
    · have hjf : j < fs.length := by have := HN.out; omega
      obtain ⟨g, hg, d0, d1, d2, fz⟩ := ownF_at HI.out.2 (j := j) (by rw [crL_len]; exact hjf)
      rw [crL_at k j fs hjf] at d0 d1 d2
      subst hg
      have hf : fs.getD j rf0 ∈ fs := getD_mem fs j rf0 hjf
      have hOw := HD.out.each _ hf
      have hsy : (fs.getD j rf0).sy ≤ (fs.getD j rf0).bs.length := HD.out.ok.sy (fs.getD j rf0).ent (by rw [HD.out.eq]; exact List.mem_map_of_mem hf)
      have hcv := cutN_val (k := k) hsy
      obtain ⟨q, hq⟩ : ∃ q, q = cutN k ⟨(fs.getD j rf0).bs, (fs.getD j rf0).sy⟩ := ⟨_, rfl⟩
      have HNX : Hid (∀ wq, Own FE wq (some ⟨g, 0, none⟩) cF (crL k j fs) → Own FE ((wq.setCell ⟨g, j * 3 + 1, none⟩ (.slice (fs.getD j rf0).o q q)).setCell ⟨g, j * 3 + 2, none⟩ (.int .i64 ((q : Nat) : Int))) (some ⟨g, 0, none⟩) cF (crL k (j + 1) fs)) := fun wq hO => cr_next (m := 0) HD.out hjf hO hq
      rw [← hq] at hcv
      obtain ⟨f, hff⟩ : ∃ f, f = fs.getD j rf0 := ⟨_, rfl⟩
      rw [← hff] at d0 d1 d2 hOw hsy hcv HNX
      obtain ⟨nf, hnf⟩ : ∃ nf, nf = f.bs.length := ⟨_, rfl⟩
      rw [← hnf] at d1 hsy hcv
      have hcap : nf ≤ f.c := by rw [hnf]; exact hOw.cap
      have hmax : f.c ≤ 9223372036854775807 := by have := hOw.max; unfold maxLen at this; omega
      have fz1 := fz (j * 3 + 1)
      have fz2 := fz (j * 3 + 2)
      have hqn : q ≤ nf := by rw [hcv]; split <;> omega
      have hcut := cut3 f.o nf f.c q (by omega) hOw.nil hmax
      have hlg := HI.out.2.lt g ⟨_, rfl, rfl⟩
      have hgr : ¬ g = r := fun e => ne_blk HI.out.2 HB.out (by decide) (by rw [e]; exact ⟨_, rfl, rfl⟩)
      have hrl := lt_of_block HB.out
      obtain ⟨V, hV⟩ : ∃ V, V = wr.alloc (.cells #[.string f.nm, .slice f.o nf f.c, .int .i64 ((f.sy : Nat) : Int)] 97) := ⟨_, rfl⟩
      obtain ⟨B, hB⟩ : ∃ B, B = wr.heap.size := ⟨_, rfl⟩
      have KV : Hid (Keeps no wr V) := (show _ by rw [hV]; exact keeps_alloc wr _)
      have bV : V.heap[B]? = some (.cells #[.string f.nm, .slice f.o nf f.c, .int .i64 ((f.sy : Nat) : Int)] 97 (0, 0)) := by rw [hV, hB]; exact blk_new wr _
      have hgB : ¬ g = B := by omega
      have hrB : ¬ r = B := by omega
      have hBg : ¬ B = g := by omega
      have hBr : ¬ B = r := by omega
      have hrg : ¬ r = g := fun e => hgr e.symm
      have v0 : V.cell? ⟨r, 0, none⟩ = some (.slice (some ⟨g, 0, none⟩) N cF) := KV.out.cellN c0
      have v1 : V.cell? ⟨B, 1, none⟩ = some (.slice f.o nf f.c) := cell_of_blk bV 1
      have v2 : V.cell? ⟨g, j * 3 + 1, none⟩ = some (.slice f.o nf f.c) := KV.out.cellN d1
      have v3 : V.cell? ⟨g, j * 3 + 2, none⟩ = some (.int .i64 ((f.sy : Nat) : Int)) := KV.out.cellN d2
      have OV := HI.out.2.keepsN KV.out
      obtain ⟨_, e', _, _, _, fzV⟩ := ownF_at OV (j := j) (by rw [crL_len]; exact hjf)
      cases e'
      have z1 := fzV (j * 3 + 1)
      have z2 := fzV (j * 3 + 2)
      have HNV := HNX.out V OV
      have HNV2 : Hid (Own FE ((V.setCell ⟨g, j * 3 + 1, none⟩ (.slice f.o q q)).setCell ⟨g, j * 3 + 2, none⟩ (.int .i64 ((q : Nat) : Int))) (some ⟨g, 0, none⟩) cF (crL k (j + 1) fs)) := HNV
      have HKV : Hid (Keeps (inO (some ⟨g, 0, none⟩)) w ((V.setCell ⟨g, j * 3 + 1, none⟩ (.slice f.o q q)).setCell ⟨g, j * 3 + 2, none⟩ (.int .i64 ((q : Nat) : Int)))) := (show _ from ((HI.out.1.trans KV.out.of_no).trans (keeps_setO V g (j * 3 + 1) _)).trans (keeps_setO _ g (j * 3 + 2) _))
      clear hf hOw hq hff hnf fz hjf hlg hrl bV OV HNV fzV
      by_cases hkn : k < (nf : Int) - (f.sy : Int)
      case' pos =>
        rw [if_pos hkn] at hcv
        have HMX : Hid ((f.sy : Int) + max k 0 = ((q : Nat) : Int)) := (show _ = _ by omega)
        clear hcv
        go_wp2_with fail
        rw [HMX.out]
      case' neg =>
        rw [if_neg hkn] at hcv
        have HQN : Hid (nf = q) := hcv.symm
        clear hcv
        go_wp2_with fail
        rw [show (Value.int .i64 ((nf : Nat) : Int)) = Value.int .i64 ((q : Nat) : Int) by rw [HQN.out]]
      all_goals
        (rw [← hV, ← hB]
         clear hV hB c0 d0 d1 d2 fz1 fz2
         go_region_held3 (fun w' => w'.cell? ⟨r, 0, none⟩ = some (.slice (some ⟨g, 0, none⟩) N cF) ∧ w'.cell? ⟨B, 1, none⟩ = some (.slice f.o nf f.c)) (go_keep) (fail)
         go_wp2_with fail
         go_roundw
         case rel => exact ⟨j + 1, by omega, by go_num, ⟨HKV.out.drew, HNV2.out.keepsN (Keeps.refl _ _).drew⟩⟩
         case measure => simp [intOf]; omega)
    · have hjn : j = N := by omega
      subst j
      have f1 : wr.frozen? ⟨r, 1, none⟩ = false := frozen_of_blk HB.out 1
      have f3 : wr.frozen? ⟨r, 3, none⟩ = false := frozen_of_blk HB.out 3
      have x1 : wr.cell? ⟨r, 1, none⟩ = some (.bool s.off) := cell_of_blk HB.out 1
      have x3 : wr.cell? ⟨r, 3, none⟩ = some (.int .i64 s.calls) := cell_of_blk HB.out 3
      go_wp2_with fail
      go_end0
      have hks := (keeps_set wr r 1 (.bool true)).trans (keeps_set _ r 3 (.int .i64 (-1)))
      have hO := HI.out.2
      rw [HN.out] at hO
      have hec : rcells oF fs.length cF (crash k s) = #[.slice oF fs.length cF, .bool true, .int .i64 ((s.ref : Nat) : Int), .int .i64 (-1), .int .i64 s.keep] := by
        unfold crash rcells
        rw [HO.out]
        rfl
      exact ⟨rfl, rcr_end HD.out HO.out HI.out.1 hO hks (by rw [hec]; exact blk_set (blk_set HB.out 1 (.bool true)) 3 (.int .i64 (-1)))⟩
theorem rcrash_any (w : World) (r : Nat) (F : Nat → Prop) (s : St) (k : Int) (h : IsR w r F s) (hk : i64 k) :
    Calls Try.prog 52 #[.pointer (some ⟨r, 0, none⟩), .int .i64 k] w fun e w' => e = .returned (.tuple #[]) ∧ IsR w' r F (crash k s) ∧ Keeps F w w' := by
  cases hoff : s.off with
  | false => exact rcrash_on w r F s k h hoff hk
  | true =>
    have h0 := h
    obtain ⟨oF, cF, fs, h⟩ := h
    have c1 : w.cell? ⟨r, 1, none⟩ = some (.bool true) := by rw [← hoff]; exact cell_of_blk h.blk 1
    have e : crash k s = s := by unfold crash; rw [hoff]; rfl
    rw [e]
    clear e
    go_enter Try.func52, Try.ntmps52
    go_wp2
    refine bodyPost_ret (results_none rfl _ _ _) rfl ?_
    exact ⟨rfl, h0, Keeps.refl _ _⟩
theorem rcounted_any (w : World) (r : Nat) (F : Nat → Prop) (s : St) (h : IsR w r F s) :
    Calls Try.prog 60 #[.pointer (some ⟨r, 0, none⟩)] w fun e w' => e = .returned (.bool (tick s).off) ∧ IsR w' r F (tick s) ∧ Keeps F w w' := by
  obtain ⟨oF, cF, fs, hd⟩ := h
  have c1 : w.cell? ⟨r, 1, none⟩ = some (.bool s.off) := cell_of_blk hd.blk 1
  have c3 : w.cell? ⟨r, 3, none⟩ = some (.int .i64 s.calls) := cell_of_blk hd.blk 3
  have c4 : w.cell? ⟨r, 4, none⟩ = some (.int .i64 s.keep) := cell_of_blk hd.blk 4
  have f3 : w.frozen? ⟨r, 3, none⟩ = false := frozen_of_blk hd.blk 3
  have HD : Hid (RD w r F s oF cF fs) := hd
  have hc1 := hd.ci.1
  have hc2 := hd.ci.2
  by_cases h0 : s.calls = 0
  · have et : tick s = crash s.keep s := by unfold tick; rw [if_pos h0]
    rw [et]
    have hcc : (crash s.keep s).calls ≤ 0 := by
      unfold crash
      split
      · omega
      · simp
    obtain ⟨t, ht⟩ : ∃ t, t = crash s.keep s := ⟨_, rfl⟩
    rw [← ht] at hcc ⊢
    have HT : Hid (t = crash s.keep s) := ht
    rw [h0] at c3
    clear hd et ht h0 hc1 hc2
    go_enter Try.func60, Try.ntmps60
    go_wp2_with (go_at_call 52; refine (rcrash_any _ r F s s.keep ⟨oF, cF, fs, HD.out⟩ HD.out.ki).mono ?_; rw [← HT.out]; rintro e w1 ⟨rfl, ⟨oF1, cF1, fs1, hd1⟩, HK⟩; have d1 := cell_of_blk hd1.blk 1; have d3 := cell_of_blk hd1.blk 3; simp only [rcells] at d1 d3)
    go_ret
    exact ⟨rfl, ⟨oF1, cF1, fs1, hd1⟩, HK⟩
  · by_cases h1 : 0 < s.calls
    · have et : tick s = { s with calls := s.calls - 1 } := by unfold tick; rw [if_neg h0, if_pos h1]
      rw [et]
      clear hd et
      go_enter Try.func60, Try.ntmps60
      go_wp2
      go_ret
      have hks := keeps_set w r 3 (.int .i64 (s.calls - 1))
      refine ⟨rfl, ⟨oF, cF, fs, HD.out.cells hks (blk_set HD.out.blk 3 _) rfl ?_ ⟨by simp; omega, by simp; omega⟩ HD.out.ki HD.out.ri⟩, hks.mono (fun i e => by subst e; exact HD.out.fr)⟩
      exact ⟨HD.out.ok.inc, HD.out.ok.len, HD.out.ok.sy, HD.out.ok.nm, by simp; omega⟩
    · have et : tick s = s := by unfold tick; rw [if_neg h0, if_neg h1]
      rw [et]
      clear hd et
      go_enter Try.func60, Try.ntmps60
      go_wp2
      go_ret
      exact ⟨rfl, ⟨oF, cF, fs, HD.out⟩, Keeps.refl _ _⟩
end Go.Proofs.Ytgobakfffobpkaa
