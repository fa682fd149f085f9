/- A shot of a disk: the walk. -/
import Derived.Test.YtgobakfffobpkaaT4
namespace Go.Proofs.Ytgobakfffobpkaa
open Go.RowKit Dk
set_option linter.unusedVariables false
set_option linter.unusedSimpArgs false

theorem name_at {t : St} (hok : Ok t) {k : Nat} (hk : k < t.fs.length) {n : Tx} (hn : n = ((names t.fs).map mkT).getD k e0) : ∃ f, find n.data.toList t.fs = some f ∧ f.bs = (t.fs.map (·.2.bs)).getD k [] ∧ n.size ≤ 32 ∧ (n.data.toList, f) ∈ t.fs := by
  have e : n = mkT (t.fs[k]).1 := by rw [hn]; simp [names, hk]
  have hm : (t.fs[k]) ∈ t.fs := List.getElem_mem hk
  have hd : n.data.toList = (t.fs[k]).1 := by rw [e, data_mkT]
  refine ⟨(t.fs[k]).2, ?_, by simp [hk], ?_, ?_⟩
  · rw [hd]; exact find_of_mem hok.inc hm
  · refine good_size ?_
    rw [hd]; exact hok.nm _ hm
  · rw [hd]; exact hm
theorem name_lt {t : St} (hok : Ok t) {k : Nat} (hk : k + 1 < t.fs.length) {n m : Tx} (hn : n = ((names t.fs).map mkT).getD k e0) (hm : m = ((names t.fs).map mkT).getD (k + 1) e0) : Op.bytesLess n.toList m.toList = true := by
  have e1 : n = mkT (t.fs[k]).1 := by rw [hn]; simp [names, Nat.lt_of_succ_lt hk]
  have e2 : m = mkT (t.fs[k + 1]).1 := by rw [hm]; simp [names, hk]
  rw [Lib.toList_data, Lib.toList_data, e1, e2, data_mkT, data_mkT, less_bb]
  exact (List.pairwise_iff_getElem.1 hok.inc) k (k + 1) (Nat.lt_of_succ_lt hk) hk (by omega)

def ShotTo (w : World) (p : Nat) (F : Nat → Prop) (s : St) (e : Ending) (w' : World) : Prop := ∃ x : Sh, e = .returned (.tuple #[.agg x.cells, .bool true]) ∧ ShAt w' x ∧ (∀ k, x.foot k → w.heap.size ≤ k) ∧ Tells x (up s) ∧ IsD w' p F (up s) ∧ Keeps F w w'

set_option maxRecDepth 100000 in
set_option maxHeartbeats 0 in
theorem shot_any (w : World) (p : Nat) (F : Nat → Prop) (s : St) (h : IsD w p F s) (M : Nat) (hr : Room M s) (hM : M ≤ 70368744177664) :
    Calls Try.prog 27 #[.pointer (some ⟨p, 0, none⟩)] w (ShotTo w p F s) := by
  have hF := h.lt
  have hc := calm_up s
  have hr' : Room M (up s) := hr
  obtain ⟨t, ht⟩ : ∃ t, t = up s := ⟨_, rfl⟩
  unfold ShotTo
  rw [← ht] at hc hr' ⊢
  have HT : Hid (t = up s) := ht
  have HF : Hid (∀ k, F k → k < w.heap.size) := hF
  have HR : Hid (Room M t) := hr'
  have HC : Hid (Calm t) := hc
  have HI : Hid (IsD w p F s) := h
  clear ht hF hr' hc h hr
  go_enter Try.func27, Try.ntmps27
  go_wp2_with fail
  refine (up_any _ p F s (HI.out.keepsN (keeps_alloc w _))).mono ?_
  rintro e w1 ⟨rfl, h1, hk1⟩
  rw [← HT.out] at h1
  go_wp2_with fail
  refine (list_on _ p F t (h1.keepsN (keeps_alloc w1 _)) HC.out).mono ?_
  rintro e w2 ⟨ol, cl, n, rfl, hn, hol, hnl, h2, hk2⟩
  obtain ⟨b, hb⟩ : ∃ b, b = w1.heap.size := ⟨_, rfl⟩
  obtain ⟨a, ha⟩ : ∃ a, a = w.heap.size := ⟨_, rfl⟩
  have hs1 := hk1.size
  simp only [World.size_alloc] at hs1
  have HS0 : Hid (Shoot w w2 p F t a b ol cl 0 ⟨none, 0, [], none, 0, []⟩) := by
    have hn2 : Keeps F w w2 := (((keeps_alloc w _).of_no.trans hk1).trans (keeps_alloc w1 _).of_no).trans hk2
    have nf : ∀ i, w.heap.size ≤ i → ¬ F i := fun i hi hf => by have := HF.out i hf; omega
    refine ⟨h2, hn2, ?_, ?_, by omega, by omega, hol, ?_, ⟨own_nil _, own_nil _, by simp⟩, ?_, rfl, rfl, ?_⟩
    · rw [hb]; exact hk2.at (blk_new w1 _) (nf _ (by omega))
    · rw [ha]
      exact hk2.at (blk_alloc (hk1.at (blk_new w _) (nf _ (Nat.le_refl _))) _) (nf _ (Nat.le_refl _))
    · refine hnl.of_le ?_
      simp only [World.size_alloc]
      omega
    · rintro i (⟨y, e, _⟩ | ⟨y, e, _⟩ | ⟨y, hy, _⟩)
      · cases e
      · cases e
      · simp at hy
    · rintro i ⟨y, e, _⟩; cases e
  rw [← hb, ← ha]
  have hn16 : n ≤ 16 := by have := h2.ok.len; have := hn.out; omega
  clear h1 hk1 hol hnl h2 hk2 hb ha hs1
  go_wp2_with fail
  go_loopw [7, 8] (fun k7 i wr => ∃ (k : Nat) (x : Sh), k ≤ n ∧ k7 = .bool true ∧ i = .int .i64 k ∧ Hid (Shoot w wr p F t a b ol cl k x)) (fun _ i _ => n - (intOf i).toNat)
  case atStart => exact ⟨0, _, by omega, rfl, rfl, HS0.out⟩
  case round =>
    clear HS0
    obtain ⟨k, x, hk, rfl, rfl, HS⟩ := hrel
    by_cases hlt : k < n
    · have hkl : k < t.fs.length := by have := hn.out; omega
      have HKL : Hid (k < t.fs.length) := hkl
      obtain ⟨nm, hnm⟩ : ∃ nm, nm = ((names t.fs).map mkT).getD k e0 := ⟨_, rfl⟩
      obtain ⟨f, hf1, hf2, hf3, hf4⟩ := name_at HS.out.is.ok hkl hnm
      obtain ⟨bl, hol, hcl⟩ := own_t HS.out.lst (by simp [names]; omega)
      subst hol
      have d1 := (hcl k (by simpa [names] using hkl)).1
      rw [← hnm] at d1
      have HNM : Hid (nm = ((names t.fs).map mkT).getD k e0) := hnm
      have HF1 : Hid (find nm.data.toList t.fs = some f ∧ f.bs = (t.fs.map (·.2.bs)).getD k [] ∧ nm.size ≤ maxLen ∧ f.bs.length ≤ 70368744177664) := ⟨hf1, hf2, by unfold maxLen; omega, Nat.le_trans (HR.out _ hf4) hM⟩
      have NB : Hid (w.heap.size ≤ bl) := HS.out.lnew bl ⟨_, rfl, rfl⟩
      have nfb : ¬ F bl := fun hf => by have := HF.out _ hf; have := NB.out; omega
      clear hnm hf1 hf2 hf3 hf4 hcl hkl
      go_wp2_with fail
      refine (read_on wr p F t nm f HS.out.is HC.out HF1.out.1 HF1.out.2.2.1 (by have := HF1.out.2.2.2; omega)).mono ?_
      rintro e w3 ⟨o9, c9, m9, rfl, hm9, ho9, hn9, h3, hk3⟩
      have d3 := hk3.cell d1 nfb
      have HS3 : Hid (Shoot w w3 p F t a b (some ⟨bl, 0, none⟩) cl k x) := HS.out.step HF.out h3 hk3
      have K3 : Hid (Keeps F wr w3) := hk3
      have O9 : Hid (Own BE w3 o9 c9 f.bs ∧ New wr o9) := ⟨ho9, hn9⟩
      clear d1 h3 hk3 ho9 hn9
      go_wp2_with fail
      refine (size_on w3 p F t nm f m9 HS3.out.is HC.out HF1.out.1 HF1.out.2.2.1 hm9.out).mono ?_
      rintro e w4 ⟨rfl, h4, hk4⟩
      have d4 := hk4.cell d3 nfb
      have HS4 : Hid (Shoot w w4 p F t a b (some ⟨bl, 0, none⟩) cl k x) := HS3.out.step HF.out h4 hk4
      have O4 : Hid (Own BE w4 o9 c9 f.bs) := O9.out.1.keeps hk4 (fun i h1 hf => by have := O9.out.2 i h1; have := HF.out i hf; have := HS.out.kept.size; omega)
      clear h4 hk4 d3 HS3 K3 O9 HS
      by_cases hk0 : k = 0
      case' pos =>
        have hk1 : ((k : Int) == 0) = true := by simp [hk0]
        clear hk0
        go_wp2_with fail
        go_quiet (fail)
      case' neg =>
        obtain ⟨j, hj⟩ : ∃ j, k = j + 1 := ⟨k - 1, by omega⟩
        obtain ⟨nm0, hnm0⟩ : ∃ nm0, nm0 = ((names t.fs).map mkT).getD j e0 := ⟨_, rfl⟩
        have d0 : w4.cell? ⟨bl, j, none⟩ = some (.string nm0) := by
          obtain ⟨_, e, hcl⟩ := own_t HS4.out.lst (by have := HKL.out; simp [names]; omega)
          cases e
          rw [hnm0]
          exact (hcl j (by have := HKL.out; simp [names]; omega)).1
        have hless : Op.bytesLess nm0.toList nm.toList = true := name_lt HS4.out.is.ok (k := j) (by have := HKL.out; omega) hnm0 (by rw [← hj]; exact HNM.out)
        have hk1 : ((k : Int) == 0) = false := by simp [hk0]
        have hkj : (k : Int) - 1 = (j : Int) := by omega
        have hW : IntKind.i64.wrap (j : Int) = (j : Int) := by rw [IntKind.wrap_i64]; omega
        have hj1 : j < n := by omega
        have hj5 : decide ((n : Int) ≤ (j : Int)) = false := by simp; omega
        have hj6 : decide (n ≤ j) = false := by simp; omega
        have hj7 : decide ((n : Int) ≤ (k : Int)) = false := by simp; omega
        have hj8 : decide (n ≤ k) = false := by simp; omega
        clear hnm0 hk0 hj
        go_wp2_with fail
        go_quiet (fail)
      all_goals
        (have HS5 : Hid (Shoot w (w4.drewN nq) p F t a b (some ⟨bl, 0, none⟩) cl k x) := HS4.out.same ((Keeps.refl no w4).drewN nq)
         have O5 : Hid (Own BE (w4.drewN nq) o9 c9 f.bs) := O4.out.keepsN ((Keeps.refl no w4).drewN nq)
         obtain ⟨W, hW5⟩ : ∃ W, W = w4.drewN nq := ⟨_, rfl⟩
         rw [← hW5] at HS5 O5 ⊢
         clear hW5)
      all_goals (try clear hk1)
      all_goals (try clear hkj hj1 hj5 hj6 hj7 hj8 hless d0)
      all_goals
        (have c0 : W.cell? ⟨b, 0, none⟩ = some (.slice x.on k x.cn) := cell_of_blk HS5.out.blk 0
         have d5 : W.cell? ⟨bl, k, none⟩ = some (.string nm) := by
           obtain ⟨_, e, hcl⟩ := own_t HS5.out.lst (by have := HKL.out; simp [names]; omega)
           cases e
           rw [HNM.out]
           exact (hcl k (by have := HKL.out; simp [names]; omega)).1
         have HLN : Hid (k = x.nm.length ∧ (x.nm.length + [nm].length) * TE.nb ≤ 140737488355328 ∧ x.nm.length + [nm].length ≤ 140737488355328) := (show _ from by
           have := (HS5.out.lenN (Nat.le_of_lt HKL.out)).1
           exact ⟨this.symm, by rw [this]; simp [TE]; omega, by rw [this]; simp; omega⟩)
         have r0 := (keeps_alloc W (.cells #[.string nm] 9)).cellN c0
         have r1 := (keeps_alloc W (.cells #[.string nm] 9)).cellN d5
         clear d4 HS4 O4
         go_wp2_with fail)
      all_goals go_region_law (refine step_app okT rfl (.tmp 78) (.tmp 83) rfl x.on k x.cn x.nm ?_ HLN.out.1 ?_ (some ⟨W.heap.size, 0, none⟩) 1 1 [nm] ?_ rfl ?_ ?_ HLN.out.2.1 HLN.out.2.2 ?_; rfl; exact HS5.out.sh.names.keepsN ((Keeps.refl _ _).alloc _).drew; rfl; exact (fun e => by cases e); exact (lit_row (E := TE) W nm #[.string nm] 9 _ rfl).keepsN (Keeps.refl _ _).drew; intro o5 c5 w5 ho5 hap5; have HX := HS5.out.half HF.out HKL.out HNM.out ((Keeps.refl _ _).alloc _).drew ho5 hap5; have g5 := cell_of_blk HX.1 0; have f5 := frozen_of_blk HX.1 0)
      all_goals
        (have OW : Hid (Own BE (w5.setCell ⟨b, 0, none⟩ (.slice o5 (k + 1) c5)) o9 c9 f.bs) := (show _ from by
           have o1 : Own BE w5 o9 c9 f.bs := (O5.out.keepsN ((Keeps.refl no W).alloc (.cells #[.string nm] 9)).drew).keeps hap5.keeps (ne_own (O5.out.keepsN ((Keeps.refl no W).alloc (.cells #[.string nm] 9)).drew) (HS5.out.sh.names.keepsN ((Keeps.refl no W).alloc (.cells #[.string nm] 9)).drew) (by decide))
           exact o1.keeps (keeps_set w5 b 0 _) (fun i h1 e => by subst e; exact ne_blk o1 HX.1 (by decide) h1))
         have HH : Hid (Half w (w5.setCell ⟨b, 0, none⟩ (.slice o5 (k + 1) c5)) p F t a b (some ⟨bl, 0, none⟩) cl k ⟨o5, c5, x.nm ++ [nm], x.ob, x.cb, x.ls⟩) := HX.2.2 _ rfl
         obtain ⟨V, hV⟩ : ∃ V, V = w5.setCell ⟨b, 0, none⟩ (.slice o5 (k + 1) c5) := ⟨_, rfl⟩
         rw [← hV] at OW HH ⊢
         clear hV HX g5 f5 ho5 hap5 HS5 O5 c0 d5 r0 r1 HLN)
      all_goals
        (have c1 : V.cell? ⟨b, 1, none⟩ = some (.slice x.ob k x.cb) := cell_of_blk HH.out.blk 1
         have HLN : Hid (k = x.ls.length) := (show _ from by
           have := congrArg List.length HH.out.ls
           simp at this
           have := HKL.out
           show k = _
           omega)
         go_wp2_with fail)
      all_goals go_region_law (first | (refine step_app okX rfl (.tmp 87) (.tmp 90) rfl x.ob k x.cb x.ls ?_ HLN.out ?_ (some ⟨w6.heap.size, 0, none⟩) 1 1 [⟨o6, c6, f.bs⟩] ?_ rfl ?_ ?_ (by rw [← HLN.out]; simp [XE]; omega) (by rw [← HLN.out]; simp; omega) ?_; rfl; exact HH.out.sh.bytes.keepsN (((Keeps.refl no V).drew.trans k6).alloc _); rfl; exact (fun e => by cases e); exact lit_row (E := XE) w6 ⟨o6, c6, f.bs⟩ #[.slice o6 n6 c6] 22 _ (by simp [XE, LS.enc, hn6.out]); intro o7 c7 w7 ho7 hap7; have HX := HH.out.whole HF.out HKL.out (y := ⟨o6, c6, f.bs⟩) HF1.out.2.1 (((Keeps.refl no V).drew.trans k6).alloc _) (ho6.keepsN (keeps_alloc w6 _)) hw6 ho7 hap7; have g7 := cell_of_blk HX.1 1; have f7 := frozen_of_blk HX.1 1) | (go_simp; go_at_call 12; refine (own_any _ o9 m9 c9 f.bs hm9.out ((OW.out.keepsN (Keeps.refl no V).drew).sl) (by have := HF1.out.2.2.2; omega)).mono ?_; rintro e w6 ⟨v, rfl, o6, n6, c6, rfl, hn6, ho6, hw6, k6⟩; have q1 := k6.cellN (show V.drew.cell? ⟨b, 1, none⟩ = _ from c1); have q2 := (keeps_alloc w6 (.cells #[.slice o6 n6 c6] 22)).cellN q1))
      all_goals
        (have HH2 : Hid (Shoot w (w7.setCell ⟨b, 1, none⟩ (.slice o7 (k + 1) c7)) p F t a b (some ⟨bl, 0, none⟩) cl (k + 1) ⟨o5, c5, x.nm ++ [nm], o7, c7, x.ls ++ [⟨o6, c6, f.bs⟩]⟩) := HX.2 _ rfl
         clear HX ho7 hap7 g7 f7 ho6 hw6 k6 q1 q2 HH OW c1
         go_wp2_with fail
         go_roundw
         case rel => exact ⟨k + 1, _, by omega, rfl, by go_num, HH2.out⟩
         case measure => simp [intOf]; omega)
    · have hkn : k = n := by omega
      subst hkn
      have HTL : Hid (Tells x t) := (show _ from ⟨by rw [HS.out.nm, List.take_of_length_le (by simp [names]; rw [hn.out]; exact Nat.le_refl _)], by rw [HS.out.ls, List.take_of_length_le (by simp; rw [hn.out]; exact Nat.le_refl _)]⟩)
      have c0 : wr.cell? ⟨b, 0, none⟩ = some (.slice x.on k x.cn) := cell_of_blk HS.out.blk 0
      have c1 : wr.cell? ⟨b, 1, none⟩ = some (.slice x.ob k x.cb) := cell_of_blk HS.out.blk 1
      have a0 : wr.cell? ⟨a, 0, none⟩ = some (.slice none 0 0) := cell_of_blk HS.out.blk2 0
      have a1 : wr.cell? ⟨a, 1, none⟩ = some (.slice none 0 0) := cell_of_blk HS.out.blk2 1
      have f0 : wr.frozen? ⟨a, 0, none⟩ = false := frozen_of_blk HS.out.blk2 0
      have f1 : wr.frozen? ⟨a, 1, none⟩ = false := frozen_of_blk HS.out.blk2 1
      have hk16 : decide ((k : Int) ≤ 16) = true := by simp; omega
      go_wp2_with fail
      obtain ⟨l1, l2⟩ := HTL.out.lens
      have hset : Keeps (fun i => i = a) wr ((wr.setCell ⟨a, 0, none⟩ (.slice x.on k x.cn)).setCell ⟨a, 1, none⟩ (.slice x.ob k x.cb)) := (keeps_set wr a 0 _).trans (keeps_set _ a 1 _)
      have hFa : ∀ i, F i → i ≠ a := fun i hf e => by have := HF.out i hf; have := HS.out.an; omega
      have hbb := blk_set (blk_set HS.out.blk2 0 (.slice x.on k x.cn)) 1 (.slice x.ob k x.cb)
      have z0 : ((wr.setCell ⟨a, 0, none⟩ (.slice x.on k x.cn)).setCell ⟨a, 1, none⟩ (.slice x.ob k x.cb)).cell? ⟨a, 0, none⟩ = some (.slice x.on k x.cn) := cell_of_blk hbb 0
      have z1 : ((wr.setCell ⟨a, 0, none⟩ (.slice x.on k x.cn)).setCell ⟨a, 1, none⟩ (.slice x.ob k x.cb)).cell? ⟨a, 1, none⟩ = some (.slice x.ob k x.cb) := cell_of_blk hbb 1
      refine bodyPost_ret (v := .tuple #[.agg #[.slice x.on k x.cn, .slice x.ob k x.cb], .bool true]) (by simp [results, Try.results27, go_sem, hn16, z0, z1]) rfl ⟨x, by rw [Sh.cells, l1, l2, ← hn.out], HS.out.sh.keeps hset ?_, HS.out.new, HTL.out, HS.out.is.keeps hset hFa, HS.out.kept.then hset (fun i hi => .inr (by subst hi; exact HS.out.an))⟩
      rintro i (h1 | h1 | ⟨y, hy, h1⟩) e
      · subst e; exact ne_blk HS.out.sh.names HS.out.blk2 (by decide) h1
      · subst e; exact ne_blk HS.out.sh.bytes HS.out.blk2 (by decide) h1
      · subst e; exact ne_blk (HS.out.sh.each y hy) HS.out.blk2 (by decide) h1
end Go.Proofs.Ytgobakfffobpkaa
