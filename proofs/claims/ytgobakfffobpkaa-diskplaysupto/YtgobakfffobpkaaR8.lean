/- The document's disk: Append. -/
import Derived.Test.YtgobakfffobpkaaR7
namespace Go.Proofs.Ytgobakfffobpkaa
open Go.RowKit Dk
set_option linter.unusedVariables false
set_option linter.unusedSimpArgs false
theorem rapp_end2 {w w5 : World} {r : Nat} {F : Nat → Prop} {t : St} {g cF : Nat} {fs : List RF} {j : Nat} {b : List UInt8} {o5 : Option Addr} {c5 nf nb : Nat} {f : RF} {n : Nm} {N : Nat} (hN : N = fs.length) (hd : RD w r F t (some ⟨g, 0, none⟩) cF fs) (hjf : j < fs.length) (hf : f = fs.getD j rf0) (hnf : nf = f.bs.length) (hn : f.nm.data.toList = n) (hnb : nb = b.length)
    (hok : Ok { t with fs := put n ⟨f.bs ++ b, f.sy⟩ t.fs }) (ho : Ow w5 o5 c5 (f.bs ++ b)) (hap : Ap w.drew f.o o5 w5) :
    w5.cell? ⟨g, j * 3 + 1, none⟩ = some (.slice f.o nf f.c) ∧ w5.frozen? ⟨g, j * 3 + 1, none⟩ = false ∧ w5.cell? ⟨r, 0, none⟩ = some (.slice (some ⟨g, 0, none⟩) N cF) ∧
    Hid (IsR (w5.setCell ⟨g, j * 3 + 1, none⟩ (.slice o5 (nf + nb) c5)) r (grow F w (w5.setCell ⟨g, j * 3 + 1, none⟩ (.slice o5 (nf + nb) c5))) { t with fs := put n ⟨f.bs ++ b, f.sy⟩ t.fs } ∧ Keeps F w (w5.setCell ⟨g, j * 3 + 1, none⟩ (.slice o5 (nf + nb) c5))) := by
  subst hf hn hN
  have h := rapp_end hd hjf hnf hnb ho hap hok
  exact ⟨h.1, h.2.1, h.2.2.1, h.2.2.2 _ rfl⟩
theorem IsR.grow2 {w w1 w2 w' : World} {r : Nat} {F : Nat → Prop} {s : St} (h : IsR w' r (Ytgobakfffobpkaa.grow (Ytgobakfffobpkaa.grow F w1 w2) w2 w') s) (hs : w.heap.size ≤ w1.heap.size) (hs2 : w1.heap.size ≤ w2.heap.size) : IsR w' r (Ytgobakfffobpkaa.grow F w w') s := by
  obtain ⟨oF, cF, fs, h⟩ := h
  refine ⟨oF, cF, fs, h.wide (fun k hk => ?_) (fun k hk => by rcases hk with h1 | h1; exact h.lt k (.inl (.inl h1)); exact h1.2)⟩
  have hl := h.lt k hk
  rcases hk with (h1 | h1) | h1
  · exact .inl h1
  · exact .inr ⟨by have := h1.1; omega, hl⟩
  · exact .inr ⟨by have := h1.1; omega, hl⟩
set_option maxRecDepth 100000 in
set_option maxHeartbeats 0 in
theorem rappend_any (w : World) (r : Nat) (F : Nat → Prop) (s : St) (n : Tx) (ob : Option Addr) (nb cb : Nat) (b : List UInt8) (h : IsR w r F s) (hnb : nb = b.length) (hnil : ob = none → cb = 0) (hrow : ∀ w', Keeps F w w' → Row BE w' ob b)
    (hlen : b.length ≤ 140737488355328) (hfit : ∀ f, find n.data.toList (tick s).fs = some f → f.bs.length + b.length ≤ 140737488355328) :
    Calls Try.prog 44 #[.pointer (some ⟨r, 0, none⟩), .string n, .slice ob nb cb] w fun e w' => e = .returned (.int .i64 (counted s (appendOn n.data.toList b)).2) ∧ IsR w' r (grow F w w') (counted s (appendOn n.data.toList b)).1 ∧ Keeps F w w' := by
  obtain ⟨t, ht⟩ : ∃ t, t = tick s := ⟨_, rfl⟩
  rw [counted_cT, ← ht]
  rw [← ht] at hfit
  have HT : Hid (t = tick s) := ht
  have HNB : Hid (nb = b.length) := hnb
  have HROW : Hid (∀ w', Keeps F w w' → Row BE w' ob b) := hrow
  have HFIT : Hid (b.length ≤ 140737488355328 ∧ ∀ f, find n.data.toList t.fs = some f → f.bs.length + b.length ≤ 140737488355328) := ⟨hlen, hfit⟩
  have HNIL : Hid (ob = none → cb = 0) := hnil
  have hnb1 : nb ≤ 140737488355328 := by omega
  clear ht hnb hrow hlen hfit hnil
  go_enter Try.func44, Try.ntmps44
  go_wp2_with fail
  refine (rcounted_any w r F s h).mono ?_
  rw [← HT.out]
  rintro e w1 ⟨rfl, h1, HK⟩
  cases ho : t.off with
  | true =>
    go_wp2
    go_ret
    rw [cT_off ho]
    exact ⟨rfl, h1.grow, HK⟩
  | false =>
  go_wp2_with fail
  refine (named_any w1 n).mono ?_
  rintro e w1' ⟨rfl, e2⟩
  subst w1'
  cases hg : good n.data.toList with
  | false =>
    go_wp2
    go_ret
    rw [cT_on ho, appendOn, hg]
    exact ⟨rfl, h1.grow, HK⟩
  | true =>
  go_wp2_with fail
  refine (at_any w1 r F t n h1).mono ?_
  rintro e w2 ⟨v, rfl, hv, hw⟩
  subst w2
  have h1' := h1
  obtain ⟨oF, cF, fs, hd⟩ := h1
  obtain ⟨N, hN⟩ : ∃ N, N = fs.length := ⟨_, rfl⟩
  have c0 : w1.cell? ⟨r, 0, none⟩ = some (.slice oF N cF) := by rw [hN]; exact cell_of_blk hd.blk 0
  have c2 : w1.cell? ⟨r, 2, none⟩ = some (.int .i64 ((t.ref : Nat) : Int)) := cell_of_blk hd.blk 2
  have f2 : w1.frozen? ⟨r, 2, none⟩ = false := frozen_of_blk hd.blk 2
  have hri := hd.ri
  have HN : Hid (N = fs.length) := hN
  have HLN : Hid (t.fs.length = N) := (show _ = _ by rw [hN, hd.len])
  have h16 : N ≤ 16 := by have := hd.ok.len; have := hd.len; omega
  have HD : Hid (RD w1 r F t oF cF fs) := hd
  have HI : Hid (IsR w1 r F t) := h1'
  have HOK : Hid (Ok (appendOn n.data.toList b t).1) := appendOn_ok hd.ok
  have hset := keeps_set w1 r 2 (.int .i64 ((t.ref : Int) - 1))
  have HRM : Hid (0 < t.ref → IsR (w1.setCell ⟨r, 2, none⟩ (.int .i64 ((t.ref : Int) - 1))) r F { t with ref := t.ref - 1 } ∧ Keeps F w1 (w1.setCell ⟨r, 2, none⟩ (.int .i64 ((t.ref : Int) - 1)))) := (show _ from fun hp => by
    refine ⟨⟨oF, cF, fs, hd.cells hset ?_ rfl (ok_ref hd.ok _) hd.ci hd.ki (by have := hd.ri; simp; omega)⟩, hset.mono fun k e => by subst e; exact hd.fr⟩
    have : ((t.ref : Int) - 1) = ((t.ref - 1 : Nat) : Int) := by omega
    rw [this]
    exact blk_set hd.blk 2 _)
  obtain ⟨R, hR⟩ : ∃ R, R = t.ref := ⟨_, rfl⟩
  rw [← hR] at c2 hri HRM
  have HR : Hid (R = t.ref) := hR
  clear hd hN h1' hset hR
  by_cases hroom : 0 < nb ∧ 0 < R
  · have HRR := HRM.out hroom.2
    obtain ⟨r1, r2⟩ := hroom
    have HNO : Hid (noRoom b t = true) := (show noRoom b t = true by simp [noRoom]; have := HNB.out; have := HR.out; omega)
    have HRE : Hid (IsR (w1.setCell ⟨r, 2, none⟩ (.int .i64 ((R : Int) - 1))) r F { t with ref := R - 1 } ∧ Keeps F w1 (w1.setCell ⟨r, 2, none⟩ (.int .i64 ((R : Int) - 1)))) := HRR
    clear HRR
    cases hv.out with
    | miss j hj lo hi =>
      have HF : Hid (find n.data.toList t.fs = none) := miss_find lo hi
      have hjN : j ≤ N := by have := HLN.out; omega
      have hneg : -1 - ((j : Nat) : Int) < 0 := by omega
      clear lo hi hv
      by_cases hfull : 16 ≤ N
      · go_wp2_with fail
        go_ret
        rw [cT_on ho, appendOn, if_pos hg, HF.out]
        simp only []
        rw [if_pos (by rw [HLN.out]; exact hfull)]
        exact ⟨rfl, HI.out.grow, HK⟩
      · go_wp2_with fail
        go_ret
        rw [cT_on ho, appendOn, if_pos hg, HF.out, HNO.out]
        simp only []
        rw [if_neg (by rw [HLN.out]; exact hfull)]
        refine ⟨rfl, ?_, HK.trans HRE.out.2⟩
        have := HRE.out.1
        rw [show R - 1 = t.ref - 1 by rw [HR.out]] at this
        exact this.grow
    | hit j hj hn =>
      have HF : Hid (find n.data.toList t.fs = some t.fs[j].2) := hit_find HI.out.ok.inc hj hn
      have hjN : j < N := by have := HLN.out; omega
      clear hv hn
      go_wp2_with fail
      go_ret
      rw [cT_on ho, appendOn, if_pos hg, HF.out, HNO.out]
      refine ⟨rfl, ?_, HK.trans HRE.out.2⟩
      have := HRE.out.1
      rw [show R - 1 = t.ref - 1 by rw [HR.out]] at this
      exact this.grow
  · have HNO : Hid (noRoom b t = false) := (show noRoom b t = false by simp [noRoom]; have := HNB.out; have := HR.out; omega)
    clear HRM f2
    have hroom' : (decide (0 < (nb : Int)) && decide (0 < (R : Int))) = false := by simp; omega
    cases hv.out with
    | miss j hj lo hi =>
      have HF : Hid (find n.data.toList t.fs = none) := miss_find lo hi
      have hjN : j ≤ N := by have := HLN.out; omega
      have hneg : -1 - ((j : Nat) : Int) < 0 := by omega
      clear lo hi hv
      by_cases hfull : 16 ≤ N
      · go_wp2_with fail
        go_ret
        rw [cT_on ho, appendOn, if_pos hg, HF.out]
        simp only []
        rw [if_pos (by rw [HLN.out]; exact hfull)]
        exact ⟨rfl, HI.out.grow, HK⟩
      · have HOK1 : Hid (Ok { t with fs := put n.data.toList ⟨[], 0⟩ t.fs }) := (show Ok { t with fs := put n.data.toList ⟨[], 0⟩ t.fs } by
          have := appendOn_ok (n := n.data.toList) (b := []) HD.out.ok
          rw [appendOn, if_pos hg, HF.out] at this
          simp only [] at this
          rw [if_neg (by rw [HLN.out]; exact hfull)] at this
          exact this)
        have HOK3 : Hid (Ok { t with fs := put n.data.toList ⟨b, 0⟩ t.fs }) := (show Ok { t with fs := put n.data.toList ⟨b, 0⟩ t.fs } by
          have := HOK.out
          rw [appendOn, if_pos hg, HF.out, HNO.out] at this
          simp only [] at this
          rw [if_neg (by rw [HLN.out]; exact hfull)] at this
          exact this)
        have HFit : Hid (Fit w1 F fs ⟨n, none, 0, [], 0⟩) := ⟨(own_nil _).ow, fun _ _ _ k hk => (show inO none k → _ from fun h => (by obtain ⟨_, e, _⟩ := h; cases e)) hk, fun k hk => (show inO none k → _ from fun h => (by obtain ⟨_, e, _⟩ := h; cases e)) hk⟩
        go_wp2_with fail
        all_goals refine (put_any w1 r F t oF cF fs ⟨n, none, 0, [], 0⟩ 0 rfl HD.out HFit.out HOK1.out).mono ?_
        all_goals
          (rintro e w2 ⟨rfl, h2, hk2⟩
           have HK2 : Hid (Keeps F w1 w2) := hk2
           have H2 : Hid (IsR w2 r (grow F w1 w2) { t with fs := put n.data.toList ⟨[], 0⟩ t.fs }) := h2
           clear hk2 h2
           go_wp2_with fail)
        all_goals refine (at_any w2 r _ _ n H2.out).mono ?_
        all_goals rintro e w3 ⟨v, rfl, hv, hw⟩
        all_goals subst w3
        all_goals obtain ⟨t2, ht2⟩ : ∃ t2 : St, t2 = { t with fs := put n.data.toList ⟨[], 0⟩ t.fs } := ⟨_, rfl⟩
        all_goals rw [← ht2] at H2 hv
        all_goals cases hv.out with
        | miss j hj lo hi =>
          exfalso
          have := miss_find lo hi
          rw [ht2] at this
          simp [find_put_same] at this
        | hit j hj hn =>
          have HFF := hit_find H2.out.ok.inc hj hn
          obtain ⟨oG, cG, gs, hd⟩ := H2.out
          obtain ⟨hjf, hent⟩ := hd.at hj
          rw [hent] at HFF hn
          obtain ⟨g, hog, d0, d1, d2, fz⟩ := ownF_at hd.own hjf
          subst hog
          have hmem := getD_mem gs j rf0 hjf
          have hz : (gs.getD j rf0).bs = [] ∧ (gs.getD j rf0).sy = 0 := by
            rw [ht2] at HFF
            simp only [find_put_same] at HFF
            have := Option.some.inj HFF
            exact ⟨(congrArg Fl.bs this).symm, (congrArg Fl.sy this).symm⟩
          have HE : Hid ((gs.getD j rf0).nm.data.toList = n.data.toList) := hn
          have HOW : Hid (Ow w2.drew (gs.getD j rf0).o (gs.getD j rf0).c []) := (show Ow w2.drew (gs.getD j rf0).o (gs.getD j rf0).c [] by rw [← hz.1]; exact (hd.each _ hmem).keepsN (Keeps.refl _ _).drew)
          have HRB : Hid (Row BE w2.drew ob b) := HROW.out _ (HK.trans HK2.out).drew
          have HZ : Hid ((gs.getD j rf0).bs = [] ∧ (gs.getD j rf0).sy = 0) := hz
          have HDG : Hid (RD w2 r (grow F w1 w2) t2 (some ⟨g, 0, none⟩) cG gs) := hd
          have HT2 : Hid (t2 = { t with fs := put n.data.toList ⟨[], 0⟩ t.fs }) := ht2
          obtain ⟨M, hM⟩ : ∃ M, M = gs.length := ⟨_, rfl⟩
          have c9 : w2.cell? ⟨r, 0, none⟩ = some (.slice (some ⟨g, 0, none⟩) M cG) := by rw [hM]; exact cell_of_blk hd.blk 0
          have HM : Hid (M = gs.length) := hM
          have hjM : j < M := by omega
          have hM16 : M ≤ 16 := by have := hd.ok.len; have := hd.len; omega
          rw [hz.1] at d1
          have HJ : Hid (j < gs.length) := hjf
          obtain ⟨f, hfe⟩ : ∃ f, f = gs.getD j rf0 := ⟨_, rfl⟩
          have HFE : Hid (f = gs.getD j rf0) := hfe
          rw [← hfe] at HE HOW HZ d1
          have HOK2 : Hid (Ok { t2 with fs := put n.data.toList ⟨f.bs ++ b, f.sy⟩ t2.fs }) := (show Ok { t2 with fs := put n.data.toList ⟨f.bs ++ b, f.sy⟩ t2.fs } by
            rw [HT2.out, HZ.out.1, HZ.out.2]
            simp only []
            rw [put_put HD.out.ok.inc]
            exact HOK3.out)
          have HNF : Hid (0 = f.bs.length) := (show 0 = f.bs.length by rw [HZ.out.1]; rfl)
          clear HFF hn hfe hmem hent hv d0 d2 fz hjf hz hd ht2 hM c0
          go_wp2_with fail
          go_region_law (refine step_apO rfl (.tmp 64) (.tmp 65) rfl f.o 0 f.c [] ?_ rfl HOW.out ob nb cb b ?_ HNB.out HNIL.out HRB.out (by have := HFIT.out.1; simpa using this) ?_; rfl; rfl; intro o5 c5 w5 ho5 hap5; obtain ⟨x1, x2, x3, HY⟩ := rapp_end2 HM.out HDG.out HJ.out HFE.out HNF.out HE.out HNB.out HOK2.out (by rw [HZ.out.1]; exact ho5) hap5; clear ho5 hap5)
          all_goals
            (go_wp2_with fail
             go_ret
             rw [cT_on ho, appendOn, if_pos hg, HF.out, HNO.out]
             simp only []
             rw [if_neg (by rw [HLN.out]; exact hfull)]
             have h6 := HY.out
             rw [HT2.out, HZ.out.1, HZ.out.2, Nat.zero_add, List.nil_append] at h6
             simp only [] at h6
             rw [put_put HD.out.ok.inc] at h6
             exact ⟨rfl, h6.1.grow2 HK.size HK2.out.size, HK.trans (HK2.out.then h6.2 (fun k hk => by rcases hk with h | h; exact .inl h; exact .inr h.1))⟩)
    | hit j hj hn =>
      obtain ⟨hjf, hent⟩ := HD.out.at hj
      have HFF := hit_find HI.out.ok.inc hj hn
      rw [hent] at HFF hn
      obtain ⟨g, hog, d0, d1, d2, fz⟩ := ownF_at HD.out.own hjf
      subst hog
      have hmem := getD_mem fs j rf0 hjf
      obtain ⟨nf, hnf⟩ : ∃ nf, nf = (fs.getD j rf0).bs.length := ⟨_, rfl⟩
      have HOK2 : Hid (Ok { t with fs := put n.data.toList ⟨(fs.getD j rf0).bs ++ b, (fs.getD j rf0).sy⟩ t.fs }) := (show Ok { t with fs := put n.data.toList ⟨(fs.getD j rf0).bs ++ b, (fs.getD j rf0).sy⟩ t.fs } by
        have := HOK.out
        rw [appendOn, if_pos hg, HFF, HNO.out] at this
        exact this)
      have HJ : Hid (j < fs.length) := hjf
      have HE : Hid (find n.data.toList t.fs = some ⟨(fs.getD j rf0).bs, (fs.getD j rf0).sy⟩ ∧ (fs.getD j rf0).nm.data.toList = n.data.toList) := ⟨HFF, hn⟩
      have HB : Hid ((fs.getD j rf0).bs.length + b.length ≤ 140737488355328) := HFIT.out.2 _ HFF
      have HOW : Hid (Ow w1.drew (fs.getD j rf0).o (fs.getD j rf0).c (fs.getD j rf0).bs) := (HD.out.each _ hmem).keepsN (Keeps.refl _ _).drew
      have HRB : Hid (Row BE w1.drew ob b) := HROW.out _ HK.drew
      have HNF : Hid (nf = (fs.getD j rf0).bs.length) := hnf
      have hjN : j < N := by have := HN.out; omega
      rw [← hnf] at d1
      obtain ⟨f, hfe⟩ : ∃ f, f = fs.getD j rf0 := ⟨_, rfl⟩
      have HFE : Hid (f = fs.getD j rf0) := hfe
      rw [← hfe] at HE HB HOW HNF d1 HOK2
      clear HFF hn hnf hfe hmem hent hv d0 d2 fz hjf
      go_wp2_with fail
      all_goals go_region_law (refine step_apO rfl (.tmp 64) (.tmp 65) rfl f.o nf f.c f.bs ?_ HNF.out HOW.out ob nb cb b ?_ HNB.out HNIL.out HRB.out HB.out ?_; rfl; rfl; intro o5 c5 w5 ho5 hap5; obtain ⟨x1, x2, x3, HY⟩ := rapp_end2 HN.out HD.out HJ.out HFE.out HNF.out HE.out.2 HNB.out HOK2.out ho5 hap5; clear ho5 hap5)
      all_goals go_wp2_with fail
      all_goals
        (go_ret
         rw [cT_on ho, appendOn, if_pos hg, HE.out.1, HNO.out]
         exact ⟨rfl, HY.out.1.regrow HK.size, HK.trans HY.out.2⟩)
end Go.Proofs.Ytgobakfffobpkaa
