/- A round begun; Begin. -/
import Derived.Test.YtghnhkhhpeoheaaGreatZ4
namespace Go.Proofs.YtghnhkhhpeoheaaGreat
open Go.RowKit Go.Sort Orl
set_option linter.unusedVariables false
set_option linter.unusedSimpArgs false

theorem Own.tagO {α : Type} {E : El α} {w : World} {o : Option Addr} {c : Nat} {xs : List α} (h : Own E w o c xs) {i : Nat} (hi : inO o i) : ∃ cur, w.heap[i]? = some (.cells cur E.e (0, 0)) := by
  obtain ⟨x, e, rfl⟩ := hi
  rcases h.shape with ⟨e2, _⟩ | ⟨g, cur, e2, hg, _⟩
  · rw [e2] at e; cases e
  · rw [e2] at e; cases e; exact ⟨cur, hg⟩
theorem Zs.keepsT {S : Nat → Prop} {w w' : World} {ro : Option Addr} {rc : Nat} {rz : List RZ} {qs : List Qn} {ds : List Bool} (h : Zs w ro rc rz qs ds) (k : Keeps S w w') (hs : ∀ b, S b → ∃ cur t fz, w.heap[b]? = some (.cells cur t fz) ∧ t ≠ ZE.e ∧ t ≠ PE.e ∧ t ≠ TE.e) : Zs w' ro rc rz qs ds := by
  refine ⟨h.own.keeps k (fun i hi hS => ?_), h.len, h.ans, h.part, fun j hj hd => (h.each j hj hd).keeps k (fun i hi hS => ?_) (fun i hi hS => ?_)⟩
  · obtain ⟨cur, t, fz, hb, h1, h2, h3⟩ := hs i hS
    obtain ⟨c2, hb2⟩ := h.own.tagO hi
    rw [hb] at hb2; injection hb2 with e; injection e with _ e _; exact h1 e
  · obtain ⟨cur, t, fz, hb, h1, h2, h3⟩ := hs i hS
    obtain ⟨c2, hb2⟩ := (h.each j hj hd).ps.tagO hi
    rw [hb] at hb2; injection hb2 with e; injection e with _ e _; exact h2 e
  · obtain ⟨cur, t, fz, hb, h1, h2, h3⟩ := hs i hS
    obtain ⟨c2, hb2⟩ := (h.each j hj hd).ks.tagO hi
    rw [hb] at hb2; injection hb2 with e; injection e with _ e _; exact h3 e
theorem again_all {s : WS} (hr : ¬ s.round = 0) (he : s.ended = 0) (hd : s.done = List.replicate s.ps.length false) : againS s = askedS s := by
  unfold againS askedS
  rw [if_neg (by simp [hr, he]), List.filter_eq_self.2]
  intro i hi
  have := List.mem_range.1 hi
  rw [hd]
  simp [List.getD_eq_getElem?_getD, List.getElem?_replicate, this]
/-- while the numbers are drawn -/
structure Ask (w w' : World) (p cp id : Nat) (F : Nat → Prop) (ph : Int) (ro : Option Addr) (rc : Nat) (qs : List Qn) (ds : List Bool) (n m : Nat) : Prop where
  blk : w'.heap[p]? = some (.cells (wrC id (fnC cp) ph 0 none 0 0) 72 (0, 0))
  zs : ∃ rz, Zs w' ro rc rz qs ds ∧ ∀ i, ZB ro rz n i → F i
  ct : IsCt w' cp m
  kp : Keeps (fun i => F i ∨ i = cp) w w'
set_option maxRecDepth 10000 in
set_option maxHeartbeats 1000000 in
theorem ask_any (w : World) (p cp : Nat) (F : Nat → Prop) (ph0 : Int) (ro0 : Option Addr) (rn0 rc0 : Nat) (s : WS) (m : Nat) (ro : Option Addr) (rn rc : Nat) (rz : List RZ) (qs : List Qn)
    (hb : w.heap[p]? = some (.cells (wrC s.id (fnC cp) ph0 0 ro0 rn0 rc0) 72 (0, 0))) (hz : Zs w ro rc rz qs (List.replicate s.ps.length false)) (hn : rn = qs.length) (hfoot : ∀ i, ZB ro rz qs.length i → F i) (hFp : F p) (hFl : ∀ i, F i → i < w.heap.size) (hc : IsCt w cp m) (hm : m < 18446744073709551616) (hcF : ¬ F cp)
    (hw : WfS s) (he : s.ended = 0) (hd : s.done = List.replicate s.ps.length false) (hr : s.round = 1 ∨ s.round = 2) (hq : qs.length = s.ps.length) (hq2 : ∀ j, j < qs.length → qIn s j = { qs.getD j q0 with req := w64 (m + j) }) :
    Calls Tryz.prog 33 #[.pointer (some ⟨p, 0, none⟩), .int .i64 (s.round : Nat), .slice ro rn rc] w (TellTo w p cp F ⟨s, askedS s, numS s m⟩) := by
  have hr0 : ¬ s.round = 0 := by omega
  have hne : p ≠ cp := fun e => hcF (e ▸ hFp)
  have b0 := cell_of_blk hb 0
  have b1 := cell_of_blk hb 1
  have b2 := cell_of_blk hb 2
  have b3 := cell_of_blk hb 3
  have b4 := cell_of_blk hb 4
  have f2 := frozen_of_blk hb 2
  have f4 := frozen_of_blk hb 4
  simp only [wrC, List.getElem?_toArray, List.getElem?_cons_succ, List.getElem?_cons_zero] at b0 b1 b2 b3 b4
  simp only [fnC] at b1
  have H1 : Hid (Ask w ((w.setCell ⟨p, 2, none⟩ (.int .i64 (s.round : Nat))).setCell ⟨p, 4, none⟩ (.slice none 0 0)) p cp s.id F (s.round : Nat) ro rc qs (List.replicate s.ps.length false) qs.length m) := by
    have k1 : Keeps (fun i => i = p) w ((w.setCell ⟨p, 2, none⟩ (.int .i64 (s.round : Nat))).setCell ⟨p, 4, none⟩ (.slice none 0 0)) := (keeps_one w p 2 _).trans (keeps_one _ p 4 _)
    refine ⟨?_, ⟨rz, hz.keepsT k1 ?_, hfoot⟩, hc.keeps k1 (fun e => hne e.symm), k1.mono (fun i e => .inl (by rw [e]; exact hFp))⟩
    · have := blk_set (blk_set hb 2 (.int .i64 (s.round : Nat))) 4 (.slice none 0 0)
      simpa [wrC] using this
    · rintro b rfl
      exact ⟨_, _, _, hb, by decide, by decide, by decide⟩
  have HQ : Hid (rn = qs.length ∧ qs.length = s.ps.length ∧ s.ps.length ≤ 64 ∧ ∀ j, j < qs.length → qIn s j = { qs.getD j q0 with req := w64 (m + j) }) := ⟨hn, hq, hw.most, hq2⟩
  have HS : Hid (WfS s ∧ s.ended = 0 ∧ s.done = List.replicate s.ps.length false ∧ ¬ s.round = 0 ∧ F p ∧ ¬ F cp ∧ (∀ i, F i → i < w.heap.size) ∧ p ≠ cp) := ⟨hw, he, hd, hr0, hFp, hcF, hFl, hne⟩
  have HA : Hid (∀ X, Ask w X p cp s.id F (s.round : Nat) ro rc (qsIn s) (List.replicate s.ps.length false) qs.length (w64 (m + qs.length)) → Calls Tryz.prog 15 #[.pointer (some ⟨p, 0, none⟩)] (X.setCell ⟨p, 4, none⟩ (.slice ro rn rc)) (TellTo w p cp F ⟨s, askedS s, numS s m⟩)) := by
    intro X hX
    obtain ⟨rzX, hzX, hfX⟩ := hX.zs
    have k1 := keeps_one X p 4 (.slice ro rn rc)
    have hkw : Keeps (fun i => F i ∨ i = cp) w (X.setCell ⟨p, 4, none⟩ (.slice ro rn rc)) := hX.kp.trans (k1.mono (fun i e => .inl (by rw [e]; exact hFp)))
    have hql : (qsIn s).length = qs.length := by rw [qsIn_len, hq]
    have hI : IsWr (X.setCell ⟨p, 4, none⟩ (.slice ro rn rc)) p cp F s := by
      refine ⟨hFp, fun i hi => Nat.lt_of_lt_of_le (hFl i hi) hkw.size, .inr ⟨he, ro, rn, rc, rzX, ?_, by rw [hql]; exact hn, ?_, by rw [hql]; exact hfX⟩⟩
      · have := blk_set hX.blk 4 (.slice ro rn rc)
        simpa [wrC] using this
      · have hds : dsIn s = List.replicate s.ps.length false := by unfold dsIn; rw [if_neg hr0, hd]
        rw [hds]
        refine hzX.keepsT k1 ?_
        rintro b rfl
        exact ⟨_, _, _, hX.blk, by decide, by decide, by decide⟩
    refine (wAgain_any _ p cp F s (numS s m) hI hw ?_ (w64_lt _) hcF).mono ?_
    · have := hX.ct.keeps k1 (fun e => hne e.symm)
      unfold numS; rw [← hq]; exact this
    · rintro e w' ⟨o, n, c, rs, G, rfl, t⟩
      rw [again_all hr0 he hd] at t
      exact ⟨o, n, c, rs, G, rfl, t.n, t.tq, fun i hi => Nat.le_trans hkw.size (t.new i hi), t.is, fun i hi => (t.foot i hi).imp id (Nat.le_trans hkw.size), t.apart, t.ct, hkw.trans t.kp⟩
  have hrn : (rn : Int) ≤ 64 := by have := hw.most; omega
  have hR : ((s.round : Nat) : Int) ≤ 2 := by have := hw.round; omega
  clear hb hz hfoot hFl hc hcF hw hd hr hq hq2 hne hr0 he
  have HM : Hid (m < 18446744073709551616) := hm
  clear hm hn
  generalize hRR : ((s.round : Nat) : Int) = R at *
  clear hRR
  have HFP : Hid (F p) := hFp
  clear hFp
  go_enter Tryz.func33, Tryz.ntmps33
  go_upto_region 3 with fail
  generalize (w.setCell ⟨p, 2, none⟩ (.int .i64 R)).setCell ⟨p, 4, none⟩ (.slice none 0 0) = w1 at H1 ⊢
  clear b0 b1 b2 b3 b4 f2 f4
  go_wp2_with fail
  go_loopw [8, 22] (fun s8 s22 wr => ∃ (k : Nat), k ≤ rn ∧ s22 = .int .i64 k ∧ Hid (Ask w wr p cp s.id F R ro rc ((qsIn s).take k ++ qs.drop k) (List.replicate s.ps.length false) qs.length (w64 (m + k)))) (fun _ s22 _ => rn - (intOf s22).toNat)
  case atStart =>
    refine ⟨0, by omega, rfl, ?_⟩
    have := H1.out
    simp only [List.take_zero, List.nil_append, List.drop_zero, Nat.add_zero, w64_of HM.out]
    exact this
  case round =>
    clear H1
    obtain ⟨k, hk, rfl, HT⟩ := hrel
    by_cases hlt : k < rn
    · have hlt' : (k : Int) < rn := by omega
      have hlq : k < qs.length := by have := HQ.out.1; omega
      have hql : (qsIn s).length = qs.length := by rw [qsIn_len, HQ.out.2.1]
      have HNX : Hid (Calls Tryz.prog 5 #[.pointer (some ⟨cp, 0, none⟩)] wr fun e w' => e = .returned (.int .u64 ((w64 (m + k) : Nat) : Int)) ∧ IsCt w' cp (w64 (w64 (m + k) + 1)) ∧ Keeps (fun i => i = cp) wr w') := next_any wr cp _ (w64_lt _) HT.out.ct
      have HST : Hid (∀ X, IsCt X cp (w64 (w64 (m + k) + 1)) → Keeps (fun i => i = cp) wr X → ∃ g, ro = some ⟨g, 0, none⟩ ∧ (∀ i, X.frozen? ⟨g, i, none⟩ = false) ∧ (∃ u : Int, X.cell? ⟨g, k * 10 + 3, none⟩ = some (.int .u64 u)) ∧ Ask w (X.setCell ⟨g, k * 10 + 3, none⟩ (.int .u64 ((w64 (m + k) : Nat) : Int))) p cp s.id F R ro rc ((qsIn s).take (k + 1) ++ qs.drop (k + 1)) (List.replicate s.ps.length false) qs.length (w64 (m + (k + 1)))) := by
        intro X hX hkX
        obtain ⟨rzk, hzk, hfk⟩ := HT.out.zs
        have hzX := hzk.keepsT hkX (by rintro b rfl; exact ⟨_, _, _, HT.out.ct, by decide, by decide, by decide⟩)
        have hml := mix_len (qsIn s) qs k (by omega) hql
        obtain ⟨g, e, hf, hcell, ⟨rz', hz', hB'⟩, hk'⟩ := hzX.setReq (j := k) (by rw [hml]; exact hlq) (w64 (m + k))
        rw [hml] at hB'
        have hgF : F g := hfk g (.inl ⟨_, e, rfl⟩)
        have hgc : cp ≠ g := fun e2 => HS.out.2.2.2.2.2.1 (e2 ▸ hgF)
        refine ⟨g, e, hf, hcell, ?_, ⟨rz', ?_, fun i hi => hfk i (hB' i hi)⟩, ?_, ?_⟩
        · obtain ⟨cur, hcur⟩ := hzX.own.tagO (i := g) ⟨_, e, rfl⟩
          have hbX := hkX.at HT.out.blk HS.out.2.2.2.2.2.2.2
          refine blk_set_ne hbX (fun e2 => ?_) _
          simp only at e2
          rw [← e2, hbX] at hcur
          injection hcur with e3; injection e3 with _ e3 _; cases e3
        · have he2 := mix_at (qsIn s) qs q0 k hlq hql
          rw [he2, ← HQ.out.2.2.2 k hlq, ← qsIn_at s (by rw [← HQ.out.2.1]; exact hlq), mix_set (qsIn s) qs q0 k hlq hql] at hz'
          exact hz'
        · have := hX.keeps hk' (by rintro ⟨x, e2, e3⟩; rw [e] at e2; cases e2; exact hgc e3.symm)
          rw [w64_succ] at this
          exact this
        · refine (HT.out.kp.trans (hkX.mono (fun i hi => .inr hi))).then hk' (fun i hi => .inl (.inl (hfk i (.inl hi))))
      clear HT
      generalize hv : w64 (m + k) = V at HNX HST
      clear hv hql
      go_wp2_with (go_at_call 5; go_loud (refine HNX.out.mono ?_); rintro e w3 ⟨rfl, hc3, hk3⟩; obtain ⟨g, hg, hfz, ⟨u, hu⟩, hA3⟩ := HST.out w3 hc3 hk3; subst hg; have hf3 := hfz (k * 10 + 3); have HA3 : Hid _ := hA3; clear hA3 hfz hc3 hk3)
      go_roundw
      case rel => exact ⟨k + 1, by omega, by go_num, HA3⟩
      case measure => simp [intOf]; omega
    · have hlt' : ¬ (k : Int) < rn := by omega
      have HK2 : Hid (k = qs.length) := show _ = _ by have := HQ.out.1; omega
      have hql : (qsIn s).length = qs.length := by rw [qsIn_len, HQ.out.2.1]
      have HX : Hid (Ask w wr p cp s.id F R ro rc (qsIn s) (List.replicate s.ps.length false) qs.length (w64 (m + qs.length))) := by
        have h := HT.out
        rw [HK2.out, ← hql, List.take_length, hql, List.drop_length, List.append_nil] at h
        exact h
      clear HT hql
      have b4 := cell_of_blk HX.out.blk 4
      have f4 := frozen_of_blk HX.out.blk 4
      simp only [wrC, List.getElem?_toArray, List.getElem?_cons_succ, List.getElem?_cons_zero] at b4
      go_wp2_with fail
      refine (HA.out _ HX.out).mono ?_
      rintro e w' ⟨o, n, c, rs, G, rfl, t⟩
      have HT2 : Hid _ := t
      clear t
      go_wp2_with fail
      go_ret
      exact ⟨o, n, c, rs, G, rfl, HT2.out⟩
end Go.Proofs.YtghnhkhhpeoheaaGreat
