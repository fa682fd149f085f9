import Derived.Test.YtdemoghlibnooaaGreatDoorZA
import Derived.Test.YtdemoghlibnooaaGreatDoorBE
namespace Go.Proofs.YtdemoghlibnooaaGreatDoor
open Go.RowKit Go.Maps Go.Sort Orl Pk
set_option linter.unusedVariables false
set_option linter.unusedSimpArgs false
theorem inn_mkT (l : List Dk.Nm) (n : Dk.Nm) : inn (l.map mkT) (mkT n) = decide (n ∈ l) := by
  by_cases h : n ∈ l
  · rw [decide_eq_true h]
    exact (inn_iff _ _).2 (List.mem_map.2 ⟨n, h, rfl⟩)
  · rw [decide_eq_false h]
    refine inn_no fun hm => h ?_
    obtain ⟨a, ha, e⟩ := List.mem_map.1 hm
    rwa [mkT_inj.1 e] at ha
set_option maxRecDepth 10000 in
theorem sweepF_any (w : World) (p : Nat) (F : Nat → Prop) (t : Dk.St) (h : IsD w p F t) (a : Option Addr) (n c : Nat) (l : List Dk.Nm) (hn : n = l.length) (h16 : n ≤ 16) (hs : Sl TE w a c (l.map mkT)) (hF : ∀ k, inO a k → ¬ F k)
    (a2 : Option Addr) (n2 c2 : Nat) (fl : List Dk.Nm) (hgd : ∀ x ∈ fl, Dk.good x = true) (hn2 : n2 = fl.length) (h2 : n2 ≤ 16) (hs2 : Sl TE w a2 c2 (fl.map mkT)) (hF2 : ∀ k, inO a2 k → ¬ F k) :
    Calls Tryz.prog 48 #[.pointer (some ⟨p, 0, none⟩), .slice a n c, .slice a2 n2 c2] w (SweepTo w p F (sweepF l fl t)) := by
  have HN : Hid (n = l.length ∧ n2 = fl.length ∧ n ≤ 16) := ⟨hn, hn2, h16⟩
  have HD : Hid (IsD w p F t) := h
  have HF : Hid ((∀ k, inO a k → ¬ F k) ∧ ∀ k, inO a2 k → ¬ F k) := ⟨hF, hF2⟩
  have HL : Hid (∀ x ∈ fl, Dk.good x = true) := hgd
  have HS : Hid (Sl TE w a c (l.map mkT) ∧ Sl TE w a2 c2 (fl.map mkT)) := ⟨hs, hs2⟩
  obtain ⟨R, hR⟩ : ∃ R, R = sweepF l fl t := ⟨_, rfl⟩
  rw [← hR]
  have HR : Hid (R = sweepF l fl t) := hR
  clear hn hn2 h16 h hF hF2 hgd hs hs2 hR
  go_enter Tryz.func48, Tryz.ntmps48
  go_wp2_with fail
  go_loopw [12] (fun i wr => ∃ k : Nat, k ≤ n2 ∧ i = .int .i64 k ∧ Hid (∃ u, IsD wr p F u ∧ sweepF l (fl.drop k) u = R) ∧ Hid (Keeps F w wr)) (fun i _ => n2 - (intOf i).toNat)
  case atStart => exact ⟨0, by omega, rfl, ⟨t, HD.out, by rw [HR.out]; rfl⟩, Keeps.refl _ _⟩
  case round =>
    obtain ⟨k, hk, rfl, HU, HK⟩ := hrel
    rename World => wq
    obtain ⟨u, hu⟩ := HU.out
    have HU' : Hid (IsD wq p F u ∧ sweepF l (fl.drop k) u = R) := hu
    clear hu HU
    by_cases h2 : k < n2
    · have hks : k < (fl.map mkT).length := by rw [List.length_map]; have := HN.out.2.1; omega
      have hkl : k < fl.length := by have := HN.out.2.1; omega
      have hct := contains_any wq a n c (l.map mkT)
      obtain ⟨b, off, rfl, d1⟩ := (HS.out.2.keeps HK.out HF.out.2).at hks
      obtain ⟨x, hx⟩ : ∃ x, x = fl.getD k [] := ⟨_, rfl⟩
      have hd : (fl.map mkT).getD k e0 = mkT x := by rw [hx]; simp [List.getD, hkl]
      rw [hd] at d1
      have hc := hct (mkT x) (by rw [List.length_map]; exact HN.out.1) (HS.out.1.keeps HK.out HF.out.1) (by have := HN.out.2.2; omega)
      rw [inn_mkT] at hc
      have hdrop : fl.drop k = x :: fl.drop (k + 1) := by
        rw [List.drop_eq_getElem_cons hkl, hx]; simp [List.getD, hkl]
      have hgood : Dk.good x = true := HL.out x (by rw [hx]; simp [List.getD, hkl])
      have HDr : Hid (fl.drop k = x :: fl.drop (k + 1)) := hdrop
      clear hdrop hx hd hks hkl hct
      by_cases e1 : x ∈ l
      · rw [decide_eq_true e1] at hc
        have hdel := fun W (hW : IsD W p F u) => delete_any W p F u (mkT x) hW (good_max hgood)
        rw [show (mkT x).data.toList = x from data_mkT x] at hdel
        by_cases hz : (Dk.counted u (Dk.deleteOn x)).2 = 0
        · have HS2 : Hid (sweepF l (fl.drop (k + 1)) (Dk.counted u (Dk.deleteOn x)).1 = R) := by
            have := HU'.out.2
            rw [HDr.out] at this
            unfold sweepF at this
            rw [if_pos e1, bnd_ok hz] at this
            exact this
          rw [hz] at hdel
          clear e1
          go_wp2_with (first | (go_at_call 98; refine hc.mono ?_; rintro e w1 ⟨rfl, hw⟩; subst w1) | (go_at_call 99; refine (hdel _ HU'.out.1).mono ?_; rintro e w2 ⟨rfl, hd2, hk2⟩))
          go_roundw
          case rel => exact ⟨k + 1, by omega, by go_num, ⟨_, hd2, HS2.out⟩, HK.out.trans hk2⟩
          case measure => simp [intOf]; omega
        · have HS2 : Hid (Dk.counted u (Dk.deleteOn x) = R) := by
            have := HU'.out.2
            rw [HDr.out] at this
            unfold sweepF at this
            rw [if_pos e1, bnd_no hz] at this
            exact this
          rw [HS2.out] at hdel hz
          clear e1
          obtain ⟨S', E⟩ := R
          simp only at hdel hz
          go_wp2_with (first | (go_at_call 98; refine hc.mono ?_; rintro e w1 ⟨rfl, hw⟩; subst w1) | (go_at_call 99; refine (hdel _ HU'.out.1).mono ?_; rintro e w2 ⟨rfl, hd2, hk2⟩))
          go_ret
          exact ⟨rfl, hd2, HK.out.trans hk2⟩
      · rw [decide_eq_false e1] at hc
        have HS2 : Hid (sweepF l (fl.drop (k + 1)) u = R) := by
          have := HU'.out.2
          rw [HDr.out] at this
          unfold sweepF at this
          rw [if_neg e1] at this
          exact this
        clear e1
        go_wp2_with (go_at_call 98; refine hc.mono ?_; rintro e w1 ⟨rfl, hw⟩; subst w1)
        go_roundw
        case rel => exact ⟨k + 1, by omega, by go_num, ⟨u, HU'.out.1, HS2.out⟩, HK⟩
        case measure => simp [intOf]; omega
    · have HE : Hid ((u, 0) = R) := by
        have := HU'.out.2
        rw [List.drop_eq_nil_of_le (by have := HN.out.2.1; omega)] at this
        exact this
      go_wp2
      go_ret
      have := HE.out
      subst this
      exact ⟨rfl, HU'.out.1, HK.out⟩
theorem cnt_zero {t : Dk.St} {f : Dk.St → Dk.St × Int} (h : (Dk.counted t f).2 = 0) : (Dk.tick t).off = false ∧ Dk.counted t f = f (Dk.tick t) := by
  cases o : (Dk.tick t).off with
  | true => rw [cnt_off o] at h; simp at h
  | false => exact ⟨rfl, cnt_on o⟩
theorem del_zero {t : Dk.St} {n : Dk.Nm} (h : (Dk.counted t (Dk.deleteOn n)).2 = 0) : (Dk.counted t (Dk.deleteOn n)).1.off = false ∧ Dk.find n (Dk.counted t (Dk.deleteOn n)).1.fs = none ∧ ∀ m, Dk.find m t.fs = none → Dk.find m (Dk.counted t (Dk.deleteOn n)).1.fs = none := by
  obtain ⟨o, e⟩ := cnt_zero h
  rw [e] at h ⊢
  have f1 := (tick_fs o).1
  unfold Dk.deleteOn Dk.onF at h ⊢
  cases hf : Dk.find n (Dk.tick t).fs with
  | none => rw [hf] at h; simp at h
  | some f =>
    refine ⟨o, Dk.find_del_same _, fun m hm => ?_⟩
    show Dk.find m (Dk.del n (Dk.tick t).fs) = none
    by_cases e : m = n
    · subst e; exact Dk.find_del_same _
    · rw [Dk.find_del_other e, f1]; exact hm
theorem sweepF_zero (l : List Dk.Nm) : ∀ (fl : List Dk.Nm) (t : Dk.St), t.off = false → (sweepF l fl t).2 = 0 → (sweepF l fl t).1.off = false ∧ (∀ m, Dk.find m t.fs = none → Dk.find m (sweepF l fl t).1.fs = none) ∧ ∀ n ∈ fl, n ∈ l → Dk.find n (sweepF l fl t).1.fs = none
  | [], t, h0, _ => ⟨h0, fun m hm => hm, fun n hn => by cases hn⟩
  | x :: r, t, h0, h => by
    unfold sweepF at h ⊢
    by_cases e : x ∈ l
    · rw [if_pos e] at h ⊢
      by_cases hz : (Dk.counted t (Dk.deleteOn x)).2 = 0
      · rw [bnd_ok hz] at h ⊢
        obtain ⟨d1, d2, d3⟩ := del_zero hz
        obtain ⟨a, b, c⟩ := sweepF_zero l r _ d1 h
        refine ⟨a, fun m hm => b m (d3 m hm), fun n hn hl => ?_⟩
        rcases List.mem_cons.1 hn with rfl | hn
        · exact b _ d2
        · exact c n hn hl
      · rw [bnd_no hz] at h; exact absurd h hz
    · rw [if_neg e] at h ⊢
      obtain ⟨a, b, c⟩ := sweepF_zero l r t h0 h
      refine ⟨a, b, fun n hn hl => ?_⟩
      rcases List.mem_cons.1 hn with rfl | hn
      · exact absurd hl e
      · exact c n hn hl
theorem app_zero {t : Dk.St} {n : Dk.Nm} {b : List UInt8} (h : (Dk.counted t (Dk.appendOn n b)).2 = 0) : (Dk.counted t (Dk.appendOn n b)).1.off = false ∧ ∀ m, m ≠ n → Dk.find m t.fs = none → Dk.find m (Dk.counted t (Dk.appendOn n b)).1.fs = none := by
  obtain ⟨o, e⟩ := cnt_zero h
  rw [e] at h ⊢
  have f1 := (tick_fs o).1
  unfold Dk.appendOn at h ⊢
  split at h
  · rename_i hg
    rw [if_pos hg]
    split at h
    · rename_i hf
      split at h
      · simp at h
      · rename_i h16
        split at h
        · simp at h
        · rename_i hr
          simp only [hf, if_neg h16, if_neg hr]
          refine ⟨o, fun m hm hx => ?_⟩
          rw [Dk.find_put_other hm, f1]; exact hx
    · rename_i f hf
      split at h
      · simp at h
      · rename_i hr
        simp only [hf, if_neg hr]
        refine ⟨o, fun m hm hx => ?_⟩
        rw [Dk.find_put_other hm, f1]; exact hx
  · simp at h
theorem onF_zero {t : Dk.St} {n : Dk.Nm} {f : Dk.Fl → Dk.St × Int} (h : (Dk.onF n t f).2 = 0) : ∃ x, Dk.find n t.fs = some x ∧ Dk.onF n t f = f x := by
  unfold Dk.onF at h ⊢
  cases hf : Dk.find n t.fs with
  | none => rw [hf] at h; simp at h
  | some x => exact ⟨x, rfl, rfl⟩
theorem layS_zero {b : List UInt8} {t : Dk.St} (h : (layS b t).2 = 0) : (layS b t).1.off = false ∧ ∀ m, m ≠ tmpB → m ≠ snapB → Dk.find m t.fs = none → Dk.find m (layS b t).1.fs = none := by
  unfold layS at h ⊢
  by_cases h1 : (Dk.counted t (Dk.appendOn tmpB b)).2 = 0
  · rw [bnd_ok h1] at h ⊢
    obtain ⟨o1, a1⟩ := app_zero h1
    generalize (Dk.counted t (Dk.appendOn tmpB b)).1 = t1 at *
    by_cases h2 : (Dk.counted t1 (Dk.syncOn tmpB)).2 = 0
    · rw [bnd_ok h2] at h ⊢
      obtain ⟨o2, e2⟩ := cnt_zero h2
      rw [e2] at h2 h ⊢
      obtain ⟨x, hx, e⟩ := onF_zero h2
      have e : Dk.syncOn tmpB (Dk.tick t1) = _ := e
      rw [e] at h ⊢
      obtain ⟨o3, e3⟩ := cnt_zero h
      rw [e3] at h ⊢
      unfold Dk.renameOn at h ⊢
      rw [if_pos snap_good] at h ⊢
      obtain ⟨y, hy, e4⟩ := onF_zero h
      rw [e4]
      refine ⟨o3, fun m m1 m2 hm => ?_⟩
      show Dk.find m (Dk.put snapB y (Dk.del tmpB _)) = none
      rw [Dk.find_put_other m2, Dk.find_del_other m1, (tick_fs o3).1]
      show Dk.find m (Dk.put tmpB _ (Dk.tick t1).fs) = none
      rw [Dk.find_put_other m1, (tick_fs o2).1]
      exact a1 m m1 hm
    · rw [bnd_no h2] at h
      exact absurd h h2
  · rw [bnd_no h1, bnd_no h1] at h; exact absurd h h1
theorem run_gone {b : List UInt8} {g : Nat} {s : Dk.St} (h : (runS b g s).2 = 0) : (runS b g s).1.off = false ∧ Dk.find (logB ((g + 1 : Nat) : Int)) (runS b g s).1.fs = none := by
  unfold runS at h ⊢
  by_cases h1 : (begS g s).2 = 0
  · rw [bnd_ok h1] at h ⊢
    have hb : (begS g s).1.off = false ∧ Dk.find (logB ((g + 1 : Nat) : Int)) (begS g s).1.fs = none := by
      unfold begS at h1 ⊢
      cases o : (Dk.tick s).off with
      | true => rw [o] at h1; simp at h1
      | false =>
        rw [o] at h1
        simp only [Bool.false_eq_true, if_false] at h1 ⊢
        obtain ⟨a, b, c⟩ := sweepF_zero _ _ _ o h1
        refine ⟨a, ?_⟩
        by_cases hm : logB ((g + 1 : Nat) : Int) ∈ Dk.names (Dk.tick s).fs
        · exact c _ (by simp) hm
        · exact b _ (Dk.find_none.2 fun q hq e => hm (List.mem_map.2 ⟨q, hq, e⟩))
    by_cases h2 : (layS b (begS g s).1).2 = 0
    · rw [bnd_ok h2] at h ⊢
      obtain ⟨o2, n2⟩ := layS_zero h2
      obtain ⟨a, b, _⟩ := sweepF_zero _ _ _ o2 h
      exact ⟨a, b _ (n2 _ (tmp_log _).symm (log_ne _) hb.2)⟩
    · rw [bnd_no h2] at h; exact absurd h h2
  · rw [bnd_no h1, bnd_no h1] at h; exact absurd h h1
theorem opn_run {n : Dk.Nm} {t : Dk.St} (h0 : t.off = false) (h : Dk.find n t.fs = none) : Opn n t (Dk.tick t) (if (Dk.tick t).off = true then 62 else 0) 0 [] := by
  cases o : (Dk.tick t).off with
  | true =>
    have e : Dk.readE n (Dk.tick t) = 62 := by unfold Dk.readE; rw [o]; rfl
    have := Opn.err (n := n) (s := t) (by rw [e]; decide) (by rw [e]; decide)
    rw [e] at this
    exact this
  | false =>
    have e : Dk.readE n (Dk.tick t) = 61 := by
      unfold Dk.readE
      rw [o, (tick_fs o).1, h]; rfl
    exact Opn.gone e
theorem Sto.owP {w0 w : World} {p : Nat} {s : St} {N : Nat} {P : Nat → Prop} (h : Sto w0.heap.size w p s N P) (hk : Keeps no w0 w) : Ow w0 w p s N no := by
  obtain ⟨T, hi, ho, hB, _⟩ := h
  exact ⟨T, ⟨hi, ho, hB, hk⟩, fun b hb => hb.elim⟩
def LayTo (w0 w : World) (p : Nat) (F : Nat → Prop) (t : Dk.St) (st : St) (g : Nat) (e : Ending) (w' : World) : Prop :=
  ∃ bs, Hid (SnOf st g bs ∧ 25 ≤ bs.length) ∧ e = .returned (.int .i64 (layS (u8s bs) t).2) ∧ Hid (∃ F', (∀ k, F' k → F k ∨ (w.heap.size ≤ k ∧ k < w'.heap.size)) ∧ Dn w0 w' p F' (layS (u8s bs) t).1 ∧ Keeps F w w')
set_option maxRecDepth 10000 in
theorem clay_any {w0 w : World} {p q : Nat} {F : Nat → Prop} {t : Dk.St} {st : St} {N : Nat} {P : Nat → Prop} (h : Dn w0 w p F t) (ht : Tabs w0) (hS : Sto w0.heap.size w q st N P) (hN : N ≤ 2000000) (hz : Dk.find tmpB (Dk.tick t).fs = none) (g : Nat) (hg : 1 ≤ g) (hg2 : g ≤ 9223372036854775807) :
    Calls Tryz.prog 50 #[.pointer (some ⟨p, 0, none⟩), .pointer (some ⟨q, 0, none⟩), .int .i64 ((g : Nat) : Int)] w (LayTo w0 w p F t st g) := by
  have HD : Hid (Dn w0 w p F t ∧ Tabs w0 ∧ Dk.find tmpB (Dk.tick t).fs = none) := ⟨h, ht, hz⟩
  have hb := build_any (hS.owP h.kept) hN (ht.keepsN h.kept).crc g hg hg2
  clear h ht hz hS
  go_enter Tryz.func50, Tryz.ntmps50
  go_wp2_with fail
  refine hb.mono ?_
  rintro e w1 ⟨o, n, c, bs, rfl, H1⟩
  clear hb
  have D1 : Hid (Dn w0 w1 p F t) := HD.out.1.beside H1.out.keep
  have hU : Hid (nts (u8s bs) = bs) := nts_u8s H1.out.byt
  have hap := dn_append tmpN o n c (u8s bs) D1.out (s' := (Dk.counted t (Dk.appendOn tmpB (u8s bs))).1) (er := (Dk.counted t (Dk.appendOn tmpB (u8s bs))).2) rfl (by unfold maxLen; decide) (by rw [u8s_length]; exact H1.out.n) (by
      have := H1.out.own
      rw [← hU.out] at this
      exact (own_U.2 this).sl) (fun k hk hF => by have := H1.out.new k hk; have := HD.out.1.is.lt k hF; omega) (by rw [u8s_length]; have := H1.out.le; omega) (fun f hf => by rw [show Dk.find tmpN.data.toList (Dk.tick t).fs = none from HD.out.2.2] at hf; cases hf)
  go_wp2_with fail
  refine hap.mono ?_
  rintro e w2 ⟨rfl, D2, K2⟩
  have D2 : Hid (Dn w0 w2 p (grow F w1 w2) _) := D2
  have K2 : Hid (Keeps F w1 w2) := K2
  clear hap
  obtain ⟨R2, hR2⟩ : ∃ R, R = Dk.counted t (Dk.appendOn tmpB (u8s bs)) := ⟨_, rfl⟩
  rw [← hR2] at D2 ⊢
  have HR2 : Hid (R2 = Dk.counted t (Dk.appendOn tmpB (u8s bs))) := hR2
  clear hR2
  obtain ⟨t2, e2⟩ := R2
  simp only at D2 ⊢
  by_cases hz2 : e2 = 0
  · subst e2
    have hsy := dn_sync tmpN D2.out (s' := (Dk.counted t2 (Dk.syncOn tmpB)).1) (er := (Dk.counted t2 (Dk.syncOn tmpB)).2) rfl (by unfold maxLen; decide)
    go_wp2_with fail
    refine hsy.mono ?_
    rintro e w3 ⟨rfl, D3, K3⟩
    have D3 : Hid (Dn w0 w3 p (grow F w1 w2) _) := D3
    have K3 : Hid (Keeps (grow F w1 w2) w2 w3) := K3
    clear hsy
    obtain ⟨R3, hR3⟩ : ∃ R, R = Dk.counted t2 (Dk.syncOn tmpB) := ⟨_, rfl⟩
    rw [← hR3] at D3 ⊢
    have HR3 : Hid (R3 = Dk.counted t2 (Dk.syncOn tmpB)) := hR3
    clear hR3
    obtain ⟨t3, e3⟩ := R3
    simp only at D3 ⊢
    have KK : Hid (Keeps F w w3) := (H1.out.keep.of_no.trans K2.out).then K3.out (fun i hi => by
      rcases hi with hi | hi
      · exact .inl hi
      · exact .inr (Nat.le_trans H1.out.keep.size hi.1))
    by_cases hz3 : e3 = 0
    · subst e3
      have hrn := dn_rename tmpN snapN D3.out (s' := (Dk.counted t3 (Dk.renameOn tmpB snapB)).1) (er := (Dk.counted t3 (Dk.renameOn tmpB snapB)).2) rfl (by unfold maxLen; decide)
      go_wp2_with fail
      refine hrn.mono ?_
      rintro e w4 ⟨rfl, D4, K4⟩
      clear hrn
      go_wp2_with fail
      go_ret
      have e : layS (u8s bs) t = Dk.counted t3 (Dk.renameOn tmpB snapB) := by
        unfold layS
        rw [← HR2.out, bnd_pair]
        show bnd (Dk.counted t2 (Dk.syncOn tmpB)) _ = _
        rw [← HR3.out, bnd_pair]
      refine ⟨bs, ⟨H1.out.sn, H1.out.ge⟩, by rw [e]; rfl, ⟨_, fun k hk => ?_, by rw [e]; exact D4.out, KK.out.then K4.out (fun i hi => ?_)⟩⟩
      · rcases hk with hk | hk
        · exact .inl hk
        · exact .inr ⟨Nat.le_trans H1.out.keep.size hk.1, Nat.lt_of_lt_of_le hk.2 (Nat.le_trans K3.out.size K4.out.size)⟩
      · rcases hi with hi | hi
        · exact .inl hi
        · exact .inr (Nat.le_trans H1.out.keep.size hi.1)
    · go_wp2_with fail
      go_ret
      have e : layS (u8s bs) t = (t3, e3) := by
        unfold layS
        rw [← HR2.out, bnd_pair]
        show bnd (Dk.counted t2 (Dk.syncOn tmpB)) _ = _
        rw [← HR3.out, bnd_bad hz3]
      refine ⟨bs, ⟨H1.out.sn, H1.out.ge⟩, by rw [e]; rfl, ⟨_, fun k hk => ?_, by rw [e]; exact D3.out, KK.out⟩⟩
      rcases hk with hk | hk
      · exact .inl hk
      · exact .inr ⟨Nat.le_trans H1.out.keep.size hk.1, Nat.lt_of_lt_of_le hk.2 K3.out.size⟩
  · go_wp2_with fail
    go_ret
    have e : layS (u8s bs) t = (t2, e2) := by
      unfold layS
      rw [← HR2.out, bnd_bad hz2, bnd_bad hz2]
    refine ⟨bs, ⟨H1.out.sn, H1.out.ge⟩, by rw [e]; rfl, ⟨_, fun k hk => ?_, by rw [e]; exact D2.out, H1.out.keep.of_no.trans K2.out⟩⟩
    rcases hk with hk | hk
    · exact .inl hk
    · exact .inr ⟨Nat.le_trans H1.out.keep.size hk.1, hk.2⟩
theorem sl_two (w : World) (x y : Tx) : Sl TE (w.alloc (.cells #[.string x, .string y] 9)) (some ⟨w.heap.size, 0, none⟩) 2 [x, y] := by
  refine ⟨.inr ⟨_, 0, rfl, fun j u hj => ?_⟩, by simp, fun e => by cases e⟩
  rw [Nat.zero_add, cell_of_blk (blk_new w _)]
  simpa [El.cells, TE] using hj
theorem find_tick {n : Dk.Nm} {t : Dk.St} (h : Dk.find n t.fs = none) : Dk.find n (Dk.tick t).fs = none := by
  unfold Dk.tick
  split
  · unfold Dk.crash
    split
    · exact h
    · show Dk.find n (Dk.mapv _ t.fs) = none
      rw [Dk.find_mapv, h]; rfl
  · split <;> exact h
theorem beg_zero {g : Nat} {s : Dk.St} (h : (begS g s).2 = 0) : (begS g s).1.off = false ∧ Dk.find tmpB (begS g s).1.fs = none := by
  unfold begS at h ⊢
  cases o : (Dk.tick s).off with
  | true => rw [o] at h; simp at h
  | false =>
    rw [o] at h
    simp only [Bool.false_eq_true, if_false] at h ⊢
    obtain ⟨a, b, c⟩ := sweepF_zero _ _ _ o h
    refine ⟨a, ?_⟩
    by_cases hm : tmpB ∈ Dk.names (Dk.tick s).fs
    · exact c _ (by simp) hm
    · exact b _ (Dk.find_none.2 fun q hq e => hm (List.mem_map.2 ⟨q, hq, e⟩))
def LaidB (st : St) (g : Nat) (s : Dk.St) (b : List UInt8) : Prop := (begS g s).2 = 0 → ∃ bs, SnOf st (g + 1) bs ∧ 25 ≤ bs.length ∧ b = u8s bs
def RunTo (w0 w : World) (p : Nat) (F : Nat → Prop) (s : Dk.St) (st : St) (g : Nat) (e : Ending) (w' : World) : Prop :=
  ∃ (b : List UInt8) (F' : Nat → Prop) (t : Dk.St) (E : Int), Hid (LaidB st g s b ∧ runF b g s = (t, E)) ∧ Hid (∀ k, F' k → F k ∨ (w.heap.size ≤ k ∧ k < w'.heap.size)) ∧ Hid (Dn w0 w' p F' t ∧ Keeps F w w') ∧
    ((E ≠ 0 ∧ e = .returned (.tuple #[.pointer none, .int .i64 0, .int .i64 E])) ∨ (E = 0 ∧ ∃ l, e = .returned (.tuple #[.pointer (some ⟨l, 0, none⟩), .int .i64 ((g + 1 : Nat) : Int), .int .i64 0]) ∧ Hid (IsL w' l p (logN ((g + 1 : Nat) : Int)) 0 ∧ w.heap.size ≤ l ∧ ¬ F' l)))
theorem run_bad {w0 w w' : World} {p : Nat} {F F' : Nat → Prop} {s t : Dk.St} {st : St} {g : Nat} {E : Int} {b : List UInt8} (hb : LaidB st g s b) (hr : runS b g s = (t, E)) (hE : E ≠ 0) (hF : ∀ k, F' k → F k ∨ (w.heap.size ≤ k ∧ k < w'.heap.size)) (hd : Dn w0 w' p F' t) (hk : Keeps F w w') : RunTo w0 w p F s st g (.returned (.tuple #[.pointer none, .int .i64 0, .int .i64 E])) w' :=
  ⟨b, F', t, E, ⟨hb, by unfold runF; rw [hr, bnd_bad hE]⟩, hF, ⟨hd, hk⟩, .inl ⟨hE, rfl⟩⟩
set_option maxRecDepth 10000 in
theorem run_any {w0 w : World} {p q : Nat} {F : Nat → Prop} {s : Dk.St} {st : St} {N : Nat} {P : Nat → Prop} (h : Dn w0 w p F s) (ht : Tabs w0) (hS : Sto w0.heap.size w q st N P) (hFP : ∀ b, F b → P b) (hN : N ≤ 2000000) (g : Nat) (hg : (g : Int) < 1099511627776) :
    Calls Tryz.prog 11 #[.pointer (some ⟨p, 0, none⟩), .pointer (some ⟨q, 0, none⟩), .int .i64 ((g : Nat) : Int)] w (RunTo w0 w p F s st g) := by
  have HS : Hid (Sto w0.heap.size w q st N P ∧ (∀ b, F b → P b) ∧ N ≤ 2000000) := ⟨hS, hFP, hN⟩
  have HT : Hid (Tabs w0) := ht
  have HD : Hid (Dn w0 w p F s) := h
  have hls := list_any w p F s h.is
  obtain ⟨G, hG⟩ : ∃ G : Int, G = (g : Int) := ⟨_, rfl⟩
  have HG : Hid (G = (g : Int) ∧ (g : Int) < 1099511627776) := ⟨hG, hg⟩
  have n1 : ¬ G < 0 := by omega
  have n2 : ¬ 1099511627776 ≤ G := by omega
  obtain ⟨LN, hLN⟩ : ∃ LN, LN = logN ((g + 1 : Nat) : Int) := ⟨_, rfl⟩
  obtain ⟨LO, hLO⟩ : ∃ LO, LO = logN (g : Int) := ⟨_, rfl⟩
  have HLN : Hid (LN = logN ((g + 1 : Nat) : Int) ∧ LO = logN (g : Int)) := ⟨hLN, hLO⟩
  rw [← hG]
  have hlg : Hid (∀ (W : World), Keeps no w0 W → Calls Tryz.prog 49 #[.int .i64 (G + 1)] W fun e w' => e = .returned (.string LN) ∧ Keeps no W w') := fun W hW => by
    have := log_any W (ht.pow.keepsN hW) ((g + 1 : Nat) : Int) (by omega) (by omega)
    rw [← hLN, show ((g + 1 : Nat) : Int) = G + 1 by omega] at this
    exact this
  have hlo : Hid (∀ (W : World), Keeps no w0 W → Calls Tryz.prog 49 #[.int .i64 G] W fun e w' => e = .returned (.string LO) ∧ Keeps no W w') := fun W hW => by
    have := log_any W (ht.pow.keepsN hW) (g : Int) (by omega) (by omega)
    rw [← hLO, ← hG] at this
    exact this
  have hgn : Hid (((g + 1 : Nat) : Int) = G + 1) := by show _ = _; omega
  clear hS hFP hN ht h hG hLN hLO hg
  go_enter Tryz.func11, Tryz.ntmps11
  go_wp2_with fail
  refine hls.mono ?_
  rintro e w1 ⟨o1, c1, m1, rfl, hm1, ho1, hw1, hd1, hk1⟩
  clear hls
  have D1 : Hid (Dn w0 w1 p F (Dk.tick s)) := HD.out.same hd1 hk1
  have K1 : Hid (Keeps F w w1) := hk1
  cases off1 : (Dk.tick s).off with
  | true =>
    have e1 : Dk.listE (Dk.tick s) = 62 := by unfold Dk.listE; rw [off1]; rfl
    rw [e1]
    have er : runS [] g s = (Dk.tick s, 62) := by
      unfold runS begS
      rw [off1, if_pos rfl, bnd_bad (show (62 : Int) ≠ 0 by decide), bnd_bad (show (62 : Int) ≠ 0 by decide)]
    have hbb : LaidB st g s [] := fun hb => by
      unfold begS at hb
      rw [off1, if_pos rfl] at hb
      simp at hb
    clear ho1 hw1 hd1 hk1
    go_wp2_with fail
    go_ret3
    exact run_bad hbb er (by decide) (fun k hk => .inl hk) D1.out K1.out
  | false =>
  have e1 : Dk.listE (Dk.tick s) = 0 := by unfold Dk.listE; rw [off1]; rfl
  have n1 : Dk.listN (Dk.tick s) = Dk.names (Dk.tick s).fs := by unfold Dk.listN; rw [off1]; rfl
  rw [e1]
  rw [n1] at hm1 ho1
  have h16 : (Dk.names (Dk.tick s).fs).length ≤ 16 := by have := D1.out.is.ok.len; unfold Dk.names; rw [List.length_map]; exact this
  obtain ⟨L, hL⟩ : ∃ L, L = Dk.names (Dk.tick s).fs := ⟨_, rfl⟩
  rw [← hL] at hm1 ho1 h16
  have HO : Hid (Own TE w1 o1 c1 (L.map mkT) ∧ New w o1 ∧ m1 = L.length ∧ L.length ≤ 16) := ⟨ho1, hw1, hm1.out, h16⟩
  have HLn : Hid (L = Dk.names (Dk.tick s).fs ∧ (Dk.tick s).off = false) := ⟨hL, off1⟩
  have hnF1 : Hid (∀ k, inO o1 k → ¬ F k) := fun k hk hF => by have := hw1 k hk; have := HD.out.is.lt k hF; omega
  have HS1 : Hid (Sto w0.heap.size w1 q st N (fun b => P b ∨ (w.heap.size ≤ b ∧ b < w1.heap.size))) := HS.out.1.other K1.out (fun b hb => .inr (HS.out.2.1 b hb))
  clear ho1 hw1 hd1 hk1 hm1 h16 hL off1 e1 n1
  go_wp2_with fail
  refine (hlg.out _ D1.out.kept).mono ?_
  rintro e w2 ⟨rfl, hk2⟩
  have K2 : Hid (Keeps no w1 w2) := hk2
  obtain ⟨W2, hW2⟩ : ∃ W, W = w2.alloc (.cells #[.string tmpN, .string LN] 9) := ⟨_, rfl⟩
  have KW2 : Hid (Keeps no w1 W2) := by rw [hW2]; exact hk2.alloc _
  have D2 : Hid (Dn w0 W2 p F (Dk.tick s)) := D1.out.beside KW2.out
  have hs2 : Hid (Sl TE W2 (some ⟨w2.heap.size, 0, none⟩) 2 ([tmpB, logB ((g + 1 : Nat) : Int)].map mkT)) := by rw [hW2, HLN.out.1]; exact sl_two w2 tmpN (logN ((g + 1 : Nat) : Int))
  have hsw := sweepF_any W2 p F (Dk.tick s) D2.out.is o1 m1 c1 L HO.out.2.2.1 (by have := HO.out.2.2.1; have := HO.out.2.2.2; omega) (HO.out.1.keepsN KW2.out).sl hnF1.out (some ⟨w2.heap.size, 0, none⟩) 2 2 [tmpB, logB ((g + 1 : Nat) : Int)] (fun x hx => by
      rcases List.mem_cons.1 hx with e | e
      · rw [e]; exact tmp_good
      · rw [List.mem_singleton.1 e]; have := HG.out.2; exact log_good (by omega) (by omega)) rfl (by omega) hs2.out (fun k hk hF => by
      have : k = w2.heap.size := in_some hk
      have h1 := D1.out.is.lt k hF
      have h2 := K2.out.size
      omega)
  have HSW : Hid (Calls Tryz.prog 48 #[.pointer (some ⟨p, 0, none⟩), .slice o1 m1 c1, .slice (some ⟨w2.heap.size, 0, none⟩) 2 2] W2 (SweepTo W2 p F (sweepF L [tmpB, logB ((g + 1 : Nat) : Int)] (Dk.tick s)))) := hsw
  rw [hW2] at HSW
  clear hsw hk2
  go_wp2_with fail
  refine Calls.mono HSW.out ?_
  rw [← hW2]
  clear HSW hW2
  have hbeg : Hid (begS g s = sweepF L [tmpB, logB ((g + 1 : Nat) : Int)] (Dk.tick s)) := by
    show _ = _
    unfold begS
    rw [HLn.out.2, HLn.out.1]
    rfl
  rw [← hbeg.out]
  rintro e w3 ⟨rfl, H3⟩
  have K3 : Hid (Keeps F w w3) := (K1.out.trans KW2.out.of_no).trans H3.out.2
  have D3 : Hid (Dn w0 w3 p F (begS g s).1) := D2.out.same H3.out.1 H3.out.2
  have hO3 : Hid (Own TE w3 o1 c1 (L.map mkT)) := (HO.out.1.keepsN KW2.out).keeps H3.out.2 hnF1.out
  obtain ⟨R3, hR3⟩ : ∃ R, R = begS g s := ⟨_, rfl⟩
  rw [← hR3] at D3 ⊢
  have HR3 : Hid (R3 = begS g s) := hR3
  clear hR3 H3 hbeg
  obtain ⟨t3, e3⟩ := R3
  simp only at D3 ⊢
  by_cases hz3 : e3 = 0
  case neg =>
    have hbb : LaidB st g s [] := fun hb => by rw [← HR3.out] at hb; exact absurd hb hz3
    have er : runS [] g s = (t3, e3) := by unfold runS; rw [← HR3.out, bnd_bad hz3, bnd_bad hz3]
    go_wp2_with fail
    go_ret3
    exact run_bad hbb er hz3 (fun k hk => .inl hk) D3.out K3.out
  subst e3
  have hz := beg_zero (show (begS g s).2 = 0 by rw [← HR3.out])
  rw [← HR3.out] at hz
  have HS3 : Hid (Sto w0.heap.size w3 q st N (fun b => P b ∨ (w.heap.size ≤ b ∧ b < w3.heap.size))) := HS.out.1.other K3.out (fun b hb => .inr (HS.out.2.1 b hb))
  have hly := clay_any D3.out HT.out HS3.out HS.out.2.2 (find_tick hz.2) (g + 1) (by omega) (by have := HG.out.2; omega)
  rw [hgn.out] at hly
  clear hz
  go_wp2_with fail
  refine hly.mono ?_
  rintro e w4 ⟨bs, HB, rfl, H4⟩
  clear hly
  have hbb : Hid (LaidB st g s (u8s bs)) := fun _ => ⟨bs, HB.out.1, HB.out.2, rfl⟩
  obtain ⟨F4, hF4, D4, K34⟩ := H4.out
  have K4 : Hid (Keeps F w w4) := K3.out.trans K34
  have HF4 : Hid (∀ k, F4 k → F k ∨ (w.heap.size ≤ k ∧ k < w4.heap.size)) := fun k hk => by
    rcases hF4 k hk with h1 | h1
    · exact .inl h1
    · exact .inr ⟨Nat.le_trans K3.out.size h1.1, h1.2⟩
  have hnF4 : Hid (∀ k, inO o1 k → ¬ F4 k) := fun k hk hf => by
    rcases hF4 k hf with h1 | h1
    · exact hnF1.out k hk h1
    · have := hO3.out.lt k hk; omega
  have hO4 : Hid (Own TE w4 o1 c1 (L.map mkT)) := hO3.out.keeps K34 hnF1.out
  have D4 : Hid (Dn w0 w4 p F4 (layS (u8s bs) t3).1) := D4
  clear H4 hF4 K34
  obtain ⟨R4, hR4⟩ : ∃ R, R = layS (u8s bs) t3 := ⟨_, rfl⟩
  rw [← hR4] at D4 ⊢
  have HR4 : Hid (R4 = layS (u8s bs) t3) := hR4
  clear hR4
  obtain ⟨t4, e4⟩ := R4
  simp only at D4 ⊢
  by_cases hz4 : e4 = 0
  case neg =>
    have er : runS (u8s bs) g s = (t4, e4) := by
      unfold runS
      rw [← HR3.out, bnd_pair]
      show bnd (layS (u8s bs) t3) _ = _
      rw [← HR4.out, bnd_bad hz4]
    go_wp2_with fail
    go_ret3
    exact run_bad hbb.out er hz4 HF4.out D4.out K4.out
  subst e4
  go_wp2_with fail
  refine (hlo.out _ D4.out.kept).mono ?_
  rintro e w5 ⟨rfl, hk5⟩
  obtain ⟨W5, hW5⟩ : ∃ W, W = w5.alloc (.cells #[.string LO] 9) := ⟨_, rfl⟩
  have KW5 : Hid (Keeps no w4 W5) := by rw [hW5]; exact hk5.alloc _
  have D5 : Hid (Dn w0 W5 p F4 t4) := D4.out.beside KW5.out
  have hs5 : Hid (Sl TE W5 (some ⟨w5.heap.size, 0, none⟩) 1 ([logB (g : Int)].map mkT)) := by rw [hW5, HLN.out.2]; exact own_one w5 (logN (g : Int))
  have hsz5 : Hid (w4.heap.size ≤ w5.heap.size) := hk5.size
  have hsw := sweepF_any W5 p F4 t4 D5.out.is o1 m1 c1 L HO.out.2.2.1 (by have := HO.out.2.2.1; have := HO.out.2.2.2; omega) (hO4.out.keepsN KW5.out).sl hnF4.out (some ⟨w5.heap.size, 0, none⟩) 1 1 [logB (g : Int)] (fun x hx => by
      rw [List.mem_singleton.1 hx]; have := HG.out.2; exact log_good (by omega) (by omega)) rfl (by omega) hs5.out (fun k hk hF => by
      have : k = w5.heap.size := in_some hk
      have h1 := D4.out.is.lt k hF
      have h2 := hsz5.out
      omega)
  have HSW : Hid (Calls Tryz.prog 48 #[.pointer (some ⟨p, 0, none⟩), .slice o1 m1 c1, .slice (some ⟨w5.heap.size, 0, none⟩) 1 1] W5 (SweepTo W5 p F4 (sweepF L [logB (g : Int)] t4))) := hsw
  rw [hW5] at HSW
  clear hsw hk5
  go_wp2_with fail
  refine Calls.mono HSW.out ?_
  rw [← hW5]
  clear HSW hW5
  rintro e w6 ⟨rfl, H6⟩
  have K6 : Hid (Keeps F w w6) := (K4.out.trans KW5.out.of_no).then H6.out.2 (fun i hi => by
    rcases HF4.out i hi with h1 | h1
    · exact .inl h1
    · exact .inr h1.1)
  have D6 : Hid (Dn w0 w6 p F4 (sweepF L [logB (g : Int)] t4).1) := D5.out.same H6.out.1 H6.out.2
  have HF6 : Hid (∀ k, F4 k → F k ∨ (w.heap.size ≤ k ∧ k < w6.heap.size)) := fun k hk => by
    rcases HF4.out k hk with h1 | h1
    · exact .inl h1
    · have := KW5.out.size; have := H6.out.2.size; exact .inr ⟨h1.1, by omega⟩
  have hrn : Hid (runS (u8s bs) g s = sweepF L [logB (g : Int)] t4) := by
    show _ = _
    unfold runS
    rw [← HR3.out, bnd_pair]
    show bnd (layS (u8s bs) t3) _ = _
    rw [← HR4.out, bnd_pair, HLn.out.1]
  rw [← hrn.out] at D6 ⊢
  clear hrn H6
  obtain ⟨R6, hR6⟩ : ∃ R, R = runS (u8s bs) g s := ⟨_, rfl⟩
  rw [← hR6] at D6 ⊢
  have HR6 : Hid (R6 = runS (u8s bs) g s) := hR6
  clear hR6
  obtain ⟨t6, e6⟩ := R6
  simp only at D6 ⊢
  by_cases hz6 : e6 = 0
  case neg =>
    go_wp2_with fail
    go_ret3
    exact run_bad hbb.out HR6.out.symm hz6 HF6.out D6.out K6.out
  subst e6
  have hgn2 := run_gone (show (runS (u8s bs) g s).2 = 0 by rw [← HR6.out])
  rw [← HR6.out] at hgn2
  have HG2 : Hid (t6.off = false ∧ Dk.find (logB ((g + 1 : Nat) : Int)) t6.fs = none) := hgn2
  have HRF : Hid (runF (u8s bs) g s = (Dk.tick t6, if (Dk.tick t6).off = true then 62 else 0)) := by
    show _ = _
    unfold runF
    rw [← HR6.out, bnd_pair]
  clear hgn2
  go_wp2_with fail
  refine (hlg.out _ D6.out.kept).mono ?_
  rintro e w7 ⟨rfl, hk7⟩
  have D7 : Hid (Dn w0 w7 p F4 t6) := D6.out.beside hk7
  have K7 : Hid (Keeps F w w7) := K6.out.trans hk7.of_no
  have HF7 : Hid (∀ k, F4 k → F k ∨ (w.heap.size ≤ k ∧ k < w7.heap.size)) := fun k hk => by
    rcases HF6.out k hk with h1 | h1
    · exact .inl h1
    · have := hk7.size; exact .inr ⟨h1.1, by omega⟩
  clear hk7
  have hop := opn_run HG2.out.1 HG2.out.2
  have hsz : (logN ((g + 1 : Nat) : Int)).size ≤ 281474976710656 := Nat.le_trans (logN_size (by omega) (by have := HG.out.2; omega)) (by omega)
  have hrb : (Dk.readB (logB ((g + 1 : Nat) : Int)) (Dk.tick t6)).length ≤ 1099511627776 := by
    unfold Dk.readB
    split
    · simp
    · rw [find_tick HG2.out.2]; simp
  cases off7 : (Dk.tick t6).off with
  | true =>
    rw [off7] at hop
    have hoc := dn_open_no (logN ((g + 1 : Nat) : Int)) D7.out HT.out.crc hop (by decide) hsz hrb
    rw [← HLN.out.1] at hoc
    have HRF' : Hid (runF (u8s bs) g s = (Dk.tick t6, 62)) := by rw [HRF.out, off7]; rfl
    clear hop hrb hsz off7
    go_wp2_with fail
    refine hoc.mono ?_
    rintro e w8 ⟨rfl, D8, K8⟩
    clear hoc
    go_wp2_with fail
    go_ret3
    refine ⟨u8s bs, F4, _, 62, ⟨hbb.out, HRF'.out⟩, fun k hk => ?_, ⟨D8.out, K7.out.then K8.out (fun i hi => ?_)⟩, .inl ⟨by decide, rfl⟩⟩
    · rcases HF7.out k hk with h1 | h1
      · exact .inl h1
      · have := K8.out.size; exact .inr ⟨h1.1, by omega⟩
    · rcases HF7.out i hi with h1 | h1
      · exact .inl h1
      · exact .inr h1.1
  | false =>
    rw [off7] at hop
    have hoc := dn_open (logN ((g + 1 : Nat) : Int)) D7.out HT.out.crc hop hsz hrb
    rw [← HLN.out.1] at hoc
    have HRF' : Hid (runF (u8s bs) g s = (Dk.tick t6, 0)) := by rw [HRF.out, off7]; rfl
    clear hop hrb hsz off7
    go_wp2_with fail
    refine hoc.mono ?_
    rintro e w8 ⟨l, o8, m8, c8, vs8, rfl, hm8, HL8, HS8, D8, K8⟩
    clear hoc
    go_wp2_with fail
    go_ret3
    refine ⟨u8s bs, F4, _, 0, ⟨hbb.out, HRF'.out⟩, fun k hk => ?_, ⟨D8.out, K7.out.then K8.out (fun i hi => ?_)⟩, .inr ⟨rfl, l, by rw [hgn.out]; rfl, by rw [← HLN.out.1]; exact HL8.out.1, ?_, HL8.out.2.2⟩⟩
    · rcases HF7.out k hk with h1 | h1
      · exact .inl h1
      · have := K8.out.size; exact .inr ⟨h1.1, by omega⟩
    · rcases HF7.out i hi with h1 | h1
      · exact .inl h1
      · exact .inr h1.1
    · exact Nat.le_trans K7.out.size HL8.out.2.1
end Go.Proofs.YtdemoghlibnooaaGreatDoor
