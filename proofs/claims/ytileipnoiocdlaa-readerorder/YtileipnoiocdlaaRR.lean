import Derived.Test.YtileipnoiocdlaaRM
import Derived.Lib.QuietBelow
import Derived.BigQuiet
/- Receive: any message. -/
namespace Go.Proofs.Ytileipnoiocdlaa
open Go.RowKit Go.Sort Orl
set_option linter.unusedVariables false
set_option linter.unusedSimpArgs false

theorem recvO_kind {s : RS} {part kind : Int} {req : Nat} {l : List Ver} {fr st t : Nat} (h : ¬ (s.ended = 0 ∧ kind = 7 ∧ l.length = 1)) : recvO s part kind req l fr st t = ⟨s, [], t⟩ := by unfold recvO; rw [if_neg h]
theorem rReceive_any (w : World) (p cp fr st : Nat) (F : Nat → Prop) (s : RS) (t : Nat) (h : IsRd w p cp F s) (hw : WfR s) (hc : IsCt w cp fr st t) (ht : t + 64 ≤ 4611686018427387904) (hcF : ¬ F cp)
    (part kind cl : Int) (req id : Nat) (v4 v5 v6 ov : Option Addr) (n4 n5 n6 nv c4 c5 c6 cv : Nat) (rs : List RV) (l : List Ver) (hnv : nv = l.length) (hv : Vers w ov cv rs l) (hf : FitL l) :
    Calls Try.prog 13 #[.pointer (some ⟨p, 0, none⟩), .int .i64 part, aggC kind cl req id v4 v5 v6 ov n4 n5 n6 nv c4 c5 c6 cv] w (TellTo w p cp fr st F (recvO s part kind req l fr st t)) := by
  by_cases hkl : kind = 7 ∧ nv = 1
  · obtain ⟨rfl, rfl⟩ := hkl
    by_cases he : s.ended = 0
    · obtain ⟨nmo, nc, ro, rc, rz, co, cc, cs, vo, vc, vs, hl⟩ : ∃ nmo nc ro rc rz co cc cs vo vc vs, RdL w p cp F s nmo nc ro rc rz co cc cs vo vc vs := by
        rcases h.2.2 with ⟨h0, _⟩ | ⟨_, h1⟩
        · exact absurd he h0
        · exact h1
      have c6 : w.cell? ⟨p, 6, none⟩ = some (.slice ro (undone s).length rc) := by rw [cell_of_blk hl.blk]; rfl
      have hql : (askedR s).length = (undone s).length := askedR_len s
      have h64 : (undone s).length ≤ 64 := by have := undone_le s; have := ps_le s; have := hw.p2; omega
      have hIX : ∀ X A, Keeps no w X → X.cell? ⟨A, 0, none⟩ = some (.int .i64 part) → X.cell? ⟨A + 1, 2, none⟩ = some (.int .u64 (req : Nat)) → Calls Try.prog 29 #[.slice ro (undone s).length rc, .func (.func 30) #[] #[.pointer (some ⟨A, 0, none⟩), .pointer (some ⟨A + 1, 0, none⟩)]] X fun e w' => e = .returned (.int .i64 (optI (idxQ (hitR part req) (askedR s)))) ∧ Keeps no X w' := fun X A hX hA hM =>
        indexQ_any X ro (undone s).length rc rz (askedR s) A (A + 1) part req hql.symm (by rw [hql]; exact h64) (hl.zs.own.keepsN hX) (by rw [hl.zs.lenI, hql]) (fun j hj => by
          have hq := hl.zs.each j (by rw [← hql]; exact hj)
          exact ⟨hq.part, hq.req⟩) hA hM
      have hyes : s.ended = 0 ∧ (7 : Int) = 7 ∧ l.length = 1 := ⟨he, rfl, hnv.symm⟩
      cases e : idxQ (hitR part req) (askedR s) with
      | none =>
        have hO : recvO s part 7 req l fr st t = ⟨s, [], t⟩ := by unfold recvO; rw [if_pos hyes, e]
        rw [hO]
        rw [e] at hIX
        refine (recv_none w p part cl req id v4 v5 v6 ov n4 n5 n6 c4 c5 _ cv ro (undone s).length rc c6 hIX).mono ?_
        rintro e w' ⟨rfl, k⟩
        exact tell_none h hc k
      | some j =>
        rw [e] at hIX
        have hj : j < (undone s).length := by rw [← hql]; exact (idxQ_some e).1
        have hi := undone_lt hj
        obtain ⟨g, hg, _, _, d9⟩ := hl.zs.own.atRE (j := j) (by rw [hl.zs.lenI]; exact hj)
        subst hg
        rw [Nat.zero_add] at d9
        obtain ⟨L, hm, hL⟩ := hl.zs.mp j hj
        have hl0 : 0 < l.length := by omega
        obtain ⟨ob, off, eo, q0, q1, q2, q3⟩ := hv.sl.atV (j := 0) (by rw [hv.len]; exact hl0)
        subst eo
        rw [Nat.zero_mul, Nat.add_zero] at q0 q1 q2 q3
        have hver := hv.each 0 hl0
        have hfv := hf.at hl0
        generalize rs.getD 0 r0 = r at q0 q1 q2 q3 hver
        have hO : recvO s part 7 req l fr st t = if inn ((psR s).getD ((undone s).getD j 0) pp0).2 (l.getD 0 v0).key = true ∧ isOpn s (l.getD 0 v0).key = true then behindO (tookS s (l.getD 0 v0)) fr st t else ⟨s, [], t⟩ := by unfold recvO; rw [if_pos hyes, e]
        rw [hO]
        generalize l.getD 0 v0 = v at hver hfv ⊢
        have hkey : r.key = v.key := hver.key
        by_cases aw : inn ((psR s).getD ((undone s).getD j 0) pp0).2 v.key = true ∧ isOpn s v.key = true
        · rw [if_pos aw]
          have hvk := (inn_iff _ _).1 aw.1
          have hvn := (ps_keys hi).2.1 _ hvk
          have hkz := hw.nmz _ hvn
          have hfd : fnd v.key L = some (ixN s.nm v.key) := (hL.iff _ _).2 ⟨⟨hvk, aw.2⟩, rfl⟩
          have hcl : s.came.length ≤ 1024 := by rw [hw.cml]; exact hw.nml
          refine recv_yes w p part cl req id v4 v5 v6 n4 n5 n6 c4 c5 _ cv ob off g j (rz.getD j rz0).mb (undone s).length rc r c6 d9 q0 q1 q2 q3 hj h64 hIX ((undone s).length - 1) (by omega) (ixN s.nm v.key) (fun X hX => ?_) _ (fun X Y => ∃ cs', KeptTo X co cc cs s.came vs s.first.length (ixN s.nm v.key) v Y cs') (fun X hX => ?_) ?_
          · rw [hkey]
            exact look2TI (hm.keepsN hX) (by unfold maxLen; omega) hfd
          · have hlX := hl.keeps h.1 hX (fun _ _ h => h)
            exact keep_any X p (ixN s.nm v.key) co s.came.length cc cs s.came vo s.first.length vc vs s.first r v (by rw [hw.cml]; exact idx_lt hvn) rfl rfl hlX.cam hlX.came hlX.ver hcl hw.fl hw.cf hw.ff (fun i hi => (hlX.fC i (.inl hi)).2) (fun i hi => (hlX.cv i hi).2.2) (fun i hi => (hlX.cv i hi).2.1) (by rw [cell_of_blk hlX.blk]; rfl) (by rw [cell_of_blk hlX.blk]; rfl) (hver.keepsN hX) hfv
          · rintro X Y hX ⟨cs', hk⟩
            rw [hkey]
            exact recv_took w p cp fr st F s t h hw hc ht hcF he nmo nc g rc rz co cc cs vo vc vs hl j hj v hvk hfv L hm hL ((undone s).length - 1) (by omega) X Y cs' hX hk
        · rw [if_neg aw]
          have hfd : fnd v.key L = none := by
            cases e2 : fnd v.key L with
            | none => rfl
            | some a =>
              have h1 := (hL.iff _ _).1 e2
              exact absurd ⟨(inn_iff _ _).2 h1.1.1, h1.1.2⟩ aw
          refine (recv_un w p part cl req id v4 v5 v6 n4 n5 n6 c4 c5 _ cv ob off g j (rz.getD j rz0).mb (undone s).length rc r c6 d9 q0 q1 q2 q3 hj h64 hIX (fun X hX => ?_)).mono ?_
          · rw [hkey]
            exact look2TIn (hm.keepsN hX) (by have := hfv.key; unfold maxLen; omega) hfd
          · rintro e w' ⟨rfl, k⟩
            exact tell_none h hc k
    · rw [recvO_kind (fun e => he e.1)]
      have c6 : w.cell? ⟨p, 6, none⟩ = some (.slice none 0 0) := by
        rcases h.2.2 with ⟨_, vo, vc, vs, hb, _⟩ | ⟨h0, _⟩
        · rw [cell_of_blk hb]; rfl
        · exact absurd h0 he
      refine (recv_none w p part cl req id v4 v5 v6 ov n4 n5 n6 c4 c5 _ cv none 0 0 c6 (fun X A hX hA hM => ?_)).mono ?_
      · exact indexQ_any X none 0 0 [] [] A (A + 1) part req rfl (by decide) (own_nil X) rfl (fun j hj => by simp at hj) hA hM
      · rintro e w' ⟨rfl, k⟩
        exact tell_none h hc k
  · rw [recvO_kind (fun e => hkl ⟨e.2.1, by rw [hnv]; exact e.2.2⟩)]
    refine (recv_kind w p part kind cl req id v4 v5 v6 ov n4 n5 n6 nv c4 c5 _ cv hkl).mono ?_
    rintro e w' ⟨rfl, k⟩
    exact tell_none h hc k
theorem WfR.behind {s : RS} (h : WfR s) (fr st t : Nat) : WfR (behindO s fr st t).s := by
  unfold behindO
  split
  · split
    · exact h.endF fr st t
    · exact h.end2
  · exact h
theorem WfR.recv {s : RS} (h : WfR s) {part kind : Int} {req : Nat} {l : List Ver} {fr st t : Nat} (hf : FitL l) : WfR (recvO s part kind req l fr st t).s := by
  unfold recvO
  split
  · rename_i h1
    split
    · exact h
    · rename_i j e
      split
      · rename_i aw
        have hj : j < (undone s).length := by rw [← askedR_len]; exact (idxQ_some e).1
        have hvn := (ps_keys (undone_lt hj)).2.1 _ ((inn_iff _ _).1 aw.1)
        exact (h.took hvn (hf.at (by omega))).behind fr st t
      · exact h
  · exact h
end Go.Proofs.Ytileipnoiocdlaa
/- New refused. -/
namespace Go.Proofs.Ytileipnoiocdlaa
open Go.RowKit Go.Sort Orl
set_option linter.unusedVariables false
set_option linter.unusedSimpArgs false

set_option maxRecDepth 10000 in
theorem rNew_arg (w : World) (a : Option Addr) (n c : Nat) (P C : Int) (f : Value) (h : ¬ argB P C) :
    Calls Try.prog 7 #[.slice a n c, .int .i64 P, .int .i64 C, f] w fun e w' => e = .returned (.tuple #[.pointer none, .int .i64 1]) ∧ Keeps no w w' := by
  by_cases h1 : P < 1
  · clear h
    go_enter Try.func7, Try.ntmps7
    go_wp2_with fail
    go_ret2
    exact ⟨rfl, Keeps.refl _ _⟩
  · by_cases h2 : (64 : Int) < P
    · clear h
      go_enter Try.func7, Try.ntmps7
      go_wp2_with fail
      go_ret2
      exact ⟨rfl, Keeps.refl _ _⟩
    · by_cases h3 : C < 0
      · clear h
        go_enter Try.func7, Try.ntmps7
        go_wp2_with fail
        go_ret2
        exact ⟨rfl, Keeps.refl _ _⟩
      · have h4 : (65535 : Int) < C := by unfold argB at h; omega
        clear h
        go_enter Try.func7, Try.ntmps7
        go_wp2_with fail
        go_ret2
        exact ⟨rfl, Keeps.refl _ _⟩
set_option maxRecDepth 10000 in
theorem rNew_nil (w : World) (a : Option Addr) (n c : Nat) (P C : Int) (h : argB P C) :
    Calls Try.prog 7 #[.slice a n c, .int .i64 P, .int .i64 C, .nilFunc] w fun e w' => e = .returned (.tuple #[.pointer none, .int .i64 1]) ∧ Keeps no w w' := by
  obtain ⟨h1, h2, h3, h4⟩ := h
  have h1' : ¬ P < 1 := by omega
  have h2' : ¬ (64 : Int) < P := by omega
  have h3' : ¬ C < 0 := by omega
  have h4' : ¬ (65535 : Int) < C := by omega
  have hef := eqlN
  clear h1 h2 h3 h4
  go_enter Try.func7, Try.ntmps7
  go_wp2_with fail
  go_ret2
  exact ⟨rfl, Keeps.refl _ _⟩
end Go.Proofs.Ytileipnoiocdlaa
/- The law's comparison of versions. -/
namespace Go.Proofs.Ytileipnoiocdlaa
open Go.RowKit Go.Sort Orl
set_option linter.unusedVariables false
set_option linter.unusedSimpArgs false

set_option maxRecDepth 10000 in
set_option maxHeartbeats 1000000 in
theorem sameV_any (w : World) (oa : Option Addr) (na ca : Nat) (ob : Option Addr) (nb cb : Nat) (ra rb : List RV) (va vb : List Ver) (hna : na = va.length) (hnb : nb = vb.length) (hfa : FitL va) (hfb : FitL vb) (ha : Vers w oa ca ra va) (hb : Vers w ob cb rb vb) :
    Calls Try.prog 17 #[.slice oa na ca, .slice ob nb cb] w fun e w' => e = .returned (.bool (decide (va = vb))) ∧ Keeps no w w' := by
  have HA : Hid (na = va.length) := hna
  have HB : Hid (nb = vb.length) := hnb
  have hA : (na : Int) ≤ 2199023255500 := by have := hfa.len; omega
  have hB : (nb : Int) ≤ 2199023255500 := by have := hfb.len; omega
  have HFA : Hid (FitL va) := hfa
  have HFB : Hid (FitL vb) := hfb
  have HVA : Hid (Vers w oa ca ra va) := ha
  have HVB : Hid (Vers w ob cb rb vb) := hb
  clear hna hnb hfa hfb ha hb
  by_cases hne : na = nb
  · subst hne
    go_enter Try.func17, Try.ntmps17
    go_wp2_with fail
    go_loopw [5] (fun i wr => ∃ k : Nat, k ≤ na ∧ i = .int .i64 k ∧ Hid (va.take k = vb.take k) ∧ Hid (Keeps no w wr)) (fun i _ => na - (intOf i).toNat)
    case atStart => exact ⟨0, by omega, rfl, show va.take 0 = vb.take 0 by simp, Keeps.refl _ _⟩
    case round =>
      rename World => wr
      obtain ⟨k, hk, rfl, HT, HK⟩ := hrel
      by_cases h2 : k < na
      · have hka : k < va.length := by have := HA.out; omega
        have hkb : k < vb.length := by have := HB.out; omega
        have h2' : (k : Int) < na := by omega
        obtain ⟨b1, off1, p1, m1, c1, ho1, d0, d1, d2, d3, hn1, hs1⟩ := (HVA.out.keepsN HK.out).at hka
        obtain ⟨b2, off2, p2, m2, c2, ho2, g0, g1, g2, g3, hn2, hs2⟩ := (HVB.out.keepsN HK.out).at hkb
        have HL : Hid ((va.getD k v0).keys.length ≤ 8796093022000 ∧ (vb.getD k v0).keys.length ≤ 8796093022000) := ⟨(HFA.out.at hka).len, (HFB.out.at hkb).len⟩
        have cS := sameT_grown p1 m1 c1 p2 m2 c2 _ _ hn1 hn2 HL.out.1 HL.out.2 hs1 hs2
        have HE : Hid (∀ B, B = decide (va.getD k v0 = vb.getD k v0) → (B = true → va.take (k + 1) = vb.take (k + 1)) ∧ (B = false → ¬ va = vb)) := by
          rintro B rfl
          rw [decide_eq_true_eq, decide_eq_false_iff_not]
          refine ⟨fun e => ?_, fun e h => e (by rw [h])⟩
          rw [take_succ_getD va k v0 hka, take_succ_getD vb k v0 hkb, HT.out, e]
        have HEE : Hid (decide (va.getD k v0 = vb.getD k v0) = decide ((va.getD k v0).key = (vb.getD k v0).key ∧ (va.getD k v0).id = (vb.getD k v0).id ∧ (va.getD k v0).val = (vb.getD k v0).val ∧ (va.getD k v0).keys = (vb.getD k v0).keys)) := by
          show _ = _
          congr 1; exact propext (ver_eq _ _)
        clear hn1 hn2 hs1 hs2 HL hka hkb
        subst ho1 ho2
        generalize va.getD k v0 = x at d0 d1 d2 cS HE HEE
        generalize vb.getD k v0 = y at g0 g1 g2 cS HE HEE
        obtain ⟨x0, x1, x2, x3⟩ := x
        obtain ⟨y0, y1, y2, y3⟩ := y
        simp only at d0 d1 d2 g0 g1 g2 cS HEE
        have z0 := cell_regrown d0
        have z1 := cell_regrown d1
        have z2 := cell_regrown d2
        have z3 := cell_regrown d3
        have q0 := cell_regrown g0
        have q1 := cell_regrown g1
        have q2 := cell_regrown g2
        have q3 := cell_regrown g3
        have HC : Hid (∀ d os, Calls Try.prog 9 #[.slice p1 m1 c1, .slice p2 m2 c2] (Sort.grow (redrawn wr d) os) fun e w'' => e = .returned (.bool (decide (x3 = y3))) ∧ ∃ p : Regrown, w'' = Sort.grow (redrawn wr p.d) p.os) := cS
        clear cS
        by_cases h3 : x0 = y0
        · have e3 : (x0.toList == y0.toList) = true := by rw [tx_eq]; simpa using h3
          have H3 : Hid (x0 = y0) := h3
          clear h3
          by_cases h4 : x1 = y1
          · subst h4
            have H4 : Hid (x1 = x1) := rfl
            by_cases h5 : x2 = y2
            · have e5 : (x2.toList == y2.toList) = true := by rw [tx_eq]; simpa using h5
              have H5 : Hid (x2 = y2) := h5
              clear h5
              have HBB : Hid (decide ((⟨x0, x1, x2, x3⟩ : Ver) = ⟨y0, x1, y2, y3⟩) = decide (x3 = y3)) := by
                show _ = _
                rw [HEE.out]; simp [H3.out, H4.out, H5.out]
              obtain ⟨Bq, hBq⟩ : ∃ B, B = decide (x3 = y3) := ⟨_, rfl⟩
              have HBq : Hid (Bq = decide (x3 = y3)) := hBq
              rw [← hBq] at HC
              clear hBq
              go_wp2_with fail
              refine wp_region_quiet_below (by kernel_rfl) (by kernel_rfl) ?_
              repeat (go_big_quiet_step (exact HC.out _ _))
              refine wpQuiet_nil ?_
              intro _ hw'
              obtain ⟨⟨dq, osq⟩, rfl⟩ := hw'
              have K1 : Hid (Keeps no w (Sort.grow (redrawn wr dq) osq)) := HK.out.trans (keeps_grown ..)
              generalize Sort.grow (redrawn wr dq) osq = u1 at K1 ⊢
              clear d0 d1 d2 d3 g0 g1 g2 g3 z0 z1 z2 z3 q0 q1 q2 q3 HC
              cases Bq with
              | true =>
                go_wp2_with fail
                go_roundw
                case rel => exact ⟨k + 1, by omega, by go_num, (HE.out true (by rw [HBB.out]; exact HBq.out)).1 rfl, K1⟩
                case measure => simp [intOf]; omega
              | false =>
                go_wp2_with fail
                go_ret
                have := (HE.out false (by rw [HBB.out]; exact HBq.out)).2 rfl
                exact ⟨by rw [decide_eq_false this]; rfl, K1.out⟩
            · have e5 : (x2.toList == y2.toList) = false := by rw [tx_eq]; simpa using h5
              have HBB : Hid (¬ va = vb) := (HE.out false (by rw [HEE.out]; symm; rw [decide_eq_false_iff_not]; exact fun h => h5 h.2.2.1)).2 rfl
              clear h5
              go_wp2_with fail
              refine wp_region_quiet_below (by kernel_rfl) (by kernel_rfl) ?_
              repeat (go_big_quiet_step (fail))
              refine wpQuiet_nil ?_
              intro _ hw'
              obtain ⟨⟨dq, osq⟩, rfl⟩ := hw'
              have K1 : Hid (Keeps no w (Sort.grow (redrawn wr dq) osq)) := HK.out.trans (keeps_grown ..)
              generalize Sort.grow (redrawn wr dq) osq = u1 at K1 ⊢
              clear d0 d1 d2 d3 g0 g1 g2 g3 z0 z1 z2 z3 q0 q1 q2 q3 HC
              go_wp2_with fail
              go_ret
              exact ⟨by rw [decide_eq_false HBB.out]; rfl, K1.out⟩
          · have e4 : ((x1 : Int) == (y1 : Int)) = false := by simp; omega
            have e4' : ((x1 : Int) != (y1 : Int)) = true := by simp; omega
            have e4'' : ¬ (x1 : Int) = (y1 : Int) := by omega
            have HBB : Hid (¬ va = vb) := (HE.out false (by rw [HEE.out]; symm; rw [decide_eq_false_iff_not]; exact fun h => h4 h.2.1)).2 rfl
            go_wp2_with fail
            refine wp_region_quiet_below (by kernel_rfl) (by kernel_rfl) ?_
            repeat (go_big_quiet_step (fail))
            refine wpQuiet_nil ?_
            intro _ hw'
            obtain ⟨⟨dq, osq⟩, rfl⟩ := hw'
            have K1 : Hid (Keeps no w (Sort.grow (redrawn wr dq) osq)) := HK.out.trans (keeps_grown ..)
            generalize Sort.grow (redrawn wr dq) osq = u1 at K1 ⊢
            clear d0 d1 d2 d3 g0 g1 g2 g3 z0 z1 z2 z3 q0 q1 q2 q3 HC
            go_wp2_with fail
            go_ret
            exact ⟨by rw [decide_eq_false HBB.out]; rfl, K1.out⟩
        · have e3 : (x0.toList == y0.toList) = false := by rw [tx_eq]; simpa using h3
          have HBB : Hid (¬ va = vb) := (HE.out false (by rw [HEE.out]; symm; rw [decide_eq_false_iff_not]; exact fun h => h3 h.1)).2 rfl
          clear h3
          go_wp2_with fail
          refine wp_region_quiet_below (by kernel_rfl) (by kernel_rfl) ?_
          repeat (go_big_quiet_step (fail))
          refine wpQuiet_nil ?_
          intro _ hw'
          obtain ⟨⟨dq, osq⟩, rfl⟩ := hw'
          have K1 : Hid (Keeps no w (Sort.grow (redrawn wr dq) osq)) := HK.out.trans (keeps_grown ..)
          generalize Sort.grow (redrawn wr dq) osq = u1 at K1 ⊢
          clear d0 d1 d2 d3 g0 g1 g2 g3 z0 z1 z2 z3 q0 q1 q2 q3 HC
          go_wp2_with fail
          go_ret
          exact ⟨by rw [decide_eq_false HBB.out]; rfl, K1.out⟩
      · go_wp2_with fail
        go_ret
        refine ⟨?_, HK.out⟩
        have := HT.out
        rw [List.take_of_length_le (by have := HA.out; omega), List.take_of_length_le (by have := HB.out; omega)] at this
        rw [decide_eq_true this]; rfl
  · have hne' : ¬ ((na : Nat) : Int) = (nb : Nat) := by omega
    have HN : Hid (¬ va = vb) := fun e => hne (by rw [HA.out, HB.out, e])
    go_enter Try.func17, Try.ntmps17
    go_wp2
    go_ret
    exact ⟨by rw [decide_eq_false HN.out]; rfl, Keeps.refl _ _⟩
end Go.Proofs.Ytileipnoiocdlaa
/- The law's comparison of wants. -/
namespace Go.Proofs.Ytileipnoiocdlaa
open Go.RowKit Go.Sort Orl
set_option linter.unusedVariables false
set_option linter.unusedSimpArgs false

theorem neqW (x1 y1 : Tx) (x2 y2 : Nat) (w : World) : (binOp .neq 50 (.agg #[.string x1, .int .u64 (x2 : Nat)]) (.agg #[.string y1, .int .u64 (y2 : Nat)])).run Try.prog w = .ok (.bool (!(decide (x1 = y1) && decide (x2 = y2)))) w := by
  have u9 := Try.underlying9
  have a9 := Try.isAgg9
  have z9 := Try.sizeOf9
  have u23 := Try.underlying37
  have a23 := Try.isAgg37
  have z23 := Try.sizeOf37
  have hS : Try.prog.underlying 50 = some (.struct (Try.prog.fieldsOf 50)) := by kernel_rfl
  have hp : Try.prog.stoodInHeld 50 = false := by kernel_rfl
  rw [run_neq_struct, show (10000 : Nat) = 9999 + 1 from rfl, run_equalIn_agg w 9999 50 _ _ hS hp]
  simp only [Program.fieldsOf, Try.underlying50]
  go_simp
  by_cases h1 : x1 = y1 <;> by_cases h2 : x2 = y2 <;> simp [h1, h2, toList_inj] <;> omega
set_option maxRecDepth 10000 in
theorem sameW_any (w : World) (oa : Option Addr) (na ca : Nat) (ob : Option Addr) (nb cb : Nat) (sa sb : List Wn) (hna : na = sa.length) (hnb : nb = sb.length) (hla : sa.length ≤ 4398046511000) (hlb : sb.length ≤ 4398046511000) (ha : Sl WE w oa ca sa) (hb : Sl WE w ob cb sb) :
    Calls Try.prog 46 #[.slice oa na ca, .slice ob nb cb] w fun e w' => (∃ B : Bool, e = .returned (.bool B) ∧ Hid (B = true ↔ sa = sb)) ∧ Keeps no w w' := by
  have HA : Hid (na = sa.length) := hna
  have HB : Hid (nb = sb.length) := hnb
  have hA : (na : Int) ≤ 4398046511000 := by omega
  have hB : (nb : Int) ≤ 4398046511000 := by omega
  clear hna hnb hla hlb
  by_cases hne : na = nb
  · subst hne
    go_enter Try.func46, Try.ntmps46
    go_wp2_with fail
    go_loopw [5] (fun i wr => ∃ k m : Nat, k ≤ na ∧ i = .int .i64 k ∧ wr = w.drewN m ∧ Hid (sa.take k = sb.take k)) (fun i _ => na - (intOf i).toNat)
    case atStart => exact ⟨0, 0, by omega, rfl, rfl, show sa.take 0 = sb.take 0 by simp⟩
    case round =>
      obtain ⟨k, m, hk, rfl, rfl, HT⟩ := hrel
      by_cases h2 : k < na
      · have hka : k < sa.length := by have := HA.out; omega
        have hkb : k < sb.length := by have := HB.out; omega
        obtain ⟨b1, off1, rfl, d1, d3⟩ := ha.atW hka
        obtain ⟨b2, off2, rfl, d2, d4⟩ := hb.atW hkb
        rcases hx : sa.getD k w0' with ⟨x1, x2⟩
        rcases hy : sb.getD k w0' with ⟨y1, y2⟩
        rw [hx] at d1 d3
        rw [hy] at d2 d4
        simp only at d1 d2 d3 d4
        have HX : Hid (sa.getD k w0' = (x1, x2)) := hx
        have HY : Hid (sb.getD k w0' = (y1, y2)) := hy
        clear hx hy hka hkb
        have hq := neqW x1 y1 x2 y2
        by_cases hxy : x1 = y1 ∧ x2 = y2
        · obtain ⟨rfl, rfl⟩ := hxy
          simp only [decide_true, Bool.and_self, Bool.not_true] at hq
          go_wp2
          go_quiet (fail)
          go_wp2
          go_roundw
          case rel =>
            refine ⟨k + 1, _, by omega, by go_num, rfl, ?_⟩
            have := HT.out
            show sa.take (k + 1) = sb.take (k + 1)
            rw [take_succ_getD sa k w0' (by have := HA.out; omega), take_succ_getD sb k w0' (by have := HB.out; omega), this, HX.out, HY.out]
          case measure => simp [intOf] <;> omega
        · have e : (!(decide (x1 = y1) && decide (x2 = y2))) = true := by
            by_cases h1 : x1 = y1 <;> by_cases h2 : x2 = y2 <;> simp [h1, h2] <;> exact hxy ⟨h1, h2⟩
          rw [e] at hq
          have HXY : Hid (¬ (x1 = y1 ∧ x2 = y2)) := hxy
          clear e hxy
          go_wp2
          go_quiet (fail)
          go_wp2
          go_ret
          refine ⟨⟨false, rfl, ⟨fun h => (by cases h), fun e => ?_⟩⟩, ((Keeps.refl _ _).drewN _).drewN _⟩
          have h := HX.out
          rw [e, HY.out] at h
          injection h with h1 h2
          exact absurd ⟨h1.symm, h2.symm⟩ HXY.out
      · go_wp2
        go_ret
        refine ⟨⟨true, rfl, ⟨fun _ => ?_, fun _ => rfl⟩⟩, (Keeps.refl _ _).drewN _⟩
        have := HT.out
        rwa [List.take_of_length_le (by have := HA.out; omega), List.take_of_length_le (by have := HB.out; omega)] at this
  · have hne' : ¬ ((na : Nat) : Int) = (nb : Nat) := by omega
    go_enter Try.func46, Try.ntmps46
    go_wp2
    go_ret
    refine ⟨⟨false, rfl, ⟨fun h => (by cases h), fun e => ?_⟩⟩, Keeps.refl _ _⟩
    exact absurd (by rw [HA.out, HB.out, e]) hne
end Go.Proofs.Ytileipnoiocdlaa
/- The law's comparison of messages. -/
namespace Go.Proofs.Ytileipnoiocdlaa
open Go.RowKit Go.Sort Orl
set_option linter.unusedVariables false
set_option linter.unusedSimpArgs false

/-- a question whose lists lie anywhere -/
structure QOf (w : World) (r : RQ) (q : Qn) : Prop where
  part : r.part = q.part
  kind : r.kind = q.kind
  client : r.client = q.client
  req : r.req = q.req
  kn : r.kn = q.keys.length
  ks : Sl TE w r.ko r.kc q.keys
  wn : r.wn = q.wants.length
  ws : Sl WE w r.wo r.wc q.wants
theorem QNw.of {w : World} {r : RQ} {q : Qn} (h : QNw w r q) : QOf w r q := ⟨h.part, h.kind, h.client, h.req, h.kn, h.ks.sl, h.wn, h.ws.sl⟩
theorem QOf.keepsN {w w' : World} {r : RQ} {q : Qn} (h : QOf w r q) (k : Keeps no w w') : QOf w' r q := ⟨h.part, h.kind, h.client, h.req, h.kn, h.ks.keepsN k, h.wn, h.ws.keepsN k⟩
structure FitQ (q : Qn) : Prop where
  part : 0 ≤ q.part ∧ q.part ≤ 64
  kl : q.keys.length ≤ 2000
  wl : q.wants.length ≤ 2000
def aggN (r : RQ) : Value := .agg #[.int .i64 r.kind, .int .i64 r.client, .int .u64 (r.req : Nat), .int .u64 0, .slice none 0 0, .slice r.ko r.kn r.kc, .slice r.wo r.wn r.wc, .slice none 0 0]
def sameMsg (a b : Qn) : Prop := a.kind = b.kind ∧ a.client = b.client ∧ a.req = b.req ∧ a.keys = b.keys ∧ a.wants = b.wants
instance (a b : Qn) : Decidable (sameMsg a b) := by unfold sameMsg; infer_instance
theorem q_eq (a b : Qn) : a = b ↔ a.part = b.part ∧ sameMsg a b := by
  unfold sameMsg; cases a; cases b; simp
set_option maxRecDepth 10000 in
set_option maxHeartbeats 1000000 in
theorem sameM_any (w : World) (ra rb : RQ) (a b : Qn) (ha : QOf w ra a) (hb : QOf w rb b) (fa : FitQ a) (fb : FitQ b) :
    Calls Try.prog 28 #[aggN ra, aggN rb] w fun e w' => e = .returned (.bool (decide (sameMsg a b))) ∧ Keeps no w w' := by
  obtain ⟨a0, a1, a2, a3, a5, a6⟩ := a
  obtain ⟨b0, b1, b2, b3, b5, b6⟩ := b
  obtain ⟨x0, x1, x2, x3, xko, xkn, xkc, xwo, xwn, xwc⟩ := ra
  obtain ⟨y0, y1, y2, y3, yko, ykn, ykc, ywo, ywn, ywc⟩ := rb
  obtain ⟨h0, h1, h2, h3, hkn, hks, hwn, hws⟩ := ha
  obtain ⟨g0, g1, g2, g3, gkn, gks, gwn, gws⟩ := hb
  simp only at h0 h1 h2 h3 hkn hks hwn hws g0 g1 g2 g3 gkn gks gwn gws
  subst h0 h1 h2 h3 g0 g1 g2 g3
  unfold aggN
  simp only
  have HK : Hid (Keeps no w ((w.alloc (.cells #[.int .i64 x1, .int .i64 x2, .int .u64 (x3 : Nat), .int .u64 0, .slice none 0 0, .slice xko xkn xkc, .slice xwo xwn xwc, .slice none 0 0] 42)).alloc (.cells #[.int .i64 y1, .int .i64 y2, .int .u64 (y3 : Nat), .int .u64 0, .slice none 0 0, .slice yko ykn ykc, .slice ywo ywn ywc, .slice none 0 0] 42))) := ((Keeps.refl no w).alloc _).alloc _
  have HF : Hid (a5.length ≤ 2000 ∧ b5.length ≤ 2000 ∧ a6.length ≤ 2000 ∧ b6.length ≤ 2000) := ⟨fa.kl, fb.kl, fa.wl, fb.wl⟩
  have HP : Hid (∀ X, Keeps no w X → Calls Try.prog 9 #[.slice xko xkn xkc, .slice yko ykn ykc] X fun e w' => (∃ B : Bool, e = .returned (.bool B) ∧ Hid (B = true ↔ a5 = b5)) ∧ Keeps no X w') := fun X hX => sameTexts_any X xko xkn xkc yko ykn ykc a5 b5 hkn gkn (by have := HF.out.1; omega) (by have := HF.out.2.1; omega) (hks.keepsN hX) (gks.keepsN hX)
  have HS : Hid (∀ X, Keeps no w X → Calls Try.prog 46 #[.slice xwo xwn xwc, .slice ywo ywn ywc] X fun e w' => (∃ B : Bool, e = .returned (.bool B) ∧ Hid (B = true ↔ a6 = b6)) ∧ Keeps no X w') := fun X hX => sameW_any X xwo xwn xwc ywo ywn ywc a6 b6 hwn gwn (by have := HF.out.2.2.1; omega) (by have := HF.out.2.2.2; omega) (hws.keepsN hX) (gws.keepsN hX)
  have HV : Hid (∀ X, Calls Try.prog 17 #[.slice none 0 0, .slice none 0 0] X fun e w' => e = .returned (.bool true) ∧ Keeps no X w') := fun X => (sameV_any X none 0 0 none 0 0 [] [] [] [] rfl rfl fitL_nil fitL_nil (vers_nil X) (vers_nil X)).mono fun e w' h => ⟨by rw [h.1]; simp, h.2⟩
  clear hks hws gks gws hkn gkn hwn gwn fa fb
  obtain ⟨R, hR⟩ : ∃ R, R = decide (sameMsg ⟨x0, x1, x2, x3, a5, a6⟩ ⟨y0, y1, y2, y3, b5, b6⟩) := ⟨_, rfl⟩
  have HRI : Hid (R = true ↔ x1 = y1 ∧ x2 = y2 ∧ x3 = y3 ∧ a5 = b5 ∧ a6 = b6) := by
    show _ ↔ _
    rw [hR, decide_eq_true_eq]
    exact Iff.rfl
  rw [← hR]
  clear hR
  have HNO : Hid (¬ (x1 = y1 ∧ x2 = y2 ∧ x3 = y3 ∧ a5 = b5 ∧ a6 = b6) → R = false) := fun h => by
    rw [← Bool.not_eq_true, HRI.out]; exact h
  by_cases e1 : x1 = y1
  rotate_left
  · have e1' : (x1 == y1) = false := by simpa using e1
    have HR : Hid (R = false) := HNO.out (fun h => e1 h.1)
    clear HRI HNO
    go_enter Try.func28, Try.ntmps28
    go_wp2_with fail
    go_ret
    exact ⟨by rw [HR.out]; rfl, HK.out⟩
  subst e1
  by_cases e2 : x2 = y2
  rotate_left
  · have e2' : (x2 == y2) = false := by simpa using e2
    have HR : Hid (R = false) := HNO.out (fun h => e2 h.2.1)
    clear HRI HNO
    go_enter Try.func28, Try.ntmps28
    go_wp2_with fail
    go_ret
    exact ⟨by rw [HR.out]; rfl, HK.out⟩
  subst e2
  by_cases e3 : x3 = y3
  rotate_left
  · have e3' : ((x3 : Int) == (y3 : Int)) = false := by simp; omega
    have e3'' : ¬ (x3 : Int) = (y3 : Int) := by omega
    have HR : Hid (R = false) := HNO.out (fun h => e3 h.2.2.1)
    clear HRI HNO
    go_enter Try.func28, Try.ntmps28
    go_wp2_with fail
    go_ret
    exact ⟨by rw [HR.out]; rfl, HK.out⟩
  subst e3
  have HEQ : Hid (∀ B1 B2 : Bool, (B1 = true ↔ a5 = b5) → (B2 = true ↔ a6 = b6) → R = (B1 && B2)) := by
    intro B1 B2 h1 h2
    rw [Bool.eq_iff_iff, HRI.out, Bool.and_eq_true, h1, h2]
    simp
  clear HRI HNO
  go_enter Try.func28, Try.ntmps28
  go_wp2_with fail
  refine Calls.mono (HP.out _ HK.out) ?_
  rintro e w2 ⟨⟨B1, rfl, hB1⟩, hk2⟩
  have HB1 : Hid (B1 = true ↔ a5 = b5) := hB1
  have HK2 : Hid (Keeps no w w2) := HK.out.trans hk2
  have hbl := hk2.at (blk_alloc (blk_new w (.cells #[.int .i64 x1, .int .i64 x2, .int .u64 (x3 : Nat), .int .u64 0, .slice none 0 0, .slice xko xkn xkc, .slice xwo xwn xwc, .slice none 0 0] 42)) (.cells #[.int .i64 x1, .int .i64 x2, .int .u64 (x3 : Nat), .int .u64 0, .slice none 0 0, .slice yko ykn ykc, .slice ywo ywn ywc, .slice none 0 0] 42)) id
  have hbr : w2.heap[w.heap.size + 1]? = some (.cells #[.int .i64 x1, .int .i64 x2, .int .u64 (x3 : Nat), .int .u64 0, .slice none 0 0, .slice yko ykn ykc, .slice ywo ywn ywc, .slice none 0 0] 42 (0, 0)) := by
    have h := hk2.at (blk_new (w.alloc (.cells #[.int .i64 x1, .int .i64 x2, .int .u64 (x3 : Nat), .int .u64 0, .slice none 0 0, .slice xko xkn xkc, .slice xwo xwn xwc, .slice none 0 0] 42)) (.cells #[.int .i64 x1, .int .i64 x2, .int .u64 (x3 : Nat), .int .u64 0, .slice none 0 0, .slice yko ykn ykc, .slice ywo ywn ywc, .slice none 0 0] 42)) id
    simpa using h
  have HBB : Hid (w2.heap[w.heap.size]? = some (.cells #[.int .i64 x1, .int .i64 x2, .int .u64 (x3 : Nat), .int .u64 0, .slice none 0 0, .slice xko xkn xkc, .slice xwo xwn xwc, .slice none 0 0] 42 (0, 0)) ∧ w2.heap[w.heap.size + 1]? = some (.cells #[.int .i64 x1, .int .i64 x2, .int .u64 (x3 : Nat), .int .u64 0, .slice none 0 0, .slice yko ykn ykc, .slice ywo ywn ywc, .slice none 0 0] 42 (0, 0))) := ⟨hbl, hbr⟩
  clear hbl hbr hB1 hk2 HK HP
  cases B1 with
  | false =>
    have HR : Hid (R = false) := by
      show _ = _
      have := HEQ.out false (decide (a6 = b6)) (by simpa using HB1.out) (by simp)
      rw [this]; rfl
    clear HEQ HB1
    go_wp2_with fail
    go_ret
    exact ⟨by rw [HR.out]; rfl, HK2.out⟩
  | true =>
    have z6 := cell_of_blk HBB.out.1 6
    have z6' := cell_of_blk HBB.out.2 6
    simp only [List.getElem?_toArray, List.getElem?_cons_succ, List.getElem?_cons_zero] at z6 z6'
    go_wp2_with fail
    refine Calls.mono (HS.out _ HK2.out) ?_
    rintro e w3 ⟨⟨B2, rfl, hB2⟩, hk3⟩
    have HR : Hid (R = B2) := by
      show _ = _
      have := HEQ.out true B2 (by simpa using HB1.out) hB2.out
      rw [this]; rfl
    have HK3 : Hid (Keeps no w w3) := HK2.out.trans hk3
    have k1 := hk3.at HBB.out.1 id
    have k2 := hk3.at HBB.out.2 id
    have z7 := cell_of_blk k1 7
    have z7' := cell_of_blk k2 7
    simp only [List.getElem?_toArray, List.getElem?_cons_succ, List.getElem?_cons_zero] at z7 z7'
    clear k1 k2 HBB hk3 hB2 HEQ HB1 HK2 HS z6 z6'
    cases B2 with
    | false =>
      go_wp2_with fail
      go_ret
      exact ⟨by rw [HR.out]; rfl, HK3.out⟩
    | true =>
      go_wp2_with fail
      refine Calls.mono (HV.out w3) ?_
      rintro e w4 ⟨rfl, hk4⟩
      have HK4 : Hid (Keeps no w w4) := HK3.out.trans hk4
      clear hk4
      go_wp2_with fail
      go_ret
      exact ⟨by rw [HR.out]; rfl, HK4.out⟩
end Go.Proofs.Ytileipnoiocdlaa
