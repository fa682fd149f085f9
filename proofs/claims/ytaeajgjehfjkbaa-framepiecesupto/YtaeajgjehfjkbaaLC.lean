/- FramePieces: the walk. -/
import Derived.Test.YtaeajgjehfjkbaaC7
import Derived.Test.YtaeajgjehfjkbaaFr
namespace Go.Proofs.Ytaeajgjehfjkbaa
open Go.RowKit
set_option linter.unusedVariables false
set_option linter.unusedSimpArgs false

theorem getD_app (l m : List (LS UInt8)) (j : Nat) : (l ++ m).getD j ls0 = if j < l.length then l.getD j ls0 else m.getD (j - l.length) ls0 := by
  simp only [List.getD_eq_getElem?_getD]
  by_cases h : j < l.length
  · rw [if_pos h, List.getElem?_append_left h]
  · rw [if_neg h, List.getElem?_append_right (by omega)]
/-- what the loop holds: the bodies so far, what is left -/
structure PcI (w wr : World) (ss : Bs) (oG : Option Addr) (mG cG : Nat) (gs : List (LS UInt8)) (oF : Option Addr) (mF cF : Nat) (lf : Bs) (p : Nat) : Prop where
  m : mG = gs.length
  own : Own XE wr oG cG gs
  each : ∀ j, j < gs.length → Own BE wr (gs.getD j ls0).o (gs.getD j ls0).c (gs.getD j ls0).xs
  mf : mF = lf.length
  f : Own BE wr oF cF lf
  far : ∀ j, j < gs.length → ∀ k, inO oF k → ¬ inO (gs.getD j ls0).o k
  nG : New w oG
  nF : New w oF
  kp : Keeps no w wr
  sp : split (ss.take p) = some (bods gs, lf)
theorem PcI.lst {w wr : World} {ss : Bs} {oG : Option Addr} {mG cG : Nat} {gs : List (LS UInt8)} {oF : Option Addr} {mF cF : Nat} {lf : Bs} {p : Nat} (h : PcI w wr ss oG mG cG gs oF mF cF lf p) : Lst wr oG gs := ⟨h.own.row, fun j hj => (h.each j hj).row⟩
/-- a round -/
theorem PcI.next {w wr w1 w2 w3 : World} {ss : Bs} {oG : Option Addr} {mG cG : Nat} {gs : List (LS UInt8)} {oF : Option Addr} {mF cF : Nat} {lf : Bs} {p q : Nat} (h : PcI w wr ss oG mG cG gs oF mF cF lf p)
    {o1 : Option Addr} (hap1 : Ap wr oF o1 w1) {oB oR : Option Addr} {cB cR : Nat} {bs : List (LS UInt8)} {r : Bs} (hS : Spl w1 w2 oB cB bs oR cR r)
    {o3 : Option Addr} {c3 : Nat} (ho3 : Own XE w3 o3 c3 (gs ++ bs)) (hap3 : Ap w2 oG o3 w3) (hsp : split (ss.take q) = some (bods gs ++ bods bs, r)) {m3 mR : Nat} (hm3 : m3 = mG + bs.length) (hmR : mR = r.length) : PcI w w3 ss o3 m3 c3 (gs ++ bs) oR mR cR r q := by
  have k1 := hap1.new (w0 := w) h.nF h.kp
  have g1 : Own XE w1 oG cG gs := h.own.keeps hap1.keeps (ne_own h.own h.f (by decide))
  have e1 : ∀ j, j < gs.length → Own BE w1 (gs.getD j ls0).o (gs.getD j ls0).c (gs.getD j ls0).xs := fun j hj => (h.each j hj).keeps hap1.keeps (fun k h1 h2 => h.far j hj k h2 h1)
  have k2 : Keeps no w w2 := k1.2.trans hS.h.kp
  have g2 := g1.keepsN hS.h.kp
  have k3 := hap3.new (w0 := w) h.nG k2
  refine ⟨by rw [List.length_append, ← h.m]; exact hm3, ho3, ?_, hmR, hS.rest.keeps hap3.keeps (ne_own hS.rest g2 (by decide)), ?_, k3.1, hS.nR.of_le k1.2.size, k3.2, ?_⟩
  · intro j hj
    rw [List.length_append] at hj
    rw [getD_app]
    by_cases hl : j < gs.length
    · rw [if_pos hl]
      have := (e1 j hl).keepsN hS.h.kp
      exact this.keeps hap3.keeps (ne_own this g2 (by decide))
    · rw [if_neg hl]
      have := hS.h.each (j - gs.length) (by omega)
      exact this.keeps hap3.keeps (ne_own this g2 (by decide))
  · intro j hj k hk
    rw [List.length_append] at hj
    rw [getD_app]
    by_cases hl : j < gs.length
    · rw [if_pos hl]
      intro h2
      have := hS.nR k hk
      have := (e1 j hl).lt k h2
      omega
    · rw [if_neg hl]
      exact hS.farR (j - gs.length) (by omega) k hk
  · rw [hsp]; simp [bods]

def First (ss : Bs) (w3 : World) (oL : Option Addr) (M : Nat) (oR : Option Addr) (R cR : Nat) (E : Int) : Prop := (split ss = none ∧ E = 3) ∨ ∃ ls r, E = 0 ∧ split ss = some (bods ls, r) ∧ M = ls.length ∧ R = r.length ∧ Lst w3 oL ls ∧ Own BE w3 oR cR r

set_option maxRecDepth 100000 in
set_option maxHeartbeats 0 in
theorem framePieces_any (w : World) (a0 : Option Addr) (n0 c0 : Nat) (ss : Bs) (a1 : Option Addr) (n1 c1 : Nat) (zs : List Int) (hn0 : n0 = ss.length) (hn1 : n1 = zs.length) (hs0 : Sl BE w a0 c0 ss) (hs1 : Row JE w a1 zs) (hzb : ∀ z ∈ zs, -9223372036854775808 ≤ z ∧ z ≤ 9223372036854775807) (hz : ss.length + zs.length ≤ 1048576) :
    Calls Try.prog 5 #[.slice a0 n0 c0, .slice a1 n1 c1] w fun e w' => e = .returned (.bool true) ∧ Keeps no w w' := by
  have HN0 : Hid (n0 = ss.length) := hn0
  have HN1 : Hid (n1 = zs.length) := hn1
  have HS0 : Hid (Sl BE w a0 c0 ss) := hs0
  have HS1 : Hid (Row JE w a1 zs) := hs1
  have hb0 : (n0 : Int) ≤ 1048576 := by omega
  have hb1 : (n1 : Int) ≤ 1048576 := by omega
  clear hz hn0 hn1 hs0 hs1 hzb
  go_enter Try.func5, Try.ntmps5
  go_wp2_with fail
  refine (alive_any w).mono ?_
  rintro e w1 ⟨rfl, hk1⟩
  have HK1 : Hid (Keeps no w w1) := hk1
  clear hk1
  go_wp2_with fail
  refine (own_any w1 a0 n0 c0 ss HN0.out (HS0.out.keepsN HK1.out) (by have := HN0.out; omega)).mono ?_
  rintro e w2 ⟨v, rfl, o2, m2, c2, rfl, hm2, ho2, _, hk2⟩
  obtain rfl : m2 = n0 := hm2.out.trans HN0.out.symm
  have HO2 : Hid (Own BE w2 o2 c2 ss) := ho2
  have HK2 : Hid (Keeps no w w2) := HK1.out.trans hk2
  clear hm2 ho2 hk2 HK1
  go_wp2_with fail
  refine (split_any w2 o2 m2 c2 ss HN0.out HO2.out.sl (by omega)).mono ?_
  intro e w3 hT
  obtain ⟨oL, M, cL, oR, R, cR, E, rfl, HE, HK3⟩ : ∃ oL M cL oR R cR E, e = .returned (.tuple #[.slice oL M cL, .slice oR R cR, .int .i64 E]) ∧ Hid (First ss w3 oL M oR R cR E) ∧ Hid (Keeps no w w3) := by
    rcases hT with ⟨h1, h2, h3⟩ | ⟨oL, m', cL, ls, oR, k', cR, r', h0, h1, hm', hk', hS⟩
    · exact ⟨_, _, _, _, _, _, _, h2, Or.inl ⟨h1, rfl⟩, HK2.out.trans h3⟩
    · exact ⟨_, _, _, _, _, _, _, h0, Or.inr ⟨ls, r', rfl, h1, hm'.out, hk'.out, hS.h.lst, hS.rest⟩, HK2.out.trans hS.h.kp⟩
  have HI0 : Hid (PcI w3 w3 ss none 0 0 [] none 0 0 [] 0) := ⟨rfl, own_nil _, fun j hj => (by simp at hj), rfl, own_nil _, fun j hj => (by simp at hj), new_none _, new_none _, Keeps.refl _ _, rfl⟩
  clear hT HO2 HK2
  go_wp2_with fail
  go_loopw [9, 10, 11, 12] (fun g f a i wr => ∃ (k p : Nat) (oG : Option Addr) (mG cG : Nat) (gs : List (LS UInt8)) (oF : Option Addr) (mF cF : Nat) (lf : Bs), k ≤ n1 + 1 ∧ p ≤ m2 ∧ i = .int .i64 k ∧ a = .int .i64 p ∧ g = .slice oG mG cG ∧ f = .slice oF mF cF ∧ Hid (PcI w3 wr ss oG mG cG gs oF mF cF lf p ∧ (k = n1 + 1 → p = m2))) (fun _ _ _ i _ => n1 + 1 - (intOf i).toNat)
  case atStart => exact ⟨0, 0, none, 0, 0, [], none, 0, 0, [], by omega, by omega, rfl, rfl, rfl, rfl, ⟨HI0.out, fun h => by omega⟩⟩
  case round =>
    rename World => wr
    clear HI0
    obtain ⟨k, p, oG, mG, cG, gs, oF, mF, cF, lf, hk, hp, rfl, rfl, rfl, rfl, HI⟩ := hrel
    by_cases hlt : (k : Int) ≤ n1
    · go_upto_if 38 with fail
      go_cut [13] from 27 to 77 (fun s wc => ∃ q : Nat, s = .int .i64 q ∧ p ≤ q ∧ q ≤ m2 ∧ (k = n1 → q = m2) ∧ wc = wr)
      case first =>
        by_cases hkn : (k : Int) < n1
        · obtain ⟨b, off, rfl, hc⟩ := rowJ_at (HS1.out.keepsN (HK3.out.trans HI.out.1.kp)) (j := k) (by have := HN1.out; omega)
          obtain ⟨z, hzz⟩ : ∃ z, z = zs.getD k 0 := ⟨_, rfl⟩
          rw [← hzz] at hc
          obtain ⟨u, hu⟩ : ∃ u, IntKind.u64.wrap z = u := ⟨_, rfl⟩
          have hu1 : 0 ≤ u := by rw [← hu, IntKind.wrap_u64]; omega
          have hu2 : u ≤ 18446744073709551615 := by rw [← hu, IntKind.wrap_u64]; omega
          obtain ⟨s, hs⟩ : ∃ s : Nat, (m2 : Int) - p = (s : Int) := ⟨m2 - p, by omega⟩
          have hs5 : (s : Int) ≤ 1048576 := by omega
          have hmod : 0 ≤ u % ((s : Int) + 1) ∧ u % ((s : Int) + 1) < (s : Int) + 1 := ⟨Int.emod_nonneg _ (by omega), Int.emod_lt_of_pos _ (by omega)⟩
          obtain ⟨t, ht⟩ : ∃ t : Nat, u % ((s : Int) + 1) = (t : Int) := ⟨(u % ((s : Int) + 1)).toNat, by omega⟩
          have ht5 : (t : Int) ≤ s := by omega
          clear hmod hzz
          have hs0 : ¬ ((s : Int) + 1 = 0) := by omega
          have HSS : Hid ((m2 : Int) - p = (s : Int)) := hs
          go_wp2_with fail
          go_meet
          case rel => exact ⟨p + t, by go_num, by omega, by have := HSS.out; omega, fun h => by omega, rfl⟩
        · go_wp2_with fail
          go_meet
          case rel => exact ⟨m2, rfl, by omega, by omega, fun _ => rfl, rfl⟩
      case rest =>
      obtain ⟨q, rfl, hpq, hqm, hkq, hw⟩ := hcut
      subst wc
      have HKQ : Hid (k = n1 → q = m2) := hkq
      obtain ⟨A1, d1, hcut1, hs1⟩ := cutLH' w a0 c0 ss m2 p q (p : Int) (q : Int) rfl rfl HN0.out hpq hqm HS0.out
      obtain ⟨P, hP⟩ : ∃ P, P = (ss.drop p).take (q - p) := ⟨_, rfl⟩
      rw [← hP] at hs1
      obtain ⟨d, hd⟩ : ∃ d, d = q - p := ⟨_, rfl⟩
      rw [← hd] at hcut1
      have HPL : Hid (d = P.length) := by show _ = _; rw [hP, List.length_take, List.length_drop, hd]; have := HN0.out; omega
      have HTK : Hid (ss.take q = ss.take p ++ P) := by
        show _ = _
        rw [hP, show q = p + (q - p) by omega, List.take_add]
        simp
      have HSA : Hid (Sl BE w A1 d1 P) := hs1
      have hlen := split_len HI.out.1.sp
      have HLN : Hid (gs.length * 4 + lf.length ≤ p) := by show _ ≤ _; rw [bods_len, List.length_take] at hlen; omega
      have HPQ : Hid (p + d = q) := by show _ = _; omega
      clear hkq hs1 hP hd hlen
      go_wp2_with (at_builtin; go_must (refine wpList_app okB rfl _ _ rfl oF _ cF lf rfl HI.out.1.mf HI.out.1.f A1 _ d1 P rfl HPL.out HSA.out.nil (HSA.out.row.keepsN (HK3.out.trans HI.out.1.kp)) (by have := HLN.out; have := HPL.out; have := HPQ.out; simp [BE]; omega) (by have := HLN.out; have := HPL.out; have := HPQ.out; omega) ?_); intro o4 c4 w4 ho4 hap4)
      have HO4 : Hid (Own BE w4 o4 c4 (lf ++ P) ∧ Ap wr oF o4 w4) := ⟨ho4, hap4⟩
      have HK4 : Hid (Keeps no w3 w4) := (hap4.new (w0 := w3) HI.out.1.nF HI.out.1.kp).2
      clear ho4 hap4
      have HLP : Hid (mF + d = (lf ++ P).length ∧ ((mF + d : Nat) : Int) ≤ 16777216) := by
        have h1 := HI.out.1.mf
        have h2 := HPL.out
        have h3 := HLN.out
        have h4 := HPQ.out
        exact ⟨by rw [List.length_append, ← h1, ← h2], by omega⟩
      refine (split_any w4 o4 _ c4 (lf ++ P) HLP.out.1 HO4.out.1.sl HLP.out.2).mono ?_
      have happ := (split_app (ss.take p) P).2 _ _ HI.out.1.sp
      rw [← HTK.out] at happ
      have HAP : Hid (split (ss.take q) = (split (lf ++ P)).map (pre (bods gs))) := happ
      clear happ
      rintro e w5 (⟨h1, rfl, hk5⟩ | ⟨oB, mB, cB, bs, oR5, mR5, cR5, r5, rfl, h1, hmB, hmR, hS⟩)
      · have hnone : split ss = none := by
          have h2 := HAP.out
          rw [h1] at h2
          have := (split_app (ss.take q) (ss.drop q)).1 (by rw [h2]; rfl)
          rwa [List.take_append_drop] at this
        have hE : E = 3 := by
          rcases HE.out with ⟨_, h⟩ | ⟨ls, r, _, h, _⟩
          · exact h
          · rw [hnone] at h; cases h
        subst E
        have HK5 : Hid (Keeps no w w5) := (HK3.out.trans HK4.out).trans hk5
        clear h1 hnone hk5
        go_wp2_with fail
        go_ret
        exact ⟨rfl, HK5.out⟩
      · have hsp : split (ss.take q) = some (bods gs ++ bods bs, r5) := by rw [HAP.out, h1]; rfl
        have hlen := split_len hsp
        have HSP : Hid (split (ss.take q) = some (bods gs ++ bods bs, r5)) := hsp
        have HSL : Hid (Spl w4 w5 oB cB bs oR5 cR5 r5) := hS
        have HLL : Hid (gs.length + bs.length ≤ 1048576) := by
          show _ ≤ _
          rw [List.length_append, bods_len, bods_len, List.length_take] at hlen
          omega
        have HG5 : Hid (Own XE w5 oG cG gs) := (HI.out.1.own.keeps HO4.out.2.keeps (ne_own HI.out.1.own HI.out.1.f (by decide))).keepsN hS.h.kp
        clear h1 hsp hlen hS
        go_wp2_with (at_builtin; go_must (refine wpList_app okX rfl _ _ rfl oG _ cG gs rfl HI.out.1.m HG5.out oB _ cB bs rfl hmB.out HSL.out.h.own.sl.nil HSL.out.h.own.row (by have := HLL.out; simp [XE]; omega) (by have := HLL.out; omega) ?_); intro o6 c6 w6 ho6 hap6)
        have HF : Hid (PcI w3 w6 ss o6 (mG + mB) c6 (gs ++ bs) oR5 mR5 cR5 r5 q) := HI.out.1.next HO4.out.2 HSL.out ho6 hap6 HSP.out (by rw [hmB.out]) hmR.out
        clear ho6 hap6
        go_roundw
        case rel => exact ⟨k + 1, q, o6, mG + mB, c6, gs ++ bs, oR5, mR5, cR5, r5, by omega, hqm, by go_num, rfl, rfl, rfl, ⟨HF.out, fun h => HKQ.out (by omega)⟩⟩
        case measure => simp [intOf]; omega
    · have hpm : p = m2 := HI.out.2 (by omega)
      have hsp := HI.out.1.sp
      rw [hpm, HN0.out, List.take_length] at hsp
      obtain ⟨ls, r, hE, h1, h2, h3, h4, h5⟩ : ∃ ls r, E = 0 ∧ split ss = some (bods ls, r) ∧ M = ls.length ∧ R = r.length ∧ Lst w3 oL ls ∧ Own BE w3 oR cR r := by
        rcases HE.out with ⟨h, _⟩ | h
        · rw [hsp] at h; cases h
        · exact h
      rw [hsp] at h1
      injection h1 with h1
      injection h1 with e1 e2
      subst e2
      subst E
      have hlen := split_len hsp
      have HA : Hid (bods gs = bods ls ∧ M = ls.length ∧ R = lf.length ∧ Lst wr oL ls ∧ Own BE wr oR cR lf) := ⟨e1, h2, h3, h4.keepsN HI.out.1.kp, h5.keepsN HI.out.1.kp⟩
      have hmG : Hid ((mG : Int) ≤ 16777216) := by show _ ≤ _; rw [bods_len] at hlen; have := HI.out.1.m; have := HN0.out; omega
      clear e1 h2 h3 h4 h5 hsp hlen hpm
      go_wp2_with fail
      refine (sameLists_yes wr oG mG cG oL M cL gs ls HI.out.1.m HA.out.2.1 hmG.out HI.out.1.lst HA.out.2.2.2.1 HA.out.1).mono ?_
      rintro e w4 ⟨rfl, hk4⟩
      have HK4 : Hid (Keeps no w w4 ∧ Row BE w4 oF lf ∧ Row BE w4 oR lf) := ⟨(HK3.out.trans HI.out.1.kp).trans hk4, HI.out.1.f.row.keepsN hk4, HA.out.2.2.2.2.row.keepsN hk4⟩
      clear hk4
      go_wp2_with fail
      refine (same_yes w4 oF mF cF oR R cR lf HI.out.1.mf HA.out.2.2.1 HK4.out.2.1 HK4.out.2.2).mono ?_
      rintro e w5 ⟨rfl, e5⟩
      subst w5
      go_wp2_with fail
      go_ret
      exact ⟨rfl, HK4.out.1⟩
end Go.Proofs.Ytaeajgjehfjkbaa
