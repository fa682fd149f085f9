/- RecordTails: its walk. -/
import Derived.Test.YtdalheeifgampaaDoorT1
namespace Go.Proofs.YtdalheeifgampaaDoor
open Go.RowKit Go.Sort Orl Pk
set_option linter.unusedVariables false
set_option linter.unusedSimpArgs false

theorem own_oneI (w : World) (z : Int) : Sl IE (w.alloc (.cells #[.int .i64 z] 3)) (some ⟨w.heap.size, 0, none⟩) 1 [z] := by
  refine ⟨.inr ⟨_, _, rfl, fun j u hj => ?_⟩, by simp, fun e => by cases e⟩
  rw [cell_of_blk (blk_new w _), Nat.zero_add]
  simpa [El.cells, IE] using hj
theorem cut_lh (w0 : World) (o : Option Addr) (c : Nat) (bs : List Nat) (n I J : Nat) (hn : n = bs.length) (hI : I ≤ J) (hJ : J ≤ n) (h : BSl w0 o c bs) :
    ∃ A d, (∀ w, (Instr.slice 34 (.slice o n c) (some (.int .i64 ((I : Nat) : Int))) (some (.int .i64 ((J : Nat) : Int))) none).run Tryd.prog w = .ok (.slice A (J - I) d) w) ∧ BSl w0 A d ((bs.take J).drop I) := by
  subst hn
  have hcap := h.cap
  match o, h with
  | none, h =>
    obtain rfl : c = 0 := h.nil rfl
    obtain rfl : J = 0 := by omega
    obtain rfl : I = 0 := by omega
    have h0 : bs = [] := List.length_eq_zero_iff.mp (by omega)
    subst h0
    refine ⟨none, 0, fun w => ?_, ⟨⟨by simp, by simp, .inl (by simp)⟩, by simp, fun _ => rfl⟩⟩
    rw [run_slice_lh w 34 none _ 0 slB .i64 .i64 _ _ (by omega) (by omega) (by simp)]
    go_simp
  | some ad, h =>
    refine ⟨some (if c = I then ad else ad.add I), c - I, fun w => ?_, ⟨?_, by rw [List.length_drop, List.length_take]; omega, by simp⟩⟩
    · rw [run_slice_lh w 34 (some ad) _ c slB .i64 .i64 _ _ (by omega) (by omega) (by omega)]
      by_cases h : c = I
      · go_simp
        try (first | rfl | (congr 1; omega))
      · go_simp
        try (first | rfl | (congr 1; omega))
    · refine (h.row.take J).drop I (fun hlt b off e => ?_)
      rw [List.length_take] at hlt
      cases e
      rw [if_neg (by omega), addr_add]
/-- what the first loop holds -/
def TlIn (w W : World) (q : Nat) (oa : Option Addr) (na ca : Nat) (oe : Option Addr) (ne ce : Nat) (orr : Option Addr) (nr cr : Nat) : Prop :=
  ∃ l vs, Tl w W oa ca oe ce orr cr l vs ∧ na = (rowb l).length ∧ ne = l.length ∧ nr = l.length ∧ l.length = q

set_option maxRecDepth 20000 in
set_option maxHeartbeats 4000000 in
theorem recordTails_any (w : World) (ol : Option Addr) (nl cl : Nat) (ls : List PV) (hnl : nl = ls.length) (hz : cl * QE.nb ≤ reachBytes) (hsl : Sl QE w ol cl ls) (hok : ∀ p ∈ ls, OkPV w p) (at_ : Int) (h1 : -9223372036854775808 ≤ at_) (h2 : at_ ≤ 9223372036854775807) (ht : TabIn w) :
    Calls Tryd.prog 5 #[.slice ol nl cl, .int .i64 at_] w fun e w' => e = .returned (.bool true) ∧ Keeps no w w' := by
  have HNL : Hid (nl = ls.length) := hnl
  have hnb : (nl : Int) ≤ 2199023255500 := by
    have h3 := hsl.cap
    have h4 : cl * 64 ≤ reachBytes := hz
    have h5 : reachBytes = 140737488351232 := by decide
    omega
  clear hnl hz
  go_enter Tryd.func5, Tryd.ntmps5
  go_wp2_with fail
  refine (alive_any _ ht).mono ?_
  rintro e w1 ⟨rfl, hk1⟩
  have HK1 : Hid (Keeps no w w1) := hk1
  clear hk1
  go_upto_block 0 with fail
  go_cut [5, 6, 7, 8, 9, 10, 11] from 23 to 56 (fun a b c _ _ _ _ wc => ∃ q oa na ca oe ne ce orr nr cr, a = .slice oa na ca ∧ b = .slice oe ne ce ∧ c = .slice orr nr cr ∧ q ≤ 30 ∧ TlIn w1 wc q oa na ca oe ne ce orr nr cr)
  case first =>
    go_wp2_with fail
    go_loopw [5, 6, 7, 8] (fun a b c j wr => ∃ q oa na ca oe ne ce orr nr cr, a = .slice oa na ca ∧ b = .slice oe ne ce ∧ c = .slice orr nr cr ∧ j = .int .i64 ((q : Nat) : Int) ∧ q ≤ 30 ∧ q ≤ nl ∧ TlIn w1 wr q oa na ca oe ne ce orr nr cr) (fun _ _ _ j _ => 30 - (intOf j).toNat)
    case atStart => exact ⟨0, none, 0, 0, none, 0, 0, none, 0, 0, rfl, rfl, rfl, rfl, by omega, by omega, [], [], ⟨owns_nil _, own_nil _, own_nil _, new_none _, new_none _, new_none _, rfl, fun j hj => by simp at hj, ⟨fun r hr => by cases hr⟩, Keeps.refl _ _⟩, rfl, rfl, rfl, rfl⟩
    case round =>
      rename World => wq
      obtain ⟨q, oa, na, ca, oe, ne, ce, orr, nr, cr, rfl, rfl, rfl, rfl, hq, hqn, l, vs, hTl, hna, hne, hnr, hlq⟩ := hrel
      have HT : Hid (Tl w1 wq oa ca oe ce orr cr l vs) := hTl
      have HL : Hid (na = (rowb l).length ∧ ne = l.length ∧ nr = l.length ∧ l.length = q ∧ vs.length = l.length) := ⟨hna, hne, hnr, hlq, hTl.len⟩
      have hnab : (na : Int) ≤ 3000240 := by have := rowb_len hTl.good; have : l.length * 100008 ≤ 30 * 100008 := Nat.mul_le_mul_right _ (by omega); omega
      clear hTl hna hne hnr hlq
      by_cases hqnl : q < nl
      · have hqnl' : (q : Int) < nl := by omega
        by_cases hq30 : q < 30
        · have hq30' : (q : Int) < 30 := by omega
          have hqs : q < ls.length := by have := HNL.out; omega
          obtain ⟨b, off, rfl, d0, d1, d2, d3, d4⟩ := (hsl.keepsN (HK1.out.trans HT.out.kp)).atQ hqs
          obtain ⟨xs, hPl⟩ := hok _ (getD_mem_lt pv0 hqs)
          have HPl : Hid (IsPl wq (ls.getD q pv0).id (ls.getD q pv0).o (ls.getD q pv0).n (ls.getD q pv0).c (ls.getD q pv0).sm (ls.getD q pv0).val xs) := hPl.keepsN (HK1.out.trans HT.out.kp)
          clear hPl hqs
          generalize ls.getD q pv0 = pv at d0 d1 d2 d3 d4 HPl
          obtain ⟨cmt, id, oK, nK, cK, sm, val⟩ := pv
          simp only at d0 d1 d2 d3 d4 HPl
          go_wp2_with fail
          refine (made_of HPl.out).mono ?_
          rintro e w2 ⟨k, i, op, np, cp, ok, nk, ck, r, rfl, HG, hk2⟩
          have HR : Hid (may r = true ∧ r.id < 18446744073709551616 ∧ (body r).length ≤ 100000) := ⟨HG.out.2.1, HG.out.1.fit.id, HG.out.2.2⟩
          have k3 : Keeps no w2 (w2.alloc (.cells #[.int .i64 k, .int .u64 (i : Nat), .slice op np cp, .slice ok nk ck] 30)) := (Keeps.refl _ _).alloc _
          have HK2 : Hid (Keeps no wq w2) := hk2
          clear d0 d1 d2 d3 d4 hk2
          go_wp2_with fail
          refine (Build_any _ k i op np cp ok nk ck r (HG.out.1.isC.keepsN k3) (ht.keepsN ((HK1.out.trans HT.out.kp).trans (HK2.out.trans k3)))).mono ?_
          rintro e w4 ⟨ob, nb, cb, rfl, hnb', hown4, hnew4, hk4⟩
          obtain ⟨he, hbb⟩ := encE_ok HR.out.1 (by have := HR.out.2.2; omega)
          rw [hbb] at hnb' hown4
          rw [he]
          have hb4 := hk4.at (blk_new w2 _) (fun h => h)
          have HB4 : Hid (w4.heap[w2.heap.size]? = some (.cells #[.int .i64 k, .int .u64 (i : Nat), .slice op np cp, .slice ok nk ck] 30 (0, 0))) := hb4
          have HK4 : Hid (Keeps no wq w4) := (HK2.out.trans k3).trans hk4
          have HG4 : Hid (Got wq w4 ⟨k, i, op, np, cp, ok, nk, ck⟩ r) := (HG.out.1.keepsN k3).keepsN hk4
          have HO4 : Hid (Owns w4 ob cb (enc r) ∧ New w4 none) := ⟨hown4, new_none _⟩
          have HR4 : Hid (BRow w4 ob (enc r)) := hown4.row (enc_byt r) (by have := enc_length r; have := HR.out.2.2; omega)
          have HA4 : Hid (Owns w4 oa ca (rowb l)) := HT.out.a.keeps HK4.out (fun _ _ h => h)
          have hnbb : (nb : Int) ≤ 100008 := by have := hnb'.out; rw [enc_length] at this; have := HR.out.2.2; omega
          have HE4 : Hid (Own IE w4 oe ce (ends l 0) ∧ ne = (ends l 0).length ∧ ne ≤ 30) := ⟨HT.out.e.keepsN HK4.out, by rw [ends_length]; exact HL.out.2.1, by have := HL.out; omega⟩
          have HC4 : Hid (Own CE w4 orr cr vs ∧ nr = vs.length ∧ nr ≤ 30) := ⟨HT.out.r.keepsN HK4.out, by rw [HL.out.2.2.2.2]; exact HL.out.2.2.1, by have := HL.out; omega⟩
          have HNA : Hid (na = (rowb l).length) := HL.out.1
          clear he hbb hown4 hnew4 hk4 hb4 k3 HG HK2
          go_wp2_with (at_builtin; first | (refine wpList_appB rfl _ _ rfl oa na ca (rowb l) rfl HNA.out HA4.out ob nb cb (enc r) rfl hnb'.out HO4.out.1.cap.2 HR4.out (by omega) ?_; intro o5 c5 w5 ho5 hfr5 hk5; have HO5 : Hid (Owns w5 o5 c5 (rowb l ++ enc r)) := ho5; have HF5 : Hid (Fresh w4 oa o5 ∧ Keeps (inO oa) w4 w5) := ⟨hfr5, hk5⟩; have HE5 : Hid (Own IE w5 oe ce (ends l 0)) := Owns.asideB (by decide) HE4.out.1 HA4.out hk5; have HC5 : Hid (Own CE w5 orr cr vs) := Owns.asideB (by decide) HC4.out.1 HA4.out hk5; have HB5 : Hid (w5.heap[w2.heap.size]? = some (.cells #[.int .i64 k, .int .u64 (i : Nat), .slice op np cp, .slice ok nk ck] 30 (0, 0))) := hk5.at HB4.out (fun hi => by rcases HA4.out.shape with ⟨e, _⟩ | ⟨g, cur, e, hg, _⟩; (obtain ⟨x, ex, _⟩ := hi; rw [e] at ex; cases ex); (obtain ⟨x, ex, hxb⟩ := hi; rw [e] at ex; cases ex; simp only at hxb; rw [hxb] at hg; rw [HB4.out] at hg; cases hg)); clear ho5 hfr5 hk5) | (refine wpList_app okI rfl _ _ rfl oe ne ce (ends l 0) rfl HE4.out.2.1 (HE5.out.keepsN ((Keeps.refl no w5).alloc _)) _ 1 1 [(((rowb l).length + (enc r).length : Nat) : Int)] rfl rfl (fun h => by cases h) (by rw [← HNA.out, ← hnb'.out]; exact (own_oneI w5 _).row) (by have := HE4.out; simp [IE]; omega) (by have := HE4.out; simp; omega) ?_; intro o6 c6 w6 ho6 hap6; have HO6 : Hid (Own IE w6 o6 c6 (ends l 0 ++ [(((rowb l).length + (enc r).length : Nat) : Int)])) := ho6; have HA6 : Hid (Ap (w5.alloc (.cells #[.int .i64 ((na + nb : Nat) : Int)] 3)) oe o6 w6) := hap6; have HC6 : Hid (Own CE w6 orr cr vs) := (HC5.out.keepsN ((Keeps.refl no w5).alloc _)).aside (E := IE) (F := CE) (by decide) (HE5.out.keepsN ((Keeps.refl no w5).alloc _)) hap6; have hb6 : w6.heap[w2.heap.size]? = some (.cells #[.int .i64 k, .int .u64 (i : Nat), .slice op np cp, .slice ok nk ck] 30 (0, 0)) := (by have hb5' := blk_alloc HB5.out (.cells #[.int .i64 ((na + nb : Nat) : Int)] 3); rcases hap6 with ⟨_, hh⟩ | ⟨_, hh⟩; (exact hh.at hb5' (fun hi => by rcases HE5.out.shape with ⟨e, _⟩ | ⟨g, cur, e, hg, _⟩; (obtain ⟨x, ex, _⟩ := hi; rw [e] at ex; cases ex); (obtain ⟨x, ex, hxb⟩ := hi; rw [e] at ex; cases ex; simp only at hxb; rw [hxb] at hg; rw [HB5.out] at hg; cases hg))); exact hh.at hb5' (fun h => h)); obtain ⟨y0, y1, y2, y3⟩ := cells4 hb6; clear ho6 hap6 hb6) | (refine wpList_app okC rfl _ _ rfl orr nr cr vs rfl HC4.out.2.1 (HC6.out.keepsN ((Keeps.refl no w6).alloc _)) _ 1 1 [⟨k, i, op, np, cp, ok, nk, ck⟩] rfl rfl (fun h => by cases h) (own_oneC w6 ⟨k, i, op, np, cp, ok, nk, ck⟩).row (by have := HC4.out; simp [CE]; omega) (by have := HC4.out; simp; omega) ?_; intro o7 c7 w7 ho7 hap7))
          go_roundw
          case rel =>
            have hpush := HT.out.push HK4.out HG4.out HR.out HO5.out HF5.out.1 HF5.out.2 ((Keeps.refl no w5).alloc _) HO6.out HA6.out ((Keeps.refl no w6).alloc _) ho7 hap7
            have hl := HL.out
            refine ⟨q + 1, o5, na + nb, c5, o6, ne + 1, c6, o7, nr + 1, c7, rfl, rfl, rfl, by go_num, by omega, by omega, l ++ [r], _, hpush, ?_, ?_, ?_, ?_⟩
            · rw [rowb_snoc, List.length_append, ← hl.1, ← hnb'.out]
            · rw [List.length_append, ← hl.2.1]; rfl
            · rw [List.length_append, ← hl.2.2.1]; rfl
            · rw [List.length_append, hl.2.2.2.1]; rfl
          case measure => simp [intOf]; omega
        · have hq30' : ¬ (q : Int) < 30 := by omega
          go_wp2_with fail
          go_meet
          case rel => exact ⟨q, oa, na, ca, oe, ne, ce, orr, nr, cr, rfl, rfl, rfl, hq, l, vs, HT.out, HL.out.1, HL.out.2.1, HL.out.2.2.1, HL.out.2.2.2.1⟩
      · have hqnl' : ¬ (q : Int) < nl := by omega
        go_wp2_with fail
        go_meet
        case rel => exact ⟨q, oa, na, ca, oe, ne, ce, orr, nr, cr, rfl, rfl, rfl, hq, l, vs, HT.out, HL.out.1, HL.out.2.1, HL.out.2.2.1, HL.out.2.2.2.1⟩
  case rest =>
  obtain ⟨q, oa, na, ca, oe, ne, ce, orr, nr, cr, rfl, rfl, rfl, hq, l, vs, hTl, hna, hne, hnr, hlq⟩ := hcut
  rename World => w2
  have HT : Hid (Tl w1 w2 oa ca oe ce orr cr l vs) := hTl
  have HL : Hid (na = (rowb l).length ∧ ne = l.length ∧ nr = l.length ∧ l.length = q ∧ vs.length = l.length) := ⟨hna, hne, hnr, hlq, hTl.len⟩
  have hnab : (na : Int) ≤ 3000240 := by have := rowb_len hTl.good; have : l.length * 100008 ≤ 30 * 100008 := Nat.mul_le_mul_right _ (by omega); omega
  have hneb : (ne : Int) ≤ 30 := by omega
  have hnrb : (nr : Int) ≤ 30 := by omega
  have HNA : Hid (na = (rowb l).length) := hna
  clear hTl hna hne hnr hlq
  go_upto_if 58 with fail
  go_cut [12] from 57 to 63 (fun v wc => ∃ N : Nat, v = .int .i64 (N : Nat) ∧ N ≤ na ∧ wc = w2)
  case first =>
    by_cases hat : 0 ≤ at_
    · have hat' : at_ ≥ 0 := hat
      obtain ⟨A, hA, hA2⟩ : ∃ A : Nat, at_ % ((na : Int) + 1) = (A : Int) ∧ A ≤ na := ⟨(at_ % ((na : Int) + 1)).toNat, by have := Int.emod_nonneg at_ (show ((na : Int) + 1) ≠ 0 by omega); omega, by have h3 := Int.emod_nonneg at_ (show ((na : Int) + 1) ≠ 0 by omega); have h4 := Int.emod_lt_of_pos at_ (show (0 : Int) < (na : Int) + 1 by omega); omega⟩
      have hA' : Int.tmod at_ ((na : Int) + 1) = (A : Int) := by rw [Int.tmod_eq_emod_of_nonneg hat]; exact hA
      have h8P : ¬ ((na : Int) + 1) = 0 := by omega
      go_wp2_with fail
      go_meet
      case rel => exact ⟨A, rfl, hA2, rfl⟩
    · have hat' : ¬ at_ ≥ 0 := hat
      go_wp2_with fail
      go_meet
      case rel => exact ⟨0, rfl, by omega, rfl⟩
  case rest =>
  obtain ⟨N, rfl, hN, rfl⟩ := hcut
  rename World => w2
  clear h1 h2
  have hNb : (N : Int) ≤ 3000240 := by omega
  have HBS : Hid (BSl w2 oa ca (rowb l)) := HT.out.a.bsl (rowb_byt l) (by have := HNA.out; omega)
  obtain ⟨hcut, hsl2⟩ := cut_hk .i64 w2 oa ca (rowb l) na N HNA.out hN HBS.out
  have HS2 : Hid (BSl w2 oa ca ((rowb l).take N)) := hsl2
  have HNT : Hid (N = ((rowb l).take N).length) := by show _ = _; rw [List.length_take, ← HNA.out]; omega
  clear hsl2
  go_wp2_with fail
  refine (own_any w2 oa N ca ((rowb l).take N) HNT.out (by omega) HS2.out).mono ?_
  rintro e w3 ⟨o3, n3, c3, rfl, hn3, hown3, hnew3, hk3⟩
  have hn3n : n3 = N := by rw [hn3.out, ← HNT.out]
  subst n3
  have HK3 : Hid (Keeps no w2 w3) := hk3
  have HO3 : Hid (Owns w3 o3 c3 ((rowb l).take N)) := hown3
  clear hown3 hnew3 hk3
  go_wp2_with fail
  refine (Scan_any w3 o3 N c3 ((rowb l).take N) HNT.out (by omega) (HO3.out.bsl HS2.out.row.1 HS2.out.row.2.1) (ht.keepsN ((HK1.out.trans HT.out.kp).trans HK3.out))).mono ?_
  rintro e w4 ⟨o4, n4, c4, t4, vs4, rs4, rfl, HSC, hn4, ht4, hk4⟩
  have HK4 : Hid (Keeps no w2 w4) := HK3.out.trans hk4
  have HE4 : Hid (Own IE w4 oe ce (ends l 0) ∧ ne = (ends l 0).length) := ⟨HT.out.e.keepsN HK4.out, by rw [ends_length]; exact HL.out.2.1⟩
  clear hk4 HK3 HO3
  go_upto_block 2 with fail
  go_cut [15, 16] from 72 to 89 (fun a b wc => ∃ Q E : Nat, a = .int .i64 (Q : Nat) ∧ b = .int .i64 (E : Nat) ∧ Hid (E = (rowb (l.take Q)).length ∧ Q ≤ l.length ∧ (Q < l.length → N < (rowb (l.take (Q + 1))).length)) ∧ E ≤ N ∧ Q ≤ ne ∧ wc = w4)
  case first =>
    go_wp2_with fail
    go_loop [15, 16] (fun a b => ∃ Q E : Nat, a = .int .i64 (Q : Nat) ∧ b = .int .i64 (E : Nat) ∧ Hid (E = (rowb (l.take Q)).length) ∧ E ≤ N ∧ Q ≤ ne) (fun a _ => ne - (intOf a).toNat)
    case atStart => exact ⟨0, 0, rfl, rfl, by show _ = _; simp [rowb], by omega, by omega⟩
    case round =>
      obtain ⟨Q, E, rfl, rfl, HE, hEN, hQ⟩ := hrel
      by_cases hQn : Q < ne
      · have hQn' : (Q : Int) < ne := by omega
        have hQl : Q < l.length := by have := HL.out; omega
        obtain ⟨b, off, e1, d1⟩ := HE4.out.1.sl.atI (j := Q) (by have := HE4.out.2; omega)
        rw [ends_getD l 0 Q hQl, Nat.zero_add] at d1
        obtain ⟨F, hF⟩ : ∃ F, F = (rowb (l.take (Q + 1))).length := ⟨_, rfl⟩
        rw [← hF] at d1
        have HF : Hid (F = (rowb (l.take (Q + 1))).length ∧ Q < l.length) := ⟨hF, hQl⟩
        have HOE : Hid (oe = some ⟨b, off, none⟩) := e1
        subst e1
        clear hF hQl
        by_cases hFN : F ≤ N
        · have hFN' : (F : Int) ≤ N := by omega
          go_wp2_with fail
          go_round
          case rel => exact ⟨Q + 1, F, by go_num, rfl, HF.out.1, hFN, by omega⟩
          case measure => simp [intOf]; omega
        · have hFN' : ¬ (F : Int) ≤ N := by omega
          go_wp2_with fail
          go_meet
          case rel => exact ⟨Q, E, rfl, rfl, ⟨HE.out, by have := HF.out.2; omega, fun _ => by rw [← HF.out.1]; omega⟩, hEN, hQ, rfl⟩
      · have hQn' : ¬ (Q : Int) < ne := by omega
        go_wp2_with fail
        go_meet
        case rel => exact ⟨Q, E, rfl, rfl, ⟨HE.out, by have := HL.out; omega, fun h => by have := HL.out; omega⟩, hEN, hQ, rfl⟩
  case rest =>
  obtain ⟨Q, E, rfl, rfl, HQE, hEN, hQne, rfl⟩ := hcut
  rename World => w4
  have hrun := tails_run HT.out.good (n := N) (by rw [← HNA.out]; exact hN) Q HQE.out.2.1 (by rw [← HQE.out.1]; exact hEN)
  have htorn := tails_torn HT.out.good (n := N) (by rw [← HNA.out]; exact hN) HQE.out.2.1 (by rw [← HQE.out.1]; exact hEN) HQE.out.2.2
  rw [← HQE.out.1] at hrun htorn
  obtain ⟨hrs, htt⟩ := HSC.out.2.2.1.one (e := 0) (e' := 0) hrun HSC.out.2.2.2 (by rw [htorn]; decide)
  subst htt
  have HRS : Hid (rs4 = l.take Q) := hrs
  have HTORN : Hid (parse (((rowb l).take N).drop t4) = (c0, 0, 91)) := htorn
  have hn4Q : n4 = Q := by rw [HSC.out.2.1, hrs, List.length_take]; have := HQE.out.2.1; omega
  subst hn4Q
  clear hrun htorn hrs
  have HSCN : Hid (Scn w3 w4 o4 c4 vs4 rs4 ∧ vs4.length = n4 ∧ rs4.length = n4) := ⟨HSC.out.1, by rw [HSC.out.1.len]; exact HSC.out.2.1.symm, HSC.out.2.1.symm⟩
  go_upto_block 4 with fail
  go_cut [17] from 99 to 113 (fun _ wc => Keeps no w4 wc)
  case first =>
    go_wp2_with fail
    go_loopw [17] (fun j wr => ∃ J : Nat, j = .int .i64 (J : Nat) ∧ J ≤ n4 ∧ Hid (Keeps no w4 wr)) (fun j _ => n4 - (intOf j).toNat)
    case atStart => exact ⟨0, rfl, by omega, Keeps.refl _ _⟩
    case round =>
      rename World => wq
      obtain ⟨J, rfl, hJ, HKJ⟩ := hrel
      by_cases hJn : J < n4
      · have hJn' : (J : Int) < n4 := by omega
        obtain ⟨b1, off1, rfl, d0, d1, d2, d3⟩ := (HSCN.out.1.own.sl.keepsN HKJ.out).atC (j := J) (by have := HSCN.out.2.1; omega)
        obtain ⟨b2, off2, rfl, g0, g1, g2, g3⟩ := (HT.out.r.sl.keepsN (HK4.out.trans HKJ.out)).atC (j := J) (by have := HL.out; have := HQE.out.2.1; omega)
        have hc1 := ((HSCN.out.1.each J (by have := HSCN.out.2.2; omega)).keepsN HKJ.out).isC
        have hc2 := ((HT.out.each J (by have := HQE.out.2.1; omega)).keepsN (HK4.out.trans HKJ.out)).isC
        have hreq : rs4.getD J c0 = l.getD J c0 := by
          rw [HRS.out]
          simp only [List.getD_eq_getElem?_getD]
          rw [List.getElem?_take_of_lt hJn]
        rw [hreq] at hc1
        have HC1 : Hid (IsC wq (vs4.getD J cv0) (l.getD J c0)) := hc1
        have HC2 : Hid (IsC wq (vs.getD J cv0) (l.getD J c0)) := hc2
        clear hc1 hc2 hreq
        generalize vs4.getD J cv0 = v1 at d0 d1 d2 d3 HC1
        generalize vs.getD J cv0 = v2 at g0 g1 g2 g3 HC2
        generalize l.getD J c0 = rr at HC1 HC2
        obtain ⟨k1, i1, op1, np1, cp1, ok1, nk1, ck1⟩ := v1
        obtain ⟨k2, i2, op2, np2, cp2, ok2, nk2, ck2⟩ := v2
        simp only at d0 d1 d2 d3 g0 g1 g2 g3
        have hJr : (J : Int) < nr := by have := HL.out; have := HQE.out.2.1; omega
        go_wp2_with fail
        go_region_held3 (fun w' => w'.cell? ⟨b1, off1 + J * 4, none⟩ = some (.int .i64 k1) ∧ w'.cell? ⟨b1, off1 + J * 4 + 1, none⟩ = some (.int .u64 (i1 : Nat)) ∧ w'.cell? ⟨b1, off1 + J * 4 + 2, none⟩ = some (.slice op1 np1 cp1) ∧ w'.cell? ⟨b1, off1 + J * 4 + 3, none⟩ = some (.slice ok1 nk1 ck1) ∧ w'.cell? ⟨b2, off2 + J * 4, none⟩ = some (.int .i64 k2) ∧ w'.cell? ⟨b2, off2 + J * 4 + 1, none⟩ = some (.int .u64 (i2 : Nat)) ∧ w'.cell? ⟨b2, off2 + J * 4 + 2, none⟩ = some (.slice op2 np2 cp2) ∧ w'.cell? ⟨b2, off2 + J * 4 + 3, none⟩ = some (.slice ok2 nk2 ck2)) (go_keep) ((go_at_call 15; refine (sameR_any _ k1 i1 op1 np1 cp1 ok1 nk1 ck1 rr (HC1.out.keepsN (Keeps.refl no wq).drew) k2 i2 op2 np2 cp2 ok2 nk2 ck2 rr (HC2.out.keepsN (Keeps.refl no wq).drew)).mono ?_; rintro e w9 ⟨⟨B1, rfl, hB1⟩, hk9⟩; have hB1t : B1 = true := hB1.out.2 rfl; subst hB1t; have HK9 : Hid (Keeps no wq w9) := (Keeps.refl no wq).drew.trans hk9; have d0' := HK9.out.cellN d0; have d1' := HK9.out.cellN d1; have d2' := HK9.out.cellN d2; have d3' := HK9.out.cellN d3; have g0' := HK9.out.cellN g0; have g1' := HK9.out.cellN g1; have g2' := HK9.out.cellN g2; have g3' := HK9.out.cellN g3; clear hB1 hk9))
        go_wp2_with fail
        go_roundw
        case rel => exact ⟨J + 1, by go_num, by omega, HKJ.out.trans HK9.out⟩
        case measure => simp [intOf]; omega
      · have hJn' : ¬ (J : Int) < n4 := by omega
        go_wp2_with fail
        go_meet
        case rel => exact HKJ.out
  case rest =>
  rename World => w5
  have HK5 : Hid (Keeps no w2 w5) := HK4.out.trans hcut
  obtain ⟨A, d, hcutL, hslL⟩ := cut_lh w5 oa ca (rowb l) na t4 N HNA.out hEN hN (HBS.out.keeps HK5.out (fun _ _ h => h))
  have HSL : Hid (BSl w5 A d (((rowb l).take N).drop t4)) := hslL
  have HLL : Hid (N - t4 = (((rowb l).take N).drop t4).length) := by show _ = _; rw [List.length_drop, ← HNT.out]
  obtain ⟨M, hM⟩ : ∃ M, M = N - t4 := ⟨_, rfl⟩
  rw [← hM] at hcutL HLL
  have hMb : (M : Int) ≤ 3000240 := by omega
  clear hslL hM hcut
  go_wp2_with fail
  refine (own_any w5 A M d _ HLL.out (by omega) HSL.out).mono ?_
  rintro e w6 ⟨o6, n6, c6, rfl, hn6, hown6, hnew6, hk6⟩
  have hn6n : n6 = M := by rw [hn6.out, ← HLL.out]
  subst n6
  have HO6 : Hid (Owns w6 o6 c6 (((rowb l).take N).drop t4)) := hown6
  have HK6 : Hid (Keeps no w w6) := ((HK1.out.trans HT.out.kp).trans HK5.out).trans hk6
  clear hown6 hnew6 hk6
  go_wp2_with fail
  refine (Parse_any w6 o6 M c6 _ HLL.out (by omega) (HO6.out.bsl HSL.out.row.1 HSL.out.row.2.1) (ht.keepsN HK6.out)).mono ?_
  rintro e w7 ⟨k1, i1, op1, np1, cp1, ok1, nk1, ck1, M1, E1, rfl, HP1, hM1, hE1, hk7⟩
  have hP1 := HP1.out
  rw [HTORN.out] at hP1
  obtain ⟨_, _, rfl⟩ := hP1
  go_wp2_with fail
  go_ret
  exact ⟨rfl, (HK6.out.trans hk7).alloc _⟩
end Go.Proofs.YtdalheeifgampaaDoor
