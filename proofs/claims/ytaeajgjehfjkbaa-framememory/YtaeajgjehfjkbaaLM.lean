/- FrameMemory: the walk. -/
import Derived.Test.YtaeajgjehfjkbaaM2
import Derived.BigRegion
import Derived.Deep.RegionHeld3
namespace Go.Proofs.Ytaeajgjehfjkbaa
open Go.RowKit
set_option linter.unusedVariables false
set_option linter.unusedSimpArgs false

theorem own_addr {w : World} {o : Option Addr} {c : Nat} {xs : Bs} (h : Own BE w o c xs) (h0 : 0 < xs.length) : ∃ g, o = some ⟨g, 0, none⟩ := by
  rcases h.shape with ⟨_, _, e⟩ | ⟨g, cur, e, _⟩
  · rw [e] at h0; simp at h0
  · exact ⟨g, e⟩
theorem bv_add (x : UInt8) : IntKind.u8.wrap ((x.toNat : Int) + 1) = ((UInt8.ofNat (x.toNat + 1)).toNat : Int) := by
  rw [IntKind.wrap_u8]
  simp only [UInt8.toNat_ofNat']
  omega

set_option maxRecDepth 100000 in
set_option maxHeartbeats 0 in
theorem frameMemory_any (w : World) (a0 : Option Addr) (n c0 : Nat) (bs : Bs) (hn : n = bs.length) (hs : Sl BE w a0 c0 bs) (hl : bs.length ≤ 140737488351232) :
    Calls Try.prog 6 #[.slice a0 n c0] w fun e w' => e = .returned (.bool true) ∧ Keeps no w w' := by
  have HN : Hid (n = bs.length) := hn
  have HS : Hid (Sl BE w a0 c0 bs) := hs
  have hnl : (n : Int) ≤ 140737488351232 := by omega
  clear hn hs hl
  go_enter Try.func6, Try.ntmps6
  go_wp2_with fail
  refine (alive_any w).mono ?_
  rintro e w1 ⟨rfl, hk1⟩
  have HK1 : Hid (Keeps no w w1) := hk1
  clear hk1
  by_cases hbig : 100000 < (n : Int)
  · go_wp2_with fail
    go_ret
    exact ⟨rfl, HK1.out⟩
  have hsm : (n : Int) ≤ 100000 := by omega
  clear hbig hnl
  go_wp2_with fail
  refine (own_any w1 a0 n c0 bs HN.out (HS.out.keepsN HK1.out) (by have := HN.out; omega)).mono ?_
  rintro e w2 ⟨v, rfl, o2, m2, c2, rfl, hm2, ho2, hn2, hk2⟩
  obtain rfl : m2 = n := hm2.out.trans HN.out.symm
  have HO2 : Hid (Own BE w2 o2 c2 bs ∧ New w1 o2 ∧ Keeps no w1 w2) := ⟨ho2, hn2, hk2⟩
  clear hm2 ho2 hn2 hk2
  go_wp2_with (at_builtin; go_must (refine wpList_app okB rfl _ _ rfl o2 _ c2 bs rfl HN.out (HO2.out.1.keepsN ((Keeps.refl _ _).alloc _)) _ _ _ [161, 162] rfl rfl (fun e => by cases e) (lit_row okB w2 [161, 162] _ _ rfl) (by have := HN.out; simp [BE]; omega) (by have := HN.out; simp; omega) ?_); intro oF cF w3 ho3 hap3; obtain ⟨gF, egF⟩ := own_addr ho3 (by simp); subst egF; have HN3 : Hid (New w1 (some (Addr.mk gF 0 none)) ∧ Keeps no w1 w3) := hap3.new (w0 := w1) HO2.out.2.1 (HO2.out.2.2.alloc _); have HF : Hid (Own BE w3 (some (Addr.mk gF 0 none)) cF (bs ++ [161, 162])) := ho3; have HTF : Hid (Row BE w3 (some (Addr.mk gF 0 none)) bs) := (by have h1 := ho3.row.take okB m2; rw [HN.out, List.take_left] at h1; exact h1); have HCF : Hid (m2 + 2 ≤ cF) := (by show _ ≤ _; have h1 := ho3.cap.1; rw [List.length_append, ← HN.out] at h1; exact h1); have hcF1 : m2 ≤ cF := (by have := HCF.out; omega); have hcF2 : (m2 : Int) ≤ (cF : Int) := (by omega); clear ho3 hap3 HO2)
  refine (build_k w3 (some (Addr.mk gF 0 none)) m2 cF bs HN.out ⟨HTF.out, by rw [← HN.out]; have := HCF.out; omega, fun e => by cases e⟩ (by omega)).mono ?_
  rintro e w4 ⟨oa, ca, rfl, ho4, hn4, hk4⟩
  have HA : Hid (Own BE w4 oa ca (fr bs) ∧ New w3 oa ∧ Keeps no w3 w4) := ⟨ho4, hn4, hk4⟩
  clear ho4 hn4 hk4
  go_wp2_with fail
  refine (build_k w4 (some (Addr.mk gF 0 none)) m2 cF bs HN.out ⟨HTF.out.keepsN HA.out.2.2, by rw [← HN.out]; have := HCF.out; omega, fun e => by cases e⟩ (by omega)).mono ?_
  rintro e w5 ⟨ob, cb, rfl, ho5, hn5, hk5⟩
  have HB : Hid (Own BE w5 ob cb (fr bs) ∧ New w4 ob ∧ Keeps no w4 w5) := ⟨ho5, hn5, hk5⟩
  have HFL : Hid (m2 + 4 = (fr bs).length) := by show _ = _; rw [fr_len, ← HN.out, Nat.add_comm]
  have HK5 : Hid (Keeps no w w5 ∧ Keeps no w3 w5) := ⟨((HK1.out.trans HN3.out.2).trans HA.out.2.2).trans hk5, HA.out.2.2.trans hk5⟩
  clear ho5 hn5 hk5
  have HF5 : Hid (Own BE w5 (some (Addr.mk gF 0 none)) cF (bs ++ [161, 162])) := HF.out.keepsN HK5.out.2
  have q1 : (bs ++ [161, 162]).getD m2 0 = 161 := by rw [HN.out]; simp [List.getD_eq_getElem?_getD]
  have q2 : (bs ++ [161, 162]).getD (m2 + 1) 0 = 162 := by rw [HN.out]; simp [List.getD_eq_getElem?_getD, List.getElem?_append_right]
  obtain ⟨_, _, e, d1⟩ := rowB_at HF5.out.row (j := m2) (by rw [List.length_append, ← HN.out]; simp)
  cases e
  obtain ⟨_, _, e, d2⟩ := rowB_at HF5.out.row (j := m2 + 1) (by rw [List.length_append, ← HN.out]; simp)
  cases e
  rw [q1, Nat.zero_add, show bv 161 = .int .u8 161 from rfl] at d1
  rw [q2, Nat.zero_add, show bv 162 = .int .u8 162 from rfl] at d2
  clear q1 q2
  go_wp2_with fail
  refine (same_yes w5 oa (m2 + 4) ca ob (m2 + 4) cb (fr bs) HFL.out HFL.out (HA.out.1.row.keepsN HB.out.2.2) HB.out.1.row).mono ?_
  rintro e wx ⟨rfl, ex⟩
  subst wx
  go_wp2_with fail
  refine (same_yes w5 (some (Addr.mk gF 0 none)) m2 cF a0 m2 c0 bs HN.out HN.out (HTF.out.keepsN HK5.out.2) (HS.out.row.keepsN HK5.out.1)).mono ?_
  rintro e wx ⟨rfl, ex⟩
  subst wx
  go_wp2_with fail
  go_loopw [10] (fun i wr => ∃ k : Nat, k ≤ m2 ∧ i = .int .i64 k ∧ Hid (∃ xs : Bs, xs.length = m2 + 2 ∧ Own BE wr (some (Addr.mk gF 0 none)) cF xs ∧ Keeps (inO (some (Addr.mk gF 0 none))) w5 wr)) (fun i _ => m2 - (intOf i).toNat)
  case atStart => exact ⟨0, by omega, rfl, ⟨_, by rw [List.length_append, ← HN.out]; rfl, HF5.out, Keeps.refl _ _⟩⟩
  case round =>
    rename World => w6
    obtain ⟨k, hk, rfl, HI⟩ := hrel
    clear d1 d2
    by_cases hlt : k < m2
    · obtain ⟨xs, hxl, hxo, hxk⟩ := HI.out
      obtain ⟨g, eg, d1, f1, hO2, hK2⟩ := hxo.store k (by omega) (UInt8.ofNat ((xs.getD k 0).toNat + 1))
      cases eg
      obtain ⟨x, hx⟩ : ∃ x, x = xs.getD k 0 := ⟨_, rfl⟩
      rw [← hx] at d1 hO2 hK2
      have hadd := bv_add x
      have hx5 : (x.toNat : Int) < 256 := by have := x.toNat_lt; omega
      simp only [bv] at d1 hO2 hK2
      obtain ⟨y, hy⟩ : ∃ y, y = ((UInt8.ofNat (x.toNat + 1)).toNat : Int) := ⟨_, rfl⟩
      obtain ⟨xn, hxn⟩ : ∃ xn, xn = x.toNat := ⟨_, rfl⟩
      rw [← hy] at hadd hO2 hK2
      rw [← hxn] at hadd d1 hx5
      have HO2 : Hid (Own BE (w6.setCell ⟨gF, k, none⟩ (.int .u8 y)) (some (Addr.mk gF 0 none)) cF (xs.set k (UInt8.ofNat (x.toNat + 1))) ∧ Keeps (inO (some (Addr.mk gF 0 none))) w5 (w6.setCell ⟨gF, k, none⟩ (.int .u8 y)) ∧ xs.length = m2 + 2) := ⟨hO2, hxk.trans hK2, hxl⟩
      clear hO2 hK2 hxk hxo hy hxn hx hxl HI
      go_wp2_with fail
      go_roundw
      case rel => exact ⟨k + 1, by omega, by go_num, ⟨_, by rw [List.length_set]; exact HO2.out.2.2, HO2.out.1, HO2.out.2.1⟩⟩
      case measure => simp [intOf]; omega
    · have hkn : k = m2 := by omega
      subst k
      have HK6 : Hid (Keeps (inO (some (Addr.mk gF 0 none))) w5 w6) := by obtain ⟨xs, _, _, h⟩ := HI.out; exact h
      have HFB : Hid (∀ k, inO (some (Addr.mk gF 0 none)) k → w.heap.size ≤ k ∧ k < w3.heap.size) := fun k hk => ⟨by have := HN3.out.1 k hk; have := HK1.out.size; omega, HF.out.lt k hk⟩
      have HA6 : Hid (Own BE w6 oa ca (fr bs)) := (HA.out.1.keepsN HB.out.2.2).keeps HK6.out (fun k h1 h2 => by have := HA.out.2.1 k h1; have := (HFB.out k h2).2; omega)
      have HB6 : Hid (Own BE w6 ob cb (fr bs)) := HB.out.1.keeps HK6.out (fun k h1 h2 => by have := HB.out.2.1 k h1; have := (HFB.out k h2).2; have := HA.out.2.2.size; omega)
      have HKW6 : Hid (Keeps no w w6) := HK5.out.1.then HK6.out (fun i hi => .inr (HFB.out i hi).1)
      clear HI hlt hk HTF HCF HF5
      go_wp2_with fail
      refine (own_any w6 oa (m2 + 4) ca (fr bs) HFL.out HA6.out.sl (by have := HFL.out; omega)).mono ?_
      rintro e w7 ⟨v, rfl, o7, m7, c7, rfl, hm7, ho7, hn7, hk7⟩
      obtain rfl : m7 = m2 + 4 := hm7.out.trans HFL.out.symm
      have HO7 : Hid (Own BE w7 o7 c7 (fr bs) ∧ New w6 o7 ∧ Keeps no w6 w7) := ⟨ho7, hn7, hk7⟩
      clear hm7 ho7 hn7 hk7
      go_wp2_with (at_builtin; first | (refine wpList_app okB rfl _ _ rfl o7 _ c7 (fr bs) rfl HFL.out HO7.out.1 ob _ cb (fr bs) rfl HFL.out HB6.out.sl.nil (HB6.out.row.keepsN HO7.out.2.2) (by have := HFL.out; simp [BE]; omega) (by have := HFL.out; omega) ?_; intro o8 c8 w8 ho8 hap8; have HN8 : Hid (New w6 o8 ∧ Keeps no w6 w8) := hap8.new (w0 := w6) HO7.out.2.1 HO7.out.2.2; have HO8 : Hid (Own BE w8 o8 c8 (fr bs ++ fr bs)) := ho8; clear ho8 hap8) | (refine wpList_app okB rfl _ _ rfl o8 _ c8 (fr bs ++ fr bs) rfl (by rw [List.length_append, ← HFL.out]) (HO8.out.keepsN ((Keeps.refl _ _).alloc _)) _ _ _ [0, 0, 0, 9, 5] rfl rfl (fun e => by cases e) (lit_row okB w8 [0, 0, 0, 9, 5] _ _ rfl) (by have := HFL.out; simp [BE]; omega) (by have := HFL.out; simp; omega) ?_; intro o9 c9 w9 ho9 hap9; have HN9 : Hid (New w6 o9 ∧ Keeps no w6 w9) := hap9.new (w0 := w6) HN8.out.1 (HN8.out.2.alloc _); have HO9 : Hid (Own BE w9 o9 c9 (raw0 bs)) := ho9; clear ho9 hap9; generalize hQ : m2 + 4 + (m2 + 4) + 5 = Q; have HQ : Hid (m2 + 4 + (m2 + 4) + 5 = Q) := hQ; have hQ5 : (Q : Int) ≤ 300000 := (by omega); clear hQ) | (go_must (refine wpList_app okB rfl _ _ rfl o9 _ c9 (raw0 bs) rfl (by rw [raw_len, ← HN.out]; exact HQ.out.symm) (HO9.out.keepsN ((Keeps.refl _ _).alloc _)) _ _ _ [177, 178] rfl rfl (fun e => by cases e) (lit_row okB w9 [177, 178] _ _ rfl) (by have := HN.out; have := raw_len bs; simp [BE]; omega) (by have := HN.out; have := raw_len bs; simp; omega) ?_); intro oW cW w10 ho10 hap10; obtain ⟨gW, egW⟩ := own_addr ho10 (by simp); subst egW; have HN10 : Hid (New w6 (some (Addr.mk gW 0 none)) ∧ Keeps no w6 w10) := hap10.new (w0 := w6) HN9.out.1 (HN9.out.2.alloc _); have HO10 : Hid (Own BE w10 (some (Addr.mk gW 0 none)) cW (raw0 bs ++ [177, 178])) := ho10; have HRL : Hid ((raw0 bs).length = Q) := (by show _ = _; rw [raw_len, ← HN.out]; exact HQ.out); have HCW : Hid (Q + 2 ≤ cW) := (by show _ ≤ _; have h1 := ho10.cap.1; rw [List.length_append, HRL.out] at h1; exact h1); have hcW1 : Q ≤ cW := (by have := HCW.out; omega); have hcW2 : (Q : Int) ≤ (cW : Int) := (by omega); clear ho10 hap10))
      have HRW : Hid (Row BE w10 (some (Addr.mk gW 0 none)) (raw0 bs)) := by
        have h1 := HO10.out.row.take okB Q
        rw [← HRL.out, List.take_left] at h1
        exact h1
      have HR2 : Hid (Q + 2 = (raw0 bs ++ [177, 178]).length) := by show _ = _; rw [List.length_append, HRL.out]; rfl
      have HSP : Hid (split (raw0 bs) = some ([bs, bs], [0, 0, 0, 9, 5])) := raw_split bs (by have := HN.out; omega)
      refine (own_any w10 (some (Addr.mk gW 0 none)) (Q + 2) cW (raw0 bs ++ [177, 178]) HR2.out HO10.out.sl (by have := HR2.out; omega)).mono ?_
      rintro e w11 ⟨v, rfl, oS, mS, cS, rfl, hmS, ho11, hn11, hk11⟩
      obtain rfl : mS = Q + 2 := hmS.out.trans HR2.out.symm
      have HO11 : Hid (Own BE w11 oS cS (raw0 bs ++ [177, 178]) ∧ Keeps no w10 w11) := ⟨ho11, hk11⟩
      clear hmS ho11 hn11 hk11
      go_wp2_with fail
      refine (split_known w11 (some (Addr.mk gW 0 none)) Q cW (raw0 bs) HRL.out.symm ⟨HRW.out.keepsN HO11.out.2, by rw [HRL.out]; omega, fun e => by cases e⟩ (by omega) _ _ HSP.out 2 5 rfl rfl).mono ?_
      rintro e w12 ⟨oL, cL, ls, oX, cX, rfl, hls, hS1⟩
      have HS1 : Hid (Spl w11 w12 oL cL ls oX cX [0, 0, 0, 9, 5] ∧ bods ls = [bs, bs]) := ⟨hS1, hls⟩
      have HK12 : Hid (Keeps no w10 w12) := HO11.out.2.trans hS1.h.kp
      clear hls hS1
      go_wp2_with fail
      refine (split_known w12 (some (Addr.mk gW 0 none)) Q cW (raw0 bs) HRL.out.symm ⟨HRW.out.keepsN HK12.out, by rw [HRL.out]; omega, fun e => by cases e⟩ (by omega) _ _ HSP.out 2 5 rfl rfl).mono ?_
      rintro e w13 ⟨oK, cK, ks, oY, cY, rfl, hks, hS2⟩
      have HS2 : Hid (Spl w12 w13 oK cK ks oY cY [0, 0, 0, 9, 5] ∧ bods ks = [bs, bs]) := ⟨hS2, hks⟩
      have HK13 : Hid (Keeps no w10 w13) := HK12.out.trans hS2.h.kp
      have HL13 : Hid (Spl w11 w13 oL cL ls oX cX [0, 0, 0, 9, 5]) := HS1.out.1.keepsN hS2.h.kp
      clear hks hS2
      go_wp2_with fail
      refine (same_yes w13 oX 5 cX oY 5 cY [0, 0, 0, 9, 5] rfl rfl HL13.out.rest.row HS2.out.1.rest.row).mono ?_
      rintro e wx ⟨rfl, ex⟩
      subst wx
      go_wp2_with fail
      refine (same_yes w13 (some (Addr.mk gW 0 none)) (Q + 2) cW oS (Q + 2) cS (raw0 bs ++ [177, 178]) HR2.out HR2.out (HO10.out.keepsN HK13.out).row (HO11.out.1.keepsN (HS1.out.1.h.kp.trans HS2.out.1.h.kp)).row).mono ?_
      rintro e wx ⟨rfl, ex⟩
      subst wx
      go_wp2_with fail
      refine (sameLists_yes w13 oL 2 cL oK 2 cK ls ks (two_each HS1.out.2).1.symm (two_each HS2.out.2).1.symm (by omega) HL13.out.h.lst HS2.out.1.h.lst (HS1.out.2.trans HS2.out.2.symm)).mono ?_
      rintro e w14 ⟨rfl, hk14⟩
      have HK14 : Hid (Keeps no w13 w14) := hk14
      have HW14 : Hid (Own BE w14 (some (Addr.mk gW 0 none)) cW (raw0 bs ++ [177, 178])) := HO10.out.keepsN (HK13.out.trans hk14)
      clear hk14
      go_wp2_with fail
      go_loopw [20] (fun i wr => ∃ k : Nat, k ≤ Q + 2 ∧ i = .int .i64 k ∧ Hid (∃ xs : Bs, xs.length = Q + 2 ∧ Own BE wr (some (Addr.mk gW 0 none)) cW xs ∧ Keeps (inO (some (Addr.mk gW 0 none))) w14 wr)) (fun i _ => Q + 2 - (intOf i).toNat)
      case atStart => exact ⟨0, by omega, rfl, ⟨_, HR2.out.symm, HW14.out, Keeps.refl _ _⟩⟩
      case round =>
        rename World => w15
        obtain ⟨k, hk, rfl, HI⟩ := hrel
        by_cases hlt : k < Q + 2
        · obtain ⟨xs, hxl, hxo, hxk⟩ := HI.out
          obtain ⟨g, eg, d1, f1, hO2, hK2⟩ := hxo.store k (by omega) 238
          cases eg
          obtain ⟨x, hx⟩ : ∃ x, x = bv (xs.getD k 0) := ⟨_, rfl⟩
          rw [← hx] at d1
          rw [show bv 238 = .int .u8 238 from rfl] at hO2 hK2
          have HO2 : Hid (Own BE (w15.setCell ⟨gW, k, none⟩ (.int .u8 238)) (some (Addr.mk gW 0 none)) cW (xs.set k 238) ∧ Keeps (inO (some (Addr.mk gW 0 none))) w14 (w15.setCell ⟨gW, k, none⟩ (.int .u8 238)) ∧ xs.length = Q + 2) := ⟨hO2, hxk.trans hK2, hxl⟩
          clear hO2 hK2 hxk hxo hx hxl HI
          go_wp2_with fail
          go_roundw
          case rel => exact ⟨k + 1, by omega, by go_num, ⟨_, by rw [List.length_set]; exact HO2.out.2.2, HO2.out.1, HO2.out.2.1⟩⟩
          case measure => simp [intOf]; omega
        · have hkn : k = Q + 2 := by omega
          have HFN : Hid (Fin w w15 bs oa ob ca cb oL cL ls oK cK ks oX cX oY cY (nums w3.heap.size w4.heap.size w11.heap.size w12.heap.size w13.heap.size)) := by
            obtain ⟨xs, _, _, hk15⟩ := HI.out
            exact fin_of (HK1.out.trans HN3.out.2) HA.out.1 HA.out.2.1 HA.out.2.2 HB.out.1 HB.out.2.1 HB.out.2.2 HFB.out HK6.out (HN10.out.2.trans HO11.out.2) (fun k hk => ⟨HN10.out.1 k hk, Nat.lt_of_lt_of_le (HO10.out.lt k hk) HO11.out.2.size⟩) HS1.out.1 HS1.out.2 HS2.out.1 HS2.out.2 HK14.out HW14.out hk15
          clear HI hlt hk HW14 HK14 HS1 HS2 HO10 HO11 HN10 HRW HSP HA HB HK6 HFB HF HN3 HK5
          obtain ⟨tl, xl⟩ := two_each HFN.out.hl
          obtain ⟨tk, xk⟩ := two_each HFN.out.hk
          obtain ⟨bL, fL, eL, d0⟩ := rowX_at HFN.out.l.row (j := 0) (by omega)
          subst eL
          obtain ⟨_, _, e, d1⟩ := rowX_at HFN.out.l.row (j := 1) (by omega)
          cases e
          obtain ⟨bK, fK, eK, d2⟩ := rowX_at HFN.out.k.row (j := 0) (by omega)
          subst eK
          obtain ⟨_, _, e, d3⟩ := rowX_at HFN.out.k.row (j := 1) (by omega)
          cases e
          rw [xl 0 (by omega), ← HN.out, Nat.add_zero] at d0
          rw [xl 1 (by omega), ← HN.out] at d1
          rw [xk 0 (by omega), ← HN.out, Nat.add_zero] at d2
          rw [xk 1 (by omega), ← HN.out] at d3
          have HST := fun C hC => HFN.out.start (by have := HN.out; omega) C hC
          have r0 := (HFN.out.le 0 (by omega)).row
          have r1 := (HFN.out.le 1 (by omega)).row
          have HALL : all8 bs oa ob ca cb ls ks oX cX oY cY = [⟨oa, ca, fr bs⟩, ⟨ob, cb, fr bs⟩, ⟨(ls.getD 0 ls0).o, (ls.getD 0 ls0).c, bs⟩, ⟨(ls.getD 1 ls0).o, (ls.getD 1 ls0).c, bs⟩, ⟨(ks.getD 0 ls0).o, (ks.getD 0 ls0).c, bs⟩, ⟨(ks.getD 1 ls0).o, (ks.getD 1 ls0).c, bs⟩, ⟨oX, cX, [0, 0, 0, 9, 5]⟩, ⟨oY, cY, [0, 0, 0, 9, 5]⟩] := rfl
          obtain ⟨L0, hL0⟩ : ∃ L0, L0 = all8 bs oa ob ca cb ls ks oX cX oY cY := ⟨_, rfl⟩
          rw [← hL0] at HST HALL
          obtain ⟨X0, hX0⟩ : ∃ X, X = ls.getD 0 ls0 := ⟨_, rfl⟩
          obtain ⟨X1, hX1⟩ : ∃ X, X = ls.getD 1 ls0 := ⟨_, rfl⟩
          obtain ⟨Y0, hY0⟩ : ∃ X, X = ks.getD 0 ls0 := ⟨_, rfl⟩
          obtain ⟨Y1, hY1⟩ : ∃ X, X = ks.getD 1 ls0 := ⟨_, rfl⟩
          rw [← hX0] at d0 r0 HALL
          rw [← hX1] at d1 r1 HALL
          rw [← hY0] at d2 HALL
          rw [← hY1] at d3 HALL
          have HCC : Hid (#[Value.slice oa (m2 + 4) ca, .slice ob (m2 + 4) cb, .slice X0.o m2 X0.c, .slice X1.o m2 X1.c, .slice Y0.o m2 Y0.c, .slice Y1.o m2 Y1.c, .slice oX 5 cX, .slice oY 5 cY].toList = XE.cells L0) := by
            show _ = _
            rw [cells_X, HALL]
            simp only [List.map_cons, List.map_nil, ← HFL.out, ← HN.out]
            rfl
          have HNS : Hid (L0.map (fun x => x.xs.length) = [m2 + 4, m2 + 4, m2, m2, m2, m2, 5, 5] ∧ L0.length = 8) := by
            refine ⟨?_, by rw [HALL]; rfl⟩
            rw [HALL]
            simp only [List.map_cons, List.map_nil, ← HFL.out, ← HN.out]
            rfl
          have HST : Hid (∀ C : Array Value, C.toList = XE.cells L0 → St w 8 (some ⟨w15.heap.size, 0, none⟩) 8 (L0.map (fun x => x.xs.length)) 0 none 0 L0 (w15.alloc (.cells C 24))) := HST
          have HR : Hid (Row BE w15 X0.o bs ∧ Row BE w15 X1.o bs ∧ Row BE w15 a0 bs) := ⟨r0, r1, HS.out.row.keepsN HFN.out.kp⟩
          obtain ⟨A4, d4, hcut4, hs4⟩ := cutL' w15 oa ca (fr bs) (m2 + 4) 4 4 rfl HFL.out (by omega) HFN.out.a.sl
          rw [fr_drop] at hs4
          rw [show m2 + 4 - 4 = m2 by omega] at hcut4
          have HA4 : Hid (Row BE w15 A4 bs) := hs4.row
          clear tl xl tk xk hX0 hX1 hY0 hY1 hL0 HALL r0 r1 hs4
          go_wp2_with fail
          refine (same_yes w15 X0.o m2 X0.c a0 m2 c0 bs HN.out HN.out HR.out.1 HR.out.2.2).mono ?_
          rintro e wx ⟨rfl, ex⟩
          subst wx
          go_wp2_with fail
          refine (same_yes w15 X1.o m2 X1.c a0 m2 c0 bs HN.out HN.out HR.out.2.1 HR.out.2.2).mono ?_
          rintro e wx ⟨rfl, ex⟩
          subst wx
          go_wp2_with fail
          refine (same_yes w15 A4 m2 d4 a0 m2 c0 bs HN.out HN.out HA4.out HR.out.2.2).mono ?_
          rintro e wx ⟨rfl, ex⟩
          subst wx
          go_wp2_with fail
          go_region_held3 (fun w' => w'.cell? ⟨bL, fL, none⟩ = some (.slice X0.o m2 X0.c) ∧ w'.cell? ⟨bL, fL + 1, none⟩ = some (.slice X1.o m2 X1.c) ∧ w'.cell? ⟨bK, fK, none⟩ = some (.slice Y0.o m2 Y0.c) ∧ w'.cell? ⟨bK, fK + 1, none⟩ = some (.slice Y1.o m2 Y1.c)) (go_keep) ((fail))
          have hst := (HST.out _ HCC.out).keepsN (Keeps.refl no _).drew
          obtain ⟨nsf, hnsf⟩ : ∃ nsf, nsf = L0.map (fun x => x.xs.length) := ⟨_, rfl⟩
          rw [← hnsf] at hst
          have hlen : ∀ j, j < 8 → (L0.getD j ls0).xs.length = nsf.getD j 0 := fun j hj => by
            rw [hnsf]
            have := HNS.out.2
            simp [List.getD_eq_getElem?_getD, this, hj]
          generalize (w15.alloc (Obj.cells #[Value.slice oa (m2 + 4) ca, Value.slice ob (m2 + 4) cb, Value.slice X0.o m2 X0.c, Value.slice X1.o m2 X1.c, Value.slice Y0.o m2 Y0.c, Value.slice Y1.o m2 Y1.c, Value.slice oX 5 cX, Value.slice oY 5 cY] 24)).drew = wA at hst ⊢
          generalize w15.heap.size = ba at hst ⊢
          have A0 : Hid (St w 8 (some ⟨ba, 0, none⟩) 8 nsf 0 none 0 L0 wA ∧ ∀ j, j < 8 → (L0.getD j ls0).xs.length = nsf.getD j 0) := ⟨hst, hlen⟩
          clear hst hlen hnsf HST HNS HCC HFN HR HA4 hcut4 d0 d1 d2 d3
          go_wp2_with fail
          go_loopw [22, 23] (fun s3 i wr => ∃ (i' : Nat) (on : Option Addr) (cn : Nat) (L : List (LS UInt8)), i' ≤ 8 ∧ i = .int .i64 i' ∧ s3 = .slice on i' cn ∧ Hid (St w 8 (some ⟨ba, 0, none⟩) 8 nsf i' on cn L wr ∧ (∀ j, j < 8 → (L.getD j ls0).xs.length = nsf.getD j 0) ∧ (∀ j, j < i' → (L.getD j ls0).xs = List.replicate (nsf.getD j 0) (mA j)))) (fun _ i _ => 8 - (intOf i).toNat)
          case atStart => exact ⟨0, none, 0, L0, by omega, rfl, rfl, ⟨A0.out.1, A0.out.2, fun j hj => absurd hj (Nat.not_lt_zero _)⟩⟩
          case round =>
            rename World => wq
            clear A0
            obtain ⟨i, on, cn, L, hi, rfl, rfl, HI⟩ := hrel
            by_cases h2 : i < 8
            · obtain ⟨hst, hlen, hmark⟩ := HI.out
              obtain ⟨_, _, eA, d1⟩ := rowX_at hst.lots.own.row (j := i) (by rw [hst.len]; exact h2)
              cases eA
              rw [Nat.zero_add] at d1
              have hlen_i := hlen i h2
              obtain ⟨X, hX⟩ : ∃ X, X = L.getD i ls0 := ⟨_, rfl⟩
              rw [← hX] at d1 hlen_i
              obtain ⟨n, hn⟩ : ∃ n, n = X.xs.length := ⟨_, rfl⟩
              rw [← hn] at d1 hlen_i
              have hn2 : (n : Int) ≤ 200000 := by have := hst.nle i h2; omega
              have HNI : Hid (n = nsf.getD i 0 ∧ n = X.xs.length ∧ X = L.getD i ls0) := ⟨hlen_i, hn, hX⟩
              have HT : Hid (nsf.take (i + 1) = nsf.take i ++ [n]) := by show _ = _; rw [take_succ_getD nsf i 0 (by rw [hst.nlen]; exact h2), ← hlen_i]
              have HM1 : Hid (i = (nsf.take i).length) := by show _ = _; rw [List.length_take, hst.nlen]; omega
              have HST : Hid (St w 8 (some ⟨ba, 0, none⟩) 8 nsf i on cn L wq) := hst
              have HLM : Hid ((∀ j, j < 8 → (L.getD j ls0).xs.length = nsf.getD j 0) ∧ ∀ j, j < i → (L.getD j ls0).xs = List.replicate (nsf.getD j 0) (mA j)) := ⟨hlen, hmark⟩
              have hiI : (i : Int) < 8 := by omega
              clear hst hlen hmark HI hX hn hlen_i
              go_wp2_with (at_builtin; go_must (refine wpList_app okI rfl _ _ rfl on _ cn (nsf.take i) rfl HM1.out (HST.out.ints.keepsN ((Keeps.refl _ _).alloc _)) _ _ _ [n] rfl rfl (fun e => by cases e) (lit_row okI wq [n] _ _ rfl) (by have := HM1.out; simp [IE] at *; omega) (by have := HM1.out; simp at *; omega) ?_); intro o1 c1 w1x ho1 hap1)
              have HS1 : Hid (St w 8 (some ⟨ba, 0, none⟩) 8 nsf (i + 1) o1 c1 L w1x) := (HST.out.keepsN ((Keeps.refl _ _).alloc _)).int (by rw [HT.out]; exact ho1) hap1
              clear HST ho1 hap1 d1
              go_loopw [24] (fun s5 wr => ∃ k : Nat, k ≤ n ∧ s5 = .int .i64 k ∧ Hid (St w 8 (some ⟨ba, 0, none⟩) 8 nsf (i + 1) o1 c1 (L.set i ⟨X.o, X.c, List.replicate k (mA i) ++ X.xs.drop k⟩) wr)) (fun i _ => n - (intOf i).toNat)
              case atStart =>
                refine ⟨0, by omega, rfl, ?_⟩
                have e : L.set i ⟨X.o, X.c, List.replicate 0 (mA i) ++ X.xs.drop 0⟩ = L := by
                  apply List.ext_getElem?
                  intro j
                  rw [List.getElem?_set]
                  by_cases e : i = j
                  · subst e
                    have h1 := HS1.out.len
                    have h3 := HNI.out.2.2
                    simp [List.getD_eq_getElem?_getD, h1, h2] at h3
                    simp [h1, h2, h3]
                  · simp [e]
                rw [e]
                exact HS1
              case round =>
                rename World => wr
                obtain ⟨k, hk, rfl, HJ⟩ := hrel
                clear HS1
                obtain ⟨_, _, eI, d3⟩ := rowI_at HJ.out.ints.row (j := i) (by rw [List.length_take, HJ.out.nlen]; omega)
                have en : (nsf.take (i + 1)).getD i 0 = n := by rw [HT.out, List.getD_eq_getElem?_getD, List.getElem?_append_right (by have := HM1.out; omega), ← HM1.out]; simp
                rw [en] at d3
                subst eI
                rename_i bi fi
                by_cases h3 : k < n
                · have hLl : i < L.length := by have := HJ.out.len; rw [List.length_set] at this; omega
                  have e1 : (L.set i ⟨X.o, X.c, List.replicate k (mA i) ++ X.xs.drop k⟩).getD i ls0 = ⟨X.o, X.c, List.replicate k (mA i) ++ X.xs.drop k⟩ := by rw [getD_set L i i _ ls0 hLl, if_pos rfl]
                  have e2 : (List.replicate k (mA i) ++ X.xs.drop k).length = n := by simp; have := HNI.out.2.1; omega
                  obtain ⟨g, eg, q2, q3, hst2⟩ := HJ.out.setB i k h2 (by rw [e1]; simp only; rw [e2]; exact h3) (mA i)
                  obtain ⟨_, _, eA2, d1⟩ := rowX_at HJ.out.lots.own.row (j := i) (by rw [HJ.out.len]; exact h2)
                  cases eA2
                  rw [e1] at eg d1 hst2 q2
                  simp only at eg d1 hst2
                  rw [e2, eg, Nat.zero_add] at d1
                  rw [rep_step X.xs k (mA i) (by have := HNI.out.2.1; omega), List.set_set] at hst2
                  rw [bv_mA i (by omega)] at hst2
                  obtain ⟨v, hv⟩ : ∃ v, v = bv ((List.replicate k (mA i) ++ X.xs.drop k).getD k 0) := ⟨_, rfl⟩
                  simp only at q2
                  rw [← hv] at q2
                  have H2 : Hid (St w 8 (some ⟨ba, 0, none⟩) 8 nsf (i + 1) (some ⟨bi, fi, none⟩) c1 (L.set i ⟨X.o, X.c, List.replicate (k + 1) (mA i) ++ X.xs.drop (k + 1)⟩) (wr.setCell ⟨g, k, none⟩ (.int .u8 (1 + (i : Int))))) := hst2
                  clear hst2 hv e1 e2 hLl eg HJ en
                  go_wp2_with fail
                  go_roundw
                  case rel => exact ⟨k + 1, by omega, by go_num, H2⟩
                  case measure => simp [intOf]; omega
                · have hkn : k = n := by omega
                  go_wp2_with fail
                  go_roundw
                  case rel =>
                    have hLl : i < L.length := by have := HJ.out.len; rw [List.length_set] at this; omega
                    refine ⟨i + 1, _, c1, _, by omega, by go_num, rfl, ⟨HJ.out, fun j hj => ?_, fun j hj => ?_⟩⟩
                    · rw [getD_set L i j _ ls0 hLl]
                      by_cases e : j = i
                      · rw [if_pos e, e, ← HNI.out.1]; simp; have := HNI.out.2.1; omega
                      · rw [if_neg e]; exact HLM.out.1 j hj
                    · rw [getD_set L i j _ ls0 hLl]
                      by_cases e : j = i
                      · rw [if_pos e, e, ← HNI.out.1, hkn]
                        show List.replicate n (mA i) ++ X.xs.drop n = _
                        rw [HNI.out.2.1, List.drop_length, List.append_nil]
                      · rw [if_neg e]; exact HLM.out.2 j (by omega)
                  case measure => simp [intOf]; omega
            · have HI8 : Hid (i = 8) := by show i = 8; omega
              have HG : Hid (St w 8 (some ⟨ba, 0, none⟩) 8 nsf 8 on cn L wq ∧ ∀ j, j < 8 → (L.getD j ls0).xs = lng (nsf.getD j 0) j 0) := by
                have h1 := HI.out
                rw [HI8.out] at h1
                refine ⟨h1.1, fun j hj => ?_⟩
                rw [h1.2.2 j hj]
                simp [lng]
              have hiI : ¬ (i : Int) < 8 := by omega
              clear HI hi
              go_wp2_with fail
              go_loopw [25] (fun s6 wr => ∃ (p : Nat) (L : List (LS UInt8)), p ≤ 8 ∧ s6 = .int .i64 p ∧ Hid (St w 8 (some ⟨ba, 0, none⟩) 8 nsf 8 on cn L wr ∧ ∀ j, j < 8 → (L.getD j ls0).xs = lng (nsf.getD j 0) j (behind p 0 j))) (fun s6 _ => 8 - (intOf s6).toNat)
              case atStart => exact ⟨0, L, by omega, rfl, ⟨HG.out.1, fun j hj => by rw [HG.out.2 j hj]; unfold behind; rw [if_neg (by omega)]; split <;> rfl⟩⟩
              case round =>
                rename World => wz
                clear HG L
                obtain ⟨p, L, hp, rfl, HI⟩ := hrel
                by_cases h2p : p < 8
                · go_wp2_with fail
                  go_loopw [26] (fun s7 wr => ∃ (q : Nat) (L : List (LS UInt8)), q ≤ 80 ∧ s7 = .int .i64 q ∧ Hid (St w 8 (some ⟨ba, 0, none⟩) 8 nsf 8 on cn L wr ∧ ∀ j, j < 8 → (L.getD j ls0).xs = lng (nsf.getD j 0) j (behind p q j))) (fun s7 _ => 80 - (intOf s7).toNat)
                  case atStart => exact ⟨0, L, by omega, rfl, HI⟩
                  case round =>
                    rename World => wr
                    clear HI L
                    obtain ⟨q, L, hq, rfl, HI⟩ := hrel
                    by_cases h3 : q < 80
                    · obtain ⟨hst, hgood⟩ := HI.out
                      obtain ⟨_, _, eA2, d1⟩ := rowX_at hst.lots.own.row (j := p) (by rw [hst.len]; exact h2p)
                      cases eA2
                      rw [Nat.zero_add] at d1
                      have hgp := hgood p h2p
                      rw [behind_self] at hgp
                      have hown := hst.lots.each p (by rw [hst.len]; exact h2p)
                      have hnle := hst.nle p h2p
                      obtain ⟨n, hn⟩ : ∃ n, n = nsf.getD p 0 := ⟨_, rfl⟩
                      rw [← hn] at hgp hnle
                      obtain ⟨X, hX⟩ : ∃ X, X = L.getD p ls0 := ⟨_, rfl⟩
                      rw [← hX] at d1 hgp hown
                      rw [hgp, lng_len] at d1
                      rw [hgp] at hown
                      obtain ⟨z, hz⟩ : ∃ z, z = n + q := ⟨_, rfl⟩
                      rw [← hz] at d1
                      have hz5 : (z : Int) ≤ 200080 := by omega
                      have HS5 : Hid (St w 8 (some ⟨ba, 0, none⟩) 8 nsf 8 on cn L wr ∧ (∀ j, j < 8 → (L.getD j ls0).xs = lng (nsf.getD j 0) j (behind p q j)) ∧ X = L.getD p ls0 ∧ n = nsf.getD p 0 ∧ z = (lng n p q).length ∧ X.xs = lng n p q) := ⟨hst, hgood, hX, hn, by rw [lng_len]; exact hz, hgp⟩
                      have HO5 : Hid (Own BE wr X.o X.c (lng n p q)) := hown
                      have HC5 : Hid (wr.cell? ⟨ba, p, none⟩ = some (.slice X.o z X.c)) := d1
                      have HLT : Hid (#[Value.int .u8 (101 + (p : Int))].toList = BE.cells [mB p]) := by show _ = _; rw [cells_B, List.map_cons, List.map_nil, bv_mB p (by omega)]
                      have hpI : (p : Int) < 8 := by omega
                      clear hst hgood hgp hown hn hX hz HI hnle
                      go_wp2_with (at_builtin; go_must (refine wpList_app okB rfl _ _ rfl X.o _ X.c (lng n p q) rfl HS5.out.2.2.2.2.1 (HO5.out.keepsN ((Keeps.refl _ _).alloc _)) _ _ _ [mB p] rfl rfl (fun e => by cases e) (lit_row okB wr [mB p] _ _ HLT.out) (by have := HS5.out.2.2.2.2.1; simp [BE]; omega) (by have := HS5.out.2.2.2.2.1; simp; omega) ?_); intro o5 c5 w5x ho5 hap5; obtain ⟨b, eb, s1, s2, s3⟩ := (HS5.out.1.keepsN ((Keeps.refl no wr).alloc (.cells #[.int .u8 (101 + (p : Int))] 5))).app p h2p ho5 (by rw [← HS5.out.2.2.1]; exact hap5); cases eb; rw [← HS5.out.2.2.1, HS5.out.2.2.2.2.2, ← HS5.out.2.2.2.2.1] at s1; rw [List.length_append, ← HS5.out.2.2.2.2.1, List.length_singleton] at s3; have S3 : Hid (St w 8 (some ⟨ba, 0, none⟩) 8 nsf 8 on cn (L.set p ⟨o5, c5, lng n p q ++ [mB p]⟩) (w5x.setCell ⟨ba, p, none⟩ (.slice o5 (z + 1) c5))) := s3; clear s3 ho5 hap5 d1)
                      go_roundw
                      case rel =>
                        have HP : Hid (St w 8 (some ⟨ba, 0, none⟩) 8 nsf 8 on cn (L.set p ⟨o5, c5, lng n p q ++ [mB p]⟩) (w5x.setCell ⟨ba, p, none⟩ (.slice o5 (z + 1) c5)) ∧ ∀ j, j < 8 → ((L.set p ⟨o5, c5, lng n p q ++ [mB p]⟩).getD j ls0).xs = lng (nsf.getD j 0) j (behind p (q + 1) j)) := by
                          refine ⟨S3.out, fun j hj => ?_⟩
                          rw [getD_set L p j _ ls0 (by rw [HS5.out.1.len]; exact h2p)]
                          by_cases e : j = p
                          · rw [if_pos e, e, behind_self, ← HS5.out.2.2.2.1, ← lng_next]
                          · rw [if_neg e, HS5.out.2.1 j hj, behind_ne p q (q + 1) j e]
                        exact ⟨q + 1, by omega, by omega, _, HP⟩
                      case measure => simp [intOf]; omega
                    · have hq8 : q = 80 := by omega
                      go_wp2_with fail
                      go_roundw
                      case rel => exact ⟨p + 1, L, by omega, by go_num, ⟨HI.out.1, fun j hj => by rw [HI.out.2 j hj, behind_next, hq8]⟩⟩
                      case measure => simp [intOf]; omega
                · have HP8 : Hid (p = 8) := by show p = 8; omega
                  have HG : Hid (St w 8 (some ⟨ba, 0, none⟩) 8 nsf 8 on cn L wz ∧ ∀ j, j < 8 → (L.getD j ls0).xs = lng (nsf.getD j 0) j 80) := by
                    refine ⟨HI.out.1, fun j hj => ?_⟩
                    rw [HI.out.2 j hj, HP8.out]
                    simp [behind, hj]
                  have hpI : ¬ (p : Int) < 8 := by omega
                  clear HI hp
                  go_wp2_with fail
                  go_loopw [27] (fun s8 wr => ∃ (j : Nat), j ≤ 8 ∧ s8 = .int .i64 j ∧ wr = wz) (fun s8 _ => 8 - (intOf s8).toNat)
                  case atStart => exact ⟨0, by omega, rfl, rfl⟩
                  case round =>
                    obtain ⟨r, hr, rfl, ew⟩ := hrel
                    rename World => wu
                    subst wu
                    by_cases h2r : r < 8
                    · obtain ⟨hst, hgood⟩ := HG.out
                      obtain ⟨_, _, eA2, d1⟩ := rowX_at hst.lots.own.row (j := r) (by rw [hst.len]; exact h2r)
                      cases eA2
                      rw [Nat.zero_add, hgood r h2r, lng_len] at d1
                      have hints := hst.ints
                      rw [List.take_of_length_le (by rw [hst.nlen]; exact Nat.le_refl _)] at hints
                      obtain ⟨bi, fi, ei, d3⟩ := rowI_at hints.row (j := r) (by rw [hst.nlen]; exact h2r)
                      subst ei
                      have hown := (hst.lots.each r (by rw [hst.len]; exact h2r)).row
                      rw [hgood r h2r] at hown
                      have hnle := hst.nle r h2r
                      obtain ⟨n, hn⟩ : ∃ n, n = nsf.getD r 0 := ⟨_, rfl⟩
                      rw [← hn] at d1 d3 hown hnle
                      obtain ⟨X, hX⟩ : ∃ X, X = L.getD r ls0 := ⟨_, rfl⟩
                      rw [← hX] at d1 hown
                      have hn5 : (n : Int) ≤ 200000 := by omega
                      have HOW : Hid (Row BE wz X.o (lng n r 80)) := hown
                      have hri : (r : Int) < i := by have := HI8.out; omega
                      have hrI : (r : Int) < 8 := by omega
                      clear hst hgood hints hown hn hX hnle
                      go_wp2_with fail
                      go_loopw [28] (fun s9 wr => ∃ (k : Nat), k ≤ n + 80 ∧ s9 = .int .i64 k ∧ wr = wz) (fun s9 _ => n + 80 - (intOf s9).toNat)
                      case atStart => exact ⟨0, by omega, rfl, rfl⟩
                      case round =>
                        obtain ⟨k, hk, rfl, ew⟩ := hrel
                        rename World => wu
                        subst wu
                        by_cases h3 : k < n + 80
                        · have hkI : (k : Int) < (n : Int) + 80 := by omega
                          obtain ⟨bx, fx, ex, hx⟩ := rowB_at HOW.out (j := k) (by rw [lng_len]; exact h3)
                          rw [ex] at d1
                          by_cases h4 : k < n
                          · rw [lng_at1 n r 80 k h4, bv_mA r (by omega)] at hx
                            have h4I : (k : Int) < n := by omega
                            have h4L : (decide ((n : Int) ≤ k)) = false := by simp; omega
                            have h4M : (decide (n ≤ k)) = false := by simp; omega
                            clear ex
                            go_wp2_with fail
                            go_roundw
                            case rel => exact ⟨k + 1, by omega, by go_num, by trivial⟩
                            case measure => simp [intOf]; omega
                          · rw [lng_at2 n r 80 k (by omega) h3, bv_mB r (by omega)] at hx
                            have h4I : ¬ (k : Int) < n := by omega
                            have h4J : (n : Int) ≤ k := by omega
                            clear ex
                            go_wp2_with fail
                            go_roundw
                            case rel => exact ⟨k + 1, by omega, by go_num, by trivial⟩
                            case measure => simp [intOf]; omega
                        · have hkI : ¬ (k : Int) < (n : Int) + 80 := by omega
                          go_wp2_with fail
                          go_roundw
                          case rel => exact ⟨r + 1, by omega, by go_num, by trivial⟩
                          case measure => simp [intOf]; omega
                    · have hrI : ¬ (r : Int) < 8 := by omega
                      go_wp2_with fail
                      go_ret
                      exact ⟨rfl, HG.out.1.kp⟩
end Go.Proofs.Ytaeajgjehfjkbaa
