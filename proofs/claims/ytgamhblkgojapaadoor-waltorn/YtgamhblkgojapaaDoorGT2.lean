/- WalTorn: its walk. -/
import Derived.Test.YtgamhblkgojapaaDoorGT1
import Derived.Test.YtgamhblkgojapaaDoorGV
namespace Go.Proofs.YtgamhblkgojapaaDoor
open Go.RowKit Pk Dk
set_option linter.unusedVariables false
set_option linter.unusedSimpArgs false

set_option maxRecDepth 10000 in
set_option maxHeartbeats 4000000 in
theorem walTorn_any (w : World) (a0 : Option Addr) (len0 cap0 : Nat) (l0 : List CV) (hlen : len0 = l0.length) (hz : cap0 * 64 ≤ reachBytes) (hs : Sl CE w a0 cap0 l0) (hok : ∀ v ∈ l0, ∃ r, IsC w v r) (vr : CV) (r : Rec) (hr : IsC w vr r) (n : Int) (hn1 : -9223372036854775808 ≤ n) (hn2 : n ≤ 9223372036854775807) (ht : TabIn w) :
    Calls Tryd.prog 3 #[.slice a0 len0 cap0, .agg #[.int .i64 vr.k, .int .u64 (vr.i : Nat), .slice vr.op vr.np vr.cp, .slice vr.ok vr.nk vr.ck], .int .i64 n] w fun e w' => e = .returned (.bool true) ∧ Keeps no w w' := by
  obtain ⟨rs0, hrl, hre⟩ := recs_in l0 hok
  have HRE : Hid (∀ j, j < l0.length → IsC w (l0.getD j cv0) (rs0.getD j c0)) := hre
  have HS0 : Hid (Sl CE w a0 cap0 l0 ∧ len0 = l0.length) := ⟨hs, hlen⟩
  have HR0 : Hid (IsC w vr r) := hr
  have HT0 : Hid (TabIn w) := ht
  have hlb : (len0 : Int) ≤ 140737488351232 := by have := hs.cap; rw [← hlen] at this; simp only [reachBytes] at hz; omega
  have HK0 : Hid (Keeps no w (w.alloc (.cells #[.int .i64 vr.k, .int .u64 (vr.i : Nat), .slice vr.op vr.np vr.cp, .slice vr.ok vr.nk vr.ck] 28))) := (Keeps.refl _ _).alloc _
  have hbL := blk_new w (.cells #[.int .i64 vr.k, .int .u64 (vr.i : Nat), .slice vr.op vr.np vr.cp, .slice vr.ok vr.nk vr.ck] 28)
  have HLW : Hid (w.heap.size ≤ w.heap.size) := Nat.le_refl w.heap.size
  clear hs hlen hr ht hre hrl hok hz
  go_enter Tryd.func3, Tryd.ntmps3
  go_upto_region 1 with fail
  generalize w.alloc (.cells #[.int .i64 vr.k, .int .u64 (vr.i : Nat), .slice vr.op vr.np vr.cp, .slice vr.ok vr.nk vr.ck] 28) = V at HK0 hbL ⊢
  have HL0 : Hid (w.heap.size ≤ w.heap.size) := Nat.le_refl w.heap.size
  obtain ⟨L, hL⟩ : ∃ L, L = w.heap.size := ⟨_, rfl⟩
  have HLL : Hid (w.heap.size ≤ L) := by rw [hL]; exact Nat.le_refl _
  rw [← hL] at hbL ⊢
  clear hL HL0 HLW
  have HBL : Hid (V.heap[L]? = some (.cells #[.int .i64 vr.k, .int .u64 (vr.i : Nat), .slice vr.op vr.np vr.cp, .slice vr.ok vr.nk vr.ck] 28 (0, 0))) := hbL
  clear hbL
  go_wp2_with fail
  refine (alive_any V (HT0.out.keepsN HK0.out)).mono ?_
  rintro e w1 ⟨rfl, hk1⟩
  have HK1 : Hid (Keeps no w w1) := HK0.out.trans hk1
  have HB1 : Hid (w1.heap[L]? = some (.cells #[.int .i64 vr.k, .int .u64 (vr.i : Nat), .slice vr.op vr.np vr.cp, .slice vr.ok vr.nk vr.ck] 28 (0, 0))) := hk1.at HBL.out (fun h => h)
  have HT : Hid (TabIn w1) := HT0.out.keepsN HK1.out
  clear hk1 HBL HK0
  go_wp2_with fail
  refine (dn_new w1).mono ?_
  rintro e w2 ⟨p, rfl, HD2, HK2⟩
  generalize (fun k => w1.heap.size ≤ k ∧ k < w2.heap.size) = F at HD2
  go_upto_block 0 with fail
  have HD2' : Hid (TlS w w1 w2 p F nlog.data.toList none 0 [] []) := ⟨by rw [tx_nil_new]; exact HD2.out, own_nil _, new_none _, (fun k h => by obtain ⟨x, e, _⟩ := h; cases e), rfl, (fun j hj => by simp at hj), gds_nil⟩
  clear HD2 HK2
  go_cut [9, 10, 11] from 12 to 63 (fun s z _ wc => ∃ (ow : Option Addr) (m cw T : Nat) (vs : List CV) (l : List Rec) (G : Nat → Prop), s = .slice ow m cw ∧ z = .int .i64 (T : Nat) ∧ Hid (m = l.length ∧ T = (rowb l).length ∧ l.length ≤ 100) ∧ Hid (TlS w w1 wc p G nlog.data.toList ow cw vs l) ∧ (T : Int) ≤ 104858400)
  case first =>
    go_wp2_with fail
    go_loopw [9, 10, 11] (fun s z i wr => ∃ (ow : Option Addr) (m cw T I : Nat) (vs : List CV) (l : List Rec) (G : Nat → Prop), s = .slice ow m cw ∧ z = .int .i64 (T : Nat) ∧ i = .int .i64 (I : Nat) ∧ I ≤ 100 ∧ I ≤ len0 ∧ (m : Int) ≤ I ∧ Hid (m = l.length ∧ T = (rowb l).length) ∧ Hid (TlS w w1 wr p G nlog.data.toList ow cw vs l) ∧ (T : Int) ≤ (I : Int) * 1048584) (fun _ _ i _ => 100 - (intOf i).toNat)
    case atStart => exact ⟨none, 0, 0, 0, 0, [], [], F, rfl, rfl, rfl, by omega, by omega, by omega, ⟨rfl, rfl⟩, HD2', by omega⟩
    case round =>
      rename World => wr
      obtain ⟨ow, m, cw, T, I, vs, l, G, rfl, rfl, rfl, hI, hI0, hmI, HM, HTL, hT⟩ := hrel
      by_cases hlt : I < len0
      · have hlt' : (I : Int) < len0 := by omega
        by_cases h100 : I < 100
        · have h100' : (I : Int) < 100 := by omega
          have HKR : Hid (Keeps no w wr) := HK1.out.trans HTL.out.dn.kept
          obtain ⟨b, off, hab, d0, d1, d2, d3⟩ := (HS0.out.1.keepsN HKR.out).atCE (j := I) (by have := HS0.out.2; omega)
          have HC : Hid (IsC w (l0.getD I cv0) (rs0.getD I c0)) := HRE.out I (by have := HS0.out.2; omega)
          generalize l0.getD I cv0 = v at d0 d1 d2 d3 HC
          generalize rs0.getD I c0 = x at HC
          subst hab
          go_wp2_with fail
          refine (own_v wr v x (HC.out.keepsN HKR.out)).mono ?_
          rintro e w3 ⟨v3, rfl, HG3, HK3⟩
          go_wp2_with fail
          refine (build_v w3 v3 x HG3.out.isC (HT.out.keepsN (HTL.out.dn.kept.trans HK3.out))).mono ?_
          rintro e w4 ⟨ob, nb, cb, rfl, HNB, HOB, HNW, HK4⟩
          have HT4 : Hid (TlS w w1 w4 p G nlog.data.toList ow cw vs l) := (HTL.out.keepsN HK3.out).keepsN HK4.out
          have HK34 : Hid (Keeps no wr w4) := HK3.out.trans HK4.out
          by_cases hE : encE x = 0
          · have HGD : Hid (Gd x) := gd_of hE HC.out.fit.id
            rw [hE]
            rw [HGD.out.encB] at HNB HOB
            have e0 := HK34.out.cellN d0
            have e1 := HK34.out.cellN d1
            have e2 := HK34.out.cellN d2
            have e3 := HK34.out.cellN d3
            have hnb : (nb : Int) ≤ 1048584 := by have := HNB.out; have := HGD.out.enc_len; omega
            clear d0 d1 d2 d3 hE
            have HA5 : Hid (TlS w w1 (w4.alloc (.cells #[.int .i64 v.k, .int .u64 (v.i : Nat), .slice v.op v.np v.cp, .slice v.ok v.nk v.ck] 28)) p G nlog.data.toList ow cw vs l) := HT4.out.keepsN ((Keeps.refl _ _).alloc _)
            have HN1 : Hid (Sl CE (w4.alloc (.cells #[.int .i64 v.k, .int .u64 (v.i : Nat), .slice v.op v.np v.cp, .slice v.ok v.nk v.ck] 28)) (some ⟨w4.heap.size, 0, none⟩) 1 [v]) := own_oneC w4 v
            have HLN : Hid (m = vs.length ∧ vs.length = l.length ∧ l.length ≤ 100) := by have h1 := HM.out.1; have h2 := HTL.out.len; exact ⟨by omega, h2, by omega⟩
            have HO4 : Hid (Owns (w4.alloc (.cells #[.int .i64 v.k, .int .u64 (v.i : Nat), .slice v.op v.np v.cp, .slice v.ok v.nk v.ck] 28)) ob cb (enc x)) := HOB.out.keeps ((Keeps.refl no _).alloc _) (fun _ _ h => h)
            have HOW : Hid (∀ k, inO ob k → ¬ inO ow k) := fun k h1 h2 => by have := HNW.out k h1; have := HTL.out.own.lt k h2; have := HK3.out.size; omega
            have HOG : Hid (∀ k, inO ob k → ¬ G k) := fun k h1 h2 => by have := HNW.out k h1; have := HTL.out.dn.is.lt k h2; have := HK3.out.size; omega
            go_wp2_with (at_builtin; go_must (refine wpList_app okC rfl _ _ rfl ow m cw vs rfl HLN.out.1 HA5.out.own _ _ _ [v] rfl rfl (fun h => by cases h) HN1.out.row (by have := HLN.out; simp [CE]; omega) (by have := HLN.out; simp; omega) ?_); intro o' c' w5 ho hap; have HO5 : Hid (Own CE w5 o' c' (vs ++ [v])) := ho; have HAP : Hid (Ap (w4.alloc (.cells #[.int .i64 v.k, .int .u64 (v.i : Nat), .slice v.op v.np v.cp, .slice v.ok v.nk v.ck] 28)) ow o' w5) := hap; clear ho hap e0 e1 e2 e3)
            have HD5 : Hid (Dn w1 w5 p G (ts nlog.data.toList (tx l))) := HA5.out.dn_ap HAP.out
            have HB5 : Hid (Owns w5 ob cb (enc x)) := by
              rcases HAP.out with ⟨_, hk⟩ | ⟨_, hk⟩
              · exact HO4.out.keeps hk (fun k h1 h2 => HOW.out k h1 h2)
              · exact HO4.out.keeps hk (fun _ _ h => h)
            refine (dn_append nlog ob nb cb (u8s (enc x)) HD5.out (ts_snoc nlog_good l x) (by decide) (by rw [u8s_length]; exact HNB.out) (own_u8 (enc_byt x) HB5.out).sl HOG.out (by rw [u8s_length]; have := HGD.out.enc_len; omega) (fit_of (by rw [ts_bs, tx_bs, rb_len, u8s_length]; have := HGD.out.enc_len; have := HM.out.2; omega))).mono ?_
            rintro e w6 ⟨rfl, hd6, hk6⟩
            have HT6 : Hid (TlS w w1 w6 p (grow G w5 w6) nlog.data.toList o' c' (vs ++ [v]) (l ++ [x])) := HA5.out.push HC.out HGD.out HO5.out HAP.out hd6 hk6
            clear hd6 hk6
            go_wp2_with fail
            go_roundw
            case rel => exact ⟨o', m + 1, c', T + nb, I + 1, vs ++ [v], l ++ [x], grow G w5 w6, rfl, by go_num, by go_num, by omega, by omega, by omega, ⟨by simp [HM.out.1], by rw [rowb_snoc, List.length_append, ← HM.out.2, ← HNB.out]⟩, HT6, by omega⟩
            case measure => simp [intOf]; omega
          · have hE1 : (((encE x : Nat) : Int) == 0) = false := by simp; omega
            have hE2 : ¬ ((encE x : Nat) : Int) = 0 := by omega
            go_wp2_with fail
            go_roundw
            case rel => exact ⟨ow, m, cw, T, I + 1, vs, l, G, rfl, rfl, by go_num, by omega, by omega, by omega, HM, HT4, by omega⟩
            case measure => simp [intOf]; omega
        · have h100' : ¬ (I : Int) < 100 := by omega
          go_wp2_with fail
          go_meet
          exact ⟨ow, m, cw, T, vs, l, G, rfl, rfl, ⟨HM.out.1, HM.out.2, by have := HM.out.1; omega⟩, HTL, by omega⟩
      · have hlt' : ¬ (I : Int) < len0 := by omega
        go_wp2_with fail
        go_meet
        exact ⟨ow, m, cw, T, vs, l, G, rfl, rfl, ⟨HM.out.1, HM.out.2, by have := HM.out.1; omega⟩, HTL, by omega⟩
  case rest =>
    obtain ⟨ow, m, cw, T, vs, l, G, rfl, rfl, HM, HTL, hT⟩ := hcut
    have HBC : Hid (wc.heap[L]? = some (.cells #[.int .i64 vr.k, .int .u64 (vr.i : Nat), .slice vr.op vr.np vr.cp, .slice vr.ok vr.nk vr.ck] 28 (0, 0))) := HTL.out.dn.kept.at HB1.out (fun h => h)
    have HKC : Hid (Keeps no w wc) := HK1.out.trans HTL.out.dn.kept
    obtain ⟨x0, x1, x2, x3⟩ := cells4 HBC.out
    go_wp2_with fail
    refine (own_v wc vr r (HR0.out.keepsN HKC.out)).mono ?_
    rintro e w3 ⟨v3, rfl, HG3, HK3⟩
    clear x0 x1 x2 x3
    go_wp2_with fail
    refine (build_v w3 v3 r HG3.out.isC (HT.out.keepsN (HTL.out.dn.kept.trans HK3.out))).mono ?_
    rintro e w4 ⟨ob, nb, cb, rfl, HNB, HOB, HNW, HK4⟩
    have HT4 : Hid (TlS w w1 w4 p G nlog.data.toList ow cw vs l) := (HTL.out.keepsN HK3.out).keepsN HK4.out
    have HB4 : Hid (w4.heap[L]? = some (.cells #[.int .i64 vr.k, .int .u64 (vr.i : Nat), .slice vr.op vr.np vr.cp, .slice vr.ok vr.nk vr.ck] 28 (0, 0))) := (HK3.out.trans HK4.out).at HBC.out (fun h => h)
    have HOG : Hid (∀ k, inO ob k → ¬ G k) := fun k h1 h2 => by have := HNW.out k h1; have := HTL.out.dn.is.lt k h2; have := HK3.out.size; omega
    have HLB : Hid (L < w1.heap.size) := lt_of_block HB1.out
    obtain ⟨E, hE0⟩ : ∃ E, E = encE r := ⟨_, rfl⟩
    have HE : Hid (E = encE r) := hE0
    rw [← hE0]
    clear hE0 HG3 HK3 HK4 HNW HBC HKC
    go_upto_if 71 with fail
    go_cut [14, 15] from 70 to 78 (fun s e wd => ∃ (B : World) (v' : CV) (r' : Rec) (o1 : Option Addr) (n1 d1 : Nat), s = .slice o1 n1 d1 ∧ e = .int .i64 0 ∧ Hid (n1 = (enc r').length) ∧ Hid (TlR w B wd p G nlog.data.toList ow cw vs l L v' r' o1 d1) ∧ (n1 : Int) ≤ 1048584 ∧ 8 ≤ (n1 : Int))
    case first =>
      by_cases hE : E = 0
      · subst hE
        have HGD : Hid (Gd r) := gd_of HE.out.symm HR0.out.fit.id
        rw [HGD.out.encB] at HNB HOB
        go_wp2_with fail
        go_meet
        exact ⟨w1, vr, r, ob, nb, cb, rfl, rfl, HNB, ⟨HT4.out, HK1.out, HT.out, HB4.out, HLB.out, HR0.out.keepsN HK1.out, HGD.out, HOB.out, HOG.out⟩, by have := HNB.out; have := HGD.out.enc_len; omega, by have := HNB.out; have := enc_pos r; omega⟩
      · have hE1 : ((E : Int) == 0) = false := by simp; omega
        have hE2 : ¬ (E : Int) = 0 := by omega
        go_wp2_with fail
        refine (commit_any w4 7 (by omega)).mono ?_
        rintro e w5 ⟨rfl, hk5⟩
        have HT5 : Hid (TlS w w1 w5 p G nlog.data.toList ow cw vs l) := HT4.out.keepsN hk5
        have HB5 : Hid (w5.heap[L]? = some (.cells #[.int .i64 vr.k, .int .u64 (vr.i : Nat), .slice vr.op vr.np vr.cp, .slice vr.ok vr.nk vr.ck] 28 (0, 0))) := hk5.at HB4.out (fun h => h)
        obtain ⟨x0, x1, x2, x3⟩ := cells4 HB5.out
        have f0 := frozen_of_blk HB5.out 0
        have f1 := frozen_of_blk HB5.out 1
        have f2 := frozen_of_blk HB5.out 2
        have f3 := frozen_of_blk HB5.out 3
        clear hk5
        go_upto_region 19 with fail
        have hs4 := set4 HB5.out (.int .i64 2) (.int .u64 ((458752 : Nat) : Int)) (.slice none 0 0) (.slice none 0 0)
        have hs1 := set4 HB1.out (.int .i64 2) (.int .u64 ((458752 : Nat) : Int)) (.slice none 0 0) (.slice none 0 0)
        obtain ⟨B, hB⟩ : ∃ B, B = (((w1.setCell ⟨L, 0, none⟩ (.int .i64 2)).setCell ⟨L, 1, none⟩ (.int .u64 ((458752 : Nat) : Int))).setCell ⟨L, 2, none⟩ (.slice none 0 0)).setCell ⟨L, 3, none⟩ (.slice none 0 0) := ⟨_, rfl⟩
        have hBs : B.heap.size = w1.heap.size := by rw [hB]; simp only [World.size_setCell]
        rw [← hB] at hs1
        generalize ((((w5.setCell ⟨L, 0, none⟩ (.int .i64 2)).setCell ⟨L, 1, none⟩ (.int .u64 458752)).setCell ⟨L, 2, none⟩ (.slice none 0 0)).setCell ⟨L, 3, none⟩ (.slice none 0 0)) = X at hs4 ⊢
        have HBX : Hid (X.heap[L]? = some (.cells #[.int .i64 2, .int .u64 458752, .slice none 0 0, .slice none 0 0] 28 (0, 0))) := hs4.1
        have HTX : Hid (TlS w B X p G nlog.data.toList ow cw vs l) := HT5.out.both HLB.out hs1.2 hs4.2 hBs hs1.1 hs4.1
        have HKB : Hid (Keeps no w B ∧ TabIn B ∧ L < B.heap.size) := ⟨HK1.out.then hs1.2 (fun i hi => .inr (by unfold eqA at hi; have := HLL.out; omega)), HT.out.keeps hs1.2 (fun h => by unfold eqA at h; have := HLL.out; have := tab_pos HT0.out; omega), by rw [hBs]; exact HLB.out⟩
        clear hs1 hs4 hB hBs x0 x1 x2 x3 f0 f1 f2 f3 HT5 HB5 HOB HNB HOG
        obtain ⟨x0, x1, x2, x3⟩ := cells4 HBX.out
        go_wp2_with fail
        refine (own_v X ⟨2, 458752, none, 0, 0, none, 0, 0⟩ (cmR 7) (cmR_isC X (q := 7) (by omega))).mono ?_
        rintro e w6 ⟨v6, rfl, HG6, HK6⟩
        clear x0 x1 x2 x3
        go_wp2_with fail
        refine (build_v w6 v6 (cmR 7) HG6.out.isC (HKB.out.2.1.keepsN (HTX.out.dn.kept.trans HK6.out))).mono ?_
        rintro e w7 ⟨o7, n7, d7, rfl, HN7, HO7, HNW7, HK7⟩
        have HGD : Hid (Gd (cmR 7)) := cmR_gd (by omega) (by omega)
        rw [HGD.out.encB] at HN7 HO7
        rw [HGD.out.encE]
        go_wp2_with fail
        go_meet
        exact ⟨B, ⟨2, 458752, none, 0, 0, none, 0, 0⟩, cmR 7, o7, n7, d7, rfl, rfl, HN7, ⟨(HTX.out.keepsN HK6.out).keepsN HK7.out, HKB.out.1, HKB.out.2.1, (HK6.out.trans HK7.out).at HBX.out (fun h => h), HKB.out.2.2, cmR_isC B (q := 7) (by omega), HGD.out, HO7.out, fun k h1 h2 => by have := HNW7.out k h1; have := HTX.out.dn.is.lt k h2; have := HK6.out.size; omega⟩, by have := HN7.out; have := HGD.out.enc_len; omega, by have := HN7.out; have := enc_pos (cmR 7); omega⟩
    case rest =>
      rename World => wd
      obtain ⟨B, v', r', o1, n1, d1, rfl, rfl, HN1, HTR, hn1b, hn1p⟩ := hcut
      have hn10 : ((n1 : Int) == 0) = false := by simp; omega
      have hn10' : ¬ (n1 : Int) = 0 := by omega
      obtain ⟨u, hu⟩ : ∃ u, IntKind.u64.wrap n = u := ⟨_, rfl⟩
      have hu1 : 0 ≤ u := by rw [← hu, IntKind.wrap_u64]; omega
      have hu2 : u ≤ 18446744073709551615 := by rw [← hu, IntKind.wrap_u64]; omega
      obtain ⟨K, hK, hKn⟩ : ∃ K : Nat, u % (n1 : Int) = (K : Int) ∧ K < n1 := ⟨(u % (n1 : Int)).toNat, by have := Int.emod_nonneg u (show (n1 : Int) ≠ 0 by omega); omega, by have h3 := Int.emod_nonneg u (show (n1 : Int) ≠ 0 by omega); have h4 := Int.emod_lt_of_pos u (show 0 < (n1 : Int) by omega); omega⟩
      have hK' : Int.tmod u (n1 : Int) = (K : Int) := by rw [Int.tmod_eq_emod_of_nonneg hu1]; exact hK
      obtain ⟨g1, hg1⟩ : ∃ g1, o1 = some ⟨g1, 0, none⟩ := by
        rcases HTR.out.bo.shape with ⟨_, _, e⟩ | ⟨g, _, e, _⟩
        · have h1 := enc_pos r'; rw [e] at h1; simp at h1
        · exact ⟨g, e⟩
      subst hg1
      have hcap : (n1 : Int) ≤ d1 := by have := HTR.out.bo.cap.1; have := HN1.out; omega
      have hK0 : (0 : Int) ≤ K := by omega
      have hKc : (K : Int) ≤ d1 := by omega
      go_wp2_with fail
      have HGR : Hid (Gds l ∧ Gd r') := ⟨HTR.out.tl.good, HTR.out.gd⟩
      have HKL : Hid (K < (enc r').length) := by have := HN1.out; exact (by omega : K < (enc r').length)
      have hbK : (u8s (enc r')).length = n1 := by rw [u8s_length]; exact HN1.out.symm
      refine (dn_append nlog (some ⟨g1, 0, none⟩) K d1 ((u8s (enc r')).take K) HTR.out.tl.dn (ts_app nlog_good l _) (by decide) (by rw [List.length_take, hbK]; omega) ((own_u8 (enc_byt r') HTR.out.bo).cut okU (by rw [hbK]; omega)).sl HTR.out.bf (by rw [List.length_take, hbK]; omega) (fit_of (by rw [ts_bs, tx_bs, rb_len, List.length_take, hbK]; have := HM.out.2.1; omega))).mono ?_
      rintro e w5 ⟨rfl, hd5, hk5⟩
      have HD5 : Hid (Dn B w5 p (grow G wd w5) (ts nlog.data.toList (some ⟨rb l ++ (u8s (enc r')).take K, 0⟩))) := hd5
      have HOW : Hid (Own CE w5 ow cw vs ∧ ∀ k, inO ow k → ¬ grow G wd w5 k) := ⟨HTR.out.tl.own.keeps hk5 HTR.out.tl.far, fun k h1 h2 => by
        rcases h2 with h2 | h2
        · exact HTR.out.tl.far k h1 h2
        · have := HTR.out.tl.own.lt k h1; omega⟩
      have HBL5 : Hid (B.heap[L]? = some (.cells #[.int .i64 v'.k, .int .u64 (v'.i : Nat), .slice v'.op v'.np v'.cp, .slice v'.ok v'.nk v'.ck] 28 (0, 0))) := by
        show _ = _
        rw [← HTR.out.tl.dn.kept.block L HTR.out.lt (fun h => h)]
        exact HTR.out.blk
      have HTB : Hid (TabIn B ∧ Keeps no w B ∧ IsC B v' r') := ⟨HTR.out.tab, HTR.out.kb, HTR.out.isC⟩
      have HVS : Hid (vs.length = l.length ∧ (∀ j, j < l.length → IsC w (vs.getD j cv0) (l.getD j c0)) ∧ New B ow) := ⟨HTR.out.tl.len, HTR.out.tl.each, HTR.out.tl.new⟩
      generalize grow G wd w5 = G5 at HD5 HOW
      clear hd5 hk5 HTR hbK HTL HT4 HB4 HOB HNB HOG HB1 HLB HE
      go_wp2_with fail
      refine (dn_open nlog HD5.out HTB.out.1 (ts_open _ HGR.out.1 HGR.out.2 HKL.out) (by decide) (Nat.le_trans (readB_le _ _) (by rw [ts_bs]; show (rb l ++ (u8s (enc r')).take K).length ≤ _; rw [List.length_append, rb_len, List.length_take]; have := HM.out.2.1; omega))).mono ?_
      rintro e w6 ⟨q, oa, ma, ca, va, rfl, HMA, HL6, HS6, HD6, HK6⟩
      go_wp2_with fail
      refine (dn_size nlog HD6.out (s' := ts nlog.data.toList (some ⟨rb l, 0⟩)) (m := T) (er := 0) (sg_tickN ..) (by unfold ts; rw [sg_readB]; show (rb l).length = T; rw [rb_len, ← HM.out.2.1]) (sg_readE ..) (by decide)).mono ?_
      rintro e w7 ⟨rfl, HD7, HK7⟩
      have HQ5 : Hid (w5.heap.size ≤ q ∧ (∀ k, inO ow k → k < w5.heap.size) ∧ w5.heap.size ≤ w7.heap.size) := ⟨HL6.out.2.1, HOW.out.1.lt, Nat.le_trans HK6.out.size HK7.out.size⟩
      have HL7 : Hid (IsL w7 q p nlog T ∧ ¬ G5 q ∧ B.heap.size ≤ q) := ⟨by rw [HM.out.2.1]; exact HL6.out.1.keeps HK7.out HL6.out.2.2, HL6.out.2.2, by have := HL6.out.2.1; have := HD5.out.kept.size; omega⟩
      have HS7 : Hid (Scn w5 w7 oa ca va l) := HS6.out.keepsF HK7.out HD5.out.is.lt
      have HO7 : Hid (Own CE w7 ow cw vs) := (HOW.out.1.keeps HK6.out HOW.out.2).keeps HK7.out HOW.out.2
      have HRI : Hid (∀ X, Keeps no w7 X → RsIn X ow cw vs l) := fun X hk => ⟨(HO7.out.keepsN hk).sl, HVS.out.1, fun j hj => (HVS.out.2.1 j hj).keepsN ((HTB.out.2.1.trans HD7.out.kept).trans hk)⟩
      have hml : (m : Int) ≤ 100 := by have := HM.out; omega
      have hmal : (ma : Int) ≤ 100 := by have := HM.out; have := HMA.out; omega
      clear HD5 HD6 HL6 HS6 HK6 HK7
      go_wp2_with fail
      refine (sameRecords_any w7 oa ma ca va l ow m cw vs l HMA.out HM.out.1 (by omega) (by omega) HS7.out.rsIn (HRI.out w7 (Keeps.refl _ _))).mono ?_
      rintro e w8 ⟨⟨B1, rfl, hB1⟩, hk8⟩
      have hB1t : B1 = true := hB1.out.2 rfl
      subst hB1t
      have HK8 : Hid (Keeps no w7 w8) := hk8
      clear hB1 hk8
      go_wp2_with fail
      refine (LogSize_any w8 q p nlog T (HL7.out.1.keeps HK8.out (fun h => h))).mono ?_
      rintro e w' ⟨rfl, hw⟩
      subst w'
      have HB8 : Hid (w8.heap[L]? = some (.cells #[.int .i64 v'.k, .int .u64 (v'.i : Nat), .slice v'.op v'.np v'.cp, .slice v'.ok v'.nk v'.ck] 28 (0, 0))) := (HD7.out.kept.trans HK8.out).at HBL5.out (fun h => h)
      obtain ⟨x0, x1, x2, x3⟩ := cells4 HB8.out
      have HD8 : Hid (Dn B w8 p G5 (ts nlog.data.toList (some ⟨rb l, 0⟩))) := HD7.out.beside HK8.out
      go_wp2_with fail
      refine (own_v w8 v' r' (HTB.out.2.2.keepsN HD8.out.kept)).mono ?_
      rintro e w9 ⟨v9, rfl, HG9, HK9⟩
      clear x0 x1 x2 x3
      go_wp2_with fail
      refine (dn_log nlog v9 (HD8.out.beside HK9.out) HTB.out.1 ((HL7.out.1.keeps HK8.out (fun h => h)).keeps HK9.out (fun h => h)) HL7.out.2.1 HL7.out.2.2 HG9.out.isC (ts_apd nlog_good l HGR.out.2) (k' := (rowb (l ++ [r'])).length) (by rw [if_pos rfl, rowb_snoc, List.length_append, HM.out.2.1]) (by decide) (by omega) (fun _ => fit_of (by rw [ts_bs]; show (rb l).length + _ ≤ _; rw [rb_len]; have := HM.out.2.1; have := HGR.out.2.enc_len; omega))).mono ?_
      rintro e wA ⟨rfl, HDA, HLA, HKA⟩
      have HOA : Hid (Own CE wA ow cw vs) := ((HO7.out.keepsN HK8.out).keepsN HK9.out).keeps HKA.out (fun k h1 h2 => by
        rcases h2 with h2 | h2
        · exact HOW.out.2 k h1 h2
        · have := HQ5.out.2.1 k h1; have := HQ5.out.1; omega)
      have HFA : Hid (∀ k, inO ow k → ¬ grow G5 w9 wA k) := fun k h1 => grow_no (HOW.out.2 k h1) (by have := HQ5.out.2.1 k h1; have := HQ5.out.2.2; have := HK8.out.size; have := HK9.out.size; omega)
      generalize grow G5 w9 wA = GA at HDA HFA
      clear HKA HLA HG9 HK9 HD8 HB8 HK8 HD7 HL7 HS7 HO7 HRI HOW
      go_wp2_with fail
      refine (dn_open nlog HDA.out HTB.out.1 (ts_open2 _ (HGR.out.1.snoc HGR.out.2)) (by decide) (Nat.le_trans (readB_le _ _) (by rw [ts_bs]; show (rb (l ++ [r'])).length ≤ _; rw [rb_len, rowb_snoc, List.length_append]; have := HM.out.2.1; have := HGR.out.2.enc_len; omega))).mono ?_
      rintro e wB ⟨z, oc, mc, cc, vc, rfl, HMC, -, HSC, HDB, HKB⟩
      have HOB : Hid (Own CE wB ow cw vs) := HOA.out.keeps HKB.out HFA.out
      have HLB : Hid (wB.heap[L]? = some (.cells #[.int .i64 v'.k, .int .u64 (v'.i : Nat), .slice v'.op v'.np v'.cp, .slice v'.ok v'.nk v'.ck] 28 (0, 0))) := HDB.out.kept.at HBL5.out (fun h => h)
      have HST : Hid (∀ X, Keeps no wB X → X.cell? ⟨L, 0, none⟩ = some (.int .i64 v'.k) ∧ X.cell? ⟨L, 1, none⟩ = some (.int .u64 (v'.i : Nat)) ∧ X.cell? ⟨L, 2, none⟩ = some (.slice v'.op v'.np v'.cp) ∧ X.cell? ⟨L, 3, none⟩ = some (.slice v'.ok v'.nk v'.ck)) := fun X hk => cells4 (hk.at HLB.out (fun h => h))
      have HRW : Hid (∀ X, Keeps no wB X → Row CE X ow vs) := fun X hk => (HOB.out.keepsN hk).row
      have HMV : Hid (m = vs.length ∧ (ow = none → cw = 0) ∧ vs.length ≤ 100) := ⟨by rw [HM.out.1, HVS.out.1], HOB.out.sl.nil, by have := HVS.out.1; have := HM.out.2.2; omega⟩
      have HKW : Hid (Keeps no w wB) := HTB.out.2.1.trans HDB.out.kept
      have HEQ : Hid (∀ X, Keeps no wB X → ∀ o6 c6, Own CE X o6 c6 (vs ++ [v']) → RsIn X o6 c6 (vs ++ [v']) (l ++ [r'])) := fun X hk o6 c6 ho => ⟨ho.sl, by simp [HVS.out.1], fun j hj => by
        rw [getD_snoc, getD_snoc, HVS.out.1]
        by_cases hj2 : j < l.length
        · rw [if_pos hj2, if_pos hj2]; exact (HVS.out.2.1 j hj2).keepsN (HKW.out.trans hk)
        · have : j = l.length := by simp at hj; omega
          rw [if_neg hj2, if_neg hj2, if_pos this, if_pos this]
          exact HTB.out.2.2.keepsN (HDB.out.kept.trans hk)⟩
      have HSB : Hid (∀ X, Keeps no wB X → RsIn X oc cc vc (l ++ [r'])) := fun X hk => HSC.out.rsIn.keepsN hk
      have HMM : Hid (m = l.length) := HM.out.1
      obtain ⟨y0, y1, y2, y3⟩ := HST.out wB (Keeps.refl _ _)
      have hmc : (mc : Int) ≤ 101 := by have h := HMC.out; have := HM.out.2.2; rw [List.length_append, List.length_singleton] at h; omega
      clear HDA HSC HDB HKB HOA HFA HOB HLB HBL5 HMA
      have hsz : ∀ o : Obj, (wB.drew.alloc o).heap.size = wB.heap.size + 1 := fun o => by simp
      have HA0 : Hid (Own CE (wB.drew.alloc (.cells #[] 28)) (some ⟨wB.heap.size, 0, none⟩) 0 [] ∧ Keeps no wB (wB.drew.alloc (.cells #[] 28))) := ⟨own_empty okC wB.drew, (Keeps.refl no wB).drew.alloc _⟩
      have HC0 : Hid (∀ o5 w5, Ap (wB.drew.alloc (.cells #[] 28)) (some ⟨wB.heap.size, 0, none⟩) o5 w5 → Keeps no wB w5 ∧ New wB o5) := fun o5 w5 hap => ⟨(hap.new (new_fresh wB _ (by omega) 0) HA0.out.2).2, (hap.new (new_fresh wB _ (by omega) 0) HA0.out.2).1⟩
      have HA1 : Hid (Own CE ((wB.drew.alloc (.cells #[] 28)).alloc (.cells #[.int .i64 v'.k, .int .u64 (v'.i : Nat), .slice v'.op v'.np v'.cp, .slice v'.ok v'.nk v'.ck] 28)) (some ⟨wB.heap.size, 0, none⟩) 0 [] ∧ Keeps no wB ((wB.drew.alloc (.cells #[] 28)).alloc (.cells #[.int .i64 v'.k, .int .u64 (v'.i : Nat), .slice v'.op v'.np v'.cp, .slice v'.ok v'.nk v'.ck] 28))) := ⟨(own_empty okC wB.drew).keepsN ((Keeps.refl no _).alloc _), ((Keeps.refl no wB).drew.alloc _).alloc _⟩
      have HC1 : Hid (∀ o5 w5, Ap ((wB.drew.alloc (.cells #[] 28)).alloc (.cells #[.int .i64 v'.k, .int .u64 (v'.i : Nat), .slice v'.op v'.np v'.cp, .slice v'.ok v'.nk v'.ck] 28)) (some ⟨wB.heap.size, 0, none⟩) o5 w5 → Keeps no wB w5 ∧ New wB o5 ∧ Row CE w5 (some ⟨wB.heap.size + 1, 0, none⟩) [v']) := fun o5 w5 hap => ⟨(hap.new (new_fresh wB _ (by omega) 0) HA1.out.2).2, (hap.new (new_fresh wB _ (by omega) 0) HA1.out.2).1, row_far ((hsz (.cells #[] 28)) ▸ (own_oneC (wB.drew.alloc (.cells #[] 28)) v').row) (by omega) (by simp only [World.size_alloc, hsz]; omega) hap⟩
      have HA2 : Hid (Own CE ((wB.drew.alloc (.cells #[.int .i64 v'.k, .int .u64 (v'.i : Nat), .slice v'.op v'.np v'.cp, .slice v'.ok v'.nk v'.ck] 28)).alloc (.cells #[] 28)) (some ⟨wB.heap.size + 1, 0, none⟩) 0 [] ∧ Keeps no wB ((wB.drew.alloc (.cells #[.int .i64 v'.k, .int .u64 (v'.i : Nat), .slice v'.op v'.np v'.cp, .slice v'.ok v'.nk v'.ck] 28)).alloc (.cells #[] 28))) := ⟨(hsz (.cells #[.int .i64 v'.k, .int .u64 (v'.i : Nat), .slice v'.op v'.np v'.cp, .slice v'.ok v'.nk v'.ck] 28)) ▸ own_empty okC (wB.drew.alloc (.cells #[.int .i64 v'.k, .int .u64 (v'.i : Nat), .slice v'.op v'.np v'.cp, .slice v'.ok v'.nk v'.ck] 28)), ((Keeps.refl no wB).drew.alloc _).alloc _⟩
      have HC2 : Hid (∀ o5 w5, Ap ((wB.drew.alloc (.cells #[.int .i64 v'.k, .int .u64 (v'.i : Nat), .slice v'.op v'.np v'.cp, .slice v'.ok v'.nk v'.ck] 28)).alloc (.cells #[] 28)) (some ⟨wB.heap.size + 1, 0, none⟩) o5 w5 → Keeps no wB w5 ∧ New wB o5 ∧ Row CE w5 (some ⟨wB.heap.size, 0, none⟩) [v']) := fun o5 w5 hap => ⟨(hap.new (new_fresh wB _ (by omega) 0) HA2.out.2).2, (hap.new (new_fresh wB _ (by omega) 0) HA2.out.2).1, row_far (((own_oneC wB.drew v').keepsN ((Keeps.refl no _).alloc _)).row) (by omega) (by simp only [World.size_alloc, hsz]; omega) hap⟩
      have HBB : Hid (([] : List CV).length + vs.length ≤ 140737488355328 ∧ (([] : List CV).length + vs.length) * CE.nb ≤ 140737488355328 ∧ vs.length + [v'].length ≤ 140737488355328 ∧ (vs.length + [v'].length) * CE.nb ≤ 140737488355328) := by have := HMV.out.2.2; exact ⟨by simp; omega, by simp [CE]; omega, by simp; omega, by simp [CE]; omega⟩
      have HZM : Hid (0 + m = vs.length) := by have := HMV.out.1; exact (by omega : 0 + m = vs.length)
      clear hsz
      go_wp2_with fail
      go_region_held_law (fun X => X.cell? ⟨L, 0, none⟩ = some (.int .i64 v'.k) ∧ X.cell? ⟨L, 1, none⟩ = some (.int .u64 (v'.i : Nat)) ∧ X.cell? ⟨L, 2, none⟩ = some (.slice v'.op v'.np v'.cp) ∧ X.cell? ⟨L, 3, none⟩ = some (.slice v'.ok v'.nk v'.ck)) (first | exact HST.out _ K7.out | exact HST.out _ K6.out | exact HST.out _ (K5.out.alloc _) | exact HST.out _ K5.out | exact HST.out _ (((Keeps.refl no wB).drew.alloc _).alloc _) | exact HST.out _ ((Keeps.refl no wB).drew.alloc _) | exact HST.out _ ((Keeps.refl no wB).drew) | exact HST.out _ (Keeps.refl no wB))
        (first
          | (refine step_appW okC rfl _ _ rfl (some ⟨wB.heap.size, 0, none⟩) 0 0 [] rfl rfl HA0.out.1 ow m cw vs rfl HMV.out.1 HMV.out.2.1 (HRW.out _ HA0.out.2) HBB.out.2.1 HBB.out.1 ?_; intro o5 c5 w5 ho5 hap5; have K5 : Hid (Keeps no wB w5) := (HC0.out o5 w5 hap5).1; have N5 : Hid (New wB o5) := (HC0.out o5 w5 hap5).2; have HO5 : Hid (Own CE w5 o5 c5 vs) := ho5; clear ho5 hap5)
          | (refine step_appW okC rfl _ _ rfl (some ⟨wB.heap.size, 0, none⟩) 0 0 [] rfl rfl HA1.out.1 ow m cw vs rfl HMV.out.1 HMV.out.2.1 (HRW.out _ HA1.out.2) HBB.out.2.1 HBB.out.1 ?_; intro o5 c5 w5 ho5 hap5; have K5 : Hid (Keeps no wB w5) := (HC1.out o5 w5 hap5).1; have N5 : Hid (New wB o5) := (HC1.out o5 w5 hap5).2.1; have HV5 : Hid (Row CE w5 (some ⟨wB.heap.size + 1, 0, none⟩) [v']) := (HC1.out o5 w5 hap5).2.2; have HO5 : Hid (Own CE w5 o5 c5 vs) := ho5; clear ho5 hap5)
          | (refine step_appW okC rfl _ _ rfl (some ⟨wB.heap.size + 1, 0, none⟩) 0 0 [] rfl rfl HA2.out.1 ow m cw vs rfl HMV.out.1 HMV.out.2.1 (HRW.out _ HA2.out.2) HBB.out.2.1 HBB.out.1 ?_; intro o5 c5 w5 ho5 hap5; have K5 : Hid (Keeps no wB w5) := (HC2.out o5 w5 hap5).1; have N5 : Hid (New wB o5) := (HC2.out o5 w5 hap5).2.1; have HV5 : Hid (Row CE w5 (some ⟨wB.heap.size, 0, none⟩) [v']) := (HC2.out o5 w5 hap5).2.2; have HO5 : Hid (Own CE w5 o5 c5 vs) := ho5; clear ho5 hap5)
          | (refine step_appW okC rfl _ _ rfl o5 _ c5 vs rfl (by have := HMV.out.1; omega) HO5.out (some ⟨_, 0, none⟩) 1 1 [v'] rfl rfl (fun h => by cases h) HV5.out HBB.out.2.2.2 HBB.out.2.2.1 ?_; intro o6 c6 w6 ho6 hap6; have K6 : Hid (Keeps no wB w6) := (hap6.new N5.out K5.out).2; have HO6 : Hid (Own CE w6 o6 c6 (vs ++ [v'])) := ho6; clear ho6 hap6)
          | (refine step_appW okC rfl _ _ rfl o5 _ c5 vs rfl (by have := HMV.out.1; omega) (HO5.out.keepsN ((Keeps.refl no _).alloc _)) (some ⟨_, 0, none⟩) 1 1 [v'] rfl rfl (fun h => by cases h) (own_oneC w5 v').row HBB.out.2.2.2 HBB.out.2.2.1 ?_; intro o6 c6 w6 ho6 hap6; have K6 : Hid (Keeps no wB w6) := (hap6.new N5.out (K5.out.alloc _)).2; have HO6 : Hid (Own CE w6 o6 c6 (vs ++ [v'])) := ho6; clear ho6 hap6)
          | (go_at_call 15; refine (sameRecords_any w6 oc mc cc vc (l ++ [r']) o6 _ c6 (vs ++ [v']) (l ++ [r']) HMC.out (by have := HMM.out; rw [List.length_append, List.length_singleton]; omega) (by omega) (by omega) (HSB.out w6 K6.out) (HEQ.out w6 K6.out o6 c6 HO6.out)).mono ?_; rintro e w7' ⟨⟨B1, rfl, hB1⟩, hk7⟩; have hB1t : B1 = true := hB1.out.2 rfl; subst hB1t; have K7 : Hid (Keeps no wB w7') := K6.out.trans hk7; clear hB1 hk7))
      all_goals go_wp2_with fail
      all_goals go_ret
      all_goals exact ⟨rfl, HKW.out.trans K7.out⟩
end Go.Proofs.YtgamhblkgojapaaDoor
