/- WalKeeps: its walk. -/
import Derived.Test.YtgamhblkgojapaaDoorGK8
import Derived.Test.YtgamhblkgojapaaDoorGK8a
import Derived.Deep.Light
namespace Go.Proofs.YtgamhblkgojapaaDoor
open Go.RowKit Pk Dk
set_option linter.unusedVariables false
set_option linter.unusedSimpArgs false

set_option maxRecDepth 10000 in
set_option maxHeartbeats 4000000 in
theorem walKeeps_any (w : World) (a0 : Option Addr) (len0 cap0 : Nat) (l0 : List OV) (hlen : len0 = l0.length) (hz : cap0 * 128 ≤ reachBytes) (hs : Sl OE w a0 cap0 l0) (hok : ∀ v ∈ l0, OkOV w v) (ht : TabIn w) :
    Calls Tryd.prog 5 #[.slice a0 len0 cap0] w fun e w' => e = .returned (.bool true) ∧ Keeps no w w' := by
  have HS0 : Hid (Sl OE w a0 cap0 l0 ∧ len0 = l0.length ∧ ∀ v ∈ l0, OkOV w v) := ⟨hs, hlen, hok⟩
  have HT0 : Hid (TabIn w) := ht
  have hlb : (len0 : Int) ≤ 140737488351232 := by have := hs.cap; rw [← hlen] at this; simp only [reachBytes] at hz; omega
  clear hs hlen ht hok hz
  go_enter Tryd.func5, Tryd.ntmps5
  go_wp2_with fail
  refine (alive_any w HT0.out).mono ?_
  rintro e w1 ⟨rfl, hk1⟩
  have HK1 : Hid (Keeps no w w1) := hk1
  have HT : Hid (TabIn w1) := HT0.out.keepsN hk1
  clear hk1 HT0
  go_wp2_with fail
  refine (dn_new w1).mono ?_
  rintro e w2 ⟨p, rfl, HD2, HK2⟩
  generalize (fun k => w1.heap.size ≤ k ∧ k < w2.heap.size) = F0 at HD2
  go_wp2_with fail
  refine (dn_open nlog HD2.out HT.out (opn_gone (s := Dk.new) ⟨rfl, rfl⟩ rfl) (by decide) (by decide)).mono ?_
  rintro e w3 ⟨q0, o3, m3, c3, vs3, rfl, hm, HL3, -, HD3, -⟩
  obtain rfl : m3 = 0 := hm.out
  have HL3' : Hid (IsL w3 q0 p nlog 0 ∧ ¬ F0 q0 ∧ w1.heap.size ≤ q0 ∧ (Dk.new.off = false → 0 = (rowb []).length)) := ⟨HL3.out.1, HL3.out.2.2, by have := HL3.out.2.1; have := HK2.out.size; omega, fun _ => rfl⟩
  clear hm HL3 HK2 HD2
  go_wp2_with fail
  go_loopw [5, 8, 9, 10] (fun ql al sq i wr => ∃ (q : Nat) (oa : Option Addr) (m ca SQ I : Nat) (F : Nat → Prop) (s : St) (D : List Rec) (la : Option Rec) (t : List Nat) (vs : List KV) (kk : Nat), ql = .pointer (some ⟨q, 0, none⟩) ∧ al = .slice oa m ca ∧ sq = .int .i64 (SQ : Nat) ∧ i = .int .i64 (I : Nat) ∧ (I : Int) ≤ 400 ∧ (I : Int) ≤ len0 + 1 ∧ (SQ : Int) ≤ I ∧ (m : Int) ≤ I ∧ Hid (m = (allL D la).length ∧ KInv nlog.data.toList s D la t) ∧ Hid (Dn w1 wr p F s) ∧ Hid (IsL wr q p nlog kk ∧ ¬ F q ∧ w1.heap.size ≤ q ∧ (s.off = false → kk = (rowb D).length)) ∧ Hid (Tld w1 wr F oa ca vs (allL D la))) (fun _ _ _ i _ => 400 - (intOf i).toNat)
  case atStart => go_light; exact ⟨q0, none, 0, 0, 0, 0, F0, Dk.new, [], none, [], [], 0, rfl, rfl, rfl, rfl, by omega, by omega, by omega, by omega, ⟨rfl, KInv.new _⟩, HD3, HL3', tld_nil ..⟩
  case round =>
    rename World => wr
    obtain ⟨q, oa, m, ca, SQ, I, F, s, D, la, t, vs, kk, rfl, rfl, rfl, rfl, hI4, hI0, hSQ, hmI, HI, HD, HL, HA⟩ := hrel
    by_cases hle : (I : Int) ≤ len0
    · by_cases h4 : (I : Int) < 400
      · go_upto_if 59 with fail
        have hbx := blk_new wr (.cells #[.int .i64 5, .int .i64 0, .int .u64 0, .slice none 0 0, .slice none 0 0, .int .i64 0, .int .i64 0, .string ⟨#[]⟩, .slice none 0 0] 57)
        have HKV : Hid (Keeps no wr (wr.alloc (.cells #[.int .i64 5, .int .i64 0, .int .u64 0, .slice none 0 0, .slice none 0 0, .int .i64 0, .int .i64 0, .string ⟨#[]⟩, .slice none 0 0] 57))) := (Keeps.refl _ _).alloc _
        generalize wr.alloc (.cells #[.int .i64 5, .int .i64 0, .int .u64 0, .slice none 0 0, .slice none 0 0, .int .i64 0, .int .i64 0, .string ⟨#[]⟩, .slice none 0 0] 57) = V1 at hbx HKV ⊢
        obtain ⟨BX, hBX⟩ : ∃ BX, BX = wr.heap.size := ⟨_, rfl⟩
        have HBW : Hid (wr.heap.size ≤ BX) := by rw [hBX]; exact Nat.le_refl _
        rw [← hBX] at hbx ⊢
        clear hBX
        have HBV : Hid (V1.heap[BX]? = some (.cells #[.int .i64 5, .int .i64 0, .int .u64 0, .slice none 0 0, .slice none 0 0, .int .i64 0, .int .i64 0, .string ⟨#[]⟩, .slice none 0 0] 57 (0, 0))) := hbx
        clear hbx
        go_cut [] from 56 to 63 (fun wc => ∃ (v : OV) (r : Rec), Hid (wc.heap[BX]? = some (.cells #[.int .i64 v.kd, .int .i64 v.rv.k, .int .u64 (v.rv.i : Nat), .slice v.rv.op v.rv.np v.rv.cp, .slice v.rv.ok v.rv.nk v.rv.ck, .int .i64 v.n, .int .i64 v.k, .string v.nm, .slice v.ob v.nb v.cb] 57 (0, 0))) ∧ Hid (IsC wc v.rv r ∧ i64 v.n ∧ i64 v.k) ∧ Hid (Keeps no wr wc))
        case first =>
          by_cases hlt : (I : Int) < len0
          · have HKW : Hid (Keeps no w wr) := HK1.out.trans HD.out.kept
            obtain ⟨b, off, hab, hc⟩ := (HS0.out.1.keepsN (HKW.out.trans HKV.out)).atO (j := I) (by have := HS0.out.2.1; omega)
            obtain ⟨r, bs, hro⟩ := HS0.out.2.2 (l0.getD I ov0) (Orl.getD_mem_lt ov0 (by have := HS0.out.2.1; omega))
            have HRO : Hid (IsC w (l0.getD I ov0).rv r ∧ i64 (l0.getD I ov0).n ∧ i64 (l0.getD I ov0).k) := ⟨hro.rc, ⟨hro.n1, hro.n2⟩, ⟨hro.k1, hro.k2⟩⟩
            clear hro
            generalize l0.getD I ov0 = v at hc HRO
            subst hab
            have d0 := hc 0 _ rfl (by decide)
            have d1 := hc 1 _ rfl (by decide)
            have d2 := hc 2 _ rfl (by decide)
            have d3 := hc 3 _ rfl (by decide)
            have d4 := hc 4 _ rfl (by decide)
            have d5 := hc 5 _ rfl (by decide)
            have d6 := hc 6 _ rfl (by decide)
            have d7 := hc 7 _ rfl (by decide)
            have d8 := hc 8 _ rfl (by decide)
            rw [Nat.add_zero] at d0
            obtain ⟨x0, x1, x2, x3, x4, x5, x6, x7, x8⟩ := cells9 HBV.out
            have f0 := frozen_of_blk HBV.out 0
            have f1 := frozen_of_blk HBV.out 1
            have f2 := frozen_of_blk HBV.out 2
            have f3 := frozen_of_blk HBV.out 3
            have f4 := frozen_of_blk HBV.out 4
            have f5 := frozen_of_blk HBV.out 5
            have f6 := frozen_of_blk HBV.out 6
            have f7 := frozen_of_blk HBV.out 7
            have f8 := frozen_of_blk HBV.out 8
            clear hc
            go_wp2_with fail
            go_meet
            go_light
            have h9 := set9 HBV.out (.int .i64 v.kd) (.int .i64 v.rv.k) (.int .u64 (v.rv.i : Nat)) (.slice v.rv.op v.rv.np v.rv.cp) (.slice v.rv.ok v.rv.nk v.rv.ck) (.int .i64 v.n) (.int .i64 v.k) (.string v.nm) (.slice v.ob v.nb v.cb)
            have hk9 : Keeps no wr _ := HKV.out.then h9.2 (fun i hi => .inr (by unfold eqA at hi; have := HBW.out; omega))
            exact ⟨v, r, h9.1, ⟨HRO.out.1.keepsN (HKW.out.trans hk9), HRO.out.2⟩, hk9⟩
          · go_wp2_with fail
            go_meet
            go_light
            exact ⟨⟨5, cv0, 0, 0, ⟨#[]⟩, none, 0, 0⟩, c0, HBV.out, ⟨⟨rfl, rfl, rfl, rfl, own_nil_sl _, own_nil_sl _, ⟨by simp [c0], fun s hs => (by cases hs), by simp [c0], fun s hs => (by cases hs), by simp [c0], by simp [c0], by simp [c0]⟩⟩, ⟨by decide, by decide⟩, ⟨by decide, by decide⟩⟩, HKV.out⟩
        case rest =>
          rename World => wc
          obtain ⟨v, r, HBX, HRV, HKC⟩ := hcut
          obtain ⟨kd, rv, zn, zk, nm, ob, nb, cb⟩ := v
          simp only at HBX HRV
          have HDc : Hid (Dn w1 wc p F s) := HD.out.beside HKC.out
          have HLc : Hid (IsL wc q p nlog kk ∧ ¬ F q ∧ w1.heap.size ≤ q ∧ (s.off = false → kk = (rowb D).length)) := ⟨HL.out.1.keeps HKC.out (fun h => h), HL.out.2⟩
          have HAc : Hid (Tld w1 wc F oa ca vs (allL D la)) := HA.out.keepsN HKC.out
          obtain ⟨x0, x1, x2, x3, x4, x5, x6, x7, x8⟩ := cells9 HBX.out
          clear HD HL HA
          by_cases k1 : kd = 1
          · subst k1
            rename_i Q_i1 K_i1 a_i1 u56_i1 u57_i1 u58_i1 u59_i1 u60_i1 u61_i1 u62_i1 u63_i1 Q_i2 K_i2 a_i2 K_i3 a_i3
            revert w a0 len0 cap0 l0 HS0 hlb Q_i1 w1 HK1 HT w2 p F0 w3 q0 o3 c3 vs3 HD3 HL3' K_i1 a_i1 wr u2 u11 u12 u13 u14 u15 u16 u17 u18 u19 u20 u21 u22 u23 u24 u25 u26 u27 u28 u45 u46 u47 u48 u49 u50 u51 u52 u53 u54 u55 u56_i1 u57_i1 u58_i1 u59_i1 u60_i1 u61_i1 u62_i1 u63_i1 u64 u65 u66 u67 u68 u69 u70 u71 u72 u73 u74 u75 u76 u77 u78 u79 u80 u81 u82 u83 u84 u85 u86 u87 u88 u89 u90 u91 u92 u93 u94 u95 u96 u97 u98 u99 u100 u101 u102 u103 u104 u105 u106 u107 u108 u109 u110 u111 u112 u113 u114 u115 u116 u117 u118 u119 u120 u121 u122 u123 u124 u125 u126 u127 u128 u129 u130 u131 u132 u133 u134 u135 u136 u137 u138 u139 u140 u141 u142 u143 u144 u145 u146 u147 u148 u149 u150 u151 u152 u153 u154 u155 u156 u157 u158 u159 u160 u161 u162 u163 u164 u165 u166 u167 u168 u169 u170 u171 u172 u173 u174 u175 u176 u177 u178 u179 u180 u181 u182 u183 u184 u185 u186 u187 u188 u189 u190 u191 u192 u193 u194 u195 u196 u197 u198 u199 u200 u201 u202 u203 u204 u205 u206 u207 u208 u209 u210 u211 u212 u213 u214 u215 u216 u217 u218 u219 u220 u221 u222 u223 u224 u225 u226 u227 u228 u229 u230 u231 u232 u233 u234 u235 u236 u237 u238 q oa m ca SQ I F s D la t vs kk hI4 hI0 hSQ hmI HI hle h4 Q_i2 K_i2 a_i2 K_i3 a_i3 V1 HKV BX HBW HBV wc u56 u57 u58 u59 u60 u61 u62 u63 r HKC rv zn zk nm ob nb cb HRV HDc HLc HAc x1 x2 x3 x4 x5 x6 x7 x8 HBX x0
            exact appendWay_any
          · have k1' : (kd == 1) = false := by simpa using k1
            by_cases k2 : kd = 2
            · subst k2
              go_wp2_with fail
              refine (dn_crash zn HDc.out rfl HRV.out.2.1).mono ?_
              rintro e w5 ⟨rfl, hd5, hk5⟩
              have HD5 : Hid (Dn w1 w5 p F (crash zn s)) := hd5
              have HK5 : Hid (Keeps F wc w5) := hk5
              clear hd5 hk5
              go_wp2_with fail
              go_roundw
              case rel => go_light; exact ⟨q, oa, m, ca, SQ, I + 1, F, crash zn s, D, la, t, vs, kk, rfl, rfl, rfl, by go_num, by omega, by omega, by omega, by omega, ⟨HI.out.1, HI.out.2.crash zn⟩, HD5, ⟨HLc.out.1.keeps HK5.out HLc.out.2.1, HLc.out.2.1, HLc.out.2.2.1, fun ho => by rw [crash_off] at ho; cases ho⟩, HAc.out.keepsF HK5.out⟩
              case measure => go_light; simp [intOf]; omega
            · have k2' : (kd == 2) = false := by simpa using k2
              by_cases k3 : kd = 3
              · subst k3
                go_wp2_with fail
                refine (dn_arm zn zk HDc.out rfl HRV.out.2.1 HRV.out.2.2).mono ?_
                rintro e w5 ⟨rfl, hd5, hk5⟩
                have HD5 : Hid (Dn w1 w5 p F (arm zn zk s)) := hd5
                have HK5 : Hid (Keeps F wc w5) := hk5
                clear hd5 hk5
                go_wp2_with fail
                go_roundw
                case rel => go_light; exact ⟨q, oa, m, ca, SQ, I + 1, F, arm zn zk s, D, la, t, vs, kk, rfl, rfl, rfl, by go_num, by omega, by omega, by omega, by omega, ⟨HI.out.1, HI.out.2.arm zn zk⟩, HD5, ⟨HLc.out.1.keeps HK5.out HLc.out.2.1, HLc.out.2.1, HLc.out.2.2.1, HLc.out.2.2.2⟩, HAc.out.keepsF HK5.out⟩
                case measure => go_light; simp [intOf]; omega
              · have k3' : (kd == 3) = false := by simpa using k3
                by_cases k4 : kd = 4
                · subst k4
                  go_wp2_with fail
                  refine (dn_full zn HDc.out rfl HRV.out.2.1).mono ?_
                  rintro e w5 ⟨rfl, HD5, HK5⟩
                  go_wp2_with fail
                  go_roundw
                  case rel => go_light; exact ⟨q, oa, m, ca, SQ, I + 1, F, full zn s, D, la, t, vs, kk, rfl, rfl, rfl, by go_num, by omega, by omega, by omega, by omega, ⟨HI.out.1, HI.out.2.full zn⟩, HD5, ⟨HLc.out.1.keeps HK5.out HLc.out.2.1, HLc.out.2.1, HLc.out.2.2.1, HLc.out.2.2.2⟩, HAc.out.keepsF HK5.out⟩
                  case measure => go_light; simp [intOf]; omega
                · have k4' : (kd == 4) = false := by simpa using k4
                  by_cases k5 : kd = 5
                  · subst k5
                    clear k1 k1' k2 k2' k3 k3' k4 k4'
                    rename_i Q_i1 K_i1 a_i1 u56_i1 u57_i1 u58_i1 u59_i1 u60_i1 u61_i1 u62_i1 u63_i1 Q_i2 K_i2 a_i2 K_i3 a_i3
                    revert w a0 len0 cap0 l0 HS0 hlb Q_i1 w1 HK1 HT w2 p F0 w3 q0 o3 c3 vs3 HD3 HL3' K_i1 a_i1 wr u2 u11 u12 u13 u14 u15 u16 u17 u18 u19 u20 u21 u22 u23 u24 u25 u26 u27 u28 u45 u46 u47 u48 u49 u50 u51 u52 u53 u54 u55 u56_i1 u57_i1 u58_i1 u59_i1 u60_i1 u61_i1 u62_i1 u63_i1 u64 u65 u66 u67 u68 u69 u70 u71 u72 u73 u74 u75 u76 u77 u78 u79 u80 u81 u82 u83 u84 u85 u86 u87 u88 u89 u90 u91 u92 u93 u94 u95 u96 u97 u98 u99 u100 u101 u102 u103 u104 u105 u106 u107 u108 u109 u110 u111 u112 u113 u114 u115 u116 u117 u118 u119 u120 u121 u122 u123 u124 u125 u126 u127 u128 u129 u130 u131 u132 u133 u134 u135 u136 u137 u138 u139 u140 u141 u142 u143 u144 u145 u146 u147 u148 u149 u150 u151 u152 u153 u154 u155 u156 u157 u158 u159 u160 u161 u162 u163 u164 u165 u166 u167 u168 u169 u170 u171 u172 u173 u174 u175 u176 u177 u178 u179 u180 u181 u182 u183 u184 u185 u186 u187 u188 u189 u190 u191 u192 u193 u194 u195 u196 u197 u198 u199 u200 u201 u202 u203 u204 u205 u206 u207 u208 u209 u210 u211 u212 u213 u214 u215 u216 u217 u218 u219 u220 u221 u222 u223 u224 u225 u226 u227 u228 u229 u230 u231 u232 u233 u234 u235 u236 u237 u238 q oa m ca SQ I F s D la t vs kk hI4 hI0 hSQ hmI HI hle h4 Q_i2 K_i2 a_i2 K_i3 a_i3 V1 HKV BX HBW HBV wc u56 u57 u58 u59 u60 u61 u62 u63 r HKC rv zn zk nm ob nb cb HRV HDc HLc HAc x1 x2 x3 x4 x5 x6 x7 x8 HBX x0
                    exact openWay_any
                  · have k5' : (kd == 5) = false := by simpa using k5
                    go_wp2_with fail
                    go_roundw
                    case rel => go_light; exact ⟨q, oa, m, ca, SQ, I + 1, F, s, D, la, t, vs, kk, rfl, rfl, rfl, by go_num, by omega, by omega, by omega, by omega, HI, HDc, HLc, HAc⟩
                    case measure => go_light; simp [intOf]; omega
      · go_wp2_with fail
        go_ret
        exact ⟨rfl, HK1.out.trans HD.out.kept⟩
    · go_wp2_with fail
      go_ret
      exact ⟨rfl, HK1.out.trans HD.out.kept⟩
end Go.Proofs.YtgamhblkgojapaaDoor
