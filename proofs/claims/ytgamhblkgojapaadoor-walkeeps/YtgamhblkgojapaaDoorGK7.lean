/- WalKeeps: its walk. -/
import Derived.Test.YtgamhblkgojapaaDoorGK3
import Derived.Deep.Light
namespace Go.Proofs.YtgamhblkgojapaaDoor
open Go.RowKit Pk Dk
set_option linter.unusedVariables false
set_option linter.unusedSimpArgs false

theorem crash_off (k : Int) (s : St) : (crash k s).off = true := by
  unfold crash
  split
  · assumption
  · rfl
theorem commit_z (w : World) (z : Int) (q : Nat) (hz : z = (q : Int)) (hq : (q : Int) ≤ 1000000) : Calls Tryd.prog 12 #[.int .i64 z] w fun e w' => e = .returned (.agg #[.int .i64 2, .int .u64 ((q * 65536 : Nat) : Int), .slice none 0 0, .slice none 0 0]) ∧ Keeps no w w' := by
  subst hz
  exact commit_any w q hq
theorem got_cm (w W : World) {q : Nat} (h : q ≤ 1000000) : Got w W ⟨2, q * 65536, none, 0, 0, none, 0, 0⟩ (cmR q) := ⟨rfl, rfl, rfl, rfl, own_nil _, own_nil _, new_none _, new_none _, (cmR_isC W h).fit⟩
theorem set9 {w : World} {g : Nat} {z0 z1 z2 z3 z4 z5 z6 z7 z8 : Value} {t : TypeId} (h : w.heap[g]? = some (.cells #[z0, z1, z2, z3, z4, z5, z6, z7, z8] t (0, 0))) (a0 a1 a2 a3 a4 a5 a6 a7 a8 : Value) :
    (((((((((w.setCell ⟨g, 0, none⟩ a0).setCell ⟨g, 1, none⟩ a1).setCell ⟨g, 2, none⟩ a2).setCell ⟨g, 3, none⟩ a3).setCell ⟨g, 4, none⟩ a4).setCell ⟨g, 5, none⟩ a5).setCell ⟨g, 6, none⟩ a6).setCell ⟨g, 7, none⟩ a7).setCell ⟨g, 8, none⟩ a8).heap[g]? = some (.cells #[a0, a1, a2, a3, a4, a5, a6, a7, a8] t (0, 0)) ∧ Keeps (eqA g) w (((((((((w.setCell ⟨g, 0, none⟩ a0).setCell ⟨g, 1, none⟩ a1).setCell ⟨g, 2, none⟩ a2).setCell ⟨g, 3, none⟩ a3).setCell ⟨g, 4, none⟩ a4).setCell ⟨g, 5, none⟩ a5).setCell ⟨g, 6, none⟩ a6).setCell ⟨g, 7, none⟩ a7).setCell ⟨g, 8, none⟩ a8) := by
  have h0 : (w.setCell ⟨g, 0, none⟩ a0).heap[g]? = some (.cells #[a0, z1, z2, z3, z4, z5, z6, z7, z8] t (0, 0)) := by rw [blk_set h]; rfl
  have h1 : ((w.setCell ⟨g, 0, none⟩ a0).setCell ⟨g, 1, none⟩ a1).heap[g]? = some (.cells #[a0, a1, z2, z3, z4, z5, z6, z7, z8] t (0, 0)) := by rw [blk_set h0]; rfl
  have h2 : (((w.setCell ⟨g, 0, none⟩ a0).setCell ⟨g, 1, none⟩ a1).setCell ⟨g, 2, none⟩ a2).heap[g]? = some (.cells #[a0, a1, a2, z3, z4, z5, z6, z7, z8] t (0, 0)) := by rw [blk_set h1]; rfl
  have h3 : ((((w.setCell ⟨g, 0, none⟩ a0).setCell ⟨g, 1, none⟩ a1).setCell ⟨g, 2, none⟩ a2).setCell ⟨g, 3, none⟩ a3).heap[g]? = some (.cells #[a0, a1, a2, a3, z4, z5, z6, z7, z8] t (0, 0)) := by rw [blk_set h2]; rfl
  have h4 : (((((w.setCell ⟨g, 0, none⟩ a0).setCell ⟨g, 1, none⟩ a1).setCell ⟨g, 2, none⟩ a2).setCell ⟨g, 3, none⟩ a3).setCell ⟨g, 4, none⟩ a4).heap[g]? = some (.cells #[a0, a1, a2, a3, a4, z5, z6, z7, z8] t (0, 0)) := by rw [blk_set h3]; rfl
  have h5 : ((((((w.setCell ⟨g, 0, none⟩ a0).setCell ⟨g, 1, none⟩ a1).setCell ⟨g, 2, none⟩ a2).setCell ⟨g, 3, none⟩ a3).setCell ⟨g, 4, none⟩ a4).setCell ⟨g, 5, none⟩ a5).heap[g]? = some (.cells #[a0, a1, a2, a3, a4, a5, z6, z7, z8] t (0, 0)) := by rw [blk_set h4]; rfl
  have h6 : (((((((w.setCell ⟨g, 0, none⟩ a0).setCell ⟨g, 1, none⟩ a1).setCell ⟨g, 2, none⟩ a2).setCell ⟨g, 3, none⟩ a3).setCell ⟨g, 4, none⟩ a4).setCell ⟨g, 5, none⟩ a5).setCell ⟨g, 6, none⟩ a6).heap[g]? = some (.cells #[a0, a1, a2, a3, a4, a5, a6, z7, z8] t (0, 0)) := by rw [blk_set h5]; rfl
  have h7 : ((((((((w.setCell ⟨g, 0, none⟩ a0).setCell ⟨g, 1, none⟩ a1).setCell ⟨g, 2, none⟩ a2).setCell ⟨g, 3, none⟩ a3).setCell ⟨g, 4, none⟩ a4).setCell ⟨g, 5, none⟩ a5).setCell ⟨g, 6, none⟩ a6).setCell ⟨g, 7, none⟩ a7).heap[g]? = some (.cells #[a0, a1, a2, a3, a4, a5, a6, a7, z8] t (0, 0)) := by rw [blk_set h6]; rfl
  have h8 : (((((((((w.setCell ⟨g, 0, none⟩ a0).setCell ⟨g, 1, none⟩ a1).setCell ⟨g, 2, none⟩ a2).setCell ⟨g, 3, none⟩ a3).setCell ⟨g, 4, none⟩ a4).setCell ⟨g, 5, none⟩ a5).setCell ⟨g, 6, none⟩ a6).setCell ⟨g, 7, none⟩ a7).setCell ⟨g, 8, none⟩ a8).heap[g]? = some (.cells #[a0, a1, a2, a3, a4, a5, a6, a7, a8] t (0, 0)) := by rw [blk_set h7]; rfl
  exact ⟨h8, ((((((((((Keeps.refl (eqA g) w).setA 0 a0).setA 1 a1).setA 2 a2).setA 3 a3).setA 4 a4).setA 5 a5).setA 6 a6).setA 7 a7).setA 8 a8)⟩
theorem cells9 {w : World} {g : Nat} {z0 z1 z2 z3 z4 z5 z6 z7 z8 : Value} {t : TypeId} (h : w.heap[g]? = some (.cells #[z0, z1, z2, z3, z4, z5, z6, z7, z8] t (0, 0))) : w.cell? ⟨g, 0, none⟩ = some z0 ∧ w.cell? ⟨g, 1, none⟩ = some z1 ∧ w.cell? ⟨g, 2, none⟩ = some z2 ∧ w.cell? ⟨g, 3, none⟩ = some z3 ∧ w.cell? ⟨g, 4, none⟩ = some z4 ∧ w.cell? ⟨g, 5, none⟩ = some z5 ∧ w.cell? ⟨g, 6, none⟩ = some z6 ∧ w.cell? ⟨g, 7, none⟩ = some z7 ∧ w.cell? ⟨g, 8, none⟩ = some z8 := ⟨cell_of_blk h 0, cell_of_blk h 1, cell_of_blk h 2, cell_of_blk h 3, cell_of_blk h 4, cell_of_blk h 5, cell_of_blk h 6, cell_of_blk h 7, cell_of_blk h 8⟩

/-- the statement that a walk leaves -/
def leftBy {P Q : Prop} (_ : P → Hid False → Q) : Prop := P

set_option maxRecDepth 10000 in
set_option maxHeartbeats 4000000 in
def OpenWay : Prop := by
  apply leftBy (Q := ∀ (w : World) (a0 : Option Addr) (len0 cap0 : Nat) (l0 : List OV) (hlen : len0 = l0.length) (hz : cap0 * 128 ≤ reachBytes) (hs : Sl OE w a0 cap0 l0) (hok : ∀ v ∈ l0, OkOV w v) (ht : TabIn w), Calls Tryd.prog 5 #[.slice a0 len0 cap0] w fun e w' => e = .returned (.bool true) ∧ Keeps no w w')
  · intro HOP hF w a0 len0 cap0 l0 hlen hz hs hok ht
    have HS0 : Hid (Sl OE w a0 cap0 l0 ∧ len0 = l0.length ∧ ∀ v ∈ l0, OkOV w v) := ⟨hs, hlen, hok⟩
    have HT0 : Hid (TabIn w) := ht
    have hlb : (len0 : Int) ≤ 140737488351232 := by have := hs.cap; rw [← hlen] at this; simp only [reachBytes] at hz; omega
    clear hs hlen ht hok hz
    go_enter Tryd.func5, Tryd.ntmps5
    go_wp2_with fail
    refine (alive_any w HT0.out).mono ?_
    rintro e w1 ⟨rfl, hk1⟩
    have HK1 : Hid (Keeps no w w1) := hk1
    have HT : Hid (TabIn w1) := HT0.out.keepsN hk1
    clear hk1 HT0
    go_wp2_with fail
    refine (dn_new w1).mono ?_
    rintro e w2 ⟨p, rfl, HD2, HK2⟩
    generalize (fun k => w1.heap.size ≤ k ∧ k < w2.heap.size) = F0 at HD2
    go_wp2_with fail
    refine (dn_open nlog HD2.out HT.out (opn_gone (s := Dk.new) ⟨rfl, rfl⟩ rfl) (by decide) (by decide)).mono ?_
    rintro e w3 ⟨q0, o3, m3, c3, vs3, rfl, hm, HL3, -, HD3, -⟩
    obtain rfl : m3 = 0 := hm.out
    have HL3' : Hid (IsL w3 q0 p nlog 0 ∧ ¬ F0 q0 ∧ w1.heap.size ≤ q0 ∧ (Dk.new.off = false → 0 = (rowb []).length)) := ⟨HL3.out.1, HL3.out.2.2, by have := HL3.out.2.1; have := HK2.out.size; omega, fun _ => rfl⟩
    clear hm HL3 HK2 HD2
    go_wp2_with fail
    go_loopw [5, 8, 9, 10] (fun ql al sq i wr => ∃ (q : Nat) (oa : Option Addr) (m ca SQ I : Nat) (F : Nat → Prop) (s : St) (D : List Rec) (la : Option Rec) (t : List Nat) (vs : List KV) (kk : Nat), ql = .pointer (some ⟨q, 0, none⟩) ∧ al = .slice oa m ca ∧ sq = .int .i64 (SQ : Nat) ∧ i = .int .i64 (I : Nat) ∧ (I : Int) ≤ 400 ∧ (I : Int) ≤ len0 + 1 ∧ (SQ : Int) ≤ I ∧ (m : Int) ≤ I ∧ Hid (m = (allL D la).length ∧ KInv nlog.data.toList s D la t) ∧ Hid (Dn w1 wr p F s) ∧ Hid (IsL wr q p nlog kk ∧ ¬ F q ∧ w1.heap.size ≤ q ∧ (s.off = false → kk = (rowb D).length)) ∧ Hid (Tld w1 wr F oa ca vs (allL D la))) (fun _ _ _ i _ => 400 - (intOf i).toNat)
    case atStart => exact hF.out.elim
    case round =>
      rename World => wr
      obtain ⟨q, oa, m, ca, SQ, I, F, s, D, la, t, vs, kk, rfl, rfl, rfl, rfl, hI4, hI0, hSQ, hmI, HI, HD, HL, HA⟩ := hrel
      by_cases hle : (I : Int) ≤ len0
      · by_cases h4 : (I : Int) < 400
        · go_upto_if 59 with fail
          have hbx := blk_new wr (.cells #[.int .i64 5, .int .i64 0, .int .u64 0, .slice none 0 0, .slice none 0 0, .int .i64 0, .int .i64 0, .string ⟨#[]⟩, .slice none 0 0] 57)
          have HKV : Hid (Keeps no wr (wr.alloc (.cells #[.int .i64 5, .int .i64 0, .int .u64 0, .slice none 0 0, .slice none 0 0, .int .i64 0, .int .i64 0, .string ⟨#[]⟩, .slice none 0 0] 57))) := (Keeps.refl _ _).alloc _
          generalize wr.alloc (.cells #[.int .i64 5, .int .i64 0, .int .u64 0, .slice none 0 0, .slice none 0 0, .int .i64 0, .int .i64 0, .string ⟨#[]⟩, .slice none 0 0] 57) = V1 at hbx HKV ⊢
          obtain ⟨BX, hBX⟩ : ∃ BX, BX = wr.heap.size := ⟨_, rfl⟩
          have HBW : Hid (wr.heap.size ≤ BX) := by rw [hBX]; exact Nat.le_refl _
          rw [← hBX] at hbx ⊢
          clear hBX
          have HBV : Hid (V1.heap[BX]? = some (.cells #[.int .i64 5, .int .i64 0, .int .u64 0, .slice none 0 0, .slice none 0 0, .int .i64 0, .int .i64 0, .string ⟨#[]⟩, .slice none 0 0] 57 (0, 0))) := hbx
          clear hbx
          go_cut [] from 56 to 63 (fun wc => ∃ (v : OV) (r : Rec), Hid (wc.heap[BX]? = some (.cells #[.int .i64 v.kd, .int .i64 v.rv.k, .int .u64 (v.rv.i : Nat), .slice v.rv.op v.rv.np v.rv.cp, .slice v.rv.ok v.rv.nk v.rv.ck, .int .i64 v.n, .int .i64 v.k, .string v.nm, .slice v.ob v.nb v.cb] 57 (0, 0))) ∧ Hid (IsC wc v.rv r ∧ i64 v.n ∧ i64 v.k) ∧ Hid (Keeps no wr wc))
          case first => exact hF.out.elim
          case rest =>
            rename World => wc
            obtain ⟨v, r, HBX, HRV, HKC⟩ := hcut
            obtain ⟨kd, rv, zn, zk, nm, ob, nb, cb⟩ := v
            simp only at HBX HRV
            have HDc : Hid (Dn w1 wc p F s) := HD.out.beside HKC.out
            have HLc : Hid (IsL wc q p nlog kk ∧ ¬ F q ∧ w1.heap.size ≤ q ∧ (s.off = false → kk = (rowb D).length)) := ⟨HL.out.1.keeps HKC.out (fun h => h), HL.out.2⟩
            have HAc : Hid (Tld w1 wc F oa ca vs (allL D la)) := HA.out.keepsN HKC.out
            obtain ⟨x0, x1, x2, x3, x4, x5, x6, x7, x8⟩ := cells9 HBX.out
            clear HD HL HA
            by_cases k1 : kd = 1
            · exact hF.out.elim
            · have k1' : (kd == 1) = false := by simpa using k1
              by_cases k2 : kd = 2
              · exact hF.out.elim
              · have k2' : (kd == 2) = false := by simpa using k2
                by_cases k3 : kd = 3
                · exact hF.out.elim
                · have k3' : (kd == 3) = false := by simpa using k3
                  by_cases k4 : kd = 4
                  · exact hF.out.elim
                  · have k4' : (kd == 4) = false := by simpa using k4
                    by_cases k5 : kd = 5
                    · subst k5
                      clear k1 k1' k2 k2' k3 k3' k4 k4'
                      rename_i Q_i1 K_i1 a_i1 u56_i1 u57_i1 u58_i1 u59_i1 u60_i1 u61_i1 u62_i1 u63_i1 Q_i2 K_i2 a_i2 K_i3 a_i3
                      revert w a0 len0 cap0 l0 HS0 hlb Q_i1 w1 HK1 HT w2 p F0 w3 q0 o3 c3 vs3 HD3 HL3' K_i1 a_i1 wr u2 u11 u12 u13 u14 u15 u16 u17 u18 u19 u20 u21 u22 u23 u24 u25 u26 u27 u28 u45 u46 u47 u48 u49 u50 u51 u52 u53 u54 u55 u56_i1 u57_i1 u58_i1 u59_i1 u60_i1 u61_i1 u62_i1 u63_i1 u64 u65 u66 u67 u68 u69 u70 u71 u72 u73 u74 u75 u76 u77 u78 u79 u80 u81 u82 u83 u84 u85 u86 u87 u88 u89 u90 u91 u92 u93 u94 u95 u96 u97 u98 u99 u100 u101 u102 u103 u104 u105 u106 u107 u108 u109 u110 u111 u112 u113 u114 u115 u116 u117 u118 u119 u120 u121 u122 u123 u124 u125 u126 u127 u128 u129 u130 u131 u132 u133 u134 u135 u136 u137 u138 u139 u140 u141 u142 u143 u144 u145 u146 u147 u148 u149 u150 u151 u152 u153 u154 u155 u156 u157 u158 u159 u160 u161 u162 u163 u164 u165 u166 u167 u168 u169 u170 u171 u172 u173 u174 u175 u176 u177 u178 u179 u180 u181 u182 u183 u184 u185 u186 u187 u188 u189 u190 u191 u192 u193 u194 u195 u196 u197 u198 u199 u200 u201 u202 u203 u204 u205 u206 u207 u208 u209 u210 u211 u212 u213 u214 u215 u216 u217 u218 u219 u220 u221 u222 u223 u224 u225 u226 u227 u228 u229 u230 u231 u232 u233 u234 u235 u236 u237 u238 q oa m ca SQ I F s D la t vs kk hI4 hI0 hSQ hmI HI hle h4 Q_i2 K_i2 a_i2 K_i3 a_i3 V1 HKV BX HBW HBV wc u56 u57 u58 u59 u60 u61 u62 u63 r HKC rv zn zk nm ob nb cb HRV HDc HLc HAc x1 x2 x3 x4 x5 x6 x7 x8 HBX x0
                      exact HOP
                    · exact hF.out.elim
        · exact hF.out.elim
      · exact hF.out.elim

set_option maxRecDepth 10000 in
set_option maxHeartbeats 4000000 in
def AppendWay : Prop := by
  apply leftBy (Q := ∀ (w : World) (a0 : Option Addr) (len0 cap0 : Nat) (l0 : List OV) (hlen : len0 = l0.length) (hz : cap0 * 128 ≤ reachBytes) (hs : Sl OE w a0 cap0 l0) (hok : ∀ v ∈ l0, OkOV w v) (ht : TabIn w), Calls Tryd.prog 5 #[.slice a0 len0 cap0] w fun e w' => e = .returned (.bool true) ∧ Keeps no w w')
  · intro HOP hF w a0 len0 cap0 l0 hlen hz hs hok ht
    have HS0 : Hid (Sl OE w a0 cap0 l0 ∧ len0 = l0.length ∧ ∀ v ∈ l0, OkOV w v) := ⟨hs, hlen, hok⟩
    have HT0 : Hid (TabIn w) := ht
    have hlb : (len0 : Int) ≤ 140737488351232 := by have := hs.cap; rw [← hlen] at this; simp only [reachBytes] at hz; omega
    clear hs hlen ht hok hz
    go_enter Tryd.func5, Tryd.ntmps5
    go_wp2_with fail
    refine (alive_any w HT0.out).mono ?_
    rintro e w1 ⟨rfl, hk1⟩
    have HK1 : Hid (Keeps no w w1) := hk1
    have HT : Hid (TabIn w1) := HT0.out.keepsN hk1
    clear hk1 HT0
    go_wp2_with fail
    refine (dn_new w1).mono ?_
    rintro e w2 ⟨p, rfl, HD2, HK2⟩
    generalize (fun k => w1.heap.size ≤ k ∧ k < w2.heap.size) = F0 at HD2
    go_wp2_with fail
    refine (dn_open nlog HD2.out HT.out (opn_gone (s := Dk.new) ⟨rfl, rfl⟩ rfl) (by decide) (by decide)).mono ?_
    rintro e w3 ⟨q0, o3, m3, c3, vs3, rfl, hm, HL3, -, HD3, -⟩
    obtain rfl : m3 = 0 := hm.out
    have HL3' : Hid (IsL w3 q0 p nlog 0 ∧ ¬ F0 q0 ∧ w1.heap.size ≤ q0 ∧ (Dk.new.off = false → 0 = (rowb []).length)) := ⟨HL3.out.1, HL3.out.2.2, by have := HL3.out.2.1; have := HK2.out.size; omega, fun _ => rfl⟩
    clear hm HL3 HK2 HD2
    go_wp2_with fail
    go_loopw [5, 8, 9, 10] (fun ql al sq i wr => ∃ (q : Nat) (oa : Option Addr) (m ca SQ I : Nat) (F : Nat → Prop) (s : St) (D : List Rec) (la : Option Rec) (t : List Nat) (vs : List KV) (kk : Nat), ql = .pointer (some ⟨q, 0, none⟩) ∧ al = .slice oa m ca ∧ sq = .int .i64 (SQ : Nat) ∧ i = .int .i64 (I : Nat) ∧ (I : Int) ≤ 400 ∧ (I : Int) ≤ len0 + 1 ∧ (SQ : Int) ≤ I ∧ (m : Int) ≤ I ∧ Hid (m = (allL D la).length ∧ KInv nlog.data.toList s D la t) ∧ Hid (Dn w1 wr p F s) ∧ Hid (IsL wr q p nlog kk ∧ ¬ F q ∧ w1.heap.size ≤ q ∧ (s.off = false → kk = (rowb D).length)) ∧ Hid (Tld w1 wr F oa ca vs (allL D la))) (fun _ _ _ i _ => 400 - (intOf i).toNat)
    case atStart => exact hF.out.elim
    case round =>
      rename World => wr
      obtain ⟨q, oa, m, ca, SQ, I, F, s, D, la, t, vs, kk, rfl, rfl, rfl, rfl, hI4, hI0, hSQ, hmI, HI, HD, HL, HA⟩ := hrel
      by_cases hle : (I : Int) ≤ len0
      · by_cases h4 : (I : Int) < 400
        · go_upto_if 59 with fail
          have hbx := blk_new wr (.cells #[.int .i64 5, .int .i64 0, .int .u64 0, .slice none 0 0, .slice none 0 0, .int .i64 0, .int .i64 0, .string ⟨#[]⟩, .slice none 0 0] 57)
          have HKV : Hid (Keeps no wr (wr.alloc (.cells #[.int .i64 5, .int .i64 0, .int .u64 0, .slice none 0 0, .slice none 0 0, .int .i64 0, .int .i64 0, .string ⟨#[]⟩, .slice none 0 0] 57))) := (Keeps.refl _ _).alloc _
          generalize wr.alloc (.cells #[.int .i64 5, .int .i64 0, .int .u64 0, .slice none 0 0, .slice none 0 0, .int .i64 0, .int .i64 0, .string ⟨#[]⟩, .slice none 0 0] 57) = V1 at hbx HKV ⊢
          obtain ⟨BX, hBX⟩ : ∃ BX, BX = wr.heap.size := ⟨_, rfl⟩
          have HBW : Hid (wr.heap.size ≤ BX) := by rw [hBX]; exact Nat.le_refl _
          rw [← hBX] at hbx ⊢
          clear hBX
          have HBV : Hid (V1.heap[BX]? = some (.cells #[.int .i64 5, .int .i64 0, .int .u64 0, .slice none 0 0, .slice none 0 0, .int .i64 0, .int .i64 0, .string ⟨#[]⟩, .slice none 0 0] 57 (0, 0))) := hbx
          clear hbx
          go_cut [] from 56 to 63 (fun wc => ∃ (v : OV) (r : Rec), Hid (wc.heap[BX]? = some (.cells #[.int .i64 v.kd, .int .i64 v.rv.k, .int .u64 (v.rv.i : Nat), .slice v.rv.op v.rv.np v.rv.cp, .slice v.rv.ok v.rv.nk v.rv.ck, .int .i64 v.n, .int .i64 v.k, .string v.nm, .slice v.ob v.nb v.cb] 57 (0, 0))) ∧ Hid (IsC wc v.rv r ∧ i64 v.n ∧ i64 v.k) ∧ Hid (Keeps no wr wc))
          case first => exact hF.out.elim
          case rest =>
            rename World => wc
            obtain ⟨v, r, HBX, HRV, HKC⟩ := hcut
            obtain ⟨kd, rv, zn, zk, nm, ob, nb, cb⟩ := v
            simp only at HBX HRV
            have HDc : Hid (Dn w1 wc p F s) := HD.out.beside HKC.out
            have HLc : Hid (IsL wc q p nlog kk ∧ ¬ F q ∧ w1.heap.size ≤ q ∧ (s.off = false → kk = (rowb D).length)) := ⟨HL.out.1.keeps HKC.out (fun h => h), HL.out.2⟩
            have HAc : Hid (Tld w1 wc F oa ca vs (allL D la)) := HA.out.keepsN HKC.out
            obtain ⟨x0, x1, x2, x3, x4, x5, x6, x7, x8⟩ := cells9 HBX.out
            clear HD HL HA
            by_cases k1 : kd = 1
            · subst k1
              rename_i Q_i1 K_i1 a_i1 u56_i1 u57_i1 u58_i1 u59_i1 u60_i1 u61_i1 u62_i1 u63_i1 Q_i2 K_i2 a_i2 K_i3 a_i3
              revert w a0 len0 cap0 l0 HS0 hlb Q_i1 w1 HK1 HT w2 p F0 w3 q0 o3 c3 vs3 HD3 HL3' K_i1 a_i1 wr u2 u11 u12 u13 u14 u15 u16 u17 u18 u19 u20 u21 u22 u23 u24 u25 u26 u27 u28 u45 u46 u47 u48 u49 u50 u51 u52 u53 u54 u55 u56_i1 u57_i1 u58_i1 u59_i1 u60_i1 u61_i1 u62_i1 u63_i1 u64 u65 u66 u67 u68 u69 u70 u71 u72 u73 u74 u75 u76 u77 u78 u79 u80 u81 u82 u83 u84 u85 u86 u87 u88 u89 u90 u91 u92 u93 u94 u95 u96 u97 u98 u99 u100 u101 u102 u103 u104 u105 u106 u107 u108 u109 u110 u111 u112 u113 u114 u115 u116 u117 u118 u119 u120 u121 u122 u123 u124 u125 u126 u127 u128 u129 u130 u131 u132 u133 u134 u135 u136 u137 u138 u139 u140 u141 u142 u143 u144 u145 u146 u147 u148 u149 u150 u151 u152 u153 u154 u155 u156 u157 u158 u159 u160 u161 u162 u163 u164 u165 u166 u167 u168 u169 u170 u171 u172 u173 u174 u175 u176 u177 u178 u179 u180 u181 u182 u183 u184 u185 u186 u187 u188 u189 u190 u191 u192 u193 u194 u195 u196 u197 u198 u199 u200 u201 u202 u203 u204 u205 u206 u207 u208 u209 u210 u211 u212 u213 u214 u215 u216 u217 u218 u219 u220 u221 u222 u223 u224 u225 u226 u227 u228 u229 u230 u231 u232 u233 u234 u235 u236 u237 u238 q oa m ca SQ I F s D la t vs kk hI4 hI0 hSQ hmI HI hle h4 Q_i2 K_i2 a_i2 K_i3 a_i3 V1 HKV BX HBW HBV wc u56 u57 u58 u59 u60 u61 u62 u63 r HKC rv zn zk nm ob nb cb HRV HDc HLc HAc x1 x2 x3 x4 x5 x6 x7 x8 HBX x0
              exact HOP
            · exact hF.out.elim
        · exact hF.out.elim
      · exact hF.out.elim

end Go.Proofs.YtgamhblkgojapaaDoor
