/- WalPlays: three of its ways, as statements. -/
import Derived.Test.YtgamhblkgojapaaGreatDoorGJa
import Derived.Deep.Light
namespace Go.Proofs.YtgamhblkgojapaaGreatDoor
open Go.RowKit Pk Dk
set_option linter.unusedVariables false
set_option linter.unusedSimpArgs false

/-- the statement that a walk leaves -/
structure Kpt (P : Prop) : Prop where
  out : P
def leftBy {P Q : Prop} (_ : Kpt P → Hid False → Q) : Prop := P

set_option maxRecDepth 10000 in
set_option maxHeartbeats 4000000 in
def AppW : Prop := by
  apply leftBy (Q := ∀ (w : World) (nm : Tx) (a0 : Option Addr) (len0 cap0 : Nat) (l0 : List OV) (hlen : len0 = l0.length) (hs : Sl OE w a0 cap0 l0) (hok : ∀ v ∈ l0, OkOB w v) (hn : nm.size ≤ 1048576) (hl : l0.length * 2 ≤ 1048576) (ht : TabIn w), Calls Tryz.prog 3 #[.string nm, .slice a0 len0 cap0] w fun e w' => e = .returned (.bool true) ∧ Keeps no w w')
  · intro HOP hF
    intro w nm a0 len0 cap0 l0 hlen hs hok hn hl ht
    have HS0 : Hid (Sl OE w a0 cap0 l0 ∧ len0 = l0.length ∧ ∀ v ∈ l0, OkOB w v) := ⟨hs, hlen, hok⟩
    have HT0 : Hid (TabIn w) := ht
    have HNM : Hid (nm.size ≤ 1048576) := hn
    have hlb : (len0 : Int) ≤ 524288 := by omega
    clear hs hlen ht hok hn hl
    go_enter Tryz.func3, Tryz.ntmps3
    go_wp2_with fail
    refine (alive_any w HT0.out).mono ?_
    rintro e w1 ⟨rfl, hk1⟩
    have HK1 : Hid (Keeps no w w1) := hk1
    have HT : Hid (TabIn w1) := HT0.out.keepsN hk1
    clear hk1 HT0
    go_wp2_with fail
    refine (dn_new w1).mono ?_
    rintro e w2 ⟨p, rfl, HD2, HK2⟩
    go_wp2_with fail
    refine (rnew_any w2).mono ?_
    rintro e w3 ⟨r, rfl, hr3, hk3⟩
    have HP3 : Hid (∃ F G, Pl w1 w3 p r F G Dk.new Dk.new) := ⟨_, _, ⟨HD2.out.is.keepsN hk3, hr3, fun k h1 h2 => by have := HD2.out.is.lt k h1; omega, HD2.out.new, fun k h => Nat.le_trans HD2.out.kept.size h.1, HD2.out.kept.trans hk3⟩⟩
    obtain ⟨F0, G0, HPX⟩ := HP3.out
    have HP : Hid (Pl w1 w3 p r F0 G0 Dk.new Dk.new) := HPX
    clear HPX HP3 hr3 hk3 HD2 HK2
    have HB0 : Hid ((readB nm.data.toList (tick Dk.new)).length ≤ 1099511627776) := Nat.le_trans (read_siz (Siz.new 0)) (by omega)
    go_wp2_with fail
    refine (Open_any w3 p F0 Dk.new nm HP.out.a (by have := HNM.out; omega) (HT.out.keepsN HP.out.kp) (fun h => by have := HP.out.fn 0 h; have := tab_pos HT.out; omega) HB0.out).mono ?_
    rintro e w4 (⟨s', E, rfl, HO, hE, -, -⟩ | ⟨s', q, o, m, c, k, vs, rs, rfl, HO, HM, HL, -, -, -, HD, HK⟩)
    · exact absurd (HO.out.one (opn_gone (s := Dk.new) ⟨rfl, rfl⟩ rfl)).2.1 hE
    obtain ⟨rfl, -, rfl, rfl⟩ := HO.out.one (opn_gone (s := Dk.new) ⟨rfl, rfl⟩ rfl)
    have HP4 : Hid (Pl w1 w4 p r F0 G0 Dk.new Dk.new) := HP.out.sameA HD.out HK.out
    have HQ4 : Hid (IsL w4 q p nm 0 ∧ w3.heap.size ≤ q) := HL.out
    have HZ3 : Hid ((∀ k, F0 k → k < w3.heap.size) ∧ (∀ k, G0 k → k < w3.heap.size) ∧ w1.heap.size ≤ w3.heap.size) := ⟨HP.out.a.lt, HP.out.b.lt, HP.out.kp.size⟩
    clear HP HD HK HL HO HM
    go_wp2_with fail
    refine (rOpen_any w4 r G0 Dk.new nm HP4.out.b HB0.out).mono ?_
    rintro e w5 (⟨s', E, rfl, HO, hE, -, -⟩ | ⟨s', u, o', m', c', k, vs', rs, rfl, HO, HM, HL, -, -, -, HD, HK⟩)
    · exact absurd (HO.out.one (opn_gone (s := Dk.new) ⟨rfl, rfl⟩ rfl)).2.1 hE
    obtain ⟨rfl, -, rfl, rfl⟩ := HO.out.one (opn_gone (s := Dk.new) ⟨rfl, rfl⟩ rfl)
    have HP5 : Hid (Pl w1 w5 p r F0 G0 Dk.new Dk.new) := HP4.out.sameB HD.out HK.out
    have HG5 : Hid (Lg w1 w5 p r F0 G0 nm q u 0 0) := by
      have h1 := HQ4.out
      have h2 := HL.out
      have h3 := HZ3.out
      have h4 := lt_of_block HQ4.out.1.blk
      exact ⟨h1.1.keeps HK.out (fun h => by have := h3.2.1 q h; omega), h2.1, fun h => by have := h3.1 q h; omega, fun h => by have := h3.2.1 q h; omega, fun h => by have := h3.1 u h; omega, fun h => by have := h3.2.1 u h; omega, by omega, by omega⟩
    clear HP4 HQ4 HD HK HL HO HM
    go_wp2_with fail
    go_loopw [8, 11, 14] (fun l m i wr => ∃ (I : Nat) (s : St) (F G : Nat → Prop) (L : Option (Nat × Nat × Nat)), l = lP L ∧ m = lR L ∧ i = .int .i64 (I : Nat) ∧ (I : Int) ≤ len0 ∧ Hid (Pl w1 wr p r F G s s ∧ Siz (I * 1048584) s) ∧ Hid (LgO w1 wr p r F G nm (1099511627776 + I * 1048584) L)) (fun _ _ i _ => len0 - (intOf i).toNat)
    case atStart => exact hF.out.elim
    case round =>
      rename World => wr
      obtain ⟨I, s, F, G, L, rfl, rfl, rfl, hI, HPI, HLI⟩ := hrel
      clear HP5 HG5 HZ3
      by_cases hlt : (I : Int) < len0
      · have HKW : Hid (Keeps no w wr) := HK1.out.trans HPI.out.1.kp
        obtain ⟨b, off, hab, hc⟩ := (HS0.out.1.keepsN HKW.out).atO (j := I) (by have := HS0.out.2.1; omega)
        obtain ⟨rr, bs, hro, hbb⟩ := HS0.out.2.2 (l0.getD I ov0) (Orl.getD_mem_lt ov0 (by have := HS0.out.2.1; omega))
        have HRO : Hid (OkO w (l0.getD I ov0) rr bs ∧ bs.length ≤ 1048576) := ⟨hro, hbb⟩
        clear hro hbb
        generalize l0.getD I ov0 = v at hc HRO
        subst hab
        have d0 := hc 0 _ rfl (by decide)
        have d1 := hc 1 _ rfl (by decide)
        have d2 := hc 2 _ rfl (by decide)
        have d3 := hc 3 _ rfl (by decide)
        have d4 := hc 4 _ rfl (by decide)
        have d5 := hc 5 _ rfl (by decide)
        have d6 := hc 6 _ rfl (by decide)
        have d7 := hc 7 _ rfl (by decide)
        have d8 := hc 8 _ rfl (by decide)
        rw [Nat.add_zero] at d0
        clear hc
        go_upto_region 14 with fail
        have hbx := blk_new wr (.cells #[.int .i64 v.kd, .int .i64 v.rv.k, .int .u64 (v.rv.i : Nat), .slice v.rv.op v.rv.np v.rv.cp, .slice v.rv.ok v.rv.nk v.rv.ck, .int .i64 v.n, .int .i64 v.k, .string v.nm, .slice v.ob v.nb v.cb] 44)
        have HKB : Hid (Keeps no wr (wr.alloc (.cells #[.int .i64 v.kd, .int .i64 v.rv.k, .int .u64 (v.rv.i : Nat), .slice v.rv.op v.rv.np v.rv.cp, .slice v.rv.ok v.rv.nk v.rv.ck, .int .i64 v.n, .int .i64 v.k, .string v.nm, .slice v.ob v.nb v.cb] 44))) := (Keeps.refl _ _).alloc _
        generalize wr.alloc (.cells #[.int .i64 v.kd, .int .i64 v.rv.k, .int .u64 (v.rv.i : Nat), .slice v.rv.op v.rv.np v.rv.cp, .slice v.rv.ok v.rv.nk v.rv.ck, .int .i64 v.n, .int .i64 v.k, .string v.nm, .slice v.ob v.nb v.cb] 44) = wb at hbx HKB ⊢
        obtain ⟨BX, hBX⟩ : ∃ BX, BX = wr.heap.size := ⟨_, rfl⟩
        have HFL : Hid (∀ k, F k ∨ G k → k < BX) := fun k h => by
          rw [hBX]
          rcases h with h | h
          · exact HPI.out.1.a.lt k h
          · exact HPI.out.1.b.lt k h
        have HBW : Hid (w.heap.size ≤ BX ∧ w1.heap.size ≤ BX) := by rw [hBX]; exact ⟨HKW.out.size, HPI.out.1.kp.size⟩
        rw [← hBX] at hbx ⊢
        clear hBX d0 d1 d2 d3 d4 d5 d6 d7 d8
        have HBX : Hid (wb.heap[BX]? = some (.cells #[.int .i64 v.kd, .int .i64 v.rv.k, .int .u64 (v.rv.i : Nat), .slice v.rv.op v.rv.np v.rv.cp, .slice v.rv.ok v.rv.nk v.rv.ck, .int .i64 v.n, .int .i64 v.k, .string v.nm, .slice v.ob v.nb v.cb] 44 (0, 0))) := hbx
        have HPb : Hid (Pl w1 wb p r F G s s) := HPI.out.1.beside HKB.out
        have HSz : Hid (Siz (I * 1048584) s ∧ I * 1048584 ≤ 600000000000) := ⟨HPI.out.2, by omega⟩
        have HLb : Hid (LgO w1 wb p r F G nm (1099511627776 + I * 1048584) L) := HLI.out.of (Nat.le_refl _) (fun q u k h => h.beside HKB.out)
        have HRb : Hid (OkO wb v rr bs ∧ bs.length ≤ 1048576) := by
          have h := HRO.out.1
          have hk := HKW.out.trans HKB.out
          exact ⟨⟨h.rc.keepsN hk, h.n1, h.n2, h.k1, h.k2, h.nm, h.nb, h.sl.keepsN hk, h.bl⟩, HRO.out.2⟩
        have HRW : Hid (OkO w v rr bs ∧ bs.length ≤ 1048576) := HRO.out
        clear hbx HKB HPI HLI HKW HRO
        obtain ⟨kd, rv, zn, zk, nmo, ob, nb, cb⟩ := v
        simp only at HBX HRb HRW
        obtain ⟨x0, x1, x2, x3, x4, x5, x6, x7, x8⟩ := cells9 HBX.out
        go_upto_block 2 with fail
        go_cut [8, 11, 16, 17, 18, 19, 20, 21] from 63 to 209 (fun l m _ _ _ _ _ _ wc => ∃ (s' : St) (F' G' : Nat → Prop) (L' : Option (Nat × Nat × Nat)), l = lP L' ∧ m = lR L' ∧ Hid (Pl w1 wc p r F' G' s' s' ∧ Siz ((I + 1) * 1048584) s') ∧ Hid (LgO w1 wc p r F' G' nm (1099511627776 + (I + 1) * 1048584) L'))
        case first =>
          by_cases k1 : kd = 1
          · skip
            subst k1
            rename_i Q_j10 K_j33 a_j34 Q_j220 K_j221 a_j222 K_j223 a_j224 J_j247 K_j248 a_j249 a_j254
            revert w nm len0 cap0 l0 HNM hlb Q_j10 w1 HK1 HT w2 p w3 r F0 G0 HB0 w4 q o m c vs w5 u o' m' c' vs' K_j33 a_j34 wr u4 u15 u16 u17 u18 u19 u20 u21 u51 u52 u53 u54 u55 u56 u57 u58 u59 u60 u61 u62 u63 u64 u65 u66 u67 u68 u69 u70 u71 u72 u73 u74 u75 u76 u77 u78 u79 u80 u81 u82 u83 u84 u85 u86 u87 u88 u89 u90 u91 u92 u93 u94 u95 u96 u97 u98 u99 u100 u101 u102 u103 u104 u105 u106 u107 u108 u109 u110 u111 u112 u113 u114 u115 u116 u117 u118 u119 u120 u121 u122 u123 u124 u125 u126 u127 u128 u129 u130 u131 u132 u133 u134 u135 u136 u137 u138 u139 u140 u141 u142 u143 u144 u145 u146 u147 u148 u149 u150 u151 u152 u153 u154 u155 u156 u157 u158 u159 u160 u161 u162 u163 u164 u165 u166 u167 u168 u169 u170 u171 u172 u173 u174 u175 u176 u177 u178 u179 u180 u181 u182 u183 u184 u185 u186 u187 u188 u189 u190 u191 u192 u193 u194 u195 u196 u197 u198 u199 u200 u201 u202 u203 u204 u205 u206 u207 u208 u209 u210 u211 u212 u213 u214 I s F G L hI hlt b off rr bs HS0 Q_j220 K_j221 a_j222 K_j223 a_j224 wb BX HFL HBW HPb HSz HLb rv zn zk nmo ob nb cb x1 x2 x3 x4 x5 x6 x7 x8 J_j247 K_j248 a_j249 HBX HRb HRW x0 a_j254
            exact HOP.out
          · have k1' : (kd == 1) = false := by simpa using k1
            by_cases k2 : kd = 2
            · skip
              exact hF.out.elim
            · have k2' : (kd == 2) = false := by simpa using k2
              by_cases k3 : kd = 3
              · skip
                exact hF.out.elim
              · have k3' : (kd == 3) = false := by simpa using k3
                by_cases k4 : kd = 4
                · skip
                  exact hF.out.elim
                · have k4' : (kd == 4) = false := by simpa using k4
                  by_cases k6 : kd = 6
                  · skip
                    exact hF.out.elim
                  · have k6' : (kd == 6) = false := by simpa using k6
                    by_cases k5 : kd = 5
                    · skip
                      exact hF.out.elim
                    · have k5' : (kd == 5) = false := by simpa using k5
                      exact hF.out.elim
        case rest => exact hF.out.elim
      · exact hF.out.elim

set_option maxRecDepth 10000 in
set_option maxHeartbeats 4000000 in
def RawW : Prop := by
  apply leftBy (Q := ∀ (w : World) (nm : Tx) (a0 : Option Addr) (len0 cap0 : Nat) (l0 : List OV) (hlen : len0 = l0.length) (hs : Sl OE w a0 cap0 l0) (hok : ∀ v ∈ l0, OkOB w v) (hn : nm.size ≤ 1048576) (hl : l0.length * 2 ≤ 1048576) (ht : TabIn w), Calls Tryz.prog 3 #[.string nm, .slice a0 len0 cap0] w fun e w' => e = .returned (.bool true) ∧ Keeps no w w')
  · intro HOP hF
    intro w nm a0 len0 cap0 l0 hlen hs hok hn hl ht
    have HS0 : Hid (Sl OE w a0 cap0 l0 ∧ len0 = l0.length ∧ ∀ v ∈ l0, OkOB w v) := ⟨hs, hlen, hok⟩
    have HT0 : Hid (TabIn w) := ht
    have HNM : Hid (nm.size ≤ 1048576) := hn
    have hlb : (len0 : Int) ≤ 524288 := by omega
    clear hs hlen ht hok hn hl
    go_enter Tryz.func3, Tryz.ntmps3
    go_wp2_with fail
    refine (alive_any w HT0.out).mono ?_
    rintro e w1 ⟨rfl, hk1⟩
    have HK1 : Hid (Keeps no w w1) := hk1
    have HT : Hid (TabIn w1) := HT0.out.keepsN hk1
    clear hk1 HT0
    go_wp2_with fail
    refine (dn_new w1).mono ?_
    rintro e w2 ⟨p, rfl, HD2, HK2⟩
    go_wp2_with fail
    refine (rnew_any w2).mono ?_
    rintro e w3 ⟨r, rfl, hr3, hk3⟩
    have HP3 : Hid (∃ F G, Pl w1 w3 p r F G Dk.new Dk.new) := ⟨_, _, ⟨HD2.out.is.keepsN hk3, hr3, fun k h1 h2 => by have := HD2.out.is.lt k h1; omega, HD2.out.new, fun k h => Nat.le_trans HD2.out.kept.size h.1, HD2.out.kept.trans hk3⟩⟩
    obtain ⟨F0, G0, HPX⟩ := HP3.out
    have HP : Hid (Pl w1 w3 p r F0 G0 Dk.new Dk.new) := HPX
    clear HPX HP3 hr3 hk3 HD2 HK2
    have HB0 : Hid ((readB nm.data.toList (tick Dk.new)).length ≤ 1099511627776) := Nat.le_trans (read_siz (Siz.new 0)) (by omega)
    go_wp2_with fail
    refine (Open_any w3 p F0 Dk.new nm HP.out.a (by have := HNM.out; omega) (HT.out.keepsN HP.out.kp) (fun h => by have := HP.out.fn 0 h; have := tab_pos HT.out; omega) HB0.out).mono ?_
    rintro e w4 (⟨s', E, rfl, HO, hE, -, -⟩ | ⟨s', q, o, m, c, k, vs, rs, rfl, HO, HM, HL, -, -, -, HD, HK⟩)
    · exact absurd (HO.out.one (opn_gone (s := Dk.new) ⟨rfl, rfl⟩ rfl)).2.1 hE
    obtain ⟨rfl, -, rfl, rfl⟩ := HO.out.one (opn_gone (s := Dk.new) ⟨rfl, rfl⟩ rfl)
    have HP4 : Hid (Pl w1 w4 p r F0 G0 Dk.new Dk.new) := HP.out.sameA HD.out HK.out
    have HQ4 : Hid (IsL w4 q p nm 0 ∧ w3.heap.size ≤ q) := HL.out
    have HZ3 : Hid ((∀ k, F0 k → k < w3.heap.size) ∧ (∀ k, G0 k → k < w3.heap.size) ∧ w1.heap.size ≤ w3.heap.size) := ⟨HP.out.a.lt, HP.out.b.lt, HP.out.kp.size⟩
    clear HP HD HK HL HO HM
    go_wp2_with fail
    refine (rOpen_any w4 r G0 Dk.new nm HP4.out.b HB0.out).mono ?_
    rintro e w5 (⟨s', E, rfl, HO, hE, -, -⟩ | ⟨s', u, o', m', c', k, vs', rs, rfl, HO, HM, HL, -, -, -, HD, HK⟩)
    · exact absurd (HO.out.one (opn_gone (s := Dk.new) ⟨rfl, rfl⟩ rfl)).2.1 hE
    obtain ⟨rfl, -, rfl, rfl⟩ := HO.out.one (opn_gone (s := Dk.new) ⟨rfl, rfl⟩ rfl)
    have HP5 : Hid (Pl w1 w5 p r F0 G0 Dk.new Dk.new) := HP4.out.sameB HD.out HK.out
    have HG5 : Hid (Lg w1 w5 p r F0 G0 nm q u 0 0) := by
      have h1 := HQ4.out
      have h2 := HL.out
      have h3 := HZ3.out
      have h4 := lt_of_block HQ4.out.1.blk
      exact ⟨h1.1.keeps HK.out (fun h => by have := h3.2.1 q h; omega), h2.1, fun h => by have := h3.1 q h; omega, fun h => by have := h3.2.1 q h; omega, fun h => by have := h3.1 u h; omega, fun h => by have := h3.2.1 u h; omega, by omega, by omega⟩
    clear HP4 HQ4 HD HK HL HO HM
    go_wp2_with fail
    go_loopw [8, 11, 14] (fun l m i wr => ∃ (I : Nat) (s : St) (F G : Nat → Prop) (L : Option (Nat × Nat × Nat)), l = lP L ∧ m = lR L ∧ i = .int .i64 (I : Nat) ∧ (I : Int) ≤ len0 ∧ Hid (Pl w1 wr p r F G s s ∧ Siz (I * 1048584) s) ∧ Hid (LgO w1 wr p r F G nm (1099511627776 + I * 1048584) L)) (fun _ _ i _ => len0 - (intOf i).toNat)
    case atStart => exact hF.out.elim
    case round =>
      rename World => wr
      obtain ⟨I, s, F, G, L, rfl, rfl, rfl, hI, HPI, HLI⟩ := hrel
      clear HP5 HG5 HZ3
      by_cases hlt : (I : Int) < len0
      · have HKW : Hid (Keeps no w wr) := HK1.out.trans HPI.out.1.kp
        obtain ⟨b, off, hab, hc⟩ := (HS0.out.1.keepsN HKW.out).atO (j := I) (by have := HS0.out.2.1; omega)
        obtain ⟨rr, bs, hro, hbb⟩ := HS0.out.2.2 (l0.getD I ov0) (Orl.getD_mem_lt ov0 (by have := HS0.out.2.1; omega))
        have HRO : Hid (OkO w (l0.getD I ov0) rr bs ∧ bs.length ≤ 1048576) := ⟨hro, hbb⟩
        clear hro hbb
        generalize l0.getD I ov0 = v at hc HRO
        subst hab
        have d0 := hc 0 _ rfl (by decide)
        have d1 := hc 1 _ rfl (by decide)
        have d2 := hc 2 _ rfl (by decide)
        have d3 := hc 3 _ rfl (by decide)
        have d4 := hc 4 _ rfl (by decide)
        have d5 := hc 5 _ rfl (by decide)
        have d6 := hc 6 _ rfl (by decide)
        have d7 := hc 7 _ rfl (by decide)
        have d8 := hc 8 _ rfl (by decide)
        rw [Nat.add_zero] at d0
        clear hc
        go_upto_region 14 with fail
        have hbx := blk_new wr (.cells #[.int .i64 v.kd, .int .i64 v.rv.k, .int .u64 (v.rv.i : Nat), .slice v.rv.op v.rv.np v.rv.cp, .slice v.rv.ok v.rv.nk v.rv.ck, .int .i64 v.n, .int .i64 v.k, .string v.nm, .slice v.ob v.nb v.cb] 44)
        have HKB : Hid (Keeps no wr (wr.alloc (.cells #[.int .i64 v.kd, .int .i64 v.rv.k, .int .u64 (v.rv.i : Nat), .slice v.rv.op v.rv.np v.rv.cp, .slice v.rv.ok v.rv.nk v.rv.ck, .int .i64 v.n, .int .i64 v.k, .string v.nm, .slice v.ob v.nb v.cb] 44))) := (Keeps.refl _ _).alloc _
        generalize wr.alloc (.cells #[.int .i64 v.kd, .int .i64 v.rv.k, .int .u64 (v.rv.i : Nat), .slice v.rv.op v.rv.np v.rv.cp, .slice v.rv.ok v.rv.nk v.rv.ck, .int .i64 v.n, .int .i64 v.k, .string v.nm, .slice v.ob v.nb v.cb] 44) = wb at hbx HKB ⊢
        obtain ⟨BX, hBX⟩ : ∃ BX, BX = wr.heap.size := ⟨_, rfl⟩
        have HFL : Hid (∀ k, F k ∨ G k → k < BX) := fun k h => by
          rw [hBX]
          rcases h with h | h
          · exact HPI.out.1.a.lt k h
          · exact HPI.out.1.b.lt k h
        have HBW : Hid (w.heap.size ≤ BX ∧ w1.heap.size ≤ BX) := by rw [hBX]; exact ⟨HKW.out.size, HPI.out.1.kp.size⟩
        rw [← hBX] at hbx ⊢
        clear hBX d0 d1 d2 d3 d4 d5 d6 d7 d8
        have HBX : Hid (wb.heap[BX]? = some (.cells #[.int .i64 v.kd, .int .i64 v.rv.k, .int .u64 (v.rv.i : Nat), .slice v.rv.op v.rv.np v.rv.cp, .slice v.rv.ok v.rv.nk v.rv.ck, .int .i64 v.n, .int .i64 v.k, .string v.nm, .slice v.ob v.nb v.cb] 44 (0, 0))) := hbx
        have HPb : Hid (Pl w1 wb p r F G s s) := HPI.out.1.beside HKB.out
        have HSz : Hid (Siz (I * 1048584) s ∧ I * 1048584 ≤ 600000000000) := ⟨HPI.out.2, by omega⟩
        have HLb : Hid (LgO w1 wb p r F G nm (1099511627776 + I * 1048584) L) := HLI.out.of (Nat.le_refl _) (fun q u k h => h.beside HKB.out)
        have HRb : Hid (OkO wb v rr bs ∧ bs.length ≤ 1048576) := by
          have h := HRO.out.1
          have hk := HKW.out.trans HKB.out
          exact ⟨⟨h.rc.keepsN hk, h.n1, h.n2, h.k1, h.k2, h.nm, h.nb, h.sl.keepsN hk, h.bl⟩, HRO.out.2⟩
        have HRW : Hid (OkO w v rr bs ∧ bs.length ≤ 1048576) := HRO.out
        clear hbx HKB HPI HLI HKW HRO
        obtain ⟨kd, rv, zn, zk, nmo, ob, nb, cb⟩ := v
        simp only at HBX HRb HRW
        obtain ⟨x0, x1, x2, x3, x4, x5, x6, x7, x8⟩ := cells9 HBX.out
        go_upto_block 2 with fail
        go_cut [8, 11, 16, 17, 18, 19, 20, 21] from 63 to 209 (fun l m _ _ _ _ _ _ wc => ∃ (s' : St) (F' G' : Nat → Prop) (L' : Option (Nat × Nat × Nat)), l = lP L' ∧ m = lR L' ∧ Hid (Pl w1 wc p r F' G' s' s' ∧ Siz ((I + 1) * 1048584) s') ∧ Hid (LgO w1 wc p r F' G' nm (1099511627776 + (I + 1) * 1048584) L'))
        case first =>
          by_cases k1 : kd = 1
          · skip
            exact hF.out.elim
          · have k1' : (kd == 1) = false := by simpa using k1
            by_cases k2 : kd = 2
            · skip
              exact hF.out.elim
            · have k2' : (kd == 2) = false := by simpa using k2
              by_cases k3 : kd = 3
              · skip
                exact hF.out.elim
              · have k3' : (kd == 3) = false := by simpa using k3
                by_cases k4 : kd = 4
                · skip
                  exact hF.out.elim
                · have k4' : (kd == 4) = false := by simpa using k4
                  by_cases k6 : kd = 6
                  · skip
                    subst k6
                    clear k1 k1' k2 k2' k3 k3' k4 k4'
                    rename_i Q_j10 K_j33 a_j34 Q_j220 K_j221 a_j222 K_j223 a_j224 J_j247 K_j248 a_j249 a_j254
                    revert w nm len0 cap0 l0 HNM hlb Q_j10 w1 HK1 HT w2 p w3 r F0 G0 HB0 w4 q o m c vs w5 u o' m' c' vs' K_j33 a_j34 wr u4 u15 u16 u17 u18 u19 u20 u21 u51 u52 u53 u54 u55 u56 u57 u58 u59 u60 u61 u62 u63 u64 u65 u66 u67 u68 u69 u70 u71 u72 u73 u74 u75 u76 u77 u78 u79 u80 u81 u82 u83 u84 u85 u86 u87 u88 u89 u90 u91 u92 u93 u94 u95 u96 u97 u98 u99 u100 u101 u102 u103 u104 u105 u106 u107 u108 u109 u110 u111 u112 u113 u114 u115 u116 u117 u118 u119 u120 u121 u122 u123 u124 u125 u126 u127 u128 u129 u130 u131 u132 u133 u134 u135 u136 u137 u138 u139 u140 u141 u142 u143 u144 u145 u146 u147 u148 u149 u150 u151 u152 u153 u154 u155 u156 u157 u158 u159 u160 u161 u162 u163 u164 u165 u166 u167 u168 u169 u170 u171 u172 u173 u174 u175 u176 u177 u178 u179 u180 u181 u182 u183 u184 u185 u186 u187 u188 u189 u190 u191 u192 u193 u194 u195 u196 u197 u198 u199 u200 u201 u202 u203 u204 u205 u206 u207 u208 u209 u210 u211 u212 u213 u214 I s F G L hI hlt b off rr bs HS0 Q_j220 K_j221 a_j222 K_j223 a_j224 wb BX HFL HBW HPb HSz HLb rv zn zk nmo ob nb cb x1 x2 x3 x4 x5 x6 x7 x8 J_j247 K_j248 a_j249 HBX HRb HRW x0 a_j254
                    exact HOP.out
                  · have k6' : (kd == 6) = false := by simpa using k6
                    by_cases k5 : kd = 5
                    · skip
                      exact hF.out.elim
                    · have k5' : (kd == 5) = false := by simpa using k5
                      exact hF.out.elim
        case rest => exact hF.out.elim
      · exact hF.out.elim

set_option maxRecDepth 10000 in
set_option maxHeartbeats 4000000 in
def OpnW : Prop := by
  apply leftBy (Q := ∀ (w : World) (nm : Tx) (a0 : Option Addr) (len0 cap0 : Nat) (l0 : List OV) (hlen : len0 = l0.length) (hs : Sl OE w a0 cap0 l0) (hok : ∀ v ∈ l0, OkOB w v) (hn : nm.size ≤ 1048576) (hl : l0.length * 2 ≤ 1048576) (ht : TabIn w), Calls Tryz.prog 3 #[.string nm, .slice a0 len0 cap0] w fun e w' => e = .returned (.bool true) ∧ Keeps no w w')
  · intro HOP hF
    intro w nm a0 len0 cap0 l0 hlen hs hok hn hl ht
    have HS0 : Hid (Sl OE w a0 cap0 l0 ∧ len0 = l0.length ∧ ∀ v ∈ l0, OkOB w v) := ⟨hs, hlen, hok⟩
    have HT0 : Hid (TabIn w) := ht
    have HNM : Hid (nm.size ≤ 1048576) := hn
    have hlb : (len0 : Int) ≤ 524288 := by omega
    clear hs hlen ht hok hn hl
    go_enter Tryz.func3, Tryz.ntmps3
    go_wp2_with fail
    refine (alive_any w HT0.out).mono ?_
    rintro e w1 ⟨rfl, hk1⟩
    have HK1 : Hid (Keeps no w w1) := hk1
    have HT : Hid (TabIn w1) := HT0.out.keepsN hk1
    clear hk1 HT0
    go_wp2_with fail
    refine (dn_new w1).mono ?_
    rintro e w2 ⟨p, rfl, HD2, HK2⟩
    go_wp2_with fail
    refine (rnew_any w2).mono ?_
    rintro e w3 ⟨r, rfl, hr3, hk3⟩
    have HP3 : Hid (∃ F G, Pl w1 w3 p r F G Dk.new Dk.new) := ⟨_, _, ⟨HD2.out.is.keepsN hk3, hr3, fun k h1 h2 => by have := HD2.out.is.lt k h1; omega, HD2.out.new, fun k h => Nat.le_trans HD2.out.kept.size h.1, HD2.out.kept.trans hk3⟩⟩
    obtain ⟨F0, G0, HPX⟩ := HP3.out
    have HP : Hid (Pl w1 w3 p r F0 G0 Dk.new Dk.new) := HPX
    clear HPX HP3 hr3 hk3 HD2 HK2
    have HB0 : Hid ((readB nm.data.toList (tick Dk.new)).length ≤ 1099511627776) := Nat.le_trans (read_siz (Siz.new 0)) (by omega)
    go_wp2_with fail
    refine (Open_any w3 p F0 Dk.new nm HP.out.a (by have := HNM.out; omega) (HT.out.keepsN HP.out.kp) (fun h => by have := HP.out.fn 0 h; have := tab_pos HT.out; omega) HB0.out).mono ?_
    rintro e w4 (⟨s', E, rfl, HO, hE, -, -⟩ | ⟨s', q, o, m, c, k, vs, rs, rfl, HO, HM, HL, -, -, -, HD, HK⟩)
    · exact absurd (HO.out.one (opn_gone (s := Dk.new) ⟨rfl, rfl⟩ rfl)).2.1 hE
    obtain ⟨rfl, -, rfl, rfl⟩ := HO.out.one (opn_gone (s := Dk.new) ⟨rfl, rfl⟩ rfl)
    have HP4 : Hid (Pl w1 w4 p r F0 G0 Dk.new Dk.new) := HP.out.sameA HD.out HK.out
    have HQ4 : Hid (IsL w4 q p nm 0 ∧ w3.heap.size ≤ q) := HL.out
    have HZ3 : Hid ((∀ k, F0 k → k < w3.heap.size) ∧ (∀ k, G0 k → k < w3.heap.size) ∧ w1.heap.size ≤ w3.heap.size) := ⟨HP.out.a.lt, HP.out.b.lt, HP.out.kp.size⟩
    clear HP HD HK HL HO HM
    go_wp2_with fail
    refine (rOpen_any w4 r G0 Dk.new nm HP4.out.b HB0.out).mono ?_
    rintro e w5 (⟨s', E, rfl, HO, hE, -, -⟩ | ⟨s', u, o', m', c', k, vs', rs, rfl, HO, HM, HL, -, -, -, HD, HK⟩)
    · exact absurd (HO.out.one (opn_gone (s := Dk.new) ⟨rfl, rfl⟩ rfl)).2.1 hE
    obtain ⟨rfl, -, rfl, rfl⟩ := HO.out.one (opn_gone (s := Dk.new) ⟨rfl, rfl⟩ rfl)
    have HP5 : Hid (Pl w1 w5 p r F0 G0 Dk.new Dk.new) := HP4.out.sameB HD.out HK.out
    have HG5 : Hid (Lg w1 w5 p r F0 G0 nm q u 0 0) := by
      have h1 := HQ4.out
      have h2 := HL.out
      have h3 := HZ3.out
      have h4 := lt_of_block HQ4.out.1.blk
      exact ⟨h1.1.keeps HK.out (fun h => by have := h3.2.1 q h; omega), h2.1, fun h => by have := h3.1 q h; omega, fun h => by have := h3.2.1 q h; omega, fun h => by have := h3.1 u h; omega, fun h => by have := h3.2.1 u h; omega, by omega, by omega⟩
    clear HP4 HQ4 HD HK HL HO HM
    go_wp2_with fail
    go_loopw [8, 11, 14] (fun l m i wr => ∃ (I : Nat) (s : St) (F G : Nat → Prop) (L : Option (Nat × Nat × Nat)), l = lP L ∧ m = lR L ∧ i = .int .i64 (I : Nat) ∧ (I : Int) ≤ len0 ∧ Hid (Pl w1 wr p r F G s s ∧ Siz (I * 1048584) s) ∧ Hid (LgO w1 wr p r F G nm (1099511627776 + I * 1048584) L)) (fun _ _ i _ => len0 - (intOf i).toNat)
    case atStart => exact hF.out.elim
    case round =>
      rename World => wr
      obtain ⟨I, s, F, G, L, rfl, rfl, rfl, hI, HPI, HLI⟩ := hrel
      clear HP5 HG5 HZ3
      by_cases hlt : (I : Int) < len0
      · have HKW : Hid (Keeps no w wr) := HK1.out.trans HPI.out.1.kp
        obtain ⟨b, off, hab, hc⟩ := (HS0.out.1.keepsN HKW.out).atO (j := I) (by have := HS0.out.2.1; omega)
        obtain ⟨rr, bs, hro, hbb⟩ := HS0.out.2.2 (l0.getD I ov0) (Orl.getD_mem_lt ov0 (by have := HS0.out.2.1; omega))
        have HRO : Hid (OkO w (l0.getD I ov0) rr bs ∧ bs.length ≤ 1048576) := ⟨hro, hbb⟩
        clear hro hbb
        generalize l0.getD I ov0 = v at hc HRO
        subst hab
        have d0 := hc 0 _ rfl (by decide)
        have d1 := hc 1 _ rfl (by decide)
        have d2 := hc 2 _ rfl (by decide)
        have d3 := hc 3 _ rfl (by decide)
        have d4 := hc 4 _ rfl (by decide)
        have d5 := hc 5 _ rfl (by decide)
        have d6 := hc 6 _ rfl (by decide)
        have d7 := hc 7 _ rfl (by decide)
        have d8 := hc 8 _ rfl (by decide)
        rw [Nat.add_zero] at d0
        clear hc
        go_upto_region 14 with fail
        have hbx := blk_new wr (.cells #[.int .i64 v.kd, .int .i64 v.rv.k, .int .u64 (v.rv.i : Nat), .slice v.rv.op v.rv.np v.rv.cp, .slice v.rv.ok v.rv.nk v.rv.ck, .int .i64 v.n, .int .i64 v.k, .string v.nm, .slice v.ob v.nb v.cb] 44)
        have HKB : Hid (Keeps no wr (wr.alloc (.cells #[.int .i64 v.kd, .int .i64 v.rv.k, .int .u64 (v.rv.i : Nat), .slice v.rv.op v.rv.np v.rv.cp, .slice v.rv.ok v.rv.nk v.rv.ck, .int .i64 v.n, .int .i64 v.k, .string v.nm, .slice v.ob v.nb v.cb] 44))) := (Keeps.refl _ _).alloc _
        generalize wr.alloc (.cells #[.int .i64 v.kd, .int .i64 v.rv.k, .int .u64 (v.rv.i : Nat), .slice v.rv.op v.rv.np v.rv.cp, .slice v.rv.ok v.rv.nk v.rv.ck, .int .i64 v.n, .int .i64 v.k, .string v.nm, .slice v.ob v.nb v.cb] 44) = wb at hbx HKB ⊢
        obtain ⟨BX, hBX⟩ : ∃ BX, BX = wr.heap.size := ⟨_, rfl⟩
        have HFL : Hid (∀ k, F k ∨ G k → k < BX) := fun k h => by
          rw [hBX]
          rcases h with h | h
          · exact HPI.out.1.a.lt k h
          · exact HPI.out.1.b.lt k h
        have HBW : Hid (w.heap.size ≤ BX ∧ w1.heap.size ≤ BX) := by rw [hBX]; exact ⟨HKW.out.size, HPI.out.1.kp.size⟩
        rw [← hBX] at hbx ⊢
        clear hBX d0 d1 d2 d3 d4 d5 d6 d7 d8
        have HBX : Hid (wb.heap[BX]? = some (.cells #[.int .i64 v.kd, .int .i64 v.rv.k, .int .u64 (v.rv.i : Nat), .slice v.rv.op v.rv.np v.rv.cp, .slice v.rv.ok v.rv.nk v.rv.ck, .int .i64 v.n, .int .i64 v.k, .string v.nm, .slice v.ob v.nb v.cb] 44 (0, 0))) := hbx
        have HPb : Hid (Pl w1 wb p r F G s s) := HPI.out.1.beside HKB.out
        have HSz : Hid (Siz (I * 1048584) s ∧ I * 1048584 ≤ 600000000000) := ⟨HPI.out.2, by omega⟩
        have HLb : Hid (LgO w1 wb p r F G nm (1099511627776 + I * 1048584) L) := HLI.out.of (Nat.le_refl _) (fun q u k h => h.beside HKB.out)
        have HRb : Hid (OkO wb v rr bs ∧ bs.length ≤ 1048576) := by
          have h := HRO.out.1
          have hk := HKW.out.trans HKB.out
          exact ⟨⟨h.rc.keepsN hk, h.n1, h.n2, h.k1, h.k2, h.nm, h.nb, h.sl.keepsN hk, h.bl⟩, HRO.out.2⟩
        have HRW : Hid (OkO w v rr bs ∧ bs.length ≤ 1048576) := HRO.out
        clear hbx HKB HPI HLI HKW HRO
        obtain ⟨kd, rv, zn, zk, nmo, ob, nb, cb⟩ := v
        simp only at HBX HRb HRW
        obtain ⟨x0, x1, x2, x3, x4, x5, x6, x7, x8⟩ := cells9 HBX.out
        go_upto_block 2 with fail
        go_cut [8, 11, 16, 17, 18, 19, 20, 21] from 63 to 209 (fun l m _ _ _ _ _ _ wc => ∃ (s' : St) (F' G' : Nat → Prop) (L' : Option (Nat × Nat × Nat)), l = lP L' ∧ m = lR L' ∧ Hid (Pl w1 wc p r F' G' s' s' ∧ Siz ((I + 1) * 1048584) s') ∧ Hid (LgO w1 wc p r F' G' nm (1099511627776 + (I + 1) * 1048584) L'))
        case first =>
          by_cases k1 : kd = 1
          · skip
            exact hF.out.elim
          · have k1' : (kd == 1) = false := by simpa using k1
            by_cases k2 : kd = 2
            · skip
              exact hF.out.elim
            · have k2' : (kd == 2) = false := by simpa using k2
              by_cases k3 : kd = 3
              · skip
                exact hF.out.elim
              · have k3' : (kd == 3) = false := by simpa using k3
                by_cases k4 : kd = 4
                · skip
                  exact hF.out.elim
                · have k4' : (kd == 4) = false := by simpa using k4
                  by_cases k6 : kd = 6
                  · skip
                    exact hF.out.elim
                  · have k6' : (kd == 6) = false := by simpa using k6
                    by_cases k5 : kd = 5
                    · skip
                      subst k5
                      clear k1 k1' k2 k2' k3 k3' k4 k4' k6 k6'
                      rename_i Q_j10 K_j33 a_j34 Q_j220 K_j221 a_j222 K_j223 a_j224 J_j247 K_j248 a_j249 a_j254
                      revert w nm len0 cap0 l0 HNM hlb Q_j10 w1 HK1 HT w2 p w3 r F0 G0 HB0 w4 q o m c vs w5 u o' m' c' vs' K_j33 a_j34 wr u4 u15 u16 u17 u18 u19 u20 u21 u51 u52 u53 u54 u55 u56 u57 u58 u59 u60 u61 u62 u63 u64 u65 u66 u67 u68 u69 u70 u71 u72 u73 u74 u75 u76 u77 u78 u79 u80 u81 u82 u83 u84 u85 u86 u87 u88 u89 u90 u91 u92 u93 u94 u95 u96 u97 u98 u99 u100 u101 u102 u103 u104 u105 u106 u107 u108 u109 u110 u111 u112 u113 u114 u115 u116 u117 u118 u119 u120 u121 u122 u123 u124 u125 u126 u127 u128 u129 u130 u131 u132 u133 u134 u135 u136 u137 u138 u139 u140 u141 u142 u143 u144 u145 u146 u147 u148 u149 u150 u151 u152 u153 u154 u155 u156 u157 u158 u159 u160 u161 u162 u163 u164 u165 u166 u167 u168 u169 u170 u171 u172 u173 u174 u175 u176 u177 u178 u179 u180 u181 u182 u183 u184 u185 u186 u187 u188 u189 u190 u191 u192 u193 u194 u195 u196 u197 u198 u199 u200 u201 u202 u203 u204 u205 u206 u207 u208 u209 u210 u211 u212 u213 u214 I s F G L hI hlt b off rr bs HS0 Q_j220 K_j221 a_j222 K_j223 a_j224 wb BX HFL HBW HPb HSz HLb rv zn zk nmo ob nb cb x1 x2 x3 x4 x5 x6 x7 x8 J_j247 K_j248 a_j249 HBX HRb HRW x0 a_j254
                      exact HOP.out
                    · have k5' : (kd == 5) = false := by simpa using k5
                      exact hF.out.elim
        case rest => exact hF.out.elim
      · exact hF.out.elim

end Go.Proofs.YtgamhblkgojapaaGreatDoor
