import Derived.Test.YtbnohdgdadfjlaaGreatDoorNK
import Derived.Deep.CutBlock
import Derived.Deep.CutRange
/- SnapBursts: its walk. -/
namespace Go.Proofs.YtbnohdgdadfjlaaGreatDoor
open Go.RowKit Go.Sort Orl Pk Go.Maps
set_option linter.unusedVariables false
set_option linter.unusedSimpArgs false

/-- a script that came in -/
structure Scr (w : World) (a : Option Addr) (n c : Nat) (l : List OV) (L : List PO) : Prop where
  n : n = l.length
  sl : Sl OE w a c l
  ok : OkL w l L
  len : l.length ≤ 1048576
  tot : totP L ≤ 1048576
theorem Scr.keepsN {w w' : World} {a : Option Addr} {n c : Nat} {l : List OV} {L : List PO} (h : Scr w a n c l L) (hk : Keeps no w w') : Scr w' a n c l L := ⟨h.n, h.sl.keepsN hk, h.ok.keepsN hk, h.len, h.tot⟩
theorem Scr.made {w : World} {a : Option Addr} {n c : Nat} {l : List OV} {L : List PO} (h : Scr w a n c l L) : Calls Tryz.prog 9 #[.slice a n c] w fun e w' => ∃ p, e = .returned (.pointer (some ⟨p, 0, none⟩)) ∧ Hid (Ow w w' p (runO L) 1048576 no) := by
  refine (made_any w a n c l L h.n h.sl h.ok h.len (by have := h.tot; omega)).mono ?_
  rintro e w' ⟨p, he, hO⟩
  obtain ⟨N, hN, hO⟩ := hO.out
  exact ⟨p, he, hO.more (Nat.le_trans hN h.tot)⟩
/-- the part of the bytes in which bits are turned -/
structure Prt (bs : List Nat) (A E m : Nat) (pre p suf : List Nat) (A0 : Nat) : Prop where
  eq : bs = pre ++ (p ++ suf)
  a : A = 8 * pre.length + A0
  lt : A0 < 8 * p.length
  e : E = 8 * (pre.length + p.length)
  byt : ∀ c ∈ p, c < 256
  sum : ∀ cs, Fl p A0 m 32 cs → sumOk (pre ++ (cs ++ suf)) = decide (dOf p A0 m = 0)
theorem prt_of {s : St} {g : Nat} {bs : List Nat} (h : SnOf s g bs) (A m : Nat) (hA : A < 8 * bs.length) : ∃ pre p suf A0, Prt bs A (if A < 8 * (bs.length - 4) then 8 * (bs.length - 4) else 8 * bs.length) m pre p suf A0 := by
  obtain ⟨ls, ks, _, rfl⟩ := h
  have hl := snap_length g ls (vts ks)
  have hx := snBody_lt g ls (vts ks)
  by_cases hc : A < 8 * ((snap g ls (vts ks)).length - 4)
  · rw [if_pos hc]
    refine ⟨[], snBody g ls (vts ks), num 4 (Crc.sum (snBody g ls (vts ks))), A, by simp [snap], by simp, by omega, by simp; omega, hx, fun cs hF => ?_⟩
    rw [List.nil_append]
    exact hF.ahead hx
  · rw [if_neg hc]
    refine ⟨snBody g ls (vts ks), num 4 (Crc.sum (snBody g ls (vts ks))), [], A - 8 * (snBody g ls (vts ks)).length, by simp [snap], by omega, by rw [num_length]; omega, by rw [num_length]; omega, num_lt _ _, fun cs hF => ?_⟩
    rw [List.append_nil]
    exact hF.within hx
set_option maxRecDepth 10000 in
set_option maxHeartbeats 4000000 in
theorem bursts_any (w : World) (a : Option Addr) (n c : Nat) (l : List OV) (L : List PO) (hS : Scr w a n c l L) (at_ : Int) (h1 : -9223372036854775808 ≤ at_) (h2 : at_ ≤ 9223372036854775807) (m : Nat) (hm : m < 4294967296) (ht : TabIn w) :
    Calls Tryz.prog 3 #[.slice a n c, .int .i64 at_, .int .u32 ((m : Nat) : Int)] w fun e w' => e = .returned (.bool true) ∧ Keeps no w w' := by
  have HS : Hid (Scr w a n c l L ∧ TabIn w) := ⟨hS, ht⟩
  have HM : Hid (m < 4294967296) := hm
  clear hS ht hm
  go_enter Tryz.func3, Tryz.ntmps3
  go_wp2_with fail
  refine (alive_any w HS.out.2).mono ?_
  rintro e w1 ⟨rfl, hk1⟩
  have HK1 : Hid (Keeps no w w1) := hk1
  clear hk1
  go_wp2_with fail
  refine (HS.out.1.keepsN HK1.out).made.mono ?_
  rintro e w2 ⟨p, rfl, H2⟩
  go_wp2_with fail
  refine (build_any H2.out (by omega) (HS.out.2.keepsN (HK1.out.trans H2.out.keep)) 3 (by omega) (by omega)).mono ?_
  rintro e w3 ⟨bo, bn, bc, bs, rfl, H3⟩
  have hbn : (bn : Int) ≤ 140737488355328 := by have := H3.out.le; have := H3.out.n; omega
  have hb25 : ¬ (bn : Int) < 25 := by have := H3.out.ge; have := H3.out.n; omega
  obtain ⟨U, hU⟩ : ∃ U : Nat, IntKind.u64.wrap at_ = ((U : Nat) : Int) := ⟨(IntKind.u64.wrap at_).toNat, (Int.toNat_of_nonneg (wrap_u64_nonneg at_)).symm⟩
  obtain ⟨A, hA⟩ : ∃ A, A = U % (8 * bn) := ⟨_, rfl⟩
  have hpos : 0 < 8 * bn := by omega
  have hAl : A < 8 * bn := by rw [hA]; exact Nat.mod_lt _ hpos
  have hmod : ((U : Nat) : Int).tmod (8 * ((bn : Nat) : Int)) = ((A : Nat) : Int) := by
    rw [Int.tmod_eq_emod_of_nonneg (by omega), hA]
    push_cast
    rfl
  have hne8 : ¬ (8 * ((bn : Nat) : Int)) = 0 := by omega
  have hAb : ((A : Nat) : Int) < 8 * ((bn : Nat) : Int) := by omega
  clear hA hpos hAl
  obtain ⟨pre, pt, suf, A0, hprt⟩ := prt_of H3.out.sn A m (by have := H3.out.n; omega)
  obtain ⟨E, hE⟩ : ∃ E, E = (if A < 8 * (bs.length - 4) then 8 * (bs.length - 4) else 8 * bs.length) := ⟨_, rfl⟩
  rw [← hE] at hprt
  have HP : Hid (Prt bs A E m pre pt suf A0) := hprt
  have HE : Hid (E = (if A < 8 * (bs.length - 4) then 8 * (bs.length - 4) else 8 * bs.length)) := hE
  clear hprt hE
  go_upto_if 51 with fail
  go_cut [12] from 49 to 52 (fun v wc => v = .int .i64 ((E : Nat) : Int) ∧ wc = w3)
  case first =>
    by_cases hc : ((A : Nat) : Int) < 8 * ((bn : Nat) : Int) - 32
    · have hc' : ¬ ((A : Nat) : Int) ≥ 8 * ((bn : Nat) : Int) - 32 := by omega
      have e1 : Hid (8 * ((bn : Nat) : Int) - 32 = ((E : Nat) : Int)) := by
        show _ = _
        have := H3.out.n
        have h3 := HE.out
        rw [if_pos (by omega)] at h3
        have := H3.out.ge
        omega
      go_wp2_with fail
      go_meet
      case rel => exact ⟨by rw [← e1.out], rfl⟩
    · have hc' : ((A : Nat) : Int) ≥ 8 * ((bn : Nat) : Int) - 32 := by omega
      have e1 : Hid (8 * ((bn : Nat) : Int) = ((E : Nat) : Int)) := by
        show _ = _
        have := H3.out.n
        have := H3.out.ge
        have h3 := HE.out
        rw [if_neg (by omega)] at h3
        omega
      go_wp2_with fail
      go_meet
      case rel => exact ⟨by rw [← e1.out], rfl⟩
  case rest =>
  obtain ⟨rfl, rfl⟩ := hcut
  rename World => w3
  have hEb : ((E : Nat) : Int) ≤ 8 * ((bn : Nat) : Int) := by
    have := H3.out.n
    have h3 := HE.out
    split at h3 <;> omega
  have hA0 : ((A : Nat) : Int) < ((E : Nat) : Int) := by have := HP.out.a; have := HP.out.lt; have := HP.out.e; omega
  clear hU hmod hne8 HE h1 h2
  go_wp2_with fail
  refine (own_any w3 bo bn bc bs H3.out.n (by have := H3.out.le; omega) (BSl.of H3.out.own H3.out.byt (by have := H3.out.le; omega))).mono ?_
  rintro e w4 ⟨co, cn, cc, rfl, H4⟩
  have hcn : cn = bn := by rw [H4.out.1, H3.out.n]
  subst cn
  obtain ⟨g, hg⟩ : ∃ g, co = some ⟨g, 0, none⟩ := by
    rcases H4.out.2.1.shape with ⟨_, _, e⟩ | ⟨g, _, e, _⟩
    · have := H3.out.ge; rw [e] at this; simp at this
    · exact ⟨g, e⟩
  subst hg
  have HB0 : Hid (Fl pt A0 m 0 pt ∧ Owns w4 (some ⟨g, 0, none⟩) cc (pre ++ (pt ++ suf)) ∧ Keeps no w3 w4 ∧ w3.heap.size ≤ g) := ⟨fl0 _ HP.out.byt _ _, by rw [← HP.out.eq]; exact H4.out.2.1, H4.out.2.2.2, H4.out.2.2.1 g ⟨_, rfl, rfl⟩⟩
  have HPL : Hid (bn = pre.length + (pt.length + suf.length)) := (show _ = _ by rw [H3.out.n, HP.out.eq, List.length_append, List.length_append])
  clear H4
  go_upto_block 0 with fail
  go_cut [14, 15] from 55 to 84 (fun v _ wc => ∃ b : Bool, v = .bool b ∧ Hid (b = decide (dOf pt A0 m ≠ 0) ∧ ∃ cs, Fl pt A0 m 32 cs ∧ Owns wc (some ⟨g, 0, none⟩) cc (pre ++ (cs ++ suf)) ∧ Keeps no w3 wc))
  case first =>
    go_wp2_with fail
    go_loopw [14, 15] (fun v j wr => ∃ b q, v = .bool b ∧ j = .int .i64 ((q : Nat) : Int) ∧ q ≤ 32 ∧ Hid (b = decide (m % 2 ^ (min q (8 * pt.length - A0)) ≠ 0) ∧ ∃ cs, Fl pt A0 m q cs ∧ Owns wr (some ⟨g, 0, none⟩) cc (pre ++ (cs ++ suf)) ∧ Keeps no w3 wr ∧ w3.heap.size ≤ g)) (fun _ j _ => 32 - (intOf j).toNat)
    case atStart => exact ⟨false, 0, rfl, rfl, by omega, by simp [Nat.mod_one], pt, HB0.out⟩
    case round =>
      rename World => wq
      clear HB0
      obtain ⟨b, q, rfl, rfl, hq, HQ⟩ := hrel
      obtain ⟨hbb, cs, hF, hO, hK, hgn⟩ := HQ.out
      have HBB : Hid (b = decide (m % 2 ^ (min q (8 * pt.length - A0)) ≠ 0)) := hbb
      have HF : Hid (Fl pt A0 m q cs ∧ Owns wq (some ⟨g, 0, none⟩) cc (pre ++ (cs ++ suf)) ∧ Keeps no w3 wq ∧ w3.heap.size ≤ g) := ⟨hF, hO, hK, hgn⟩
      clear HQ hbb hF hO hK hgn
      by_cases hq32 : q < 32
      · have hq32' : (q : Int) < 32 := by omega
        by_cases hlt : A + q < E
        · have hlt' : (A : Int) + q < (E : Int) := by omega
          have hl0 : A0 + q < 8 * pt.length := by have := HP.out.a; have := HP.out.e; omega
          by_cases hbit : m / 2 ^ q % 2 = 1
          · have hb : bits .and .u32 ((m : Int) / 2 ^ q) 1 = 1 := by
              have e : (m : Int) / 2 ^ q = ((m / 2 ^ q : Nat) : Int) := by simp
              rw [e, and1 _ (Nat.lt_of_le_of_lt (Nat.div_le_self _ _) HM.out), hbit]; rfl
            have eA : A + q = 8 * pre.length + (A0 + q) := by have := HP.out.a; omega
            have ed : (A + q) / 8 = pre.length + (A0 + q) / 8 := by omega
            have em : (A + q) % 8 = (A0 + q) % 8 := by omega
            have hjc : (A0 + q) / 8 < cs.length := by rw [HF.out.1.len]; omega
            have hcell := HF.out.2.1.cellAt ((A + q) / 8) (by simp only [List.length_append]; omega)
            rw [show (pre ++ (cs ++ suf)).getD ((A + q) / 8) 0 = cs.getD ((A0 + q) / 8) 0 by rw [ed]; exact getD_mid pre cs suf _ hjc] at hcell
            have hfree := HF.out.2.1.free ((A + q) / 8)
            obtain ⟨x, hx⟩ : ∃ x, x = cs.getD ((A0 + q) / 8) 0 := ⟨_, rfl⟩
            have hx256 : x < 256 := by rw [hx]; exact getD_lt' cs HF.out.1.byt _ hjc
            rw [← hx] at hcell
            have HX : Hid (x = cs.getD ((A0 + q) / 8) 0 ∧ (A0 + q) / 8 < cs.length ∧ (A + q) / 8 = pre.length + (A0 + q) / 8 ∧ (A + q) % 8 = (A0 + q) % 8 ∧ A0 + q < 8 * pt.length) := ⟨hx, hjc, ed, em, hl0⟩
            have i1 : (0 : Int) ≤ ((A : Int) + q) / 8 := by omega
            have i2 : ((A : Int) + q) / 8 < (bn : Int) := by omega
            have hxv : bits BinOp.xor IntKind.u8 (x : Int) ((2 : Int) ^ ((A + q) % 8) % 256) = ((x ^^^ 2 ^ ((A + q) % 8) : Nat) : Int) := by
              have ht8 : (A + q) % 8 < 8 := Nat.mod_lt _ (by decide)
              have e2 : (2 : Nat) ^ ((A + q) % 8) < 256 := Nat.pow_lt_pow_right (n := 8) (by decide) ht8
              have e : (2 : Int) ^ ((A + q) % 8) % 256 = ((2 ^ ((A + q) % 8) : Nat) : Int) := by
                rw [show (2 : Int) ^ ((A + q) % 8) = ((2 ^ ((A + q) % 8) : Nat) : Int) by simp]
                exact Int.emod_eq_of_lt (Int.natCast_nonneg _) (by exact_mod_cast e2)
              rw [e]
              exact xor8 x _ hx256 ht8
            have HX2 : Hid (x < 256) := hx256
            clear hx hjc ed em eA hl0 hx256
            go_wp2_with fail
            go_region
            go_wp2_with fail
            go_roundw
            case rel =>
              have htn := HF.out.1.turn hbit HX.out.2.2.2.2 hq32
              rw [← HX.out.1, ← HX.out.2.2.2.1] at htn
              have hs := HF.out.2.1.set ((A + q) / 8) (x ^^^ 2 ^ ((A + q) % 8))
              rw [show (pre ++ (cs ++ suf)).set ((A + q) / 8) (x ^^^ 2 ^ ((A + q) % 8)) = pre ++ (cs.set ((A0 + q) / 8) (x ^^^ 2 ^ ((A + q) % 8)) ++ suf) by rw [HX.out.2.2.1]; exact set_mid pre cs suf _ _ HX.out.2.1] at hs
              refine ⟨true, q + 1, rfl, by go_num, by omega, by simp [htn.2], _, htn.1, hs.keepsN ((Keeps.refl no _).drew), ?_, HF.out.2.2.2⟩
              exact (HF.out.2.2.1.setCell (.inr HF.out.2.2.2) _).drew
            case measure => simp [intOf]; omega
          · have hb : bits .and .u32 ((m : Int) / 2 ^ q) 1 = 0 := by
              have e : (m : Int) / 2 ^ q = ((m / 2 ^ q : Nat) : Int) := by simp
              rw [e, and1 _ (Nat.lt_of_le_of_lt (Nat.div_le_self _ _) HM.out), show m / 2 ^ q % 2 = 0 by omega]; rfl
            have hsk := HF.out.1.skip (.inl hbit)
            have HSK : Hid (Fl pt A0 m (q + 1) cs ∧ b = decide (m % 2 ^ (min (q + 1) (8 * pt.length - A0)) ≠ 0)) := ⟨hsk.1, by rw [hsk.2]; exact HBB.out⟩
            clear hsk hbit hl0
            go_wp2_with fail
            go_roundw
            case rel => exact ⟨b, q + 1, rfl, by go_num, by omega, HSK.out.2, cs, HSK.out.1, HF.out.2⟩
            case measure => simp [intOf]; omega
        · have hlt' : ¬ (A : Int) + q < (E : Int) := by omega
          have he := HF.out.1.end hq (.inr (by have := HP.out.a; have := HP.out.e; omega))
          have HEn : Hid (Fl pt A0 m 32 cs ∧ b = decide (dOf pt A0 m ≠ 0)) := ⟨he.1, by rw [← he.2]; exact HBB.out⟩
          clear he
          go_wp2_with fail
          go_meet
          case rel => exact ⟨b, rfl, HEn.out.2, cs, HEn.out.1, HF.out.2.1, HF.out.2.2.1⟩
      · have hq32' : ¬ (q : Int) < 32 := by omega
        have he := HF.out.1.end hq (.inl (by omega))
        have HEn : Hid (Fl pt A0 m 32 cs ∧ b = decide (dOf pt A0 m ≠ 0)) := ⟨he.1, by rw [← he.2]; exact HBB.out⟩
        clear he
        go_wp2_with fail
        go_meet
        case rel => exact ⟨b, rfl, HEn.out.2, cs, HEn.out.1, HF.out.2.1, HF.out.2.2.1⟩
  case rest =>
  obtain ⟨b, rfl, HC⟩ := hcut
  rename World => w5
  obtain ⟨hb, cs, hF, hO, hK⟩ := HC.out
  have hsum := HP.out.sum cs hF
  have hC : dOf pt A0 m = 0 → pre ++ (cs ++ suf) = bs := fun h => by rw [hF.no h, ← HP.out.eq]
  have HLN : Hid (bn = (pre ++ (cs ++ suf)).length ∧ ∀ c ∈ pre ++ (cs ++ suf), c < 256) := by
    refine ⟨by rw [List.length_append, List.length_append, hF.len]; exact HPL.out, ?_⟩
    have hby := H3.out.byt
    rw [HP.out.eq] at hby
    exact app_lt (fun c h => hby c (by simp [h])) (app_lt hF.byt (fun c h => hby c (by simp [h])))
  obtain ⟨C, hCC⟩ : ∃ C, C = pre ++ (cs ++ suf) := ⟨_, rfl⟩
  rw [← hCC] at hsum hC hO HLN
  have HD : Hid (sumOk C = decide (dOf pt A0 m = 0) ∧ (dOf pt A0 m = 0 → C = bs) ∧ Owns w5 (some ⟨g, 0, none⟩) cc C ∧ Keeps no w3 w5 ∧ b = decide (dOf pt A0 m ≠ 0)) := ⟨hsum, hC, hO, hK, hb⟩
  have HK5 : Hid (Keeps no w w5) := ((HK1.out.trans H2.out.keep).trans H3.out.keep).trans hK
  clear hsum hC hO hK hb hF HC hCC HB0
  have hR := read_any w5 (some ⟨g, 0, none⟩) bn cc C 0 HLN.out.1 (BSl.of HD.out.2.2.1 HLN.out.2 (by have := HLN.out.1; omega)) (by have := HLN.out.1; omega) (HS.out.2.keepsN HK5.out)
  by_cases hz : dOf pt A0 m = 0
  · have hbf : b = false := by rw [HD.out.2.2.2.2]; simp [hz]
    have HCb : Hid (C = bs) := HD.out.2.1 hz
    subst hbf
    have HLR : Hid (sumOk C = true ∧ rdOk 0 C = true ∧ rdG C = 3) := by
      have h := laid_read H2.out.ok H3.out.sn (by decide) (now := 0) (by decide) (N := 1048576) (fun ls ks hT => H2.out.ks_le hT) (by decide)
      rw [HCb.out]
      exact ⟨h.1, h.2.1, h.2.2.1⟩
    go_wp2_with fail
    refine hR.mono ?_
    intro e w6 hR
    obtain ⟨p3, rfl, H6⟩ := rd_ok hR (by decide) HLR.out.1 HLR.out.2.1
    clear hR
    rw [HLR.out.2.2]
    go_wp2_with fail
    go_ret
    exact ⟨rfl, HK5.out.trans H6.out.keep⟩
  · have hbf : b = true := by rw [HD.out.2.2.2.2]; simp [hz]
    subst hbf
    have HSf : Hid (sumOk C = false) := (show _ = _ by rw [HD.out.1]; exact decide_eq_false hz)
    clear hz
    go_wp2_with fail
    refine hR.mono ?_
    intro e w6 hR
    obtain ⟨rfl, hk6⟩ := rd_sum hR (by decide) HSf.out
    clear hR
    go_wp2_with fail
    go_ret
    exact ⟨rfl, HK5.out.trans hk6⟩
end Go.Proofs.YtbnohdgdadfjlaaGreatDoor
