import Derived.Test.YtbkfalaicocopaaDoorMine
import Derived.RegionTactic
import Derived.Deep.Cut
import Derived.Deep.CutRange
namespace Go.Proofs.YtbkfalaicocopaaDoor
open Go.RowKit
open Crc
set_option linter.unusedVariables false
theorem flip_yes (bs cs : List Nat) (A k mask c : Nat) (hl : cs.length = bs.length) (h8 : A + k < 8 * bs.length) (h32 : k < 32) (hbit : mask / 2 ^ k % 2 = 1) (hc : c = cs.getD ((A + k) / 8) 0)
    (hu : upd 4294967295 cs = upd 4294967295 bs ^^^ shn (8 * bs.length - A) (mask % 2 ^ k)) :
    upd 4294967295 (cs.set ((A + k) / 8) (c ^^^ 2 ^ ((A + k) % 8))) = upd 4294967295 bs ^^^ shn (8 * bs.length - A) (mask % 2 ^ (k + 1)) := by
  have h1 := upd_set cs ((A + k) / 8) 4294967295 (2 ^ ((A + k) % 8)) (by omega)
  rw [← hc] at h1
  have h2 := shn_bit bs.length A k h8 h32
  have h3 := low_step mask k
  rw [hbit, Nat.mul_one] at h3
  rw [h1, hl, h2, hu, Nat.xor_assoc, ← shn_xor, h3]
theorem low_no (mask k : Nat) (hbit : ¬ mask / 2 ^ k % 2 = 1) : mask % 2 ^ (k + 1) = mask % 2 ^ k := by
  have h3 := low_step mask k
  have h0 : mask / 2 ^ k % 2 = 0 := by omega
  rw [h0, Nat.mul_zero, Nat.xor_zero] at h3
  exact h3.symm
theorem low_yes (mask k : Nat) (hbit : mask / 2 ^ k % 2 = 1) : mask % 2 ^ (k + 1) ≠ 0 := by
  have h := Nat.mod_pow_succ (x := mask) (b := 2) (k := k)
  rw [hbit, Nat.mul_one] at h
  have := Nat.two_pow_pos k
  omega
theorem xor_same {a b c : Nat} (h : a ^^^ c = b ^^^ c) : a = b := by
  have := congrArg (fun x => x ^^^ c) h
  simpa [Nat.xor_assoc] using this
theorem sums_part (bs cs : List Nat) (n d : Nat) (hd : d < 4294967296) (hu : upd 4294967295 cs = upd 4294967295 bs ^^^ shn n d) : sum cs = sum bs ↔ d = 0 := by
  have e : ∀ l, sum l = upd 4294967295 l ^^^ 4294967295 := fun l => by unfold sum update; rw [Nat.zero_xor]
  rw [e, e]
  constructor
  · intro h
    have h1 := xor_same h
    rw [hu] at h1
    have h2 : shn n d = 0 := by
      have := congrArg (fun x => upd 4294967295 bs ^^^ x) h1
      simpa [← Nat.xor_assoc] using this
    exact shn_eq_zero n d hd h2
  · intro h
    rw [hu, h, shn_zero, Nat.xor_zero]

theorem zip_at (ls bs cs : List Nat) (q : Nat) (h1 : q < ls.length) (h2 : q < bs.length) (h3 : q < cs.length) :
    (List.zipWith (· ^^^ ·) (List.zipWith (· ^^^ ·) ls bs) cs).getD q 0 = ls.getD q 0 ^^^ bs.getD q 0 ^^^ cs.getD q 0 := by
  simp [List.getD_eq_getElem?_getD, List.getElem?_zipWith, h1, h2, h3]
theorem take_set (es zs : List Nat) (q : Nat) (h1 : q < es.length) (h2 : q < zs.length) (h : es.take q = zs.take q) : (es.set q (zs.getD q 0)).take (q + 1) = zs.take (q + 1) := by
  rw [List.take_succ_eq_append_getElem (by simpa using h1), List.take_succ_eq_append_getElem h2, List.take_set_of_le (Nat.le_refl _), h]
  simp [h2]
theorem sum_three (ls bs cs : List Nat) (h1 : ls.length = bs.length) (h2 : ls.length = cs.length) :
    sum (List.zipWith (· ^^^ ·) (List.zipWith (· ^^^ ·) ls bs) cs) = sum ls ^^^ sum bs ^^^ sum cs := by
  have e : ∀ l, sum l = upd 4294967295 l ^^^ 4294967295 := fun l => by unfold sum update; rw [Nat.zero_xor]
  have h := upd_three ls bs cs 4294967295 4294967295 4294967295 h1 h2
  rw [Nat.xor_self, Nat.zero_xor] at h
  rw [e, e ls, e bs, e cs, h, xor_four (upd 4294967295 ls), Nat.xor_self, Nat.xor_zero, Nat.xor_assoc]

set_option maxRecDepth 100000 in
set_option maxHeartbeats 1000000 in
theorem bursts_any (a : Option Addr) (bs : List Nat) (cap : Nat) (at_ : Int) (mask : Nat) (a2 : Option Addr) (os : List Nat) (cap2 : Nat) (w : World) (ht : TabIn w) (hr : Row w a bs) (hr2 : Row w a2 os) (hnil : a = none → cap = 0)
    (hcap : bs.length ≤ 140737488351232) (hm : mask < 4294967296)
    (h1 : -9223372036854775808 ≤ at_) (h2 : at_ ≤ 9223372036854775807) :
    Calls Tryd.prog 5 #[.slice a bs.length cap, .int .i64 at_, .int .u32 (mask : Nat), .slice a2 os.length cap2] w fun e w' => e = .returned (.bool true) ∧ Below w.heap.size w w' := by
  go_enter Tryd.func5, Tryd.ntmps5
  go_wp2_with fail
  refine (alive_any w ht).mono ?_
  rintro e w1 ⟨rfl, hb1⟩
  go_wp2_with fail
  refine (own_to w1 a bs bs.length cap rfl (hr.later hb1) hnil (by omega)).mono ?_
  rintro e w2 ⟨gc, cc, rfl, gc1, mc, hb2⟩
  have hB2 : Below w.heap.size w w2 := hb1.trans (hb2.mono hb1.size)
  have hs1 := hb1.size
  clear hb1 hb2
  go_upto_region 6 with fail
  go_cut [30] from 18 (fun s wc => (∃ B : Bool, s = .bool B ∧ (B = true → 0 < bs.length)) ∧ wc = w2)
  case first =>
    by_cases hn : 0 < bs.length
    · go_wp2_with fail
      all_goals go_meet
      all_goals exact ⟨⟨_, rfl, fun _ => hn⟩, rfl⟩
    · go_wp2_with fail
      go_meet
      case rel => exact ⟨⟨_, rfl, by simp⟩, rfl⟩
  case rest =>
  obtain ⟨⟨B, rfl, hB⟩, rfl⟩ := hcut
  go_upto_if 30 with fail
  go_cut [12] from 18 (fun _ wd => ∃ cs : List Nat, cs.length = bs.length ∧ (∀ c ∈ cs, c < 256) ∧ Mine w1.heap.size wd gc cc cs ∧ Below w.heap.size w wd)
  case first =>
    cases B with
    | false =>
      go_wp2_with fail
      go_meet
      case rel => exact ⟨bs, rfl, hr.1, mc, hB2⟩
    | true =>
      have hn := hB rfl
      have ht2 := ht.below hB2
      go_wp2_with fail
      have es : (8 : Int) * ((bs.length : Nat) : Int) - 1 = ((8 * bs.length - 1 : Nat) : Int) := by omega
      rw [es]
      refine (rest_any at_ (8 * bs.length - 1) _ h1 h2 (by omega)).mono ?_
      rintro e w3 ⟨⟨A, hA, rfl⟩, rfl⟩
      clear es
      go_wp2_with fail
      go_loopw [12, 13] (fun ch i wr => ∃ k : Nat, ∃ cs : List Nat, k ≤ 32 ∧ A + k ≤ 8 * bs.length ∧ i = .int .i64 k ∧ ch = .bool (decide (mask % 2 ^ k ≠ 0)) ∧ cs.length = bs.length ∧ (∀ c ∈ cs, c < 256) ∧ Mine w1.heap.size wr gc cc cs ∧
          upd 4294967295 cs = upd 4294967295 bs ^^^ shn (8 * bs.length - A) (mask % 2 ^ k) ∧ Below w.heap.size w wr) (fun _ i _ => 32 - (intOf i).toNat)
      case atStart => exact ⟨0, bs, by omega, by omega, rfl, by simp [Nat.mod_one], rfl, hr.1, mc, by simp [Nat.mod_one, shn_zero], hB2⟩
      case round =>
        obtain ⟨k, cs, hk, hAk, rfl, rfl, hcl, hcb, hmine, hupd, hbel⟩ := hrel
        have HU : Hid (upd 4294967295 cs = upd 4294967295 bs ^^^ shn (8 * bs.length - A) (mask % 2 ^ k)) := hupd
        have HL : Hid (cs.length = bs.length) := hcl
        have HM : Hid (Mine w1.heap.size wr gc cc cs) := hmine
        have HC : Hid (∀ c ∈ cs, c < 256) := hcb
        clear hupd hcl hmine hcb
        by_cases hin : k < 32 ∧ A + k < 8 * bs.length
        · obtain ⟨hk32, hA8⟩ := hin
          by_cases hbit : mask / 2 ^ k % 2 = 1
          · have hb : bits .and .u32 ((mask : Int) / 2 ^ k) 1 = 1 := by
              have e : (mask : Int) / 2 ^ k = ((mask / 2 ^ k : Nat) : Int) := by simp
              rw [e, and1 _ (Nat.lt_of_le_of_lt (Nat.div_le_self _ _) hm), hbit]; rfl
            have hj : (A + k) / 8 < bs.length := by omega
            have hjc : (A + k) / 8 < cs.length := by rw [HL.out]; exact hj
            have hcell := HM.out.cell ((A + k) / 8) hjc
            have hfree := HM.out.free ((A + k) / 8)
            obtain ⟨c, hc⟩ : ∃ c, c = cs.getD ((A + k) / 8) 0 := ⟨_, rfl⟩
            have hcl : c < 256 := by rw [hc]; exact getD_lt cs HC.out _ hjc
            rw [← hc] at hcell
            have HCC : Hid (c = cs.getD ((A + k) / 8) 0) := hc
            have i1 : (0 : Int) ≤ ((A : Int) + k) / 8 := by omega
            have i2 : ((A : Int) + k) / 8 < (bs.length : Int) := by omega
            have hxv : bits BinOp.xor IntKind.u8 (c : Int) ((2 : Int) ^ ((A + k) % 8) % 256) = ((c ^^^ 2 ^ ((A + k) % 8) : Nat) : Int) := by
              have ht8 : (A + k) % 8 < 8 := Nat.mod_lt _ (by decide)
              have e2 : (2 : Nat) ^ ((A + k) % 8) < 256 := Nat.pow_lt_pow_right (n := 8) (by decide) ht8
              have e : (2 : Int) ^ ((A + k) % 8) % 256 = ((2 ^ ((A + k) % 8) : Nat) : Int) := by
                rw [show (2 : Int) ^ ((A + k) % 8) = ((2 ^ ((A + k) % 8) : Nat) : Int) by simp]
                exact Int.emod_eq_of_lt (Int.natCast_nonneg _) (by exact_mod_cast e2)
              rw [e]
              exact xor8 c _ hcl ht8
            clear hc hjc
            go_wp2_with fail
            go_region
            go_wp2_with fail
            go_roundw
            case rel =>
              refine ⟨k + 1, cs.set ((A + k) / 8) (c ^^^ 2 ^ ((A + k) % 8)), by omega, by omega, by go_num, ?_, by rw [List.length_set]; exact HL.out, set_lt _ _ _ HC.out (xor8_lt c _ hcl (Nat.mod_lt _ (by decide))), ?_, flip_yes bs cs A k mask c HL.out hA8 hk32 hbit HCC.out HU.out, ?_⟩
              · have := low_yes mask k hbit
                simp [this]
              · exact (HM.out.set _ _).drew
              · exact (hbel.setCell (Nat.le_trans hs1 gc1) _).drew
            case measure => simp [intOf]; omega
          · have hb : bits .and .u32 ((mask : Int) / 2 ^ k) 1 = 0 := by
              have e : (mask : Int) / 2 ^ k = ((mask / 2 ^ k : Nat) : Int) := by simp
              rw [e, and1 _ (Nat.lt_of_le_of_lt (Nat.div_le_self _ _) hm), show mask / 2 ^ k % 2 = 0 by omega]; rfl
            go_wp2_with fail
            go_roundw
            case rel =>
              have e := low_no mask k hbit
              exact ⟨k + 1, cs, by omega, by omega, by go_num, by simp [e], HL.out, HC.out, HM.out, by rw [e]; exact HU.out, hbel⟩
            case measure => simp [intOf]; omega
        · have hrc : Row wr (some ⟨gc, 0, none⟩) cs := HM.out.row HC.out (by rw [HL.out]; omega)
          have hmd : mask % 2 ^ k < 4294967296 := Nat.lt_of_le_of_lt (Nat.mod_le _ _) hm
          have hpart := sums_part bs cs _ _ hmd HU.out
          have htr := ht.below hbel
          have hrb := hr.later hbel
          obtain ⟨sb, eb⟩ : ∃ v, v = sum bs := ⟨_, rfl⟩
          obtain ⟨sc, ec⟩ : ∃ v, v = sum cs := ⟨_, rfl⟩
          rw [← eb, ← ec] at hpart
          have EB : Hid (sb = sum bs) := eb
          have EC : Hid (sc = sum cs) := ec
          clear eb ec
          have HPART : Hid (sc = sb ↔ mask % 2 ^ k = 0) := hpart
          clear hpart
          obtain ⟨D, hD⟩ : ∃ D, D = decide (mask % 2 ^ k ≠ 0) := ⟨_, rfl⟩
          rw [← hD]
          have hDD : Hid (D = decide (mask % 2 ^ k ≠ 0)) := hD
          clear hD
          have hout : ¬ (k < 32 ∧ A + k < 8 * bs.length) := hin
          clear hin
          have hways : k < 32 ∧ A + k = 8 * bs.length ∨ k = 32 := by omega
          clear hout
          have hsc : D = true ∧ ((sc : Int) == (sb : Int)) = false ∨ D = false ∧ sc = sb := by
            by_cases hz : mask % 2 ^ k = 0
            · right; exact ⟨by rw [hDD.out]; simp [hz], HPART.out.mpr hz⟩
            · left
              have hne : ¬ sc = sb := fun h => hz (HPART.out.mp h)
              exact ⟨by rw [hDD.out]; simp [hz], by simp; omega⟩
          clear hDD HPART
          have HRB : Hid (Row wr a bs) := hrb
          have HRC : Hid (Row wr (some ⟨gc, 0, none⟩) cs) := hrc
          have HTR : Hid (TabIn wr) := htr
          have HBEL : Hid (Below w.heap.size w wr) := hbel
          have HHR : Hid (Row w a bs) := hr
          clear hrb hrc htr hbel hr mc hB2 ht2 HU hmd hA hn
          rcases hways with ⟨hk32, hA8⟩ | hk32 <;> rcases hsc with ⟨rfl, hne⟩ | ⟨rfl, rfl⟩
          all_goals
            go_wp2_with fail
            refine (own_to wr (some ⟨gc, 0, none⟩) cs bs.length cc HL.out.symm HRC.out (by simp) (by rw [HL.out]; omega)).mono ?_
            rintro e w4 ⟨g4, c4, rfl, gg4, m4, hb4⟩
            have H4 : Hid (Row w4 (some ⟨g4, 0, none⟩) cs) := m4.row HC.out (by rw [HL.out]; omega)
            have T4 : Hid (TabIn w4) := HTR.out.below hb4
            have B4 : Hid (Below wr.heap.size wr w4) := hb4
            clear hb4 m4
            go_wp2_with fail
            refine (sum_to cs _ bs.length HL.out.symm EC.out _ _ w4 T4.out H4.out).mono ?_
            rintro e w5 ⟨rfl, rfl⟩
            go_wp2_with fail
            refine (own_to w4 a bs bs.length cap rfl (HRB.out.later B4.out) hnil (by omega)).mono ?_
            rintro e w5 ⟨g5, c5, rfl, gg5, m5, hb5⟩
            have H5 : Hid (Row w5 (some ⟨g5, 0, none⟩) bs) := m5.row HHR.out.1 (by omega)
            have T5 : Hid (TabIn w5) := T4.out.below hb5
            have B5 : Hid (Below wr.heap.size wr w5) := B4.out.trans (hb5.mono B4.out.size)
            clear hb5 m5
            go_wp2_with fail
            refine (sum_to bs _ bs.length rfl EB.out _ _ w5 T5.out H5.out).mono ?_
            rintro e w6 ⟨rfl, rfl⟩
            go_wp2_with fail
            go_meet
            case rel => exact ⟨cs, HL.out, HC.out, HM.out.later B5.out, HBEL.out.trans (B5.out.mono HBEL.out.size)⟩
  case rest =>
    obtain ⟨cs, hcl, hcb, hmine, hbel⟩ := hcut
    have HL : Hid (cs.length = bs.length) := hcl
    have HC : Hid (∀ c ∈ cs, c < 256) := hcb
    have HM : Hid (Mine w1.heap.size wc gc cc cs) := hmine
    have HBEL : Hid (Below w.heap.size w wc) := hbel
    have HHR : Hid (Row w a bs) := hr
    have HR2 : Hid (Row w a2 os) := hr2
    have HT : Hid (TabIn w) := ht
    clear hcl hcb hmine hbel mc hB2 hr hr2 ht h1 h2 hm
    obtain ⟨i0, hi, hz0, hz1, hz2⟩ := info_parts info5
    go_upto_region 18 with (at_make; go_must (refine wpList_make_full _ rfl _ _ 25 rfl wc.heap.size 5 i0 (.int .u8 0) 1 Tryd.underlying25 hi hz0 hz1 .i64 .i64 _ _ bs.length rfl rfl rfl rfl (by rw [hz2]; omega) (by unfold maxLen; omega) (Nat.le_refl _) ?_); intro w3 hown3 hgrow3)
    have hb3 : Below wc.heap.size wc w3 := (Below.refl _ _).grown hgrow3 (Nat.le_refl _) (fun _ h => by cases h)
    have MD : Hid (Mine wc.heap.size w3 wc.heap.size bs.length (List.replicate bs.length 0)) := by
      rw [zeros_made] at hown3
      unfold Hid Mine
      rw [List.length_replicate]
      exact hown3
    have hgd : gc < wc.heap.size := HM.out.lt
    have HM3 : Hid (Mine w1.heap.size w3 gc cc cs) := HM.out.later hb3
    have HB3 : Hid (Below w.heap.size w w3) := HBEL.out.trans (hb3.mono HBEL.out.size)
    have hgd3 : wc.heap.size < w3.heap.size := MD.out.lt
    clear hown3 hgrow3 hb3 HM
    go_wp2_with (at_make; go_must (refine wpList_make_full _ rfl _ _ 25 rfl w3.heap.size 5 i0 (.int .u8 0) 1 Tryd.underlying25 hi hz0 hz1 .i64 .i64 _ _ bs.length rfl rfl rfl rfl (by rw [hz2]; omega) (by unfold maxLen; omega) (Nat.le_refl _) ?_); intro w4 hown4 hgrow4)
    have hb4 : Below w3.heap.size w3 w4 := (Below.refl _ _).grown hgrow4 (Nat.le_refl _) (fun _ h => by cases h)
    have ME : Hid (Mine w3.heap.size w4 w3.heap.size bs.length (List.replicate bs.length 0)) := by
      rw [zeros_made] at hown4
      unfold Hid Mine
      rw [List.length_replicate]
      exact hown4
    have HM4 : Hid (Mine w1.heap.size w4 gc cc cs) := HM3.out.later hb4
    have MD4 : Hid (Mine wc.heap.size w4 wc.heap.size bs.length (List.replicate bs.length 0)) := MD.out.later hb4
    have HB4 : Hid (Below w.heap.size w w4) := HB3.out.trans (hb4.mono HB3.out.size)
    have hwc : Hid (w.heap.size ≤ wc.heap.size) := HBEL.out.size
    clear hown4 hgrow4 hb4 HM3 HB3 MD hi hz0 hz1 hz2 i0
    obtain ⟨gd, egd⟩ : ∃ g, g = wc.heap.size := ⟨_, rfl⟩
    obtain ⟨ge, ege⟩ : ∃ g, g = w3.heap.size := ⟨_, rfl⟩
    rw [← egd, ← ege]
    rw [← egd] at hgd hgd3 hwc MD4
    rw [← ege] at hgd3 ME
    clear egd ege HBEL
    go_loopw [16] (fun i wr => ∃ k : Nat, ∃ ds : List Nat, k ≤ bs.length ∧ k ≤ os.length ∧ i = .int .i64 k ∧ ds.length = bs.length ∧ (∀ c ∈ ds, c < 256) ∧ Mine gd wr gd bs.length ds ∧ Mine w1.heap.size wr gc cc cs ∧ Mine ge wr ge bs.length (List.replicate bs.length 0) ∧ Below w.heap.size w wr) (fun i _ => bs.length - (intOf i).toNat)
    case atStart => exact ⟨0, _, Nat.zero_le _, Nat.zero_le _, rfl, by simp, by simp, MD4.out, HM4.out, ME.out, HB4.out⟩
    case round =>
      obtain ⟨k, ds, hk, hk2, rfl, hdl, hdb, md, mc, me, hbel⟩ := hrel
      have DL : Hid (ds.length = bs.length) := hdl
      have DB : Hid (∀ c ∈ ds, c < 256) := hdb
      have D : Hid (Mine gd wr gd bs.length ds) := md
      have C : Hid (Mine w1.heap.size wr gc cc cs) := mc
      have E : Hid (Mine ge wr ge bs.length (List.replicate bs.length 0)) := me
      have BEL : Hid (Below w.heap.size w wr) := hbel
      clear hdl hdb md mc me hbel MD4 HM4 ME HB4
      by_cases hin : k < bs.length ∧ k < os.length
      · obtain ⟨hkb, hko⟩ := hin
        have hr2 := HR2.out.later BEL.out
        obtain ⟨oby, _, hocell⟩ := hr2
        rcases hocell with h0 | ⟨b, off, rfl, hoc⟩
        · rw [h0] at hko; simp at hko
        have hoc' := hoc k hko
        obtain ⟨v, hv⟩ : ∃ v, v = os.getD k 0 := ⟨_, rfl⟩
        have hvl : v < 256 := by rw [hv]; exact getD_lt os oby k hko
        rw [← hv] at hoc'
        have hcd := D.out.cell k (by rw [DL.out]; exact hkb)
        have hfd := D.out.free k
        clear hoc hv oby
        go_wp2_with fail
        go_roundw
        case rel =>
          exact ⟨k + 1, ds.set k v, by omega, by omega, by go_num, by rw [List.length_set]; exact DL.out, set_lt _ _ _ DB.out hvl, D.out.set _ _, C.out.other (by simp; omega) _, E.out.other (by simp; omega) _, BEL.out.setCell hwc.out _⟩
        case measure => simp [intOf]; omega
      · have hways : k < bs.length ∧ k = os.length ∨ k = bs.length := by omega
        clear hin
        have hzl : Hid ((List.zipWith (· ^^^ ·) (List.zipWith (· ^^^ ·) bs cs) ds).length = bs.length) := by
          have := DL.out
          have := HL.out
          show List.length _ = _
          rw [List.length_zipWith, List.length_zipWith]; omega
        obtain ⟨zs, hzs⟩ : ∃ zs, zs = List.zipWith (· ^^^ ·) (List.zipWith (· ^^^ ·) bs cs) ds := ⟨_, rfl⟩
        rw [← hzs] at hzl
        have ZS : Hid (zs = List.zipWith (· ^^^ ·) (List.zipWith (· ^^^ ·) bs cs) ds) := hzs
        clear hzs
        rcases hways with ⟨hw1, hw2⟩ | hw1
        all_goals
          go_wp2_with fail
          go_loopw [17] (fun i wq => ∃ q : Nat, ∃ es : List Nat, q ≤ bs.length ∧ i = .int .i64 q ∧ es.length = bs.length ∧ (∀ c ∈ es, c < 256) ∧ es.take q = zs.take q ∧ Mine gd wq gd bs.length ds ∧ Mine w1.heap.size wq gc cc cs ∧ Mine ge wq ge bs.length es ∧ Below w.heap.size w wq) (fun i _ => bs.length - (intOf i).toNat)
          case atStart => exact ⟨0, _, Nat.zero_le _, rfl, by simp, by simp, by simp, D.out, C.out, E.out, BEL.out⟩
          case round =>
            obtain ⟨q, es, hq, rfl, hel, heb, het, md, mc, me, hbel⟩ := hrel
            have EL : Hid (es.length = bs.length) := hel
            have EB : Hid (∀ c ∈ es, c < 256) := heb
            have ET : Hid (es.take q = zs.take q) := het
            have D' : Hid (Mine gd wr gd bs.length ds) := md
            have C' : Hid (Mine w1.heap.size wr gc cc cs) := mc
            have E' : Hid (Mine ge wr ge bs.length es) := me
            have BEL' : Hid (Below w.heap.size w wr) := hbel
            clear hel heb het md mc me hbel D C E BEL
            by_cases hqn : q < bs.length
            · have hrb := HHR.out.later BEL'.out
              obtain ⟨bby, _, hbcell⟩ := hrb
              rcases hbcell with h0 | ⟨b, off, rfl, hbc⟩
              · rw [h0] at hqn; simp at hqn
              have hbq := hbc q hqn
              have hcq := C'.out.cell q (by rw [HL.out]; exact hqn)
              have hdq := D'.out.cell q (by rw [DL.out]; exact hqn)
              have heq := E'.out.cell q (by rw [EL.out]; exact hqn)
              have hfe := E'.out.free q
              obtain ⟨x, hx⟩ : ∃ v, v = bs.getD q 0 := ⟨_, rfl⟩
              obtain ⟨y, hy⟩ : ∃ v, v = cs.getD q 0 := ⟨_, rfl⟩
              obtain ⟨z, hz⟩ : ∃ v, v = ds.getD q 0 := ⟨_, rfl⟩
              have xl : x < 256 := by rw [hx]; exact getD_lt bs bby q hqn
              have yl : y < 256 := by rw [hy]; exact getD_lt cs HC.out q (by rw [HL.out]; exact hqn)
              have zl : z < 256 := by rw [hz]; exact getD_lt ds DB.out q (by rw [DL.out]; exact hqn)
              have hv : zs.getD q 0 = x ^^^ y ^^^ z := by
                rw [ZS.out, hx, hy, hz]
                exact zip_at bs cs ds q hqn (by rw [HL.out]; exact hqn) (by rw [DL.out]; exact hqn)
              have HV : Hid (zs.getD q 0 = x ^^^ y ^^^ z) := hv
              rw [← hx] at hbq
              rw [← hy] at hcq
              rw [← hz] at hdq
              have x1 : bits .xor .u8 (x : Int) (y : Int) = ((x ^^^ y : Nat) : Int) := u8_xor_nat x y xl yl
              have xyl : x ^^^ y < 256 := Nat.xor_lt_two_pow (n := 8) xl yl
              have x2 : bits .xor .u8 ((x ^^^ y : Nat) : Int) (z : Int) = ((x ^^^ y ^^^ z : Nat) : Int) := u8_xor_nat _ z xyl zl
              have xyzl : x ^^^ y ^^^ z < 256 := Nat.xor_lt_two_pow (n := 8) xyl zl
              have i1 : (q : Int) < (bs.length : Int) := by omega
              clear hv hx hy hz bby hbc xl yl zl xyl
              go_wp2_with fail
              go_region
              go_wp2_with fail
              go_roundw
              case rel =>
                refine ⟨q + 1, es.set q (x ^^^ y ^^^ z), by omega, by go_num, by rw [List.length_set]; exact EL.out, set_lt _ _ _ EB.out xyzl, ?_, (D'.out.other (by simp; omega) _).drew, (C'.out.other (by simp; omega) _).drew, (E'.out.set _ _).drew, (BEL'.out.setCell (by have := hwc.out; simp; omega) _).drew⟩
                rw [← HV.out]
                exact take_set es zs q (by rw [EL.out]; exact hqn) (by rw [hzl.out]; exact hqn) ET.out
              case measure => simp [intOf]; omega
            · obtain rfl : q = bs.length := by omega
              have hez : es = zs := by
                have h := ET.out
                rw [List.take_of_length_le (by rw [EL.out]; exact Nat.le_refl _), List.take_of_length_le (by rw [hzl.out]; exact Nat.le_refl _)] at h
                exact h
              have RE : Hid (Row wr (some ⟨ge, 0, none⟩) es) := E'.out.row EB.out (by rw [EL.out]; omega)
              have RC : Hid (Row wr (some ⟨gc, 0, none⟩) cs) := C'.out.row HC.out (by rw [HL.out]; omega)
              have RD : Hid (Row wr (some ⟨gd, 0, none⟩) ds) := D'.out.row DB.out (by rw [DL.out]; omega)
              have RB : Hid (Row wr a bs) := HHR.out.later BEL'.out
              have T : Hid (TabIn wr) := HT.out.below BEL'.out
              obtain ⟨sb, eb⟩ : ∃ v, v = sum bs := ⟨_, rfl⟩
              obtain ⟨sc, ec⟩ : ∃ v, v = sum cs := ⟨_, rfl⟩
              obtain ⟨sd, ed⟩ : ∃ v, v = sum ds := ⟨_, rfl⟩
              have lb : sb < 4294967296 := by rw [eb]; exact update_lt 0 _ (by decide) HHR.out.1
              have lc : sc < 4294967296 := by rw [ec]; exact update_lt 0 _ (by decide) HC.out
              have ld : sd < 4294967296 := by rw [ed]; exact update_lt 0 _ (by decide) DB.out
              have ee : Hid (sb ^^^ sc ^^^ sd = sum es) := by
                show _ = _
                rw [hez, ZS.out, eb, ec, ed]
                exact (sum_three bs cs ds HL.out.symm DL.out.symm).symm
              have x1 : bits .xor .u32 (sb : Int) (sc : Int) = ((sb ^^^ sc : Nat) : Int) := u32_xor_nat sb sc lb lc
              have x2 : bits .xor .u32 ((sb ^^^ sc : Nat) : Int) (sd : Int) = ((sb ^^^ sc ^^^ sd : Nat) : Int) := u32_xor_nat _ sd (xor_lt32 _ _ lb lc) ld
              have EB' : Hid (sb = sum bs) := eb
              have EC' : Hid (sc = sum cs) := ec
              have ED' : Hid (sd = sum ds) := ed
              clear eb ec ed hez lb lc ld ET
              go_wp2_with fail
              refine (sum_to es _ _ EL.out.symm ee.out _ _ wr T.out RE.out).mono ?_
              rintro e w5 ⟨rfl, rfl⟩
              go_wp2_with fail
              refine (own_to wr a bs bs.length cap rfl RB.out hnil (by omega)).mono ?_
              rintro e w6 ⟨g6, c6, rfl, gg6, m6, hb6⟩
              have R6 : Hid (Row w6 (some ⟨g6, 0, none⟩) bs) := m6.row HHR.out.1 (by omega)
              have T6 : Hid (TabIn w6) := T.out.below hb6
              have B6 : Hid (Below wr.heap.size wr w6) := hb6
              clear m6 hb6
              go_wp2_with fail
              refine (sum_to bs sb _ rfl EB'.out _ _ w6 T6.out R6.out).mono ?_
              rintro e w7 ⟨rfl, rfl⟩
              go_wp2_with fail
              refine (sum_to cs sc _ HL.out.symm EC'.out _ _ w6 T6.out (RC.out.later B6.out)).mono ?_
              rintro e w7 ⟨rfl, rfl⟩
              go_wp2_with fail
              refine (sum_to ds sd _ DL.out.symm ED'.out _ _ w6 T6.out (RD.out.later B6.out)).mono ?_
              rintro e w7 ⟨rfl, rfl⟩
              go_wp2_with fail
              go_ret
              exact ⟨rfl, BEL'.out.trans (B6.out.mono BEL'.out.size)⟩
end Go.Proofs.YtbkfalaicocopaaDoor
