/- MsgForms: its walk. -/
import Derived.Test.YtjklpcamlppegaaS3
import Derived.Laws.Bits128
namespace Go.Proofs.Ytjklpcamlppegaa
open Go.RowKit Go.Sort Orl Pk
set_option linter.unusedVariables false
set_option linter.unusedSimpArgs false

theorem xor_ne (a b : Nat) (hb : b ≠ 0) : a ^^^ b ≠ a := by
  intro h
  have h2 : a ^^^ (a ^^^ b) = a ^^^ a := by rw [h]
  rw [← Nat.xor_assoc, Nat.xor_self, Nat.zero_xor] at h2
  exact hb h2
theorem owns_set {w : World} {g c : Nat} {bs : List Nat} (h : Owns w (some ⟨g, 0, none⟩) c bs) (k : Nat) (hk : k < bs.length) (v : Nat) : Owns (w.setCell ⟨g, k, none⟩ (.int .u8 (v : Nat))) (some ⟨g, 0, none⟩) c (bs.set k v) := by
  rcases h.shape with ⟨e, _⟩ | ⟨g', cur, e, hg, h1, h2, h3, h4⟩
  · cases e
  · cases e
    refine ⟨by simp [vals], .inr ⟨g, c, cur.setIfInBounds k (.int .u8 (v : Nat)), by simp, Nat.zero_le _, blk_set hg k _, by simpa using h1, h2, by simpa using h3, ?_⟩⟩
    simp only [List.length_set, Nat.mul_one, Array.toList_setIfInBounds, List.take_set, h4, vals, List.map_set]
theorem owns_cell {w : World} {g c : Nat} {bs : List Nat} (h : Owns w (some ⟨g, 0, none⟩) c bs) (k : Nat) (hk : k < bs.length) : w.cell? ⟨g, k, none⟩ = some (.int .u8 (bs.getD k 0 : Nat)) ∧ w.frozen? ⟨g, k, none⟩ = false := by
  rcases h.shape with ⟨e, _⟩ | ⟨g', cur, e, hg, h1, h2, h3, h4⟩
  · cases e
  · cases e
    refine ⟨?_, frozen_of_blk hg k⟩
    rw [cell_of_blk hg, ← Array.getElem?_toList]
    have : (cur.toList.take bs.length)[k]? = (vals bs)[k]? := by rw [h4]
    rw [List.getElem?_take_of_lt hk] at this
    rw [this]
    simp [vals, hk]
theorem set_ne {bs : List Nat} {k v : Nat} (hk : k < bs.length) (hv : v ≠ bs.getD k 0) : bs.set k v ≠ bs := by
  intro e
  have := congrArg (fun l => l.getD k 0) e
  simp only [List.getD_eq_getElem?_getD] at this hv
  rw [List.getElem?_set_self hk] at this
  exact hv this

set_option maxRecDepth 20000 in
theorem msgForms_any (w : World) (o : Option Addr) (n c : Nat) (bs : List Nat) (hn : n = bs.length) (hlid : bs.length ≤ 140737488351232) (hs : BSl w o c bs) (at' mask : Int) (ha1 : -9223372036854775808 ≤ at') (ha2 : at' ≤ 9223372036854775807) :
    Calls Try.prog 4 #[.slice o n c, .int .i64 at', .int .i64 mask] w fun e w' => e = .returned (.bool true) ∧ Keeps no w w' := by
  have HN : Hid (n = bs.length) := hn
  have hnl : n ≤ 140737488351232 := by omega
  clear hn
  go_enter Try.func4, Try.ntmps4
  go_wp2_with fail
  refine (Decode_any w o n c bs HN.out (by omega) hs).mono ?_
  obtain ⟨D, hD⟩ : ∃ D, D = dec bs := ⟨_, rfl⟩
  rw [← hD]
  have HD : Hid (D = dec bs) := hD
  clear hD
  rintro e w1 ⟨k, cl, q, i, op, np, cp, ok, nk, ck, ow, nw, cw, ov, nv, cv, rs, rfl, HM, hF, hk1⟩
  have k1' := hk1.alloc (.cells #[.int .i64 k, .int .i64 cl, .int .u64 (q : Nat), .int .u64 (i : Nat), .slice op np cp, .slice ok nk ck, .slice ow nw cw, .slice ov nv cv] 29)
  go_wp2_with fail
  refine (known_any _).mono ?_
  rintro e w2 ⟨rfl, hk2⟩
  have hb2 := hk2.at (blk_new w1 _) (fun h => h)
  have HB2 : Hid (w2.heap[w1.heap.size]? = some (.cells #[.int .i64 k, .int .i64 cl, .int .u64 (q : Nat), .int .u64 (i : Nat), .slice op np cp, .slice ok nk ck, .slice ow nw cw, .slice ov nv cv] 29 (0, 0))) := hb2
  obtain ⟨x0, x1, x2, x3, x4, x5, x6, x7⟩ := cells8 hb2
  have hk02 := k1'.trans hk2
  have hk12 : Keeps no w1 w2 := ((Keeps.refl no w1).alloc _).trans hk2
  have hE : (D.2 = 0) ∨ (D.1 = m0 ∧ (D.2 = 2 ∨ D.2 = 3 ∨ D.2 = 4 ∨ D.2 = 5)) := by
    rw [HD.out]
    rcases dec_errs bs with h | h | h | h | h <;> rw [h] <;> simp
  rcases hE with hE | ⟨hM0, hE⟩
  · rw [hE]
    have hd : dec bs = (D.1, 0) := by rw [← HD.out, ← hE]
    obtain ⟨b1, b2, b3, b4⟩ := dec_back hs.row.1 hd
    have HBK : Hid (enc D.1 = bs ∧ may D.1 = true ∧ (body D.1).length ≤ 1048576 ∧ 5 ≤ bs.length) := ⟨b1, b2, b3, b4⟩
    have HEN : Hid (encE D.1 = 0 ∧ encB D.1 = enc D.1) := encE_ok b2 b3
    have hn5 : 5 ≤ n := by have := HN.out; omega
    clear b1 b2 b3 b4 hd hb2 k1'
    rw [show ((0 : Nat) : Int) = (0 : Int) from rfl]
    go_wp2_with fail
    refine (Encode_any w2 k cl q i op np cp ok nk ck ow nw cw ov nv cv rs D.1 (HM.out.keepsN hk12)).mono ?_
    rintro e w3 ⟨o3, n3, c3, rfl, hn3, hown3, hnew3, hk3⟩
    rw [HEN.out.1]
    rw [HEN.out.2, HBK.out.1] at hown3 hn3
    have hk03 := hk02.trans hk3
    rw [show ((0 : Nat) : Int) = (0 : Int) from rfl]
    go_wp2_with fail
    refine (same_bytes w3 o3 n3 c3 o n c bs bs hn3.out HN.out (hown3.row hs.row.1 (by omega)) (hs.row.keeps hk03 (fun _ _ h => h))).mono ?_
    rintro e wq ⟨rfl, hq⟩
    subst wq
    rw [decide_eq_true rfl]
    clear x0 x1 x2 x3 x4 x5 x6 x7
    obtain ⟨x0, x1, x2, x3, x4, x5, x6, x7⟩ := cells8 (hk3.at HB2.out (fun h => h))
    go_wp2_with fail
    refine (May_any w3 k cl q i op np cp ok nk ck ow nw cw ov nv cv rs D.1 (HM.out.keepsN (hk12.trans hk3))).mono ?_
    rintro e w4 ⟨rfl, hk4⟩
    rw [HBK.out.2.1]
    have hk04 := hk03.trans hk4
    have HB4 : Hid (w4.heap[w1.heap.size]? = some (.cells #[.int .i64 k, .int .i64 cl, .int .u64 (q : Nat), .int .u64 (i : Nat), .slice op np cp, .slice ok nk ck, .slice ow nw cw, .slice ov nv cv] 29 (0, 0))) := hk4.at (hk3.at HB2.out (fun h => h)) (fun h => h)
    have hk14 := (hk12.trans hk3).trans hk4
    clear x0 x1 x2 x3 x4 x5 x6 x7
    have h5 : ¬ (n : Int) < 5 := by omega
    have hb1 : -(n : Int) < at'.tmod n ∧ at'.tmod n < n := ⟨Int.lt_tmod_of_pos at' (by omega), Int.tmod_lt_of_pos at' (by omega)⟩
    obtain ⟨T, hT⟩ : ∃ T, at'.tmod (n : Int) = T := ⟨_, rfl⟩
    rw [hT] at hb1
    have hb2 : -(n : Int) < T := hb1.1
    have hb3 : T < (n : Int) := hb1.2
    have hn0 : ¬ (n : Int) = 0 := by omega
    clear hb1
    go_upto_if 71 with fail
    go_cut [11] from 20 to 102 (fun s wc => ∃ K : Nat, s = .int .i64 K ∧ K < n ∧ wc = w4)
    case first =>
      by_cases hTn : T < 0
      · obtain ⟨K, hK⟩ : ∃ K : Nat, T + (n : Int) = (K : Int) := ⟨(T + n).toNat, by omega⟩
        go_wp2_with fail
        go_meet
        case rel => exact ⟨K, rfl, by omega, rfl⟩
      · obtain ⟨K, rfl⟩ : ∃ K : Nat, T = (K : Int) := ⟨T.toNat, by omega⟩
        go_wp2_with fail
        go_meet
        case rel => exact ⟨K, rfl, by omega, rfl⟩
    case rest =>
    obtain ⟨K, rfl, hK, hwc⟩ := hcut
    subst wc
    have HBY : Hid (∀ c ∈ bs, c < 256) := hs.row.1
    have hX : 0 ≤ mask % 128 ∧ mask % 128 < 128 := ⟨Int.emod_nonneg _ (by decide), Int.emod_lt_of_pos _ (by decide)⟩
    obtain ⟨X, hXe⟩ : ∃ X : Nat, mask % 128 = (X : Int) := ⟨(mask % 128).toNat, by omega⟩
    have hX1 : X < 128 := by omega
    have hand : bits .and .i64 mask 127 = (X : Int) := by rw [i64_and127, hXe]
    have hKb : K < bs.length := by have := HN.out; omega
    have hcb := getD_lt bs HBY.out K hKb
    obtain ⟨C, hC⟩ : ∃ C, C = bs.getD K 0 := ⟨_, rfl⟩
    rw [← hC] at hcb
    have hxor : bits .xor .u8 (C : Int) (1 + (X : Int)) = ((C ^^^ (1 + X) : Nat) : Int) := u8_xor_nat C (1 + X) hcb (by omega)
    have HXN : Hid (C ^^^ (1 + X) ≠ C) := xor_ne C (1 + X) (by omega)
    have hxl : C ^^^ (1 + X) < 256 := Nat.xor_lt_two_pow (n := 8) hcb (by omega)
    obtain ⟨V, hV⟩ : ∃ V, V = C ^^^ (1 + X) := ⟨_, rfl⟩
    rw [← hV] at hxor HXN hxl
    have HC : Hid (C = bs.getD K 0) := hC
    have HKB : Hid (K < bs.length) := hKb
    have HSR : Hid (BSl w o c bs) := hs
    clear hC hV hX hXe hs hKb
    go_wp2_with (at_builtin; go_must (refine wpList_appB rfl _ _ rfl none 0 0 [] rfl rfl (owns_nil _) o n c bs rfl HN.out HSR.out.nil (HSR.out.row.keeps hk04 (fun _ _ h => h)) (by omega) ?_); intro o5 c5 w5 hown5 hfr5 hk5; have hnn : ∃ g, o5 = some ⟨g, 0, none⟩ := (by rcases hown5.shape with ⟨_, _, e⟩ | ⟨g, _, e, _⟩; (rw [List.nil_append] at e; rw [e] at hlid; have := HKB.out; rw [e] at this; simp at this); exact ⟨g, e⟩); obtain ⟨g, hg⟩ := hnn; subst hg; obtain ⟨d1, d2⟩ := owns_cell hown5 K HKB.out; rw [List.nil_append, ← HC.out] at d1)
    have hgn : w4.heap.size ≤ g := by
      rcases hfr5 with e | ⟨g', e, hg'⟩
      · cases e
      · cases e; exact hg'
    rw [List.nil_append] at hown5
    have hk45 : Keeps no w4 w5 := hk5.mono (fun i ⟨x, e, _⟩ => by cases e)
    have HO6 : Hid (Owns (w5.setCell ⟨g, K, none⟩ (.int .u8 (V : Nat))) (some ⟨g, 0, none⟩) c5 (bs.set K V)) := owns_set hown5 K HKB.out V
    have HK6 : Hid (Keeps no w4 (w5.setCell ⟨g, K, none⟩ (.int .u8 (V : Nat)))) := hk45.then ((Keeps.refl (eqA g) w5).setA K _) (fun i hi => .inr (by unfold eqA at hi; omega))
    have HBY2 : Hid (∀ c ∈ bs.set K V, c < 256) := by
      intro c hc
      rcases List.mem_or_eq_of_mem_set hc with h | h
      · exact HBY.out c h
      · omega
    have HNE : Hid (bs.set K V ≠ bs) := set_ne HKB.out (by rw [← HC.out]; exact HXN.out)
    have HLN : Hid (n = (bs.set K V).length) := by show _ = _; rw [List.length_set]; exact HN.out
    generalize w5.setCell ⟨g, K, none⟩ (.int .u8 (V : Nat)) = W6 at HO6 HK6 ⊢
    clear hown5 hk5 hfr5 d1 d2 hk45 hxor hand
    refine (Decode_any W6 _ n c5 (bs.set K V) HLN.out (by rw [← HLN.out]; omega) (HO6.out.sl' HBY2.out (by rw [← HLN.out]; omega))).mono ?_
    obtain ⟨D2, hD2⟩ : ∃ D, D = dec (bs.set K V) := ⟨_, rfl⟩
    rw [← hD2]
    have HD2 : Hid (D2 = dec (bs.set K V)) := hD2
    clear hD2
    rintro e w7 ⟨k2, cl2, q2, i2, op2, np2, cp2, ok2, nk2, ck2, ow2, nw2, cw2, ov2, nv2, cv2, rs2, rfl, HM2, hF2, hk7⟩
    have hk07 := (hk04.trans HK6.out).trans hk7
    by_cases hz : D2.2 = 0
    · rw [hz]
      have HDD : Hid (D2.1 ≠ D.1) := by
        intro e
        have h1 : dec (bs.set K V) = (D2.1, 0) := by rw [← HD2.out, ← hz]
        have h2 := (dec_back HBY2.out h1).1
        rw [e, HBK.out.1] at h2
        exact HNE.out h2.symm
      have hb7 := blk_alloc (hk7.at (HK6.out.at HB4.out (fun h => h)) (fun h => h)) (.cells #[.int .i64 k2, .int .i64 cl2, .int .u64 (q2 : Nat), .int .u64 (i2 : Nat), .slice op2 np2 cp2, .slice ok2 nk2 ck2, .slice ow2 nw2 cw2, .slice ov2 nv2 cv2] 29)
      obtain ⟨x0, x1, x2, x3, x4, x5, x6, x7⟩ := cells8 hb7
      have k8 := (Keeps.refl no w7).alloc (.cells #[.int .i64 k2, .int .i64 cl2, .int .u64 (q2 : Nat), .int .u64 (i2 : Nat), .slice op2 np2 cp2, .slice ok2 nk2 ck2, .slice ow2 nw2 cw2, .slice ov2 nv2 cv2] 29)
      rw [show ((0 : Nat) : Int) = (0 : Int) from rfl]
      clear hb7
      go_wp2_with fail
      refine (Same_any _ k2 cl2 q2 i2 op2 np2 cp2 ok2 nk2 ck2 ow2 nw2 cw2 ov2 nv2 cv2 rs2 D2.1 (HM2.out.keepsN k8) k cl q i op np cp ok nk ck ow nw cw ov nv cv rs D.1 (HM.out.keepsN (((hk14.trans HK6.out).trans hk7).trans k8))).mono ?_
      rintro e w9 ⟨⟨B9, rfl, hB9⟩, hk9⟩
      have hB9' : B9 = false := by
        cases B9 with
        | false => rfl
        | true => exact absurd (hB9.out.1 rfl) HDD.out
      rw [hB9']
      go_wp2
      go_ret
      exact ⟨rfl, (hk07.trans k8).trans hk9⟩
    · have hz2 : ¬ ((D2.2 : Nat) : Int) = 0 := by omega
      generalize D2.2 = E2 at hz2
      go_wp2
      go_ret
      exact ⟨by simp [hz2], hk07.alloc _⟩
  · have hE' : D.2 = 2 ∨ D.2 = 3 ∨ D.2 = 4 ∨ D.2 = 5 := hE
    have HMM : Hid (D.1 = m0) := hM0
    clear hE hb2
    have k3 := hk02
    have hne : ¬ ((D.2 : Nat) : Int) = 0 := by omega
    obtain ⟨E, hEe⟩ : ∃ E, E = D.2 := ⟨_, rfl⟩
    rw [← hEe] at hE' hne ⊢
    clear hEe
    go_wp2_with fail
    refine (Same_any w2 k cl q i op np cp ok nk ck ow nw cw ov nv cv rs D.1 (HM.out.keepsN hk12) 0 0 0 0 none 0 0 none 0 0 none 0 0 none 0 0 [] m0 (isM0 _)).mono ?_
    rintro e w9 ⟨⟨B9, rfl, hB9⟩, hk9⟩
    have hB9' := hB9.out.2 HMM.out
    rw [hB9']
    rcases hE' with rfl | rfl | rfl | rfl
    all_goals
      go_wp2
      go_ret
      exact ⟨by rfl, hk02.trans hk9⟩
end Go.Proofs.Ytjklpcamlppegaa
