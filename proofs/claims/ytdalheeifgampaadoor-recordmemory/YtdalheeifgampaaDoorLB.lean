/- RecordBack: its walk. -/
import Derived.Test.YtdalheeifgampaaDoorD5
import Derived.Test.YtdalheeifgampaaDoorS2
import Derived.Test.YtdalheeifgampaaDoorLT
import Derived.Deep.DeepAppendWide
namespace Go.Proofs.YtdalheeifgampaaDoor
open Go.RowKit Go.Sort Orl Pk
set_option linter.unusedVariables false
set_option linter.unusedSimpArgs false

/-- append of bytes, past what growing by doubling would take -/
theorem wpList_appW {w : World} {ops : Array Oper} {rest : List Oper} {o : Oper} {a : Act} {Q : Exit → Act → World → Prop} (hgd : o.guard = none) (s x : Operand)
    (ho : o.op = .call { callee := .builtin .append, args := #[s, x], argTypes := #[34, 34] })
    (oa : Option Addr) (n c : Nat) (bs : List Nat) (hs : a.eval s = .slice oa n c) (hn : n = bs.length) (hown : Owns w oa c bs)
    (ad : Addr) (m d : Nat) (news : List Nat) (hx : a.eval x = .slice (some ad) m d) (hm : m = news.length) (hrow : BRow w (some ad) news)
    (hb : n + m ≤ 200000000000000)
    (h : ∀ o' c' w', Owns w' o' c' (bs ++ news) → Keeps (inO oa) w w' → wpList Tryd.prog ops Q rest (a.put o.dst (.slice o' (n + m) c')) w') : wpList Tryd.prog ops Q (o :: rest) a w := by
  obtain ⟨i0, hi, hz0, hz1, hz2⟩ := info_parts info5
  subst hn hm
  obtain ⟨v', w', hr, hown', hg, _⟩ := run_append_own_wide (P := Tryd.prog) w 0 34 o.type 5 i0 (.int .u8 0) 1 1 Tryd.underlying34 hi hz0 hz1 hz2 rfl (by decide) _ bs.length (vals bs) hown ad news.length d (vals news) (by simp [vals]) hrow.news vals_one (by unfold maxLen; omega) (by omega) (Nat.zero_le _)
  rw [← vals_append] at hown'
  obtain ⟨o', c', rfl, hlen, hown''⟩ := owns_val hown'
  refine wpList_plain hgd fun K hK => ?_
  unfold Oper.wp execOp
  simp only [ho, resolve, invoke, builtin, Sem.run_bind, Sem.run_pure, Result.andThen_ok, List.map_toArray, List.map_cons, List.map_nil, hs, hx, hr]
  exact hK _ _ (h o' c' w' hown'' ((Keeps.refl _ _).grown hg (fun k hk => .inl ((own_blk _ _ _ _).1 hk))))
/-- the same of a slice that may be nil -/
theorem wpList_appX {w : World} {ops : Array Oper} {rest : List Oper} {o : Oper} {a : Act} {Q : Exit → Act → World → Prop} (hgd : o.guard = none) (s x : Operand)
    (ho : o.op = .call { callee := .builtin .append, args := #[s, x], argTypes := #[34, 34] })
    (oa : Option Addr) (n c : Nat) (bs : List Nat) (hs : a.eval s = .slice oa n c) (hn : n = bs.length) (hown : Owns w oa c bs)
    (ox : Option Addr) (m d : Nat) (news : List Nat) (hx : a.eval x = .slice ox m d) (hm : m = news.length) (hsl : BSl w ox d news)
    (hb : n + m ≤ 200000000000000) (hb2 : n ≤ 140737488355328)
    (h : ∀ o' c' w', Owns w' o' c' (bs ++ news) → Keeps (inO oa) w w' → wpList Tryd.prog ops Q rest (a.put o.dst (.slice o' (n + m) c')) w') : wpList Tryd.prog ops Q (o :: rest) a w := by
  match ox, hsl with
  | none, hsl =>
    have hd := hsl.nil rfl
    have h0 : news = [] := List.length_eq_zero_iff.1 (by have := hsl.cap; omega)
    subst h0
    exact wpList_appB hgd s x ho oa n c bs hs hn hown none m d [] hx hm (fun _ => hd) hsl.row (by simp at hm; omega) (fun o' c' w' h1 _ h3 => h o' c' w' h1 h3)
  | some ad, hsl => exact wpList_appW hgd s x ho oa n c bs hs hn hown ad m d news hx hm hsl.row hb h

set_option maxRecDepth 20000 in
set_option maxHeartbeats 4000000 in
theorem recordBack_any (w : World) (cmt : Bool) (id : Nat) (oK : Option Addr) (nK cK sm : Nat) (val : Tx) (xs : List Tx) (hP : IsPl w id oK nK cK sm val xs) (oh : Option Addr) (nh ch : Nat) (bh : List Nat) (hnh : nh = bh.length) (hlh : bh.length ≤ 140737488351232) (hsh : BSl w oh ch bh) (ow : Option Addr) (nw cw : Nat) (rw_ : List Nat) (hnw : nw = rw_.length) (hlw : rw_.length ≤ 140737488351232) (hsw : BSl w ow cw rw_) (ht : TabIn w) :
    Calls Tryd.prog 6 #[.agg #[.bool cmt, .int .u64 (id : Nat), .slice oK nK cK, .int .u64 (sm : Nat), .string val], .slice oh nh ch, .slice ow nw cw] w fun e w' => e = .returned (.bool true) ∧ Keeps no w w' := by
  have HP : Hid (IsPl w id oK nK cK sm val xs) := hP
  have HNH : Hid (nh = bh.length) := hnh
  have HNW : Hid (nw = rw_.length) := hnw
  have hnhb : (nh : Int) ≤ 140737488351232 := by omega
  have hnwb : (nw : Int) ≤ 140737488351232 := by omega
  have HSH : Hid (BSl w oh ch bh) := hsh
  have HSW : Hid (BSl w ow cw rw_) := hsw
  clear hP hnh hnw hsh hsw hlh hlw
  have hk0 : Keeps no w (w.alloc (.cells #[.bool cmt, .int .u64 (id : Nat), .slice oK nK cK, .int .u64 (sm : Nat), .string val] 25)) := (Keeps.refl _ _).alloc _
  go_enter Tryd.func6, Tryd.ntmps6
  go_wp2_with fail
  refine (alive_any _ (ht.keepsN hk0)).mono ?_
  rintro e w1 ⟨rfl, hk1⟩
  have hb1 := hk1.at (blk_new w _) (fun h => h)
  obtain ⟨x0, x1, x2, x3, x4⟩ := cells5 hb1
  have HK1 : Hid (Keeps no w w1) := hk0.trans hk1
  clear hb1 hk0 hk1
  go_wp2_with fail
  refine (made_of (HP.out.keepsN HK1.out)).mono ?_
  rintro e w2 ⟨k, i, op, np, cp, ok, nk, ck, r, rfl, HG, hk2⟩
  have HR : Hid (may r = true ∧ r.id < 18446744073709551616 ∧ (body r).length ≤ 100000) := ⟨HG.out.2.1, HG.out.1.fit.id, HG.out.2.2⟩
  have HV : Hid (Var w w2.heap.size k i op np cp ok nk ck r (w2.alloc (.cells #[.int .i64 k, .int .u64 (i : Nat), .slice op np cp, .slice ok nk ck] 30))) :=
    ⟨blk_new w2 _, HG.out.1.isC.keepsN ((Keeps.refl _ _).alloc _), (HK1.out.trans hk2).alloc _⟩
  clear x0 x1 x2 x3 x4 hk2 HK1 HP HG
  go_upto_region 4 with fail
  generalize w2.alloc (.cells #[.int .i64 k, .int .u64 (i : Nat), .slice op np cp, .slice ok nk ck] 30) = W at HV ⊢
  generalize w2.heap.size = D at HV ⊢
  obtain ⟨z0, z1, z2, z3⟩ := cells4 HV.out.b
  go_wp2_with fail
  refine (lent_any W k i op np cp ok nk ck r HV.out.c).mono ?_
  rintro e w3 ⟨op3, cp3, ok3, ck3, rfl, HLT, hk3⟩
  have HV3 : Hid (Var w D k i op np cp ok nk ck r w3) := ⟨hk3.at HV.out.b (fun h => h), HV.out.c.keepsN hk3, HV.out.kp.trans hk3⟩
  clear hk3 HV z0 z1 z2 z3
  go_wp2_with fail
  refine (Build_any w3 k i op3 np cp3 ok3 nk ck3 r HLT.out.c (ht.keepsN HV3.out.kp)).mono ?_
  rintro e w4 ⟨o, n, c, rfl, hn, hown, hnew, hk4⟩
  obtain ⟨he, hbb⟩ := encE_ok HR.out.1 (by have := HR.out.2.2; omega)
  rw [hbb] at hn hown
  rw [he]
  have HV4 : Hid (Var w D k i op np cp ok nk ck r w4) := ⟨hk4.at HV3.out.b (fun h => h), HV3.out.c.keepsN hk4, HV3.out.kp.trans hk4⟩
  have HO4 : Hid (Owns w4 o c (enc r)) := hown
  have hnb : (n : Int) ≤ 100008 := by have := hn.out; rw [enc_length] at this; have := HR.out.2.2; omega
  clear hown hnew hk4 HV3 HLT he hbb
  go_wp2_with fail
  refine (own_any w4 o n c (enc r) hn.out (by omega) (HO4.out.bsl (enc_byt r) (by have := hn.out; omega))).mono ?_
  rintro e w5 ⟨o5, n5, c5, rfl, hn5, hown5, hnew5, hk5⟩
  have hn5n : n5 = n := by rw [hn5.out, hn.out]
  subst n5
  have HV5 : Hid (Var w D k i op np cp ok nk ck r w5) := ⟨hk5.at HV4.out.b (fun h => h), HV4.out.c.keepsN hk5, HV4.out.kp.trans hk5⟩
  have HO5 : Hid (Owns w5 o5 c5 (enc r) ∧ New w4 o5 ∧ Keeps no w4 w5) := ⟨hown5, hnew5, hk5⟩
  have HSH5 : Hid (BSl w5 oh ch bh) := HSH.out.keeps HV5.out.kp (fun _ _ h => h)
  clear hown5 hnew5 hk5 HSH
  have HAPP : Hid (∀ (o6 : Option Addr) (c6 : Nat) (w6 : World), Owns w6 o6 c6 (enc r ++ bh) → Keeps (inO o5) w5 w6 → Var w D k i op np cp ok nk ck r w6) := by
    intro o6 c6 w6 ho6 hk6
    have h5 := HO5.out
    have hK : Keeps no w4 w6 := h5.2.2.then hk6 (fun j hj => .inr (h5.2.1 j hj))
    exact ⟨hK.at HV4.out.b (fun h => h), HV4.out.c.keepsN hK, HV4.out.kp.trans hK⟩
  go_wp2_with (at_builtin; go_must (refine wpList_appX rfl _ _ rfl o5 n c5 (enc r) rfl hn.out HO5.out.1 oh nh ch bh rfl HNH.out HSH5.out (by omega) (by omega) ?_); intro o6 c6 w6 ho6 hk6; have HV6 : Hid (Var w D k i op np cp ok nk ck r w6) := HAPP.out o6 c6 w6 ho6 hk6; have HO6 : Hid (Owns w6 o6 c6 (enc r ++ bh)) := ho6; clear ho6 hk6)
  have HB6 : Hid (∀ x ∈ enc r ++ bh, x < 256) := app_lt (enc_byt r) HSH5.out.row.1
  have HL6 : Hid (n + nh = (enc r ++ bh).length) := by show _ = _; rw [List.length_append, ← hn.out, ← HNH.out]
  clear HAPP HO5 HV5 HV4 HSH5 HO4
  refine (Parse_any w6 o6 (n + nh) c6 (enc r ++ bh) HL6.out (by omega) (HO6.out.bsl HB6.out (by have := HL6.out; omega)) (ht.keepsN HV6.out.kp)).mono ?_
  rintro e w7 ⟨k1, i1, op1, np1, cp1, ok1, nk1, ck1, M1, E1, rfl, HP1, hM1, hE1, hk7⟩
  have hP1 := HP1.out
  rw [parse_enc r HR.out.1 HR.out.2.1 (by have := HR.out.2.2; omega) (sum_body r) bh, ← hn.out] at hP1
  obtain ⟨hG1, rfl, rfl⟩ := hP1
  have HV7 : Hid (Var w D k i op np cp ok nk ck r (w7.alloc (.cells #[.int .i64 k1, .int .u64 (i1 : Nat), .slice op1 np1 cp1, .slice ok1 nk1 ck1] 30))) := ⟨blk_alloc (hk7.at HV6.out.b (fun h => h)) _, HV6.out.c.keepsN (hk7.alloc _), HV6.out.kp.trans (hk7.alloc _)⟩
  have HC1 : Hid (IsC (w7.alloc (.cells #[.int .i64 k1, .int .u64 (i1 : Nat), .slice op1 np1 cp1, .slice ok1 nk1 ck1] 30)) ⟨k1, i1, op1, np1, cp1, ok1, nk1, ck1⟩ r) := hG1.isC.keepsN ((Keeps.refl _ _).alloc _)
  obtain ⟨z0, z1, z2, z3⟩ := cells4 HV7.out.b
  clear hG1 HP1 hM1 hE1 hk7 HV6 HO6
  go_wp2_with fail
  refine (sameR_any _ k i op np cp ok nk ck r HV7.out.c k1 i1 op1 np1 cp1 ok1 nk1 ck1 r HC1.out).mono ?_
  rintro e w8 ⟨⟨B1, rfl, hB1⟩, hk8⟩
  obtain rfl : B1 = true := hB1.out.2 rfl
  have HV8 : Hid (Var w D k i op np cp ok nk ck r w8) := ⟨hk8.at HV7.out.b (fun h => h), HV7.out.c.keepsN hk8, HV7.out.kp.trans hk8⟩
  clear hB1 hk8 HV7 HC1 z0 z1 z2 z3
  obtain ⟨z0, z1, z2, z3⟩ := cells4 HV8.out.b
  go_wp2_with fail
  refine (May_any w8 k i op np cp ok nk ck r HV8.out.c).mono ?_
  rintro e w9 ⟨rfl, hk9⟩
  rw [HR.out.1]
  have HK9 : Hid (Keeps no w w9) := HV8.out.kp.trans hk9
  clear hk9 HV8 z0 z1 z2 z3
  go_wp2_with fail
  refine (own_any w9 ow nw cw rw_ HNW.out (by omega) (HSW.out.keeps HK9.out (fun _ _ h => h))).mono ?_
  rintro e w10 ⟨o10, n10, c10, rfl, hn10, hown10, hnew10, hk10⟩
  have hn10n : n10 = nw := by rw [hn10.out, HNW.out]
  subst n10
  have HK10 : Hid (Keeps no w w10) := HK9.out.trans hk10
  have HO10 : Hid (Owns w10 o10 c10 rw_) := hown10
  clear hown10 hnew10 hk10 HK9
  go_wp2_with fail
  refine (Parse_any w10 o10 nw c10 rw_ HNW.out (by omega) (HO10.out.bsl HSW.out.row.1 (by have := HNW.out; omega)) (ht.keepsN HK10.out)).mono ?_
  rintro e w11 ⟨k2, i2, op2, np2, cp2, ok2, nk2, ck2, M2, E2, rfl, HP2, hM2, hE2, hk11⟩
  have HK11 : Hid (Keeps no w (w11.alloc (.cells #[.int .i64 k2, .int .u64 (i2 : Nat), .slice op2 np2 cp2, .slice ok2 nk2 ck2] 30))) := (HK10.out.trans hk11).alloc _
  have HC2 : Hid (IsC (w11.alloc (.cells #[.int .i64 k2, .int .u64 (i2 : Nat), .slice op2 np2 cp2, .slice ok2 nk2 ck2] 30)) ⟨k2, i2, op2, np2, cp2, ok2, nk2, ck2⟩ (parse rw_).1) := HP2.out.1.isC.keepsN ((Keeps.refl _ _).alloc _)
  have HME : Hid (M2 = (parse rw_).2.1 ∧ E2 = (parse rw_).2.2) := HP2.out.2
  clear HP2 hk11 HO10 HK10
  by_cases hE0 : E2 = 0
  · subst hE0
    have hpe : parse rw_ = ((parse rw_).1, M2, 0) := by
      have h1 := HME.out.1; have h2 := HME.out.2
      rw [h1]
      conv => rhs; rw [h2]
    obtain ⟨b1, b2, b3, b4, b5, b6⟩ := parse_back HSW.out.row.1 hpe
    have HBK : Hid (encE (parse rw_).1 = 0 ∧ encB (parse rw_).1 = rw_.take M2 ∧ M2 ≤ rw_.length) := ⟨(encE_ok b1 b3).1, by rw [(encE_ok b1 b3).2]; exact b6, b5⟩
    have hMw : (M2 : Int) ≤ nw := by have := HNW.out; omega
    have hMw' : M2 ≤ nw := by omega
    clear hpe b1 b2 b3 b4 b5 b6
    go_wp2_with fail
    refine (Build_any _ k2 i2 op2 np2 cp2 ok2 nk2 ck2 _ HC2.out (ht.keepsN HK11.out)).mono ?_
    rintro e w12 ⟨o12, n12, c12, rfl, hn12, hown12, hnew12, hk12⟩
    rw [HBK.out.2.1] at hn12 hown12
    rw [HBK.out.1]
    have HK12 : Hid (Keeps no w w12) := HK11.out.trans hk12
    have HO12 : Hid (Owns w12 o12 c12 (rw_.take M2)) := hown12
    obtain ⟨hcut, hsl⟩ := cut_hk .i64 w12 ow cw rw_ nw M2 HNW.out hMw' (HSW.out.keeps HK12.out (fun _ _ h => h))
    have HSL : Hid (BSl w12 ow cw (rw_.take M2)) := hsl
    have HMT : Hid (M2 = (rw_.take M2).length) := by show _ = _; rw [List.length_take]; have := HBK.out.2.2; omega
    clear hown12 hnew12 hk12 hsl
    go_wp2_with fail
    refine (same_bytes w12 o12 n12 c12 ow M2 cw (rw_.take M2) (rw_.take M2) hn12.out HMT.out (HO12.out.row HSL.out.row.1 (by have := HSL.out.row.2.1; exact this)) HSL.out.row).mono ?_
    rintro e w13 ⟨rfl, hw13⟩
    subst w13
    have hd : decide (rw_.take M2 = rw_.take M2) = true := by simp
    rw [hd]
    go_wp2_with fail
    go_ret
    exact ⟨rfl, HK12.out⟩
  · have hE1 : ((E2 : Int) == 0) = false := by simp; omega
    have hE2' : ¬ (E2 : Int) = 0 := by omega
    obtain ⟨hc, hM0, hsh⟩ : (parse rw_).1 = c0 ∧ (parse rw_).2.1 = 0 ∧ (rw_.length < 8 → (parse rw_).2.2 = 91) := by
      refine ⟨?_, ?_, fun h => by rw [parse_short h]⟩
      · rcases parse_errs rw_ with ⟨m, h⟩ | ⟨E, h1, h2, h3⟩
        · exact absurd (by rw [HME.out.2, h]) hE0
        · rw [h3]
      · rcases parse_errs rw_ with ⟨m, h⟩ | ⟨E, h1, h2, h3⟩
        · exact absurd (by rw [HME.out.2, h]) hE0
        · rw [h3]
    have hM20 : M2 = 0 := by rw [HME.out.1, hM0]
    subst hM20
    rw [hc] at HC2
    have HSH : Hid (nw < 8 → E2 = 91) := fun h => by rw [HME.out.2]; exact hsh (by rw [← HNW.out]; exact h)
    clear hc hM0 hsh
    go_wp2_with fail
    refine (sameR_any _ k2 i2 op2 np2 cp2 ok2 nk2 ck2 c0 HC2.out 0 0 none 0 0 none 0 0 c0 (isC0 _)).mono ?_
    rintro e w12 ⟨⟨B1, rfl, hB1⟩, hk12⟩
    obtain rfl : B1 = true := hB1.out.2 rfl
    by_cases h8 : nw < 8
    · have h8' : ¬ (nw : Int) ≥ 8 := by omega
      have he := HSH.out h8
      subst he
      clear h8
      go_wp2_with fail
      go_ret
      exact ⟨rfl, HK11.out.trans hk12⟩
    · have h8' : (nw : Int) ≥ 8 := by omega
      go_wp2_with fail
      go_ret
      exact ⟨rfl, HK11.out.trans hk12⟩
end Go.Proofs.YtdalheeifgampaaDoor
