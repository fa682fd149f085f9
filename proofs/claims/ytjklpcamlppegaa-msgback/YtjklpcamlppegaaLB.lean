/- MsgBack: its walk. -/
import Derived.Test.YtjklpcamlppegaaS3
import Derived.Deep.DeepAppendWide
namespace Go.Proofs.Ytjklpcamlppegaa
open Go.RowKit Go.Sort Orl Pk
set_option linter.unusedVariables false
set_option linter.unusedSimpArgs false

/-- append of bytes, past what growing by doubling would take -/
theorem wpList_appW {w : World} {ops : Array Oper} {rest : List Oper} {o : Oper} {a : Act} {Q : Exit → Act → World → Prop} (hgd : o.guard = none) (s x : Operand)
    (ho : o.op = .call { callee := .builtin .append, args := #[s, x], argTypes := #[30, 30] })
    (oa : Option Addr) (n c : Nat) (bs : List Nat) (hs : a.eval s = .slice oa n c) (hn : n = bs.length) (hown : Owns w oa c bs)
    (ad : Addr) (m d : Nat) (news : List Nat) (hx : a.eval x = .slice (some ad) m d) (hm : m = news.length) (hrow : BRow w (some ad) news)
    (hb : n + m ≤ 200000000000000)
    (h : ∀ o' c' w', Owns w' o' c' (bs ++ news) → Keeps (inO oa) w w' → wpList Try.prog ops Q rest (a.put o.dst (.slice o' (n + m) c')) w') : wpList Try.prog ops Q (o :: rest) a w := by
  obtain ⟨i0, hi, hz0, hz1, hz2⟩ := info_parts info5
  subst hn hm
  obtain ⟨v', w', hr, hown', hg, _⟩ := run_append_own_wide (P := Try.prog) w 0 30 o.type 5 i0 (.int .u8 0) 1 1 Try.underlying30 hi hz0 hz1 hz2 rfl (by decide) _ bs.length (vals bs) hown ad news.length d (vals news) (by simp [vals]) hrow.news vals_one (by unfold maxLen; omega) (by omega) (Nat.zero_le _)
  rw [← vals_append] at hown'
  obtain ⟨o', c', rfl, hlen, hown''⟩ := owns_val hown'
  refine wpList_plain hgd fun K hK => ?_
  unfold Oper.wp execOp
  simp only [ho, resolve, invoke, builtin, Sem.run_bind, Sem.run_pure, Result.andThen_ok, List.map_toArray, List.map_cons, List.map_nil, hs, hx, hr]
  exact hK _ _ (h o' c' w' hown'' ((Keeps.refl _ _).grown hg (fun k hk => .inl ((own_blk _ _ _ _).1 hk))))
theorem owns_one (w : World) (v : Nat) : Owns (w.alloc (.cells #[.int .u8 (v : Nat)] 5)) (some ⟨w.heap.size, 0, none⟩) 1 [v] :=
  ⟨by simp [vals], .inr ⟨w.heap.size, 1, #[.int .u8 (v : Nat)], rfl, Nat.zero_le _, blk_new w _, Nat.le_refl _, by unfold maxLen; omega, by simp, by simp [vals]⟩⟩
theorem enc_byt (m : Msg) : ∀ c ∈ enc m, c < 256 := app_lt (num_lt _ _) (body_byt m)

structure AtB (w : World) (A : Nat) (cs : Array Value) (wr : World) : Prop where
  kp : Keeps no w wr
  blk : wr.heap[A]? = some (.cells cs 29 (0, 0))
theorem AtB.keepsN {w : World} {A : Nat} {cs : Array Value} {wr w' : World} (h : AtB w A cs wr) (k : Keeps no wr w') : AtB w A cs w' := ⟨h.kp.trans k, k.at h.blk (fun h => h)⟩

set_option maxRecDepth 20000 in
set_option maxHeartbeats 4000000 in
theorem msgBack_any (w : World) (k cl : Int) (q i : Nat) (op : Option Addr) (np cp : Nat) (ok : Option Addr) (nk ck : Nat) (ow : Option Addr) (nw cw : Nat) (ov : Option Addr) (nv cv : Nat) (rs : List RV) (m : Msg)
    (h : IsM w k cl q i op np cp ok nk ck ow nw cw ov nv cv rs m) (cut : Int) (hc1 : -9223372036854775808 ≤ cut) (hc2 : cut ≤ 9223372036854775807)
    (ob : Option Addr) (nb cb : Nat) (bh : List Nat) (hnb : nb = bh.length) (hlid : bh.length ≤ 140737488351232) (hsb : BSl w ob cb bh) :
    Calls Try.prog 3 #[.agg #[.int .i64 k, .int .i64 cl, .int .u64 (q : Nat), .int .u64 (i : Nat), .slice op np cp, .slice ok nk ck, .slice ow nw cw, .slice ov nv cv], .int .i64 cut, .slice ob nb cb] w
      fun e w' => e = .returned (.bool true) ∧ Keeps no w w' := by
  have H : Hid (IsM w k cl q i op np cp ok nk ck ow nw cw ov nv cv rs m) := h
  have HNB : Hid (nb = bh.length) := hnb
  have hnbl : nb ≤ 140737488351232 := by omega
  have HSB : Hid (BSl w ob cb bh) := hsb
  have hk0 : Keeps no w (w.alloc (.cells #[.int .i64 k, .int .i64 cl, .int .u64 (q : Nat), .int .u64 (i : Nat), .slice op np cp, .slice ok nk ck, .slice ow nw cw, .slice ov nv cv] 29)) := (Keeps.refl _ _).alloc _
  have hB0 := blk_new w (.cells #[.int .i64 k, .int .i64 cl, .int .u64 (q : Nat), .int .u64 (i : Nat), .slice op np cp, .slice ok nk ck, .slice ow nw cw, .slice ov nv cv] 29)
  clear h hnb hsb hlid
  go_enter Try.func3, Try.ntmps3
  go_wp2_with fail
  refine (known_any _).mono ?_
  rintro e w1 ⟨rfl, hk1⟩
  obtain ⟨A, hA⟩ : ∃ A, A = w.heap.size := ⟨_, rfl⟩
  have hB1 := hk1.at hB0 (fun h => h)
  rw [← hA] at hB1 ⊢
  have H1 : Hid (AtB w A #[.int .i64 k, .int .i64 cl, .int .u64 (q : Nat), .int .u64 (i : Nat), .slice op np cp, .slice ok nk ck, .slice ow nw cw, .slice ov nv cv] w1) := ⟨hk0.trans hk1, hB1⟩
  clear hA hB0 hB1 hk0 hk1
  obtain ⟨x0, x1, x2, x3, x4, x5, x6, x7⟩ := cells8 H1.out.blk
  go_wp2_with fail
  obtain ⟨S, E, hSE⟩ : ∃ (S : Nat) (E : Nat), sizE m = .tuple #[.int .i64 (S : Nat), .int .i64 (E : Nat)] := by
    unfold sizE
    split
    · exact ⟨_, 0, rfl⟩
    · exact ⟨0, 1, rfl⟩
  have HSE : Hid (sizE m = .tuple #[.int .i64 (S : Nat), .int .i64 (E : Nat)]) := hSE
  have hsz := Size_any w1 k cl q i op np cp ok nk ck ow nw cw ov nv cv rs m (H.out.keepsN H1.out.kp)
  rw [hSE] at hsz
  clear hSE
  refine hsz.mono ?_
  rintro e w2 ⟨rfl, hk2⟩
  have H2 : Hid (AtB w A #[.int .i64 k, .int .i64 cl, .int .u64 (q : Nat), .int .u64 (i : Nat), .slice op np cp, .slice ok nk ck, .slice ow nw cw, .slice ov nv cv] w2) := H1.out.keepsN hk2
  clear x0 x1 x2 x3 x4 x5 x6 x7 hsz hk2 H1
  obtain ⟨x0, x1, x2, x3, x4, x5, x6, x7⟩ := cells8 H2.out.blk
  go_wp2_with fail
  obtain ⟨F, hF⟩ : ∃ F, F = encE m := ⟨_, rfl⟩
  obtain ⟨bs, hbs⟩ : ∃ b, b = encB m := ⟨_, rfl⟩
  have HEB : Hid (F = encE m ∧ bs = encB m) := ⟨hF, hbs⟩
  have hen := Encode_any w2 k cl q i op np cp ok nk ck ow nw cw ov nv cv rs m (H.out.keepsN H2.out.kp)
  rw [← hF, ← hbs] at hen
  clear hF hbs
  refine hen.mono ?_
  rintro e w3 ⟨o3, n3, c3, rfl, hn3, hown3, hnew3, hk3⟩
  have H3 : Hid (AtB w A #[.int .i64 k, .int .i64 cl, .int .u64 (q : Nat), .int .u64 (i : Nat), .slice op np cp, .slice ok nk ck, .slice ow nw cw, .slice ov nv cv] w3) := H2.out.keepsN hk3
  clear x0 x1 x2 x3 x4 x5 x6 x7 hen hk3 H2
  obtain ⟨x0, x1, x2, x3, x4, x5, x6, x7⟩ := cells8 H3.out.blk
  have HMY : Hid (∀ w', Keeps no w w' → Calls Try.prog 9 #[.agg #[.int .i64 k, .int .i64 cl, .int .u64 (q : Nat), .int .u64 (i : Nat), .slice op np cp, .slice ok nk ck, .slice ow nw cw, .slice ov nv cv]] w' fun e w'' => e = .returned (.bool (may m)) ∧ Keeps no w' w'') := fun w' hk => May_any w' k cl q i op np cp ok nk ck ow nw cw ov nv cv rs m (H.out.keepsN hk)
  by_cases hm : may m = true
  · have hS0 : sizE m = .tuple #[.int .i64 (((body m).length : Nat) : Int), .int .i64 0] := by unfold sizE; rw [if_pos hm]
    have hS1 := HSE.out.symm.trans hS0
    injection hS1 with hS1
    have hS2 : S = (body m).length := by simp at hS1; omega
    have hE0 : E = 0 := by simp at hS1; omega
    subst hE0
    rw [show ((0 : Nat) : Int) = (0 : Int) from rfl]
    rw [hm] at HMY
    clear hS0 hS1 HSE
    by_cases hlg : 1048576 < S
    · have h3 := encE_long hm (by omega)
      rw [← HEB.out.1, ← HEB.out.2] at h3
      obtain ⟨rfl, e2⟩ := h3
      have hn0 : n3 = 0 := by rw [hn3.out, e2]; rfl
      subst hn0
      have hlI : (1048576 : Int) < S := by omega
      rw [show ((3 : Nat) : Int) = (3 : Int) from rfl]
      clear hS2
      go_wp2_with (go_at_call 9; refine (HMY.out _ H3.out.kp).mono ?_; rintro e w4 ⟨rfl, hk4⟩)
      go_ret
      exact ⟨rfl, H3.out.kp.trans hk4⟩
    · have h3 := encE_ok hm (by omega)
      rw [← HEB.out.1, ← HEB.out.2] at h3
      obtain ⟨rfl, e2⟩ := h3
      have hlI : ¬ (1048576 : Int) < S := by omega
      rw [show ((0 : Nat) : Int) = (0 : Int) from rfl]
      have hbody : (body m).length ≤ 1048576 := by omega
      have HB2 : Hid (bs = enc m) := e2
      have hn4 : n3 = S + 4 := by rw [hn3.out, e2, enc_length, hS2]
      have HBY : Hid (∀ c ∈ bs, c < 256) := by rw [e2]; exact enc_byt m
      have HLN : Hid (n3 = bs.length) := hn3.out
      have HBD : Hid ((body m).length ≤ 1048576 ∧ may m = true) := ⟨hbody, hm⟩
      have HO3 : Hid (Owns w3 o3 c3 bs) := hown3
      have hbl : bs.length ≤ 1048580 := by rw [← hn3.out]; omega
      have HSL : Hid (BSl w3 o3 c3 bs) := hown3.sl' HBY.out (by omega)
      have hn3b : n3 ≤ 1048580 := by omega
      have hn3c : 4 ≤ n3 := by omega
      have HN4 : Hid (n3 = S + 4) := hn4
      clear e2 hn3 hown3 hm hbody hS2 hn4
      go_wp2_with fail
      refine (Decode_any w3 o3 n3 c3 bs HLN.out (by omega) HSL.out).mono ?_
      rw [show dec bs = (m, 0) by rw [HB2.out]; exact dec_enc m HBD.out.2 H.out.rng HBD.out.1]
      rintro e w4 ⟨k4, cl4, q4, i4, op4, np4, cp4, ok4, nk4, ck4, ow4, nw4, cw4, ov4, nv4, cv4, rs4, rfl, HM4, hF4, hk4⟩
      have H4 : Hid (AtB w A #[.int .i64 k, .int .i64 cl, .int .u64 (q : Nat), .int .u64 (i : Nat), .slice op np cp, .slice ok nk ck, .slice ow nw cw, .slice ov nv cv] (w4.alloc (.cells #[.int .i64 k4, .int .i64 cl4, .int .u64 (q4 : Nat), .int .u64 (i4 : Nat), .slice op4 np4 cp4, .slice ok4 nk4 ck4, .slice ow4 nw4 cw4, .slice ov4 nv4 cv4] 29))) := (H3.out.keepsN hk4).keepsN ((Keeps.refl no _).alloc _)
      have k34 : Keeps no w3 (w4.alloc (.cells #[.int .i64 k4, .int .i64 cl4, .int .u64 (q4 : Nat), .int .u64 (i4 : Nat), .slice op4 np4 cp4, .slice ok4 nk4 ck4, .slice ow4 nw4 cw4, .slice ov4 nv4 cv4] 29)) := hk4.alloc _
      have K34 : Hid (Keeps no w3 _) := k34
      have HM5 : Hid (IsM (w4.alloc (.cells #[.int .i64 k4, .int .i64 cl4, .int .u64 (q4 : Nat), .int .u64 (i4 : Nat), .slice op4 np4 cp4, .slice ok4 nk4 ck4, .slice ow4 nw4 cw4, .slice ov4 nv4 cv4] 29)) k4 cl4 q4 i4 op4 np4 cp4 ok4 nk4 ck4 ow4 nw4 cw4 ov4 nv4 cv4 rs4 m) := HM4.out.keepsN ((Keeps.refl no _).alloc _)
      clear x0 x1 x2 x3 x4 x5 x6 x7 hF4 hk4 HM4 k34
      obtain ⟨x0, x1, x2, x3, x4, x5, x6, x7⟩ := cells8 H4.out.blk
      rw [show ((0 : Nat) : Int) = (0 : Int) from rfl]
      go_wp2_with fail
      refine (Same_any _ k4 cl4 q4 i4 op4 np4 cp4 ok4 nk4 ck4 ow4 nw4 cw4 ov4 nv4 cv4 rs4 m HM5.out k cl q i op np cp ok nk ck ow nw cw ov nv cv rs m (H.out.keepsN H4.out.kp)).mono ?_
      rintro e w5 ⟨⟨B5, rfl, hB5⟩, hk5⟩
      obtain rfl : B5 = true := hB5.out.2 rfl
      have H5 : Hid (AtB w A #[.int .i64 k, .int .i64 cl, .int .u64 (q : Nat), .int .u64 (i : Nat), .slice op np cp, .slice ok nk ck, .slice ow nw cw, .slice ov nv cv] w5) := H4.out.keepsN hk5
      have K35 : Hid (Keeps no w3 w5) := K34.out.trans hk5
      clear x0 x1 x2 x3 x4 x5 x6 x7 hk5 H4 K34 HM5 hB5
      obtain ⟨x0, x1, x2, x3, x4, x5, x6, x7⟩ := cells8 H5.out.blk
      have hn4I : (n3 : Int) = (S : Int) + 4 := by have := HN4.out; omega
      go_wp2_with fail
      refine (HMY.out _ H5.out.kp).mono ?_
      rintro e w6 ⟨rfl, hk6⟩
      have K6 : Hid (Keeps no w w6) := H5.out.kp.trans hk6
      have K36 : Hid (Keeps no w3 w6) := K35.out.trans hk6
      clear x0 x1 x2 x3 x4 x5 x6 x7 hk6 H5 K35 hn4I
      have hb1 : -(n3 : Int) < cut.tmod n3 ∧ cut.tmod n3 < n3 := ⟨Int.lt_tmod_of_pos cut (by omega), Int.tmod_lt_of_pos cut (by omega)⟩
      obtain ⟨T, hT⟩ : ∃ T, cut.tmod (n3 : Int) = T := ⟨_, rfl⟩
      rw [hT] at hb1
      have hb2 : -(n3 : Int) < T := hb1.1
      have hb3 : T < (n3 : Int) := hb1.2
      have hn0 : ¬ (n3 : Int) = 0 := by omega
      clear hb1
      go_upto_if 99 with fail
      go_cut [13] from 18 to 136 (fun s wc => ∃ K : Nat, s = .int .i64 K ∧ K < n3 ∧ wc = w6)
      case first =>
        by_cases hTn : T < 0
        · obtain ⟨K, hK⟩ : ∃ K : Nat, T + (n3 : Int) = (K : Int) := ⟨(T + n3).toNat, by omega⟩
          go_wp2_with fail
          go_meet
          case rel => exact ⟨K, rfl, by omega, rfl⟩
        · obtain ⟨K, rfl⟩ : ∃ K : Nat, T = (K : Int) := ⟨T.toNat, by omega⟩
          go_wp2_with fail
          go_meet
          case rel => exact ⟨K, rfl, by omega, rfl⟩
      case rest =>
      obtain ⟨K, rfl, hK, hwc⟩ := hcut
      subst wc
      obtain ⟨A7, d7, hcut7, hsl7, _⟩ := cut_h w6 o3 c3 bs n3 K (K : Int) rfl HLN.out (by omega) (HSL.out.keeps K36.out (fun _ _ h => h))
      have HS7 : Hid (BSl w6 A7 d7 (bs.take K)) := hsl7
      have HK7 : Hid (K = (bs.take K).length) := by show _ = _; rw [List.length_take, ← HLN.out]; omega
      clear hsl7 hT hb2 hb3 hn0
      go_wp2_with fail
      refine (Decode_any w6 A7 K d7 (bs.take K) HK7.out (by rw [← HK7.out]; omega) HS7.out).mono ?_
      rw [show dec (bs.take K) = (m0, 4) by rw [HB2.out]; exact dec_cut m HBD.out.1 K (by rw [← HB2.out, ← HLN.out]; exact hK)]
      rintro e w7 ⟨k7, cl7, q7, i7, op7, np7, cp7, ok7, nk7, ck7, ow7, nw7, cw7, ov7, nv7, cv7, rs7, rfl, HM7, hF7, hk7⟩
      have K07 : Hid (Keeps no w (w7.alloc (.cells #[.int .i64 k7, .int .i64 cl7, .int .u64 (q7 : Nat), .int .u64 (i7 : Nat), .slice op7 np7 cp7, .slice ok7 nk7 ck7, .slice ow7 nw7 cw7, .slice ov7 nv7 cv7] 29))) := (K6.out.trans hk7).alloc _
      have K37 : Hid (Keeps no w3 (w7.alloc (.cells #[.int .i64 k7, .int .i64 cl7, .int .u64 (q7 : Nat), .int .u64 (i7 : Nat), .slice op7 np7 cp7, .slice ok7 nk7 ck7, .slice ow7 nw7 cw7, .slice ov7 nv7 cv7] 29))) := (K36.out.trans hk7).alloc _
      have HM8 : Hid (IsM (w7.alloc (.cells #[.int .i64 k7, .int .i64 cl7, .int .u64 (q7 : Nat), .int .u64 (i7 : Nat), .slice op7 np7 cp7, .slice ok7 nk7 ck7, .slice ow7 nw7 cw7, .slice ov7 nv7 cv7] 29)) k7 cl7 q7 i7 op7 np7 cp7 ok7 nk7 ck7 ow7 nw7 cw7 ov7 nv7 cv7 rs7 m0) := HM7.out.keepsN ((Keeps.refl no _).alloc _)
      have hX8 := blk_new w7 (.cells #[.int .i64 k7, .int .i64 cl7, .int .u64 (q7 : Nat), .int .u64 (i7 : Nat), .slice op7 np7 cp7, .slice ok7 nk7 ck7, .slice ow7 nw7 cw7, .slice ov7 nv7 cv7] 29)
      obtain ⟨X, hX⟩ : ∃ X, X = w7.heap.size := ⟨_, rfl⟩
      rw [← hX] at hX8
      have HX8 : Hid (_ = _) := hX8
      rw [show ((4 : Nat) : Int) = (4 : Int) from rfl]
      clear hF7 hk7 HM7 hX8 hcut7 HS7 HK7
      go_upto_region 16 with fail
      rw [← hX]
      clear hX
      generalize w7.alloc (.cells #[.int .i64 k7, .int .i64 cl7, .int .u64 (q7 : Nat), .int .u64 (i7 : Nat), .slice op7 np7 cp7, .slice ok7 nk7 ck7, .slice ow7 nw7 cw7, .slice ov7 nv7 cv7] 29) = W8 at K07 K37 HM8 HX8 ⊢
      have HR8 : Hid (BRow W8 o3 bs ∧ (o3 = none → c3 = 0)) := ⟨HSL.out.row.keeps K37.out (fun _ _ h => h), HSL.out.nil⟩
      have HBH : Hid (∀ c ∈ 1 :: bh, c < 256) := by
        intro c hc
        rcases List.mem_cons.1 hc with h | h
        · omega
        · exact HSB.out.row.1 c h
      go_wp2_with (first
        | (at_builtin; refine wpList_appB rfl _ _ rfl none 0 0 [] rfl rfl (owns_nil _) o3 n3 c3 bs rfl HLN.out HR8.out.2 HR8.out.1 (by omega) ?_; intro o9 c9 w9 hown9 hfr9 hk9; have HO9 : Hid (Owns w9 o9 c9 bs ∧ New W8 o9 ∧ Keeps no W8 w9) := ⟨by simpa using hown9, (by rcases hfr9 with e | ⟨g, e, hg⟩; (rw [e]; exact new_none _); (rw [e]; exact new_fresh W8 g hg 0)), hk9.mono (fun i ⟨x, e, _⟩ => by cases e)⟩; clear hown9 hfr9 hk9)
        | (at_builtin; refine wpList_appB rfl _ _ rfl (some ⟨w9.heap.size, 0, none⟩) 1 1 [1] rfl rfl (owns_one w9 1) ob nb cb bh rfl HNB.out HSB.out.nil (HSB.out.row.keeps ((K07.out.trans HO9.out.2.2).alloc _) (fun _ _ h => h)) (by omega) ?_; intro o10 c10 w10 hown10 hfr10 hk10; have HO10 : Hid (Owns w10 o10 c10 (1 :: bh) ∧ Keeps (eqA w9.heap.size) (w9.alloc (.cells #[.int .u8 1] 5)) w10 ∧ ∃ g, o10 = some ⟨g, 0, none⟩) := ⟨by simpa using hown10, hk10.mono (fun i ⟨x, e, hx⟩ => by cases e; exact hx.symm), (by rcases hown10.shape with ⟨_, _, e⟩ | ⟨g, _, e, _⟩; (cases e); exact ⟨g, e⟩)⟩; clear hown10 hfr10 hk10; obtain ⟨g10, eg10⟩ := HO10.out.2.2; subst eg10)
        | (at_builtin; refine wpList_appW rfl _ _ rfl o9 _ c9 bs rfl (by first | exact HLN.out | (have := HLN.out; omega)) ((HO9.out.1.keeps ((Keeps.refl no w9).alloc _) (fun _ _ h => h)).keeps HO10.out.2.1 (fun k hk e => by have := HO9.out.1.lt k hk; unfold eqA at e; omega)) ⟨g10, 0, none⟩ _ c10 (1 :: bh) rfl (by have := HNB.out; simp; omega) (HO10.out.1.row HBH.out (by have := HNB.out; simp; omega)) (by omega) ?_; intro o11 c11 w11 hown11 hk11; have HO11 : Hid (Owns w11 o11 c11 (bs ++ 1 :: bh) ∧ Keeps no W8 w11) := ⟨hown11, ((HO9.out.2.2.alloc _).then HO10.out.2.1 (fun k hk => .inr (by unfold eqA at hk; have := HO9.out.2.2.size; omega))).then hk11 (fun k hk => .inr (HO9.out.2.1 k hk))⟩; clear hown11 hk11))
      obtain ⟨LL, hLL⟩ : ∃ LL, LL = bs ++ 1 :: bh := ⟨_, rfl⟩
      have HLB : Hid (LL.length = n3 + (1 + nb) ∧ (∀ c ∈ LL, c < 256) ∧ dec LL = (m0, 5)) := by
        rw [hLL]
        refine ⟨by simp; have := HLN.out; have := HNB.out; omega, fun c hc => ?_, ?_⟩
        · rcases List.mem_append.1 hc with h | h
          · exact HBY.out c h
          · exact HBH.out c h
        · rw [HB2.out]; exact dec_trail m HBD.out.1 _ (by simp)
      rw [← hLL] at HO11
      clear hLL HO9 HO10
      refine (Decode_any w11 o11 _ c11 LL ?_ ?_ (HO11.out.1.sl' HLB.out.2.1 (by rw [HLB.out.1]; omega))).mono ?_
      · rw [HLB.out.1]
      · rw [HLB.out.1]; omega
      rw [HLB.out.2.2]
      rintro e w12 ⟨k8, cl8, q8, i8, op8, np8, cp8, ok8, nk8, ck8, ow8, nw8, cw8, ov8, nv8, cv8, rs8, rfl, HM12, hF12, hk12⟩
      have k12 : Keeps no W8 (w12.alloc (.cells #[.int .i64 k8, .int .i64 cl8, .int .u64 (q8 : Nat), .int .u64 (i8 : Nat), .slice op8 np8 cp8, .slice ok8 nk8 ck8, .slice ow8 nw8 cw8, .slice ov8 nv8 cv8] 29)) := (HO11.out.2.trans hk12).alloc _
      have HM13 : Hid (IsM (w12.alloc (.cells #[.int .i64 k8, .int .i64 cl8, .int .u64 (q8 : Nat), .int .u64 (i8 : Nat), .slice op8 np8 cp8, .slice ok8 nk8 ck8, .slice ow8 nw8 cw8, .slice ov8 nv8 cv8] 29)) k8 cl8 q8 i8 op8 np8 cp8 ok8 nk8 ck8 ow8 nw8 cw8 ov8 nv8 cv8 rs8 m0) := HM12.out.keepsN ((Keeps.refl no _).alloc _)
      have HM7' : Hid (IsM (w12.alloc (.cells #[.int .i64 k8, .int .i64 cl8, .int .u64 (q8 : Nat), .int .u64 (i8 : Nat), .slice op8 np8 cp8, .slice ok8 nk8 ck8, .slice ow8 nw8 cw8, .slice ov8 nv8 cv8] 29)) k7 cl7 q7 i7 op7 np7 cp7 ok7 nk7 ck7 ow7 nw7 cw7 ov7 nv7 cv7 rs7 m0) := HM8.out.keepsN k12
      have KF : Hid (Keeps no w (w12.alloc (.cells #[.int .i64 k8, .int .i64 cl8, .int .u64 (q8 : Nat), .int .u64 (i8 : Nat), .slice op8 np8 cp8, .slice ok8 nk8 ck8, .slice ow8 nw8 cw8, .slice ov8 nv8 cv8] 29))) := K07.out.trans k12
      obtain ⟨x0, x1, x2, x3, x4, x5, x6, x7⟩ := cells8 (k12.at HX8.out (fun h => h))
      have hY := blk_new w12 (.cells #[.int .i64 k8, .int .i64 cl8, .int .u64 (q8 : Nat), .int .u64 (i8 : Nat), .slice op8 np8 cp8, .slice ok8 nk8 ck8, .slice ow8 nw8 cw8, .slice ov8 nv8 cv8] 29)
      have HY : Hid (_ = _) := hY
      rw [show ((5 : Nat) : Int) = (5 : Int) from rfl]
      clear hF12 hk12 HM12 HM8 K07 K37 hY
      go_wp2_with fail
      refine (Same_any _ k7 cl7 q7 i7 op7 np7 cp7 ok7 nk7 ck7 ow7 nw7 cw7 ov7 nv7 cv7 rs7 m0 HM7'.out 0 0 0 0 none 0 0 none 0 0 none 0 0 none 0 0 [] m0 (isM0 _)).mono ?_
      rintro e w14 ⟨⟨B14, rfl, hB14⟩, hk14⟩
      obtain rfl : B14 = true := hB14.out.2 rfl
      clear x0 x1 x2 x3 x4 x5 x6 x7
      obtain ⟨x0, x1, x2, x3, x4, x5, x6, x7⟩ := cells8 (hk14.at HY.out (fun h => h))
      go_wp2_with fail
      refine (Same_any _ k8 cl8 q8 i8 op8 np8 cp8 ok8 nk8 ck8 ow8 nw8 cw8 ov8 nv8 cv8 rs8 m0 (HM13.out.keepsN hk14) 0 0 0 0 none 0 0 none 0 0 none 0 0 none 0 0 [] m0 (isM0 _)).mono ?_
      rintro e w15 ⟨⟨B15, rfl, hB15⟩, hk15⟩
      obtain rfl : B15 = true := hB15.out.2 rfl
      go_wp2_with fail
      go_ret
      exact ⟨rfl, (KF.out.trans hk14).trans hk15⟩
  · have hmf : may m = false := by simpa using hm
    have hS0 : sizE m = .tuple #[.int .i64 0, .int .i64 1] := by unfold sizE; rw [if_neg hm]
    have hS1 := HSE.out.symm.trans hS0
    injection hS1 with hS1
    have hS2 : S = 0 := by simp at hS1; omega
    have hE0 : E = 1 := by simp at hS1; omega
    subst hE0
    subst hS2
    have h3 := encE_bad hmf
    rw [← HEB.out.1, ← HEB.out.2] at h3
    obtain ⟨rfl, e2⟩ := h3
    have hn0 : n3 = 0 := by rw [hn3.out, e2]; rfl
    subst hn0
    rw [hmf] at HMY
    rw [show ((1 : Nat) : Int) = (1 : Int) from rfl, show ((0 : Nat) : Int) = (0 : Int) from rfl]
    clear hS0 hS1 HSE
    go_wp2_with (go_at_call 9; refine (HMY.out _ H3.out.kp).mono ?_; rintro e w4 ⟨rfl, hk4⟩)
    go_ret
    exact ⟨rfl, H3.out.kp.trans hk4⟩
end Go.Proofs.Ytjklpcamlppegaa
