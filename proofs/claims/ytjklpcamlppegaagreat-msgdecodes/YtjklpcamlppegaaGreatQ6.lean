/- The program's Decode. -/
import Derived.Test.YtjklpcamlppegaaGreatQ5
namespace Go.Proofs.YtjklpcamlppegaaGreat
open Go.RowKit Go.Sort Orl Pk
set_option linter.unusedVariables false
set_option linter.unusedSimpArgs false

/-- what Decode tells -/
def DecTo (w : World) (D : Msg × Nat) (e : Ending) (w' : World) : Prop :=
  ∃ (k cl : Int) (q i : Nat) (op : Option Addr) (np cp : Nat) (ok : Option Addr) (nk ck : Nat) (ow : Option Addr) (nw cw : Nat) (ov : Option Addr) (nv cv : Nat) (rs : List RV),
    e = .returned (.tuple #[.agg #[.int .i64 k, .int .i64 cl, .int .u64 (q : Nat), .int .u64 (i : Nat), .slice op np cp, .slice ok nk ck, .slice ow nw cw, .slice ov nv cv], .int .i64 (D.2 : Nat)]) ∧
    Hid (IsM w' k cl q i op np cp ok nk ck ow nw cw ov nv cv rs D.1) ∧ Fresh8 w w' op ok nk ck ow ov nv rs D.1 ∧ Keeps no w w'
theorem isM0 (w : World) : IsM w 0 0 0 0 none 0 0 none 0 0 none 0 0 none 0 0 [] m0 :=
  ⟨rfl, rfl, rfl, rfl, rfl, rfl, rfl, rfl, own_nil_sl _, own_nil_sl _, own_nil_sl _, ⟨own_nil_sl _, rfl, fun j hj => by simp [m0] at hj⟩,
    ⟨by decide, by decide, by decide, by decide, by decide, by decide, fun p hp => by simp [m0] at hp, fun p hp => by simp [m0] at hp⟩,
    ⟨by simp [m0], fun p hp => by simp [m0] at hp, by simp [m0], fun p hp => by simp [m0] at hp, by simp [m0], fun p hp => by simp [m0] at hp, by simp [m0], fun p hp => by simp [m0] at hp⟩⟩
theorem fresh0 (w w' : World) : Fresh8 w w' none none 0 0 none none 0 [] m0 :=
  ⟨new_none _, new_none _, new_none _, new_none _, own_nil _, fun j hj => by simp at hj, .inl rfl, by simp⟩
theorem decTo_err {w w' : World} (E : Nat) (D : Msg × Nat) (hD : D = (m0, E)) (hk : Keeps no w w') :
    DecTo w D (.returned (.tuple #[.agg #[.int .i64 0, .int .i64 0, .int .u64 0, .int .u64 0, .slice none 0 0, .slice none 0 0, .slice none 0 0, .slice none 0 0], .int .i64 (E : Nat)])) w' := by
  subst hD
  exact ⟨0, 0, 0, 0, none, 0, 0, none, 0, 0, none, 0, 0, none, 0, 0, [], rfl, isM0 _, fresh0 _ _, hk⟩
theorem dec_short {b : List Nat} (h : b.length < 4) : dec b = (m0, 4) := by unfold dec; rw [if_pos h]
theorem dec_long {b : List Nat} (h : 4 ≤ b.length) (hv : 1048576 < Pk.val (b.take 4)) : dec b = (m0, 3) := by unfold dec; rw [if_neg (by omega), if_pos hv]
theorem dec_less {b : List Nat} (h : 4 ≤ b.length) (hv : Pk.val (b.take 4) ≤ 1048576) (hl : b.length - 4 < Pk.val (b.take 4)) : dec b = (m0, 4) := by unfold dec; rw [if_neg (by omega), if_neg (by omega), if_pos hl]
theorem dec_more {b : List Nat} (h : 4 ≤ b.length) (hv : Pk.val (b.take 4) ≤ 1048576) (hl : Pk.val (b.take 4) < b.length - 4) : dec b = (m0, 5) := by unfold dec; rw [if_neg (by omega), if_neg (by omega), if_neg (by omega), if_pos hl]
theorem dec_just {b : List Nat} (h : 4 ≤ b.length) (hv : Pk.val (b.take 4) ≤ 1048576) (hl : Pk.val (b.take 4) = b.length - 4) : dec b = if rok (b.drop 4) then ((rmsg (b.drop 4)).1, 0) else (m0, 2) := by unfold dec; rw [if_neg (by omega), if_neg (by omega), if_neg (by omega), if_neg (by omega)]

theorem bodyTo_two {w w' : World} {bs : List Nat} {e : Ending} (h : BodyTo w bs e w') : Keeps no w w' ∧ ((∃ E : Nat, (0 < E ∧ E ≤ 5) ∧ dec bs = (m0, E) ∧ e = .returned (.tuple #[.slice none 0 0, .int .i64 (E : Nat)])) ∨
    (dec bs = (if rok (bs.drop 4) then ((rmsg (bs.drop 4)).1, 0) else (m0, 2)) ∧ (bs.drop 4).length ≤ 1048576 ∧ ∃ A n d, e = .returned (.tuple #[.slice A n d, .int .i64 0]) ∧ Hid (n = (bs.drop 4).length) ∧ BSl w' A d (bs.drop 4))) := by
  obtain ⟨hk, h⟩ := h
  refine ⟨hk, ?_⟩
  rcases h with ⟨h1, rfl⟩ | ⟨h1, h2, rfl⟩ | ⟨h1, h2, h3, rfl⟩ | ⟨h1, h2, h3, rfl⟩ | ⟨h1, h2, h3, h4⟩
  · exact .inl ⟨4, by omega, dec_short h1, rfl⟩
  · exact .inl ⟨3, by omega, dec_long h1 h2, rfl⟩
  · exact .inl ⟨4, by omega, dec_less h1 h2 h3, rfl⟩
  · exact .inl ⟨5, by omega, dec_more h1 h2 h3, rfl⟩
  · exact .inr ⟨dec_just h1 h2 h3, by rw [List.length_drop]; omega, h4⟩

set_option maxRecDepth 10000 in
theorem Decode_any (w : World) (o : Option Addr) (n c : Nat) (bs : List Nat) (hn : n = bs.length) (hlid : bs.length ≤ 281474976710656) (hs : BSl w o c bs) :
    Calls Tryz.prog 11 #[.slice o n c] w (DecTo w (dec bs)) := by
  obtain ⟨D, hD⟩ : ∃ D, D = dec bs := ⟨_, rfl⟩
  rw [← hD]
  have HD : Hid (D = dec bs) := hD
  clear hD
  have HN : Hid (n = bs.length) := hn
  clear hn
  have k0 : Keeps no w (w.alloc (.cells #[.int .i64 0, .int .i64 0, .int .u64 0, .int .u64 0, .slice none 0 0, .slice none 0 0, .slice none 0 0, .slice none 0 0] 29)) := (Keeps.refl no w).alloc _
  obtain ⟨B, hB⟩ : ∃ B, B = w.heap.size := ⟨_, rfl⟩
  have HB : Hid (B = w.heap.size) := hB
  go_enter Tryz.func11, Tryz.ntmps11
  go_wp2_with fail
  refine (bodyOf_any _ o n c bs HN.out hlid (hs.keeps k0 (fun _ _ h => h))).mono ?_
  intro e w1 hto
  obtain ⟨hk1, ⟨E, hE, hDE, rfl⟩ | ⟨hDE, hlen, A, n1, d, rfl, hn1, hsl1⟩⟩ := bodyTo_two hto
  · have hb1 := hk1.at (blk_new w _) (fun h => h)
    have HK1 : Hid (Keeps no w w1) := k0.trans hk1
    rw [hDE] at HD
    have HB1 : Hid (w1.heap[w.heap.size]? = some (.cells #[.int .i64 0, .int .i64 0, .int .u64 0, .int .u64 0, .slice none 0 0, .slice none 0 0, .slice none 0 0, .slice none 0 0] 29 (0, 0))) := hb1
    have hE2 : ¬ ((E : Nat) : Int) = 0 := by omega
    rw [← hB] at hb1
    obtain ⟨x0, x1, x2, x3, x4, x5, x6, x7⟩ := cells8 hb1
    have f0 := frozen_of_blk hb1 0
    have f1 := frozen_of_blk hb1 1
    have f2 := frozen_of_blk hb1 2
    have f3 := frozen_of_blk hb1 3
    have f4 := frozen_of_blk hb1 4
    have f5 := frozen_of_blk hb1 5
    have f6 := frozen_of_blk hb1 6
    have f7 := frozen_of_blk hb1 7
    rw [← hB]
    clear hB hb1 hk1 hDE hto
    go_wp2_with fail
    (try simp only [Exit.inBlock, Exit.then])
    have hs8 := set8 HB1.out (.int .i64 0) (.int .i64 0) (.int .u64 0) (.int .u64 0) (.slice none 0 0) (.slice none 0 0) (.slice none 0 0) (.slice none 0 0)
    unfold set8w at hs8
    rw [HB.out]
    refine bodyPost_ret (results_row2 rfl _ _ w.heap.size _ rfl (loadM hs8.1)) rfl ?_
    exact decTo_err E D HD.out (HK1.out.then hs8.2 (fun i hi => .inr (by unfold eqA at hi; omega)))
  · rw [hDE] at HD
    obtain ⟨L, hL⟩ : ∃ L, L = bs.drop 4 := ⟨_, rfl⟩
    rw [← hL] at HD hn1 hsl1 hlen
    have HK1 : Hid (Keeps no (w.alloc (.cells #[.int .i64 0, .int .i64 0, .int .u64 0, .int .u64 0, .slice none 0 0, .slice none 0 0, .slice none 0 0, .slice none 0 0] 29)) w1) := hk1
    have HSL : Hid (BSl w1 A d L) := hsl1
    have hlen2 : L.length ≤ 140737488355328 := by omega
    clear hL hto hDE hk1 hsl1 hlen hB
    go_wp2_with fail
    refine (newReader_any w1 A n1 d L hn1.out HSL.out hlen2).mono ?_
    rintro e w2 ⟨a, o2, c2, rfl, hR2, hnew2, hk2⟩
    have hk2' : Keeps no w1 w2 := hk2
    go_wp2_with fail
    refine (read_any w2 a o2 c2 L hR2).mono ?_
    rintro e w3 ⟨k, cl, q, i, op, np, cp, ok, nk, ck, ow, nw, cw, ov, nv, cv, rs, rfl, HM, hF, hk3⟩
    have hk13 : Keeps no w1 w3 := hk2'.then hk3 (fun j hj => .inr (by unfold eqA at hj; subst hj; exact hnew2 _ (.inl rfl)))
    have hB3 := (HK1.out.trans hk13).at (blk_new w _) (fun h => h)
    have hk03 := (k0.trans HK1.out).trans hk13
    have hsz : w.heap.size + 1 ≤ w1.heap.size := by have := HK1.out.size; simpa using this
    have hszz := hk2'.size
    obtain ⟨X, hX⟩ : ∃ X, X = rend0 (rmsg L).2 := ⟨_, rfl⟩
    rw [← hX]
    have HX : Hid (X = rend0 (rmsg L).2) := hX
    have HB3 : Hid (w3.heap[w.heap.size]? = some (.cells #[.int .i64 0, .int .i64 0, .int .u64 0, .int .u64 0, .slice none 0 0, .slice none 0 0, .slice none 0 0, .slice none 0 0] 29 (0, 0))) := hB3
    clear hX hk2 hk2' hk3 hB3
    have k4 : Keeps no w3 (w3.alloc (.cells #[.int .i64 k, .int .i64 cl, .int .u64 (q : Nat), .int .u64 (i : Nat), .slice op np cp, .slice ok nk ck, .slice ow nw cw, .slice ov nv cv] 29)) := (Keeps.refl no _).alloc _
    cases X with
    | false =>
      have HD2 : Hid (D = (m0, 2)) := by
        show _ = _
        rw [HD.out, if_neg]
        unfold rok; rw [← HX.out]; simp
      have hb4 := blk_alloc HB3.out (.cells #[.int .i64 k, .int .i64 cl, .int .u64 (q : Nat), .int .u64 (i : Nat), .slice op np cp, .slice ok nk ck, .slice ow nw cw, .slice ov nv cv] 29)
      have HB4 : Hid (_ = _) := hb4
      rw [← HB.out] at hb4
      obtain ⟨x0, x1, x2, x3, x4, x5, x6, x7⟩ := cells8 hb4
      have f0 := frozen_of_blk hb4 0
      have f1 := frozen_of_blk hb4 1
      have f2 := frozen_of_blk hb4 2
      have f3 := frozen_of_blk hb4 3
      have f4 := frozen_of_blk hb4 4
      have f5 := frozen_of_blk hb4 5
      have f6 := frozen_of_blk hb4 6
      have f7 := frozen_of_blk hb4 7
      rw [← HB.out]
      clear hb4
      go_wp2_with fail
      (try simp only [Exit.inBlock, Exit.then])
      have hs8 := set8 HB4.out (.int .i64 0) (.int .i64 0) (.int .u64 0) (.int .u64 0) (.slice none 0 0) (.slice none 0 0) (.slice none 0 0) (.slice none 0 0)
      unfold set8w at hs8
      rw [HB.out]
      refine bodyPost_ret (results_row2 rfl _ _ w.heap.size _ rfl (loadM hs8.1)) rfl ?_
      exact decTo_err 2 D HD2.out ((hk03.trans k4).then hs8.2 (fun i hi => .inr (by unfold eqA at hi; omega)))
    | true =>
      go_wp2_with fail
      refine (May_any _ k cl q i op np cp ok nk ck ow nw cw ov nv cv rs (rmsg L).1 (HM.out.keepsN k4)).mono ?_
      rintro e w5 ⟨rfl, hk5⟩
      have hb5 := hk5.at (blk_alloc HB3.out _) (fun h => h)
      have hm5 := hk5.at (blk_new w3 _) (fun h => h)
      have HB5 : Hid (w5.heap[w.heap.size]? = some (.cells #[.int .i64 0, .int .i64 0, .int .u64 0, .int .u64 0, .slice none 0 0, .slice none 0 0, .slice none 0 0, .slice none 0 0] 29 (0, 0))) := hb5
      have hk05 := (hk03.trans k4).trans hk5
      rw [← HB.out] at hb5 ⊢
      obtain ⟨x0, x1, x2, x3, x4, x5, x6, x7⟩ := cells8 hb5
      obtain ⟨y0, y1, y2, y3, y4, y5, y6, y7⟩ := cells8 hm5
      have f0 := frozen_of_blk hb5 0
      have f1 := frozen_of_blk hb5 1
      have f2 := frozen_of_blk hb5 2
      have f3 := frozen_of_blk hb5 3
      have f4 := frozen_of_blk hb5 4
      have f5 := frozen_of_blk hb5 5
      have f6 := frozen_of_blk hb5 6
      have f7 := frozen_of_blk hb5 7
      clear hb5 hm5
      by_cases hm : may (rmsg L).1 = true
      · have HD2 : Hid (D = ((rmsg L).1, 0)) := by
          show _ = _
          rw [HD.out, if_pos]
          unfold rok; rw [← HX.out, hm]; rfl
        rw [hm]
        clear hm
        go_wp2_with fail
        (try simp only [Exit.inBlock, Exit.then])
        have hs8 := set8 HB5.out (.int .i64 k) (.int .i64 cl) (.int .u64 (q : Nat)) (.int .u64 (i : Nat)) (.slice op np cp) (.slice ok nk ck) (.slice ow nw cw) (.slice ov nv cv)
        unfold set8w at hs8
        rw [HB.out]
        refine bodyPost_ret (results_row2 rfl _ _ w.heap.size _ rfl (loadM hs8.1)) rfl ?_
        have ne : ∀ {o : Option Addr}, New w2 o → ∀ j, inO o j → ¬ eqA w.heap.size j := by
          intro o hn j hj e
          have := hn j hj
          unfold eqA at e
          omega
        have nw' : ∀ {o : Option Addr}, New w2 o → New w o := fun hn j hj => by have := hn j hj; omega
        have hF5 : ∀ {α : Type} {E : El α} {oo : Option Addr} {c : Nat} {l : List α}, Own E w3 oo c l → Own E w5 oo c l := fun h => (h.keepsN k4).keepsN hk5
        rw [HD2.out]
        refine ⟨k, cl, q, i, op, np, cp, ok, nk, ck, ow, nw, cw, ov, nv, cv, rs, rfl, ?_, ?_, hk05.then hs8.2 (fun i hi => .inr (by unfold eqA at hi; omega))⟩
        · exact ((HM.out.keepsN k4).keepsN hk5).keepsS hs8.2 (ne hF.np) (ne hF.nk) (ne hF.nw) (ne hF.nv) (fun j hj => ne (hF.vs j hj).2)
        · exact ⟨nw' hF.np, nw' hF.nk, nw' hF.nw, nw' hF.nv, (hF5 hF.ks).keeps hs8.2 (ne hF.nk), fun j hj => ⟨(hF5 (hF.vs j hj).1).keeps hs8.2 (ne (hF.vs j hj).2), nw' (hF.vs j hj).2⟩, hF.one, hF.few⟩
      · have hm' : may (rmsg L).1 = false := by simpa using hm
        have HD2 : Hid (D = (m0, 2)) := by
          show _ = _
          rw [HD.out, if_neg]
          unfold rok; rw [hm']; simp
        rw [hm']
        clear hm
        go_wp2_with fail
        (try simp only [Exit.inBlock, Exit.then])
        have hs8 := set8 HB5.out (.int .i64 0) (.int .i64 0) (.int .u64 0) (.int .u64 0) (.slice none 0 0) (.slice none 0 0) (.slice none 0 0) (.slice none 0 0)
        unfold set8w at hs8
        rw [HB.out]
        refine bodyPost_ret (results_row2 rfl _ _ w.heap.size _ rfl (loadM hs8.1)) rfl ?_
        exact decTo_err 2 D HD2.out (hk05.then hs8.2 (fun i hi => .inr (by unfold eqA at hi; omega)))
end Go.Proofs.YtjklpcamlppegaaGreat
