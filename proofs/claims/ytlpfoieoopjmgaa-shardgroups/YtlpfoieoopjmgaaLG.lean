import Derived.Test.YtlpfoieoopjmgaaR2
import Derived.Test.YtlpfoieoopjmgaaK1
namespace Go.Proofs.Ytlpfoieoopjmgaa
open Go.RowKit
set_option linter.unusedVariables false
set_option linter.unusedSimpArgs false

variable {α : Type} {E : El α} {G G2 : El (GS α)} {key : α → Tx}
/-- the two sides of one part -/
theorem sides {w w2 w' : World} {P : Nat} {l : List α} {o o2 : Option Addr} {c c2 : Nat} {gs gs2 : List (GS α)} {wa wb : World} (h : Told E G key w P l o c gs wa) (h2 : RTold E G2 key w2 P l P o2 c2 gs2 wb) : gs.length = gs2.length ∧ ∀ j, (gs2.getD j gs0).n = (gs.getD j gs0).n ∧ (gs2.getD j gs0).xs = (gs.getD j gs0).xs := by
  have e := h.val.trans h2.val.symm
  have hl : gs.length = gs2.length := by have := congrArg List.length e; simpa using this
  refine ⟨hl, fun j => ?_⟩
  have ej := congrArg (fun m => m[j]?) e
  simp only [List.getElem?_map] at ej
  rw [List.getD_eq_getElem?_getD, List.getD_eq_getElem?_getD]
  by_cases hj : j < gs.length
  · rw [List.getElem?_eq_getElem hj, List.getElem?_eq_getElem (hl ▸ hj)] at ej ⊢
    simp only [Option.map_some, Option.some.injEq, Prod.mk.injEq] at ej
    exact ⟨ej.1.symm, ej.2.symm⟩
  · rw [List.getElem?_eq_none (by omega), List.getElem?_eq_none (by omega)]
    exact ⟨rfl, rfl⟩
/-- what one round of the comparing loop reads -/
theorem sides_at (hG : G.Ok) (hG2 : G2.Ok) (k1 : G.k = 2) (k2 : G2.k = 2) (e1 : G.enc = GS.enc) (e2 : G2.enc = GS.enc) {w w2 : World} {P : Nat} {l : List α} {o o2 : Option Addr} {c c2 : Nat} {gs gs2 : List (GS α)} {wz : World} (h : Told E G key w P l o c gs wz) (h2 : RTold E G2 key w2 P l P o2 c2 gs2 wz) (i : Nat) (hi : i < gs.length) :
    ∃ b off b2 off2 N M oa ca ob cb, ∃ xs : List α, o = some ⟨b, off, none⟩ ∧ o2 = some ⟨b2, off2, none⟩ ∧
      wz.cell? ⟨b, off + i * 2, none⟩ = some (.int .i64 (N : Nat)) ∧ wz.cell? ⟨b, off + i * 2 + 1, none⟩ = some (.slice oa M ca) ∧
      wz.cell? ⟨b2, off2 + i * 2, none⟩ = some (.int .i64 (N : Nat)) ∧ wz.cell? ⟨b2, off2 + i * 2 + 1, none⟩ = some (.slice ob M cb) ∧
      Hid (M = xs.length ∧ xs.length ≤ l.length ∧ Sl E wz oa ca xs ∧ Sl E wz ob cb xs) := by
  obtain ⟨hl, hv⟩ := sides (w' := wz) h h2
  obtain ⟨b, off, eo, d1, d2⟩ := h.own.sl.two hG k1 gs0 hi _ _ (by rw [e1]; rfl)
  obtain ⟨b2, off2, eo2, d3, d4⟩ := h2.own.sl.two hG2 k2 gs0 (j := i) (by omega) _ _ (by rw [e2]; rfl)
  have hx := (h.top i hi).2.1
  have hm := h2.each _ (mem_getD gs2 i gs0 (by omega))
  refine ⟨b, off, b2, off2, _, _, _, _, (gs2.getD i gs0).o, (gs2.getD i gs0).c, (gs.getD i gs0).xs, eo, eo2, d1, d2, ?_, ?_, rfl, ?_, (h.each i hi).sl, ?_⟩
  · rw [d3, (hv i).1]
  · rw [d4, (hv i).2]
  · rw [hx]; exact ownOf_length _ _ _ _
  · rw [(hv i).2] at hm; exact hm.sl

set_option maxHeartbeats 4000000 in
set_option maxRecDepth 10000 in
theorem shardGroups_any (w : World) (a : Option Addr) (n c : Nat) (xs : List Tx) (a2 : Option Addr) (n2 c2 : Nat) (ps : List Pr) (z : Int) (hn : n = xs.length) (hn2 : n2 = ps.length) (hfit : (xs.length : Int) * 16 ≤ 140737488351232) (hfit2 : (ps.length : Int) * 32 ≤ 140737488351232) (hsz : ∀ x ∈ xs, x.size ≤ maxLen) (hsz2 : ∀ x ∈ ps, x.1.size ≤ maxLen ∧ x.2.size ≤ maxLen) (hs : Sl TE w a c xs) (hs2 : Sl PE w a2 c2 ps) :
    Calls Try.prog 7 #[.slice a n c, .slice a2 n2 c2, .int .i64 z] w fun e w' => e = .returned (.bool true) ∧ Keeps no w w' := by
  have HF : Hid (n = xs.length ∧ (xs.length : Int) * 16 ≤ 140737488351232 ∧ (∀ x ∈ xs, x.size ≤ maxLen) ∧ Sl TE w a c xs) := ⟨hn, hfit, hsz, hs⟩
  have HF2 : Hid (n2 = ps.length ∧ (ps.length : Int) * 32 ≤ 140737488351232 ∧ (∀ x ∈ ps, x.1.size ≤ maxLen ∧ x.2.size ≤ maxLen) ∧ Sl PE w a2 c2 ps) := ⟨hn2, hfit2, hsz2, hs2⟩
  clear hn hfit hsz hs hn2 hfit2 hsz2 hs2
  by_cases h : 1 ≤ z ∧ z ≤ 64
  · obtain ⟨P, rfl⟩ : ∃ P : Nat, z = P := ⟨z.toNat, by omega⟩
    have h1 : 0 < P := by omega
    have h2 : P ≤ 64 := by omega
    clear h
    go_enter Try.func7, Try.ntmps7
    go_wp2_with fail
    refine (groupT_yes _ a n c xs P HF.out.1 HF.out.2.1 HF.out.2.2.1 HF.out.2.2.2 h1 h2).mono ?_
    rintro e w1 ⟨oa, ma, ca, ga, rfl, H1⟩
    go_wp2_with fail
    refine (refGroupT_yes _ a n c xs P HF.out.1 HF.out.2.1 HF.out.2.2.1 (HF.out.2.2.2.keepsN H1.out.2.kp) h1 h2).mono ?_
    rintro e w2 ⟨ob, mb, cb, gb, rfl, H2⟩
    go_wp2_with fail
    have HK2 : Hid (Keeps no w w2) := H1.out.2.kp.trans H2.out.2.kp
    refine (groupP_yes _ a2 n2 c2 ps P HF2.out.1 HF2.out.2.1 HF2.out.2.2.1 (HF2.out.2.2.2.keepsN HK2.out) h1 h2).mono ?_
    rintro e w3 ⟨ox, mx, cx, gx, rfl, H3⟩
    go_wp2_with fail
    have HK3 : Hid (Keeps no w w3) := HK2.out.trans H3.out.2.kp
    refine (refGroupP_yes _ a2 n2 c2 ps P HF2.out.1 HF2.out.2.1 HF2.out.2.2.1 (HF2.out.2.2.2.keepsN HK3.out) h1 h2).mono ?_
    rintro e w4 ⟨oy, my, cy, gy, rfl, H4⟩
    have hma : ma ≤ 64 := by have := H1.out.1; have := H1.out.2.len; omega
    have hmx : mx ≤ 64 := by have := H3.out.1; have := H3.out.2.len; omega
    have hmb : mb = ma := by rw [H1.out.1, H2.out.1, (sides (w' := w1) H1.out.2 H2.out.2).1]
    have hmy : my = mx := by rw [H3.out.1, H4.out.1, (sides (w' := w1) H3.out.2 H4.out.2).1]
    subst mb
    subst my
    go_wp2_with fail
    refine (known_any _).mono ?_
    rintro e w5 ⟨rfl, hk5⟩
    have HA : Hid (Told TE GE idT w P xs oa ca ga w5 ∧ RTold TE GR idT w1 P xs P ob cb gb w5 ∧ ma = ga.length) := ⟨H1.out.2.keepsN (H2.out.2.kp.trans (H3.out.2.kp.trans (H4.out.2.kp.trans hk5))), H2.out.2.keepsN (H3.out.2.kp.trans (H4.out.2.kp.trans hk5)), H1.out.1⟩
    have HX : Hid (Told PE HE fstP w2 P ps ox cx gx w5 ∧ RTold PE HR fstP w3 P ps P oy cy gy w5 ∧ mx = gx.length) := ⟨H3.out.2.keepsN (H4.out.2.kp.trans hk5), H4.out.2.keepsN hk5, H3.out.1⟩
    have HK : Hid (Keeps no w w5) := HK3.out.trans (H4.out.2.kp.trans hk5)
    clear H1 H2 H3 H4 hk5 HK2 HK3
    go_wp2_with fail
    go_loopw [15] (fun i wr => ∃ k : Nat, k ≤ ma ∧ i = .int .i64 k ∧ Hid (Keeps no w5 wr)) (fun i _ => ma - (intOf i).toNat)
    case atStart => exact ⟨0, by omega, rfl, Keeps.refl _ _⟩
    case round =>
      obtain ⟨k, hk, rfl, HK5⟩ := hrel
      by_cases hlt : k < ma
      · obtain ⟨b, off, b2, off2, N, M, o1, c1, o2, c2, ys, rfl, rfl, d1, d2, d3, d4, HM⟩ := sides_at okG okGR rfl rfl rfl rfl (HA.out.1.keepsN HK5.out) (HA.out.2.1.keepsN HK5.out) k (by rw [← HA.out.2.2]; exact hlt)
        have HQ : Hid (∀ q, Calls Try.prog 12 #[.slice o1 M c1, .slice o2 M c2] (wr.drewN q) fun e w' => e = .returned (.bool true) ∧ ∃ t, w' = (wr.drewN q).drewN t) := fun q => sameQ_yes _ _ _ _ _ _ _ ys HM.out.1 HM.out.1 (by have := HM.out.2.1; have := HF.out.2.1; omega) (HM.out.2.2.1.keepsN ((Keeps.refl _ _).drewN _)) (HM.out.2.2.2.keepsN ((Keeps.refl _ _).drewN _))
        clear HM
        go_wp2_with fail
        go_quiet ((go_at_call 12; exact Calls.quiet_of (HQ.out _)))
        go_wp2_with fail
        go_roundw
        case rel => exact ⟨k + 1, by omega, by go_num, HK5.out.drewN _⟩
        case measure => simp [intOf] <;> omega
      · go_wp2_with fail
        clear hlt hk
        go_loopw [16] (fun i wr => ∃ k : Nat, k ≤ mx ∧ i = .int .i64 k ∧ Hid (Keeps no w5 wr)) (fun i _ => mx - (intOf i).toNat)
        case atStart => exact ⟨0, by omega, rfl, HK5⟩
        case round =>
          obtain ⟨k, hk, rfl, HK5⟩ := hrel
          by_cases hlt : k < mx
          · obtain ⟨b, off, b2, off2, N, M, o1, c1, o2, c2, ys, rfl, rfl, d1, d2, d3, d4, HM⟩ := sides_at okH okHR rfl rfl rfl rfl (HX.out.1.keepsN HK5.out) (HX.out.2.1.keepsN HK5.out) k (by rw [← HX.out.2.2]; exact hlt)
            have HQ : Hid (∀ q, Calls Try.prog 15 #[.slice o1 M c1, .slice o2 M c2] (wr.drewN q) fun e w' => e = .returned (.bool true) ∧ ∃ t, w' = (wr.drewN q).drewN t) := fun q => samePQ_yes _ _ _ _ _ _ _ ys HM.out.1 HM.out.1 (by have := HM.out.2.1; have := HF2.out.2.1; omega) (HM.out.2.2.1.keepsN ((Keeps.refl _ _).drewN _)) (HM.out.2.2.2.keepsN ((Keeps.refl _ _).drewN _))
            clear HM
            go_wp2_with fail
            go_quiet ((go_at_call 15; exact Calls.quiet_of (HQ.out _)))
            go_wp2_with fail
            go_roundw
            case rel => exact ⟨k + 1, by omega, by go_num, HK5.out.drewN _⟩
            case measure => simp [intOf] <;> omega
          · go_wp2_with fail
            go_ret
            exact ⟨rfl, HK.out.trans HK5.out⟩
  · have H : Hid (¬ (1 ≤ z ∧ z ≤ 64)) := h
    clear h
    go_enter Try.func7, Try.ntmps7
    go_wp2_with fail
    refine (groupT_no _ a n c z H.out).mono ?_
    rintro e w' ⟨rfl, hw'⟩
    subst w'
    go_wp2_with fail
    refine (refGroupT_no _ a n c z H.out).mono ?_
    rintro e w' ⟨rfl, hw'⟩
    subst w'
    go_wp2_with fail
    refine (groupP_no _ a2 n2 c2 z H.out).mono ?_
    rintro e w' ⟨rfl, hw'⟩
    subst w'
    go_wp2_with fail
    refine (refGroupP_no _ a2 n2 c2 z H.out).mono ?_
    rintro e w' ⟨rfl, hw'⟩
    subst w'
    go_wp2_with fail
    refine (known_any _).mono ?_
    rintro e w' ⟨rfl, hk⟩
    go_wp2_with fail
    refine wp_loop_rounds 1 ?_
    rw [rounds_succ]
    go_wp2_with fail
    refine wp_loop_rounds 1 ?_
    rw [rounds_succ]
    go_wp2_with fail
    go_ret
    exact ⟨rfl, hk⟩
end Go.Proofs.Ytlpfoieoopjmgaa
