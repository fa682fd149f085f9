/- FixMends, FixAsks. -/
import Derived.Test.YtodblodbeobgeaaK1
namespace Go.Proofs.Ytodblodbeobgeaa
open Go.RowKit Go.Sort Orl
set_option linter.unusedVariables false
set_option linter.unusedSimpArgs false

theorem mapM_mem {α β : Type} (f : α → Option β) : ∀ (l : List α) {ys : List β}, l.mapM f = some ys → ∀ y ∈ ys, ∃ x ∈ l, f x = some y
  | [], ys, h, y, hy => by simp at h; subst h; cases hy
  | x :: r, ys, h, y, hy => by
    rw [List.mapM_cons] at h
    cases hx : f x with
    | none => rw [hx] at h; cases h
    | some z =>
      cases hr : r.mapM f with
      | none => rw [hx, hr] at h; cases h
      | some zs =>
        rw [hx, hr] at h
        simp at h
        subst h
        rcases List.mem_cons.1 hy with rfl | hy
        · exact ⟨x, by simp, hx⟩
        · obtain ⟨x', hx', e⟩ := mapM_mem f r hr y hy
          exact ⟨x', by simp [hx'], e⟩
theorem mend_fit {l got m : List Ver} (hl : FitL l) (hg : FitL got) (h : mendV l got = some m) : FitL m := by
  have hlen := mapM_length _ _ h
  refine ⟨by rw [hlen]; exact hl.len, fun v hv => ?_⟩
  obtain ⟨y, hy, e⟩ := mapM_mem _ _ h v hv
  unfold placeV at e
  split at e
  · exact hg.each v (List.mem_of_find?_eq_some e)
  · cases e; exact hl.each _ hy
set_option maxRecDepth 10000 in
theorem fixMends_any (w : World) (o : Option Addr) (n c : Nat) (rs : List RV) (vs : List Ver) (og : Option Addr) (ng cg : Nat) (rg : List RV) (gs : List Ver) (hn : n = vs.length) (hng : ng = gs.length) (hf : FitL vs) (hfg : FitL gs) (hv : Vers w o c rs vs) (hg : Vers w og cg rg gs) :
    Calls Try.prog 8 #[.slice o n c, .slice og ng cg] w fun e w' => e = .returned (.bool true) ∧ Keeps no w w' := by
  have HP : Hid (Calls Try.prog 14 #[.slice o n c, .slice og ng cg] w fun e w' => ∃ u, e = .returned u ∧ MendP w vs gs u w') := pMend_any w o n c rs vs og ng cg rg gs hn hng hf hfg hv hg
  have HD : Hid (∀ W, Keeps no w W → Calls Try.prog 24 #[.slice o n c, .slice og ng cg] W fun e w' => ∃ u, e = .returned u ∧ MendTo W vs gs u w') := fun W hW => dMend_any W o n c rs vs og ng cg rg gs hn hng hf hfg (hv.keepsN hW) (hg.keepsN hW)
  have HF : Hid (∀ m, mendV vs gs = some m → FitL m) := fun m h => mend_fit hf hfg h
  clear hn hng hf hfg hv hg
  go_enter Try.func8, Try.ntmps8
  go_wp2_with fail
  refine Calls.mono HP.out ?_
  rintro e w1 ⟨u, rfl, hu⟩
  clear HP
  rcases hu with ⟨hb, rfl, hk⟩ | ⟨hb, hm, rfl, hk⟩ | ⟨hb, m, o1, n1, c1, r1, hm, rfl, hn1, hv1⟩
  · have H1 : Hid (Keeps no w w1 ∧ formedB vs = false) := ⟨hk, hb⟩
    clear hk hb
    go_wp2_with fail
    refine Calls.mono (HD.out _ H1.out.1) ?_
    rintro e w2 ⟨u, rfl, hu⟩
    rcases hu with ⟨hb, rfl, hk⟩ | ⟨hb, _⟩ | ⟨hb, _⟩
    · have H2 : Hid (Keeps no w w2) := H1.out.1.trans hk
      clear hk hb
      go_wp2_with fail
      refine (known_any w2).mono ?_
      rintro e w3 ⟨rfl, hk3⟩
      have H3 : Hid (Keeps no w w3) := H2.out.trans hk3
      have HS : Hid (Calls Try.prog 22 #[.slice none 0 0, .slice none 0 0] w3 fun e w' => e = .returned (.bool true) ∧ Keeps no w3 w') := same_any w3 none 0 0 none 0 0 [] [] [] [] rfl rfl ⟨by simp, by simp⟩ ⟨by simp, by simp⟩ (vers_nil _) (vers_nil _)
      clear hk3
      go_wp2_with fail
      refine Calls.mono HS.out ?_
      rintro e w4 ⟨rfl, hk4⟩
      go_wp2_with fail
      go_ret
      exact ⟨rfl, H3.out.trans hk4⟩
    · rw [H1.out.2] at hb; cases hb
    · rw [H1.out.2] at hb; cases hb
  · have H1 : Hid (Keeps no w w1 ∧ formedB vs = true ∧ mendV vs gs = none) := ⟨hk, hb, hm⟩
    clear hk hb hm
    go_wp2_with fail
    refine Calls.mono (HD.out _ H1.out.1) ?_
    rintro e w2 ⟨u, rfl, hu⟩
    rcases hu with ⟨hb, _⟩ | ⟨hb, hm, rfl, hk⟩ | ⟨hb, m, o2, n2, c2, r2, hm, rfl, hn2, hv2⟩
    · rw [H1.out.2.1] at hb; cases hb
    · have H2 : Hid (Keeps no w w2) := H1.out.1.trans hk
      clear hk hb hm
      go_wp2_with fail
      refine (known_any w2).mono ?_
      rintro e w3 ⟨rfl, hk3⟩
      have H3 : Hid (Keeps no w w3) := H2.out.trans hk3
      have HS : Hid (Calls Try.prog 22 #[.slice none 0 0, .slice none 0 0] w3 fun e w' => e = .returned (.bool true) ∧ Keeps no w3 w') := same_any w3 none 0 0 none 0 0 [] [] [] [] rfl rfl ⟨by simp, by simp⟩ ⟨by simp, by simp⟩ (vers_nil _) (vers_nil _)
      clear hk3
      go_wp2_with fail
      refine Calls.mono HS.out ?_
      rintro e w4 ⟨rfl, hk4⟩
      go_wp2_with fail
      go_ret
      exact ⟨rfl, H3.out.trans hk4⟩
    · rw [H1.out.2.2] at hm; cases hm
  · have H1 : Hid (Keeps no w w1 ∧ formedB vs = true ∧ mendV vs gs = some m ∧ n1 = m.length ∧ Vers w1 o1 c1 r1 m) := ⟨hv1.kp, hb, hm, hn1, hv1.vers⟩
    clear hb hm hn1 hv1
    go_wp2_with fail
    refine Calls.mono (HD.out _ H1.out.1) ?_
    rintro e w2 ⟨u, rfl, hu⟩
    rcases hu with ⟨hb, _⟩ | ⟨hb, hm, _⟩ | ⟨hb, m2, o2, n2, c2, r2, hm, rfl, hn2, hv2⟩
    · rw [H1.out.2.1] at hb; cases hb
    · rw [H1.out.2.2.1] at hm; cases hm
    · obtain rfl : m = m2 := by rw [H1.out.2.2.1] at hm; cases hm; rfl
      have H2 : Hid (Keeps no w w2 ∧ Vers w2 o1 c1 r1 m ∧ n2 = m.length ∧ Vers w2 o2 c2 r2 m) := ⟨H1.out.1.trans hv2.kp, H1.out.2.2.2.2.keepsN hv2.kp, hn2, hv2.vers⟩
      clear hb hm hn2 hv2
      go_wp2_with fail
      refine (known_any w2).mono ?_
      rintro e w3 ⟨rfl, hk3⟩
      have H3 : Hid (Keeps no w w3) := H2.out.1.trans hk3
      have HS : Hid (Calls Try.prog 22 #[.slice o1 n1 c1, .slice o2 n2 c2] w3 fun e w' => e = .returned (.bool true) ∧ Keeps no w3 w') := by
        have hfm := HF.out m H1.out.2.2.1
        have h := same_any w3 o1 n1 c1 o2 n2 c2 r1 r2 m m H1.out.2.2.2.1 H2.out.2.2.1 hfm hfm (H2.out.2.1.keepsN hk3) (H2.out.2.2.2.keepsN hk3)
        rw [decide_eq_true rfl] at h
        exact h
      clear hk3
      go_wp2_with fail
      refine Calls.mono HS.out ?_
      rintro e w4 ⟨rfl, hk4⟩
      go_wp2_with fail
      go_ret
      exact ⟨rfl, H3.out.trans hk4⟩

set_option maxRecDepth 10000 in
set_option maxHeartbeats 1000000 in
theorem fixAsks_any (w : World) (o : Option Addr) (n c : Nat) (rs : List RV) (vs : List Ver) (hn : n = vs.length) (hf : FitL vs) (hv : Vers w o c rs vs) :
    Calls Try.prog 4 #[.slice o n c] w fun e w' => e = .returned (.bool true) ∧ Keeps no w w' := by
  have HP : Hid (Calls Try.prog 13 #[.slice o n c] w fun e w' => ∃ u, e = .returned u ∧ NeedTo w vs u w') := pNeeds_any w o n c rs vs hn hf hv
  have HD : Hid (∀ W, Keeps no w W → Calls Try.prog 16 #[.slice o n c] W fun e w' => ∃ u, e = .returned u ∧ NeedTo W vs u w') := fun W hW => dNeeds_any W o n c rs vs hn hf (hv.keepsN hW)
  have HA : Hid (∀ W, Keeps no w W → Calls Try.prog 11 #[.slice o n c] W fun e w' => e = .returned (.bool (formedB vs)) ∧ Keeps no W w') := fun W hW => pFormed_any W o n c rs vs hn hf (hv.keepsN hW)
  have HB : Hid (∀ W, Keeps no w W → Calls Try.prog 17 #[.slice o n c] W fun e w' => e = .returned (.bool (formedB vs)) ∧ Keeps no W w') := fun W hW => dFormed_any W o n c rs vs hn hf (hv.keepsN hW)
  have HC : Hid (∀ W, Keeps no w W → Calls Try.prog 15 #[.slice o n c] W fun e w' => e = .returned (.bool (wholeB vs && formedB vs)) ∧ Keeps no W w') := fun W hW => pCut_any W o n c rs vs hn hf (hv.keepsN hW)
  have HE : Hid (∀ W, Keeps no w W → Calls Try.prog 18 #[.slice o n c] W fun e w' => e = .returned (.bool (wholeB vs && formedB vs)) ∧ Keeps no W w') := fun W hW => dCut_any W o n c rs vs hn hf (hv.keepsN hW)
  have HNL : Hid ((needsV vs).length ≤ 2199023255500) := Nat.le_trans (needs_len vs) hf.len
  clear hn hf hv
  have key : ∀ (oa : Option Addr) (na ca : Nat) (ob : Option Addr) (nb cb : Nat) (ws : List Wn) (E : Int) (w1 w2 : World), True := fun _ _ _ _ _ _ _ _ _ _ => trivial
  clear key
  go_enter Try.func4, Try.ntmps4
  go_wp2_with fail
  refine Calls.mono HP.out ?_
  rintro e w1 ⟨u, rfl, hu⟩
  clear HP
  rcases hu with ⟨hb, rfl, hk⟩ | ⟨hb, o1, n1, c1, rfl, hn1, ho1, hw1, hk⟩
  · have H1 : Hid (Keeps no w w1 ∧ formedB vs = false) := ⟨hk, hb⟩
    clear hk hb
    go_wp2_with fail
    refine Calls.mono (HD.out _ H1.out.1) ?_
    rintro e w2 ⟨u, rfl, hu⟩
    rcases hu with ⟨hb, rfl, hk⟩ | ⟨hb, _⟩
    · have H2 : Hid (Keeps no w w2) := H1.out.1.trans hk
      clear hk hb
      go_wp2_with fail
      refine (known_any w2).mono ?_
      rintro e w3 ⟨rfl, hk3⟩
      have H3 : Hid (Keeps no w w3) := H2.out.trans hk3
      clear hk3
      go_wp2_with fail
      refine Calls.mono (HA.out _ H3.out) ?_
      rintro e w4 ⟨rfl, hk4⟩
      have H4 : Hid (Keeps no w w4) := H3.out.trans hk4
      clear hk4
      go_wp2_with fail
      refine Calls.mono (HB.out _ H4.out) ?_
      rintro e w5 ⟨rfl, hk5⟩
      have H5 : Hid (Keeps no w w5) := H4.out.trans hk5
      clear hk5
      generalize formedB vs = F at HC HE ⊢
      go_wp2_with fail
      refine Calls.mono (HC.out _ H5.out) ?_
      rintro e w6 ⟨rfl, hk6⟩
      have H6 : Hid (Keeps no w w6) := H5.out.trans hk6
      clear hk6
      go_wp2_with fail
      refine Calls.mono (HE.out _ H6.out) ?_
      rintro e w7 ⟨rfl, hk7⟩
      have H7 : Hid (Keeps no w w7) := H6.out.trans hk7
      clear hk7
      generalize (wholeB vs && F) = G
      go_wp2_with fail
      go_loopw [7] (fun s7 wr => s7 = .int .i64 0 ∧ Hid (Keeps no w wr)) (fun _ _ => 0)
      case atStart => exact ⟨rfl, H7⟩
      case round =>
        rename World => wr
        obtain ⟨rfl, HK⟩ := hrel
        go_wp2_with fail
        go_ret
        exact ⟨rfl, HK.out⟩
    · rw [H1.out.2] at hb; cases hb
  · have H1 : Hid (Keeps no w w1 ∧ formedB vs = true ∧ n1 = (needsV vs).length ∧ Own WE w1 o1 c1 (needsV vs)) := ⟨hk, hb, hn1, ho1⟩
    clear hk hb hn1 ho1 hw1
    go_wp2_with fail
    refine Calls.mono (HD.out _ H1.out.1) ?_
    rintro e w2 ⟨u, rfl, hu⟩
    rcases hu with ⟨hb, _⟩ | ⟨hb, o2, n2, c2, rfl, hn2, ho2, hw2, hk⟩
    · rw [H1.out.2.1] at hb; cases hb
    · obtain rfl : n2 = n1 := by rw [hn2]; exact H1.out.2.2.1.symm
      have H2 : Hid (Keeps no w w2 ∧ n2 = (needsV vs).length ∧ Own WE w2 o1 c1 (needsV vs) ∧ Own WE w2 o2 c2 (needsV vs)) := ⟨H1.out.1.trans hk, hn2, H1.out.2.2.2.keepsN hk, ho2⟩
      have H2k : Hid (Keeps no w2 w2) := Keeps.refl _ _
      clear hk hb hn2 ho2 hw2 H1
      go_wp2_with fail
      refine (known_any w2).mono ?_
      rintro e w3 ⟨rfl, hk3⟩
      have H3 : Hid (Keeps no w w3) := H2.out.1.trans hk3
      have Q3 : Hid (Keeps no w2 w3) := hk3
      clear hk3
      go_wp2_with fail
      refine Calls.mono (HA.out _ H3.out) ?_
      rintro e w4 ⟨rfl, hk4⟩
      have H4 : Hid (Keeps no w w4) := H3.out.trans hk4
      have Q4 : Hid (Keeps no w2 w4) := Q3.out.trans hk4
      clear hk4
      go_wp2_with fail
      refine Calls.mono (HB.out _ H4.out) ?_
      rintro e w5 ⟨rfl, hk5⟩
      have H5 : Hid (Keeps no w w5) := H4.out.trans hk5
      have Q5 : Hid (Keeps no w2 w5) := Q4.out.trans hk5
      clear hk5
      generalize formedB vs = F at HC HE ⊢
      go_wp2_with fail
      refine Calls.mono (HC.out _ H5.out) ?_
      rintro e w6 ⟨rfl, hk6⟩
      have H6 : Hid (Keeps no w w6) := H5.out.trans hk6
      have Q6 : Hid (Keeps no w2 w6) := Q5.out.trans hk6
      clear hk6
      go_wp2_with fail
      refine Calls.mono (HE.out _ H6.out) ?_
      rintro e w7 ⟨rfl, hk7⟩
      have H7 : Hid (Keeps no w w7) := H6.out.trans hk7
      have Q7 : Hid (Keeps no w2 w7) := Q6.out.trans hk7
      clear hk7
      generalize (wholeB vs && F) = G
      go_wp2_with fail
      have hnb : (n2 : Int) ≤ 2199023255500 := by have := H2.out.2.1; have := HNL.out; omega
      go_loopw [7] (fun s7 wr => ∃ k : Nat, k ≤ n2 ∧ s7 = .int .i64 k ∧ Hid (Keeps no w2 wr)) (fun s7 _ => n2 - (intOf s7).toNat)
      case atStart => exact ⟨0, by omega, rfl, Q7⟩
      case round =>
        rename World => wr
        obtain ⟨k, hk, rfl, HK⟩ := hrel
        by_cases hlt : k < n2
        · have hlt' : (k : Int) < n2 := by omega
          have hkl : k < (needsV vs).length := by have := H2.out.2.1; omega
          obtain ⟨b1, off1, ho1, x0, x1⟩ := (H2.out.2.2.1.keepsN HK.out).sl.atW hkl
          obtain ⟨b2, off2, ho2, y0, y1⟩ := (H2.out.2.2.2.keepsN HK.out).sl.atW hkl
          subst ho1 ho2
          generalize (needsV vs).getD k w0' = p at x0 x1 y0 y1
          obtain ⟨px, pi⟩ := p
          simp only at x0 x1 y0 y1
          have hne : ∀ W, (binOp .neq 41 (.agg #[.string px, .int .u64 (pi : Nat)]) (.agg #[.string px, .int .u64 (pi : Nat)])).run Try.prog W = .ok (.bool false) W := fun W => by rw [neqW]; simp
          go_wp2_with fail
          go_quiet (fail)
          go_wp2_with fail
          go_roundw
          case rel => exact ⟨k + 1, by omega, by go_num, HK.out.trans ((Keeps.refl _ _).drewN _)⟩
          case measure => simp [intOf]; omega
        · have hlt' : ¬ (k : Int) < n2 := by omega
          go_wp2_with fail
          go_ret
          exact ⟨rfl, H2.out.1.trans HK.out⟩
end Go.Proofs.Ytodblodbeobgeaa
