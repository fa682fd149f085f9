import Derived.Test.YtdemoghlibnooaaGreatDoorXA
/- holds: two stores of one state tell the same. -/
namespace Go.Proofs.YtdemoghlibnooaaGreatDoor
open Go.RowKit Go.Maps Go.Sort Orl Pk
set_option linter.unusedVariables false
set_option linter.unusedSimpArgs false

section
variable {B : Nat} {w w' : World} {p : Nat} {s : St} {N : Nat} {P : Nat → Prop}
theorem Sto.keepsN (h : Sto B w p s N P) (hk : Keeps no w w') : Sto B w' p s N P := (h.other hk (fun b hb => hb.elim)).sub (fun b hb => .inl hb)
theorem Sto.keptK (h : Sto B w p s N P) (hN : N ≤ 1954687338211) :
    Calls Tryz.prog 33 #[.pointer (some ⟨p, 0, none⟩)] w fun e w' => ∃ o n c ks, e = .returned (.slice o n c) ∧ Hid (Kd s ks o n c w' ∧ Kl w ks o c w' ∧ Keeps no w w' ∧ ks.length ≤ N) := by
  obtain ⟨T, hi, ho, _⟩ := h
  refine (kept_any w p T s N hi ho.v hN).mono ?_
  rintro e w' ⟨v, rfl, o, n, c, ks, rfl, hn, hK, hl⟩
  exact ⟨o, n, c, ks, rfl, ⟨hn.out, hK.out.1.own, fun x hx => (hK.out.1.key x hx).1, hK.out.2.1, hK.out.2.2.2, hK.out.2.2.1, ho, by have := hl.out; omega⟩, hK.out.1, hK.out.1.keep, hl.out⟩
theorem Sto.lastsK (h : Sto B w p s N P) (hN : N ≤ 1954687338211) :
    Calls Tryz.prog 55 #[.pointer (some ⟨p, 0, none⟩)] w fun e w' => ∃ o n c ls, e = .returned (.slice o n c) ∧ Hid (Ld s ls o n c w' ∧ New w o ∧ Keeps no w w' ∧ ls.length ≤ N) := by
  obtain ⟨T, hi, ho, _⟩ := h
  refine (lasts_any w p T s N hi hN).mono ?_
  rintro e w' ⟨v, rfl, ls, ⟨o, n, c, rfl, hn, ho', hnw, hk⟩, his, hl⟩
  exact ⟨o, n, c, ls, rfl, ⟨hn.out, ho', his.out, ho, by have := hl.out; omega⟩, hnw, hk, hl.out⟩
end
set_option maxRecDepth 10000 in
set_option maxHeartbeats 1000000 in
theorem holds_any {B B' : Nat} {w : World} {p p' : Nat} {s : St} {N N' : Nat} {P P' : Nat → Prop} (h : Sto B w p s N P) (h' : Sto B' w p' s N' P') (hN : N ≤ 1000000000) (hN' : N' ≤ 1000000000) :
    Calls Tryz.prog 14 #[.pointer (some ⟨p, 0, none⟩), .pointer (some ⟨p', 0, none⟩)] w fun e w' => e = .returned (.bool true) ∧ Keeps no w w' := by
  have H : Hid (Sto B w p s N P ∧ Sto B' w p' s N' P') := ⟨h, h'⟩
  clear h h'
  go_enter Tryz.func14, Tryz.ntmps14
  go_wp2_with fail
  refine (H.out.1.keptK (by omega)).mono ?_
  rintro e w1 ⟨o1, n1, c1, k1, rfl, H1⟩
  go_wp2_with fail
  refine ((H.out.2.keepsN H1.out.2.2.1).keptK (by omega)).mono ?_
  rintro e w2 ⟨o2, n2, c2, k2, rfl, H2⟩
  go_wp2_with fail
  refine ((H.out.1.keepsN (H1.out.2.2.1.trans H2.out.2.2.1)).lastsK (by omega)).mono ?_
  rintro e w3 ⟨o3, n3, c3, l3, rfl, H3⟩
  go_wp2_with fail
  refine ((H.out.2.keepsN (H1.out.2.2.1.trans (H2.out.2.2.1.trans H3.out.2.2.1))).lastsK (by omega)).mono ?_
  rintro e w4 ⟨o4, n4, c4, l4, rfl, H4⟩
  have K34 : Hid (Keeps no w2 w4) := H3.out.2.2.1.trans H4.out.2.2.1
  have A1 : Hid (Kd s k1 o1 n1 c1 w4) := H1.out.1.keepsN (H2.out.2.2.1.trans K34.out)
  have A2 : Hid (Kd s k2 o2 n2 c2 w4) := H2.out.1.keepsN K34.out
  have A3 : Hid (Ld s l3 o3 n3 c3 w4) := H3.out.1.keepsN H4.out.2.2.1
  have A4 : Hid (Ld s l4 o4 n4 c4 w4) := H4.out.1
  have K4 : Hid (Keeps no w w4) := H1.out.2.2.1.trans (H2.out.2.2.1.trans K34.out)
  have he : Hid (KsEq true k1 k2) := kd_same (Sim.refl s) (fun _ _ => rfl) A1.out A2.out
  have hl := ld_same (fun _ => rfl) A3.out A4.out
  subst hl
  have hn12 : n2 = n1 := by rw [A1.out.n, A2.out.n, he.out.1]
  have hn34 : n4 = n3 := by rw [A3.out.n, A4.out.n]
  have hb1 : (n1 : Int) ≤ 1954687338211 := by have := A1.out.le; have := A1.out.n; omega
  have hb3 : (n3 : Int) ≤ 5864062014634 := by have := A3.out.le; have := A3.out.n; omega
  clear H1 H2 H3 H4 K34 H hN hN'
  subst hn12 hn34
  go_wp2_with fail
  go_loopw [9, 10, 11] (fun i _ _ wr => ∃ k : Nat, k ≤ n2 ∧ i = .int .i64 k ∧ Hid (Keeps no w4 wr)) (fun i _ _ _ => n2 - (intOf i).toNat)
  case atStart => exact ⟨0, by omega, rfl, Keeps.refl _ _⟩
  case round =>
    obtain ⟨k, hk, rfl, HK⟩ := hrel
    rename World => wq
    by_cases hlt : k < n2
    · have hlt' : (k : Int) < n2 := by omega
      have hka : k < k1.length := by have := A1.out.n; omega
      have hkb : k < k2.length := by have := A2.out.n; omega
      obtain ⟨b1, off1, e1, d0, d1, d2, d3, d4⟩ := (A1.out.own.sl.keepsN HK.out).atK hka
      obtain ⟨b2, off2, e2, f0, f1, f2, f3, f4⟩ := (A2.out.own.sl.keepsN HK.out).atK hkb
      have heq := he.out.2 k hka
      have hx1 := A1.out.okKs _ (getD_mem_lt kv0 hka)
      have hx2 := A2.out.okKs _ (getD_mem_lt kv0 hkb)
      generalize k1.getD k kv0 = x at *
      generalize k2.getD k kv0 = y at *
      obtain ⟨⟨xk, xi⟩, xv, xo, xc, xks, xst⟩ := x
      obtain ⟨⟨yk, yi⟩, yv, yo, yc, yks, yst⟩ := y
      obtain ⟨q1, q2, q3, q4⟩ := heq
      simp only at q1 q2 q3 q4
      injection q1 with q1 q1'
      subst q1 q1' q2 q3
      simp only at d0 d1 d2 d3 d4 f0 f1 f2 f3 f4 hx1 hx2
      obtain ⟨nk, hnk⟩ : ∃ nk, nk = xks.length := ⟨_, rfl⟩
      rw [← hnk] at d3 f3
      subst e1 e2
      have HP : Hid (nk = xks.length ∧ Sl TE w4 xo xc xks ∧ xks.length ≤ 8796093022000 ∧ Sl TE w4 yo yc xks) := ⟨hnk, hx1.1, by have := hx1.2; omega, hx2.1⟩
      have hcs := fun X (hX : Keeps no wq X) => sameTexts_any X xo nk xc yo nk yc xks xks HP.out.1 HP.out.1 HP.out.2.2.1 HP.out.2.2.1 (HP.out.2.1.keepsN (HK.out.trans hX)) (HP.out.2.2.2.keepsN (HK.out.trans hX))
      have HCS : Hid (∀ X, Keeps no wq X → Calls Tryz.prog 20 #[.slice xo nk xc, .slice yo nk yc] X fun e w' => e = .returned (.bool true) ∧ Keeps no X w') := fun X hX => (hcs X hX).mono (fun e w' ⟨⟨B, hB, hB2⟩, hk⟩ => ⟨by rw [hB, hB2.out.2 rfl], hk⟩)
      clear hx1 hx2 hnk hka hkb q4 hcs d4 f4
      have kA := (Keeps.refl no wq).alloc (.cells #[.string xk, .int .u64 ((xi : Nat) : Int), .string xv, .slice xo nk xc] 112)
      have g0 := kA.cellN f0
      have g1 := kA.cellN f1
      have g2 := kA.cellN f2
      have g3 := kA.cellN f3
      have HKA : Hid (Keeps no wq ((wq.alloc (.cells #[.string xk, .int .u64 ((xi : Nat) : Int), .string xv, .slice xo nk xc] 112)).alloc (.cells #[.string xk, .int .u64 ((xi : Nat) : Int), .string xv, .slice yo nk yc] 112))) := kA.alloc _
      clear kA
      go_wp2_with (first | (go_at_call 20; refine (HCS.out _ HKA.out).mono ?_; rintro e w6 ⟨rfl, hk6⟩) | fail)
      go_roundw
      case rel => exact ⟨k + 1, by omega, by go_num, HK.out.trans (HKA.out.trans hk6)⟩
      case measure => simp [intOf]; omega
    · have hlt' : ¬ (k : Int) < n2 := by omega
      go_wp2_with fail
      go_loopw [12] (fun i wr => ∃ k : Nat, k ≤ n4 ∧ i = .int .i64 k ∧ Hid (Keeps no w4 wr)) (fun i _ => n4 - (intOf i).toNat)
      case atStart => exact ⟨0, by omega, rfl, HK⟩
      case round =>
        clear HK hlt hlt' hk
        obtain ⟨k, hk, rfl, HK⟩ := hrel
        rename World => wq
        by_cases hlt : k < n4
        · have hlt' : (k : Int) < n4 := by omega
          have hka : k < l3.length := by have := A3.out.n; omega
          obtain ⟨b1, off1, e1, d0, d1⟩ := (A3.out.own.sl.keepsN HK.out).atL hka
          obtain ⟨b2, off2, e2, f0, f1⟩ := (A4.out.own.sl.keepsN HK.out).atL hka
          generalize l3.getD k (e0, 0) = x at *
          obtain ⟨xk, xi⟩ := x
          simp only at d0 d1 f0 f1
          subst e1 e2
          have hne := fun W => neqL xk xk xi xi W
          simp only [decide_true, Bool.and_self, Bool.not_true] at hne
          clear hka
          go_wp2_with fail
          go_quiet (fail)
          go_wp2_with fail
          go_roundw
          case rel => exact ⟨k + 1, by omega, by go_num, HK.out.trans (kq_of rfl rfl rfl rfl)⟩
          case measure => simp [intOf]; omega
        · have hlt' : ¬ (k : Int) < n4 := by omega
          go_wp2_with fail
          go_ret
          exact ⟨rfl, K4.out.trans HK.out⟩
end Go.Proofs.YtdemoghlibnooaaGreatDoor
