import Derived.Test.YtagekdmkidbhpaaO3
/- sameW; built: a store behind a script. -/
namespace Go.Proofs.Ytagekdmkidbhpaa
open Go.RowKit Go.Maps Go.Sort Orl
set_option linter.unusedVariables false
set_option linter.unusedSimpArgs false

theorem kqW {a b : World} (h1 : b.os = a.os) (h2 : b.tape = a.tape) (h3 : b.output = a.output) (h4 : b.heap = a.heap) : Keeps no a b := ⟨h1, h2, h3, by rw [h4]; exact Nat.le_refl _, fun k _ _ => by rw [h4]⟩
set_option maxRecDepth 10000 in
theorem sameW_any (w : World) (oa : Option Addr) (na ca : Nat) (ob : Option Addr) (nb cb : Nat) (ls : List Mk) (hna : na = ls.length) (hnb : nb = ls.length) (hla : ls.length ≤ 5864062014634) (ha : Sl WE w oa ca ls) (hb : Sl WE w ob cb ls) :
    Calls Try.prog 8 #[.slice oa na ca, .slice ob nb cb] w fun e w' => e = .returned (.bool true) ∧ Keeps no w w' := by
  have hnn : nb = na := by rw [hna, hnb]
  subst hnn
  have HA : Hid (nb = ls.length ∧ Sl WE w oa ca ls ∧ Sl WE w ob cb ls) := ⟨hna, ha, hb⟩
  have hA : (nb : Int) ≤ 5864062014634 := by omega
  clear hna hnb hla ha hb
  go_enter Try.func8, Try.ntmps8
  go_wp2_with fail
  go_loopw [5] (fun i wr => ∃ k : Nat, k ≤ nb ∧ i = .int .i64 k ∧ Hid (Keeps no w wr)) (fun i _ => nb - (intOf i).toNat)
  case atStart => exact ⟨0, by omega, rfl, Keeps.refl _ _⟩
  case round =>
    obtain ⟨k, hk, rfl, HK⟩ := hrel
    by_cases hlt : k < nb
    · have hlt' : (k : Int) < nb := by omega
      have hka : k < ls.length := by have := HA.out.1; omega
      obtain ⟨b1, off1, e1, d0, d1⟩ := atW (HA.out.2.1.keepsN HK.out) hka
      obtain ⟨b2, off2, e2, f0, f1⟩ := atW (HA.out.2.2.keepsN HK.out) hka
      generalize ls.getD k (e0, 0) = x at *
      obtain ⟨xk, xi⟩ := x
      simp only at d0 d1 f0 f1
      subst e1 e2
      have hne := fun W => neqW xk xk xi xi W
      simp only [decide_true, Bool.and_self, Bool.not_true] at hne
      clear hka
      go_wp2_with fail
      go_quiet (fail)
      go_wp2_with fail
      go_roundw
      case rel => exact ⟨k + 1, by omega, by go_num, HK.out.trans (kqW rfl rfl rfl rfl)⟩
      case measure => simp [intOf]; omega
    · have hlt' : ¬ (k : Int) < nb := by omega
      go_wp2_with fail
      go_ret
      exact ⟨rfl, HK.out⟩

/-! ### a script -/
def stp (q : St × Int) (x : OV) : St × Int := if x.k = 1 then (putO q.1 x q.2, q.2) else if x.k = 2 then (comO q.1 x q.2, q.2) else (q.1, q.2 + ((x.i % 8 : Nat) : Int))
def runS (l : List OV) : St × Int := l.foldl stp (St.new, 0)
theorem runS_snoc (l : List OV) (j : Nat) (hj : j < l.length) : runS (l.take (j + 1)) = stp (runS (l.take j)) (l.getD j ov0) := by
  rw [take_succ_getD l j ov0 hj]
  unfold runS
  rw [List.foldl_append]
  rfl
theorem and7 (i : Nat) (hi : i < 18446744073709551616) : bits .and .u64 (i : Int) 7 = ((i % 8 : Nat) : Int) := by
  have := u64_and_nat i 7 hi (by decide)
  rw [show i &&& 7 = i % 8 from Nat.and_two_pow_sub_one_eq_mod _ 3] at this
  exact this
structure Bt (w wr : World) (p : Nat) (xs : List OV) (j : Nat) (now : Int) : Prop where
  ow : Ow w wr p (runS (xs.take j)).1 384 no
  su : Supp (runS (xs.take j)).1
  ti : Till (runS (xs.take j)).1 now
  no : (runS (xs.take j)).2 = now
set_option maxRecDepth 10000 in
set_option maxHeartbeats 2000000 in
theorem built_any (w : World) (o : Option Addr) (n c : Nat) (xs : List OV) (hn : n = xs.length) (hl : xs.length ≤ 7036874417766) (hs : Sl OE w o c xs) (hok : ∀ x ∈ xs, OkO x) :
    Calls Try.prog 6 #[.slice o n c] w fun e w' => ∃ (p : Nat) (now : Int), e = .returned (.tuple #[.pointer (some ⟨p, 0, none⟩), .int .i64 now]) ∧ 0 ≤ now ∧ now ≤ 7 * (n : Int) ∧ Hid (Bt w w' p xs n now) := by
  have HA : Hid (n = xs.length ∧ Sl OE w o c xs ∧ ∀ x ∈ xs, OkO x) := ⟨hn, hs, hok⟩
  have hnb : (n : Int) ≤ 7036874417766 := by omega
  have hN := ow_new w
  clear hn hl hs hok
  go_enter Try.func6, Try.ntmps6
  go_wp2_with fail
  refine hN.mono ?_
  rintro e w1 ⟨p, rfl, H1⟩
  have HB : Hid (Bt w w1 p xs 0 0) := ⟨H1.out.more (by omega), supp_new, till_new, rfl⟩
  clear hN H1
  go_wp2_with fail
  go_loopw [5, 6, 7, 8] (fun s5 s6 _ _ wr => ∃ (j : Nat) (now : Int), j ≤ n ∧ s6 = .int .i64 j ∧ s5 = .int .i64 now ∧ 0 ≤ now ∧ now ≤ 7 * (j : Int) ∧ Hid (Bt w wr p xs j now)) (fun _ s6 _ _ _ => n - (intOf s6).toNat)
  case atStart => exact ⟨0, 0, by omega, rfl, rfl, by omega, by omega, HB⟩
  case round =>
    obtain ⟨j, now, hj, rfl, rfl, hw0, hw1, HG⟩ := hrel
    by_cases hlt : j < n
    · have hlt' : (j : Int) < n := by omega
      have hjl : j < xs.length := by rw [← HA.out.1]; exact hlt
      obtain ⟨b, off, rfl, d0, d1, d2, d3, d4⟩ := atO (HA.out.2.1.keepsN HG.out.ow.keep) hjl
      have hox := HA.out.2.2 _ (getD_mem_lt ov0 hjl)
      have hsn := runS_snoc xs j hjl
      obtain ⟨x, hx⟩ : ∃ x, x = xs.getD j ov0 := ⟨_, rfl⟩
      rw [← hx] at d0 d1 d2 d3 d4 hox hsn
      have HX : Hid (runS (xs.take (j + 1)) = stp (runS (xs.take j)) x ∧ OkO x ∧ (∀ X, Keeps no wr X → X.cell? ⟨b, off + j * 5, none⟩ = some (.int .i64 x.k) ∧ X.cell? ⟨b, off + j * 5 + 1, none⟩ = some (.int .u64 ((x.i : Nat) : Int)) ∧ X.cell? ⟨b, off + j * 5 + 2, none⟩ = some (.int .u8 ((x.a : Nat) : Int)) ∧ X.cell? ⟨b, off + j * 5 + 3, none⟩ = some (.int .u8 ((x.b : Nat) : Int)) ∧ X.cell? ⟨b, off + j * 5 + 4, none⟩ = some (.string x.v))) := ⟨hsn, hox, fun X hX => ⟨hX.cellN d0, hX.cellN d1, hX.cellN d2, hX.cellN d3, hX.cellN d4⟩⟩
      have hwr := write_any wr x.k ((x.i : Nat) : Int) x.a x.b x.v hox.a hox.b
      have hid := fun X => id_any X x.k x.i hox.i ((x.a : Nat) : Int) ((x.b : Nat) : Int) x.v
      have h7 := and7 x.i hox.i
      obtain ⟨q, hq⟩ : ∃ q : Int, q = ((x.i % 8 : Nat) : Int) := ⟨_, rfl⟩
      rw [← hq] at h7
      have HQ : Hid (q = ((x.i % 8 : Nat) : Int)) := hq
      have hq0 : 0 ≤ q := by omega
      have hq1 : q ≤ 7 := by omega
      have hin : (xs.take j).length = j := by rw [List.length_take]; omega
      clear hx hox hsn hjl hin hq
      go_wp2_with fail
      refine hwr.mono ?_
      rintro e w2 ⟨y1, y2, rfl, o1, n1, c1, o2, n2, c2, rfl, rfl, hnn, hoo⟩
      have H2 : Hid (n1 = x.ps.length ∧ n2 = x.keys.length ∧ Own PE w2 o1 c1 x.ps ∧ Own TE w2 o2 c2 x.keys ∧ Keeps no wr w2) := ⟨hnn.out.1, hnn.out.2, hoo.out.1, hoo.out.2.1, hoo.out.2.2.2.2⟩
      obtain ⟨z0, z1, z2, z3, z4⟩ := HX.out.2.2 w2 hoo.out.2.2.2.2
      clear hnn hoo hwr d0 d1 d2 d3 d4
      by_cases h1 : x.k = 1
      · have hst : Hid (stp (runS (xs.take j)) x = (putO (runS (xs.take j)).1 x now, now)) := (show _ = _ by unfold stp; rw [if_pos h1, HG.out.no])
        rw [h1] at z0 hid
        have hput := fun (X : World) (hX : Keeps no w2 X) => (HG.out.ow.go (H2.out.2.2.2.2.trans hX)).opPut HG.out.su x now o1 n1 c1 o2 n2 c2 H2.out.1 H2.out.2.1 (H2.out.2.2.1.sl.keepsN hX) (H2.out.2.2.2.1.sl.keepsN hX)
        clear h1
        go_wp2_with (go_at_call 13; refine (hid _).mono ?_; rintro e w3 ⟨rfl, hk3⟩)
        refine (hput _ hk3).mono ?_
        rintro e w4 ⟨B, zz, rfl, hz, h4⟩
        have HE : Hid (Bt w w4 p xs (j + 1) now) := by
          have e1 : runS (xs.take (j + 1)) = (putO (runS (xs.take j)).1 x now, now) := by rw [HX.out.1, hst.out]
          exact ⟨by rw [e1]; exact h4.out.1, by rw [e1]; exact supp_put HG.out.su x now, by rw [e1]; exact till_put HG.out.ti hw0 x, by rw [e1]⟩
        clear hput hz h4
        go_wp2_with fail
        go_roundw
        case rel => exact ⟨j + 1, now, by omega, by go_num, rfl, hw0, by omega, HE⟩
        case measure => simp [intOf]; omega
      · by_cases h2 : x.k = 2
        · have hst : Hid (stp (runS (xs.take j)) x = (comO (runS (xs.take j)).1 x now, now)) := (show _ = _ by unfold stp; rw [if_neg h1, if_pos h2, HG.out.no])
          rw [h2] at z0 hid
          have hcom := fun (X : World) (hX : Keeps no w2 X) => (HG.out.ow.go (H2.out.2.2.2.2.trans hX)).opCommit HG.out.su x now
          clear h1 h2
          go_wp2_with (go_at_call 13; refine (hid _).mono ?_; rintro e w3 ⟨rfl, hk3⟩)
          refine (hcom _ hk3).mono ?_
          rintro e w4 ⟨nn, zz, rfl, h4⟩
          have HE : Hid (Bt w w4 p xs (j + 1) now) := by
            have e1 : runS (xs.take (j + 1)) = (comO (runS (xs.take j)).1 x now, now) := by rw [HX.out.1, hst.out]
            exact ⟨by rw [e1]; exact h4.out.1, by rw [e1]; exact supp_com HG.out.su x now, by rw [e1]; exact till_com HG.out.ti x, by rw [e1]⟩
          clear hcom h4
          go_wp2_with fail
          go_roundw
          case rel => exact ⟨j + 1, now, by omega, by go_num, rfl, hw0, by omega, HE⟩
          case measure => simp [intOf]; omega
        · have hst : Hid (stp (runS (xs.take j)) x = ((runS (xs.take j)).1, now + q)) := (show _ = _ by unfold stp; rw [if_neg h1, if_neg h2, HG.out.no, HQ.out])
          have g1 : (x.k == 1) = false := beq_eq_false_iff_ne.2 h1
          have g2 : (x.k == 2) = false := beq_eq_false_iff_ne.2 h2
          have HE : Hid (Bt w w2 p xs (j + 1) (now + q)) := by
            have e1 : runS (xs.take (j + 1)) = ((runS (xs.take j)).1, now + q) := by rw [HX.out.1, hst.out]
            exact ⟨by rw [e1]; exact HG.out.ow.go H2.out.2.2.2.2, by rw [e1]; exact HG.out.su, by rw [e1]; exact HG.out.ti.mono (by omega), by rw [e1]⟩
          clear h1 h2
          go_wp2_with fail
          go_roundw
          case rel => exact ⟨j + 1, now + q, by omega, by go_num, rfl, by omega, by omega, HE⟩
          case measure => simp [intOf]; omega
    · have hjn : j = n := by omega
      subst hjn
      go_wp2_with fail
      go_ret2
      exact ⟨p, now, rfl, hw0, hw1, HG⟩
end Go.Proofs.Ytagekdmkidbhpaa
