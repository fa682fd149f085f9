import Derived.Test.YtagekdmkidbhpaaH1
import Derived.Test.YtagekdmkidbhpaaShelf
/- container/heap over a line's row. -/
namespace Go.Proofs.Ytagekdmkidbhpaa
open Go.RowKit Go.Shelf Go.Sort Hp
set_option linter.unusedVariables false
set_option linter.unusedSimpArgs false
/-- a line's row is this now -/
structure HL (w : World) (p la g c : Nat) (fr : List Nat) (wr : World) (l : List Nat) : Prop where
  at' : LineAt wr ⟨p, la, some ⟨g, 0, none⟩, c, l⟩
  perm : l.Perm fr
  keep : Keeps (fun b => b = g) w wr
theorem HL.len {w : World} {p la g c : Nat} {fr : List Nat} {wr : World} {l : List Nat} (h : HL w p la g c fr wr l) : l.length = fr.length := h.perm.length_eq
theorem HL.cell {w : World} {p la g c : Nat} {fr : List Nat} {wr : World} {l : List Nat} (h : HL w p la g c fr wr l) {n : Nat} (hn : n = fr.length) : wr.cell? ⟨p, 1, none⟩ = some (.slice (some ⟨g, 0, none⟩) n c) := by
  rw [hn, ← h.len]; exact cell_of_blk h.at'.blk 1
theorem HL.noP {w : World} {p la g c : Nat} {fr : List Nat} {wr : World} {l : List Nat} (h : HL w p la g c fr wr l) : g ≠ p := h.at'.o_p h.at' g ⟨_, rfl, rfl⟩
theorem HL.same {w : World} {p la g c : Nat} {fr : List Nat} {wr wr' : World} {l : List Nat} (h : HL w p la g c fr wr l) (hk : Keeps no wr wr') : HL w p la g c fr wr' l :=
  ⟨h.at'.keeps hk id (fun _ _ => id), h.perm, h.keep.trans hk.of_no⟩
theorem HL.swap {w : World} {p la g c : Nat} {fr : List Nat} {wr wr' : World} {l : List Nat} (h : HL w p la g c fr wr l) {i j : Nat} (hi : i < l.length) (hj : j < l.length) (ho : Own IE wr' (some ⟨g, 0, none⟩) c (swp l i j)) (hk : Keeps (fun b => b = g) wr wr') : HL w p la g c fr wr' (swp l i j) := by
  refine ⟨⟨?_, ho⟩, (swp_perm l hi hj).trans h.perm, h.keep.trans hk⟩
  have := hk.at h.at'.blk (fun e => h.noP e.symm)
  simpa [lcells, swp_length] using this
theorem enLen : ∀ args w, (callFunc 105 args).run Try.prog w = .ok (.enter 105 args) w := enters_of Try.func105 (by kernel_rfl) rfl
theorem enLess : ∀ args w, (callFunc 106 args).run Try.prog w = .ok (.enter 106 args) w := enters_of Try.func106 (by kernel_rfl) rfl
theorem enSwap : ∀ args w, (callFunc 107 args).run Try.prog w = .ok (.enter 107 args) w := enters_of Try.func107 (by kernel_rfl) rfl
theorem enPop : ∀ args w, (callFunc 108 args).run Try.prog w = .ok (.enter 108 args) w := enters_of Try.func108 (by kernel_rfl) rfl
theorem enPush : ∀ args w, (callFunc 109 args).run Try.prog w = .ok (.enter 109 args) w := enters_of Try.func109 (by kernel_rfl) rfl

set_option maxRecDepth 10000 in
theorem up_any (w : World) (p la g c : Nat) (fr : List Nat) (j : Nat) (h : LineAt w ⟨p, la, some ⟨g, 0, none⟩, c, fr⟩) (hu : HUp fr j) (hj : j < fr.length) (hb : fr.length ≤ 140737488355328) :
    Calls Try.prog 59 #[.iface 115 (.pointer (some ⟨p, 1, none⟩)), .int .i64 ((j : Nat) : Int)] w fun e w' => e = .returned (.tuple #[]) ∧ ∃ l, HL w p la g c fr w' l ∧ Heap l := by
  obtain ⟨n, hn⟩ : ∃ n, n = fr.length := ⟨_, rfl⟩
  have HN : Hid (n = fr.length) := hn
  have hb' : (n : Int) ≤ 140737488355328 := by omega
  have H0 : Hid (HL w p la g c fr w fr ∧ HUp fr j ∧ j < n) := ⟨⟨h, List.Perm.refl _, Keeps.refl _ _⟩, hu, by omega⟩
  have e1 := enLess
  have e2 := enSwap
  clear h hu hn hb hj
  go_enter Try.func59, Try.ntmps59
  go_wp2_with fail
  go_loopw [1] (fun v wr => ∃ (J : Nat) (l : List Nat), v = .int .i64 (J : Int) ∧ Hid (HL w p la g c fr wr l ∧ HUp l J ∧ J < n)) (fun v _ => (intOf v).toNat)
  case atStart => exact ⟨j, fr, rfl, H0⟩
  case round =>
    obtain ⟨J, l, rfl, HH⟩ := hrel
    have hc := HH.out.1.cell HN.out
    have m1 := rLess hc
    have hJn : (J : Int) < n := by have := HH.out.2.2; omega
    by_cases h0 : J = 0
    · subst h0
      go_wp2_with fail
      go_end0
      exact ⟨rfl, l, HH.out.1, hup_done HH.out.2.1 (.inl rfl)⟩
    · obtain ⟨I, hI⟩ : ∃ I, I = (J - 1) / 2 := ⟨_, rfl⟩
      have hq : Int.tdiv ((J : Int) - 1) 2 = (I : Int) := by
        rw [Int.tdiv_eq_ediv_of_nonneg (by omega)]; omega
      have hq2 : ((J : Int) - 1) / 2 = (I : Int) := by omega
      have hne : ((I : Int) == (J : Int)) = false := by simp; omega
      have hne2 : ¬ (I : Int) = (J : Int) := by omega
      have hIl : I < n ∧ J < n := ⟨by omega, by omega⟩
      have m1' := m1
      have hless : ∀ X, Keeps no wr X → Calls Try.prog 106 #[.slice (some ⟨g, 0, none⟩) n c, .int .i64 ((J : Nat) : Int), .int .i64 ((I : Nat) : Int)] X fun e w' => e = .returned (.bool (decide (l.getD J 0 < l.getD I 0))) ∧ Keeps no X w' := fun X hX => less_ids X g n c l (HH.out.1.at'.own.keepsN hX) (by rw [HN.out, ← HH.out.1.len]) hb' J I hIl.2 hIl.1
      by_cases hlt : l.getD J 0 < l.getD I 0
      · have ed : decide (l.getD J 0 < l.getD I 0) = true := by simpa using hlt
        rw [ed] at hless
        have HLs : Hid (∀ X, Keeps no wr X → Calls Try.prog 106 #[.slice (some ⟨g, 0, none⟩) n c, .int .i64 ((J : Nat) : Int), .int .i64 ((I : Nat) : Int)] X fun e w' => e = .returned (.bool true) ∧ Keeps no X w') := hless
        have HI : Hid (I = (J - 1) / 2 ∧ I < n ∧ J < n ∧ J ≠ 0 ∧ l.getD J 0 < l.getD I 0) := ⟨hI, hIl.1, hIl.2, h0, hlt⟩
        clear hless ed hlt hI hIl h0 m1'
        go_wp2_with fail
        refine (HLs.out _ (Keeps.refl no wr)).mono ?_
        rintro e w1 ⟨rfl, hk1⟩
        have H1 : Hid (HL w p la g c fr w1 l) := HH.out.1.same hk1
        have hc1 := H1.out.cell HN.out
        have m2 := rSwap hc1
        clear hk1 m1 hc
        go_wp2_with fail
        refine (swap_ids _ g n c l H1.out.at'.own (by rw [HN.out, ← H1.out.len]) hb' I J HI.out.2.1 HI.out.2.2.1).mono ?_
        rintro e w2 ⟨rfl, ho2, hk2⟩
        have hln : l.length = n := by rw [HN.out, ← H1.out.len]
        have H2 : Hid (HL w p la g c fr w2 (swp l I J) ∧ HUp (swp l I J) I ∧ I < n) := by
          obtain ⟨q1, q2, q3, q4, q5⟩ := HI.out
          refine ⟨H1.out.swap (by omega) (by omega) ho2 hk2, ?_, q2⟩
          rw [q1] at q5 ⊢
          exact hup_step HH.out.2.1 (by omega) (by omega) q5
        clear ho2 hk2 hln m2 hc1
        go_wp2_with fail
        go_roundw
        case rel => exact ⟨I, _, rfl, H2⟩
        case measure => simp [intOf]; have := HI.out; omega
      · have ed : decide (l.getD J 0 < l.getD I 0) = false := by simpa using hlt
        rw [ed] at hless
        have HLs : Hid (∀ X, Keeps no wr X → Calls Try.prog 106 #[.slice (some ⟨g, 0, none⟩) n c, .int .i64 ((J : Nat) : Int), .int .i64 ((I : Nat) : Int)] X fun e w' => e = .returned (.bool false) ∧ Keeps no X w') := hless
        have HE : Hid (Heap l) := hup_done HH.out.2.1 (.inr (by rw [← hI]; omega))
        clear hless ed hlt hI hIl h0 m1'
        go_wp2_with fail
        refine (HLs.out _ (Keeps.refl no wr)).mono ?_
        rintro e w1 ⟨rfl, hk1⟩
        go_wp2_with fail
        go_end0
        exact ⟨rfl, l, HH.out.1.same hk1, HE.out⟩
end Go.Proofs.Ytagekdmkidbhpaa
