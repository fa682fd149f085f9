import Derived.Test.YtdemoghlibnooaaGreatDoorB12
import Derived.Test.YtdemoghlibnooaaGreatDoorShelf
import Derived.Laws.Bits128
namespace Go.Proofs.YtdemoghlibnooaaGreatDoor
open Go.RowKit Go.Shelf Go.Sort Hp
set_option linter.unusedVariables false
set_option linter.unusedSimpArgs false
structure HL (w : World) (p la g c : Nat) (fr : List Nat) (wr : World) (l : List Nat) : Prop where
  at' : LineAt wr ⟨p, la, some ⟨g, 0, none⟩, c, l⟩
  perm : l.Perm fr
  keep : Keeps (fun b => b = g) w wr
theorem HL.len {w : World} {p la g c : Nat} {fr : List Nat} {wr : World} {l : List Nat} (h : HL w p la g c fr wr l) : l.length = fr.length := h.perm.length_eq
theorem HL.cell {w : World} {p la g c : Nat} {fr : List Nat} {wr : World} {l : List Nat} (h : HL w p la g c fr wr l) {n : Nat} (hn : n = fr.length) : wr.cell? ⟨p, 1, none⟩ = some (.slice (some ⟨g, 0, none⟩) n c) := by
  rw [hn, ← h.len]; exact cell_of_blk h.at'.blk 1
theorem HL.noP {w : World} {p la g c : Nat} {fr : List Nat} {wr : World} {l : List Nat} (h : HL w p la g c fr wr l) : g ≠ p := h.at'.o_p h.at' g ⟨_, rfl, rfl⟩
theorem HL.same {w : World} {p la g c : Nat} {fr : List Nat} {wr wr' : World} {l : List Nat} (h : HL w p la g c fr wr l) (hk : Keeps no wr wr') : HL w p la g c fr wr' l :=
  ⟨h.at'.keeps hk id (fun _ _ => id), h.perm, h.keep.trans hk.of_no⟩
theorem HL.swap {w : World} {p la g c : Nat} {fr : List Nat} {wr wr' : World} {l : List Nat} (h : HL w p la g c fr wr l) {i j : Nat} (hi : i < l.length) (hj : j < l.length) (ho : Own IE wr' (some ⟨g, 0, none⟩) c (swp l i j)) (hk : Keeps (fun b => b = g) wr wr') : HL w p la g c fr wr' (swp l i j) := by
  refine ⟨⟨?_, ho⟩, (swp_perm l hi hj).trans h.perm, h.keep.trans hk⟩
  have := hk.at h.at'.blk (fun e => h.noP e.symm)
  simpa [lcells, swp_length] using this
theorem enLen : ∀ args w, (callFunc 285 args).run Tryz.prog w = .ok (.enter 285 args) w := enters_of Tryz.func285 (by kernel_rfl) rfl
theorem enLess : ∀ args w, (callFunc 286 args).run Tryz.prog w = .ok (.enter 286 args) w := enters_of Tryz.func286 (by kernel_rfl) rfl
theorem enSwap : ∀ args w, (callFunc 287 args).run Tryz.prog w = .ok (.enter 287 args) w := enters_of Tryz.func287 (by kernel_rfl) rfl
theorem enPop : ∀ args w, (callFunc 288 args).run Tryz.prog w = .ok (.enter 288 args) w := enters_of Tryz.func288 (by kernel_rfl) rfl
theorem enPush : ∀ args w, (callFunc 289 args).run Tryz.prog w = .ok (.enter 289 args) w := enters_of Tryz.func289 (by kernel_rfl) rfl
set_option maxRecDepth 10000 in
theorem up_any (w : World) (p la g c : Nat) (fr : List Nat) (j : Nat) (h : LineAt w ⟨p, la, some ⟨g, 0, none⟩, c, fr⟩) (hu : HUp fr j) (hj : j < fr.length) (hb : fr.length ≤ 140737488355328) :
    Calls Tryz.prog 179 #[.iface 212 (.pointer (some ⟨p, 1, none⟩)), .int .i64 ((j : Nat) : Int)] w fun e w' => e = .returned (.tuple #[]) ∧ ∃ l, HL w p la g c fr w' l ∧ Heap l := by
  obtain ⟨n, hn⟩ : ∃ n, n = fr.length := ⟨_, rfl⟩
  have HN : Hid (n = fr.length) := hn
  have hb' : (n : Int) ≤ 140737488355328 := by omega
  have H0 : Hid (HL w p la g c fr w fr ∧ HUp fr j ∧ j < n) := ⟨⟨h, List.Perm.refl _, Keeps.refl _ _⟩, hu, by omega⟩
  have e1 := enLess
  have e2 := enSwap
  clear h hu hn hb hj
  go_enter Tryz.func179, Tryz.ntmps179
  go_wp2_with fail
  go_loopw [1] (fun v wr => ∃ (J : Nat) (l : List Nat), v = .int .i64 (J : Int) ∧ Hid (HL w p la g c fr wr l ∧ HUp l J ∧ J < n)) (fun v _ => (intOf v).toNat)
  case atStart => exact ⟨j, fr, rfl, H0⟩
  case round =>
    obtain ⟨J, l, rfl, HH⟩ := hrel
    have hc := HH.out.1.cell HN.out
    have m1 := rLess hc
    have hJn : (J : Int) < n := by have := HH.out.2.2; omega
    by_cases h0 : J = 0
    · subst h0
      go_wp2_with fail
      go_end0
      exact ⟨rfl, l, HH.out.1, hup_done HH.out.2.1 (.inl rfl)⟩
    · obtain ⟨I, hI⟩ : ∃ I, I = (J - 1) / 2 := ⟨_, rfl⟩
      have hq : Int.tdiv ((J : Int) - 1) 2 = (I : Int) := by
        rw [Int.tdiv_eq_ediv_of_nonneg (by omega)]; omega
      have hq2 : ((J : Int) - 1) / 2 = (I : Int) := by omega
      have hne : ((I : Int) == (J : Int)) = false := by simp; omega
      have hne2 : ¬ (I : Int) = (J : Int) := by omega
      have hIl : I < n ∧ J < n := ⟨by omega, by omega⟩
      have m1' := m1
      have hless : ∀ X, Keeps no wr X → Calls Tryz.prog 286 #[.slice (some ⟨g, 0, none⟩) n c, .int .i64 ((J : Nat) : Int), .int .i64 ((I : Nat) : Int)] X fun e w' => e = .returned (.bool (decide (l.getD J 0 < l.getD I 0))) ∧ Keeps no X w' := fun X hX => less_ids X g n c l (HH.out.1.at'.own.keepsN hX) (by rw [HN.out, ← HH.out.1.len]) hb' J I hIl.2 hIl.1
      by_cases hlt : l.getD J 0 < l.getD I 0
      · have ed : decide (l.getD J 0 < l.getD I 0) = true := by simpa using hlt
        rw [ed] at hless
        have HLs : Hid (∀ X, Keeps no wr X → Calls Tryz.prog 286 #[.slice (some ⟨g, 0, none⟩) n c, .int .i64 ((J : Nat) : Int), .int .i64 ((I : Nat) : Int)] X fun e w' => e = .returned (.bool true) ∧ Keeps no X w') := hless
        have HI : Hid (I = (J - 1) / 2 ∧ I < n ∧ J < n ∧ J ≠ 0 ∧ l.getD J 0 < l.getD I 0) := ⟨hI, hIl.1, hIl.2, h0, hlt⟩
        clear hless ed hlt hI hIl h0 m1'
        go_wp2_with fail
        refine (HLs.out _ (Keeps.refl no wr)).mono ?_
        rintro e w1 ⟨rfl, hk1⟩
        have H1 : Hid (HL w p la g c fr w1 l) := HH.out.1.same hk1
        have hc1 := H1.out.cell HN.out
        have m2 := rSwap hc1
        clear hk1 m1 hc
        go_wp2_with fail
        refine (swap_ids _ g n c l H1.out.at'.own (by rw [HN.out, ← H1.out.len]) hb' I J HI.out.2.1 HI.out.2.2.1).mono ?_
        rintro e w2 ⟨rfl, ho2, hk2⟩
        have hln : l.length = n := by rw [HN.out, ← H1.out.len]
        have H2 : Hid (HL w p la g c fr w2 (swp l I J) ∧ HUp (swp l I J) I ∧ I < n) := by
          obtain ⟨q1, q2, q3, q4, q5⟩ := HI.out
          refine ⟨H1.out.swap (by omega) (by omega) ho2 hk2, ?_, q2⟩
          rw [q1] at q5 ⊢
          exact hup_step HH.out.2.1 (by omega) (by omega) q5
        clear ho2 hk2 hln m2 hc1
        go_wp2_with fail
        go_roundw
        case rel => exact ⟨I, _, rfl, H2⟩
        case measure => simp [intOf]; have := HI.out; omega
      · have ed : decide (l.getD J 0 < l.getD I 0) = false := by simpa using hlt
        rw [ed] at hless
        have HLs : Hid (∀ X, Keeps no wr X → Calls Tryz.prog 286 #[.slice (some ⟨g, 0, none⟩) n c, .int .i64 ((J : Nat) : Int), .int .i64 ((I : Nat) : Int)] X fun e w' => e = .returned (.bool false) ∧ Keeps no X w') := hless
        have HE : Hid (Heap l) := hup_done HH.out.2.1 (.inr (by rw [← hI]; omega))
        clear hless ed hlt hI hIl h0 m1'
        go_wp2_with fail
        refine (HLs.out _ (Keeps.refl no wr)).mono ?_
        rintro e w1 ⟨rfl, hk1⟩
        go_wp2_with fail
        go_end0
        exact ⟨rfl, l, HH.out.1.same hk1, HE.out⟩
end Go.Proofs.YtdemoghlibnooaaGreatDoor
namespace Go.Proofs.YtdemoghlibnooaaGreatDoor
open Go.RowKit Go.Shelf Go.Sort Hp
set_option linter.unusedVariables false
set_option linter.unusedSimpArgs false
set_option maxRecDepth 10000 in
theorem hpush_any (w : World) (x : Ln) (i : Nat) (h : LineAt w x) (hh : Heap x.fr) (hb : x.fr.length ≤ 2000000000000) :
    Calls Tryz.prog 138 #[.iface 212 (.pointer (some ⟨x.p, 1, none⟩)), .iface 43 (.int .u64 ((i : Nat) : Int))] w fun e w' => e = .returned (.tuple #[]) ∧ ∃ o' c' l, LineAt w' (x.with o' c' l) ∧ l.Perm (x.fr ++ [i]) ∧ Heap l ∧ (∀ b, inO o' b → inO x.o b ∨ w.heap.size ≤ b) ∧ Keeps (fun b => b = x.p ∨ inO x.o b) w w' := by
  have HP := push_ids w x i h hb
  obtain ⟨p, la, o, c, fr⟩ := x
  simp only [Ln.with] at *
  obtain ⟨n, hn⟩ : ∃ n, n = fr.length := ⟨_, rfl⟩
  have m1 := rPush (.pointer (some ⟨p, 1, none⟩)) w
  have e1 := enPush
  have e2 := enLen
  have HN : Hid (n = fr.length ∧ fr.length ≤ 2000000000000 ∧ Heap fr) := ⟨hn, hb, hh⟩
  have hnb : (n : Int) ≤ 2000000000000 := by omega
  clear h hn hh hb
  go_enter Tryz.func138, Tryz.ntmps138
  go_wp2_with fail
  refine HP.mono ?_
  rintro e w1 ⟨rfl, o', c', hl, hnew, hk⟩
  have hlen : (fr ++ [i]).length = n + 1 := by rw [List.length_append, HN.out.1]; rfl
  obtain ⟨g, rfl⟩ := hl.own.g0 (by show 0 < (fr ++ [i]).length; omega)
  have hc : w1.cell? ⟨p, 1, none⟩ = some (.slice (some ⟨g, 0, none⟩) (n + 1) c') := by rw [← hlen]; exact cell_of_blk hl.blk 1
  have m2 := rLen hc
  have HU := up_any w1 p la g c' (fr ++ [i]) n hl (by rw [HN.out.1]; exact hup_push HN.out.2.2 i) (by omega) (by have := HN.out; omega)
  have HK : Hid ((∀ b, inO (some ⟨g, 0, none⟩) b → inO o b ∨ w.heap.size ≤ b) ∧ Keeps (fun b => b = p ∨ inO o b) w w1) := ⟨hnew, hk⟩
  clear m1 hl hnew hk hc hlen
  go_wp2_with fail
  refine (len_ids _ _ _ _).mono ?_
  rintro e w2 ⟨rfl, hw⟩
  subst w2
  go_wp2_with fail
  refine HU.mono ?_
  rintro e w3 ⟨rfl, l, hl, hheap⟩
  go_wp2_with fail
  go_end0
  refine ⟨rfl, _, c', l, hl.at', hl.perm, hheap, HK.out.1, HK.out.2.then hl.keep (fun b hb => ?_)⟩
  rcases HK.out.1 b ⟨_, rfl, hb.symm⟩ with h | h
  · exact .inl (.inr h)
  · exact .inr h
structure DI (w : World) (p la g c : Nat) (fr : List Nat) (n : Nat) (wr : World) (l : List Nat) (I : Nat) : Prop where
  hl : HL w p la g c fr wr l
  dn : HDn l I n
  top : l.getD n 0 = fr.getD n 0
  lt : I ≤ n
theorem DI.same {w : World} {p la g c : Nat} {fr : List Nat} {n : Nat} {wr wr' : World} {l : List Nat} {I : Nat} (h : DI w p la g c fr n wr l I) (hk : Keeps no wr wr') : DI w p la g c fr n wr' l I := ⟨h.hl.same hk, h.dn, h.top, h.lt⟩
theorem DI.step {w : World} {p la g c : Nat} {fr : List Nat} {n : Nat} {wr wr' : World} {l : List Nat} {I J : Nat} (h : DI w p la g c fr n wr l I) (hn : n + 1 = fr.length) (hJ : Less2 l I J n) (hlt : l.getD J 0 < l.getD I 0) (ho : Own IE wr' (some ⟨g, 0, none⟩) c (swp l I J)) (hk : Keeps (fun b => b = g) wr wr') : DI w p la g c fr n wr' (swp l I J) J := by
  have hlen := h.hl.len
  have h1 := hJ.1
  have h2 := hJ.2.1
  refine ⟨h.hl.swap (by omega) (by omega) ho hk, hdn_step h.dn (by omega) hJ hlt, ?_, by omega⟩
  rw [swp_at l (by omega) (by omega), if_neg (by omega), if_neg (by omega)]
  exact h.top
def DT (w : World) (p la g c : Nat) (fr : List Nat) (n : Nat) (w' : World) : Prop := ∃ l, HL w p la g c fr w' l ∧ HeapN l n ∧ l.getD n 0 = fr.getD n 0
set_option maxRecDepth 10000 in
set_option maxHeartbeats 2000000 in
theorem down_any (w : World) (p la g c : Nat) (fr : List Nat) (n : Nat) (h : LineAt w ⟨p, la, some ⟨g, 0, none⟩, c, fr⟩) (hd : HDn fr 0 n) (hn : n + 1 = fr.length) (hb : fr.length ≤ 140737488355328) :
    Calls Tryz.prog 180 #[.iface 212 (.pointer (some ⟨p, 1, none⟩)), .int .i64 0, .int .i64 ((n : Nat) : Int)] w fun e w' => (∃ B, e = .returned (.bool B)) ∧ DT w p la g c fr n w' := by
  have HN : Hid (n + 1 = fr.length) := hn
  have hb' : (n : Int) + 1 ≤ 140737488355328 := by omega
  have H0 : Hid (DI w p la g c fr n w fr 0) := ⟨⟨h, List.Perm.refl _, Keeps.refl _ _⟩, hd, rfl, Nat.zero_le _⟩
  have e1 := enLess
  have e2 := enSwap
  clear h hd hn hb
  go_enter Tryz.func180, Tryz.ntmps180
  go_wp2_with fail
  go_loopw [7] (fun v wr => ∃ (I : Nat) (l : List Nat), v = .int .i64 (I : Int) ∧ (I : Int) ≤ n ∧ Hid (DI w p la g c fr n wr l I)) (fun v _ => n - (intOf v).toNat)
  case atStart => exact ⟨0, fr, rfl, by omega, H0⟩
  case round =>
    obtain ⟨I, l, rfl, hIn, HH⟩ := hrel
    have hc := HH.out.hl.cell (n := n + 1) HN.out
    have m1 := rLess hc
    have hless : ∀ X (i j : Nat), Keeps no wr X → i < n + 1 → j < n + 1 → Calls Tryz.prog 286 #[.slice (some ⟨g, 0, none⟩) (n + 1) c, .int .i64 ((i : Nat) : Int), .int .i64 ((j : Nat) : Int)] X fun e w' => e = .returned (.bool (decide (l.getD i 0 < l.getD j 0))) ∧ Keeps no X w' := fun X i j hX hi hj => less_ids X g (n + 1) c l (HH.out.hl.at'.own.keepsN hX) (by rw [HN.out, ← HH.out.hl.len]) (by omega) i j hi hj
    have HLs : Hid (∀ X (i j : Nat), Keeps no wr X → i < n + 1 → j < n + 1 → Calls Tryz.prog 286 #[.slice (some ⟨g, 0, none⟩) (n + 1) c, .int .i64 ((i : Nat) : Int), .int .i64 ((j : Nat) : Int)] X fun e w' => e = .returned (.bool (decide (l.getD i 0 < l.getD j 0))) ∧ Keeps no X w') := hless
    clear hless
    by_cases hA : 2 * I + 1 < n
    · have hA' : 2 * (I : Int) + 1 < n := by omega
      have hA2 : ¬ (n : Int) ≤ 2 * (I : Int) + 1 := by omega
      have hA3 : ¬ 2 * (I : Int) + 1 < 0 := by omega
      by_cases hB : 2 * I + 2 < n
      · have hB' : 2 * (I : Int) + 1 + 1 < n := by omega
        by_cases hlt1 : l.getD (2 * I + 2) 0 < l.getD (2 * I + 1) 0
        · have HJ : Hid (Less2 l I (2 * I + 2) n) := ⟨hB, .inr rfl, fun k hk hk2 => by rcases hk2 with rfl | rfl; exact Nat.le_of_lt hlt1; exact Nat.le_refl _⟩
          have qKA := HLs.out wr (2 * I + 2) (2 * I + 1) (Keeps.refl no wr) (by omega) (by omega)
          rw [show decide (l.getD (2 * I + 2) 0 < l.getD (2 * I + 1) 0) = true by simpa using hlt1] at qKA
          rw [show (((2 * I + 2) : Nat) : Int) = 2 * (I : Int) + 1 + 1 by omega, show (((2 * I + 1) : Nat) : Int) = 2 * (I : Int) + 1 by omega] at qKA
          go_wp2_with fail
          refine qKA.mono ?_
          rintro e w1 ⟨rfl, hkKA⟩
          have KA : Hid (Keeps no wr w1) := (show _ from ((Keeps.refl no wr)).trans hkKA)
          have hcKA := (HH.out.same KA.out).hl.cell (n := n + 1) HN.out
          clear qKA hkKA
          have m2 := rLess hcKA
          by_cases hlt : l.getD (2 * I + 2) 0 < l.getD I 0
          · have HLT : Hid (l.getD (2 * I + 2) 0 < l.getD I 0) := hlt
            have qKB := HLs.out w1 (2 * I + 2) I KA.out (by omega) (by omega)
            rw [show decide (l.getD (2 * I + 2) 0 < l.getD I 0) = true by simpa using hlt] at qKB
            rw [show (((2 * I + 2) : Nat) : Int) = 2 * (I : Int) + 1 + 1 by omega, show ((I : Nat) : Int) = (I : Int) by omega] at qKB
            go_wp2_with fail
            refine qKB.mono ?_
            rintro e w2 ⟨rfl, hkKB⟩
            have KB : Hid (Keeps no wr w2) := (show _ from (KA.out).trans hkKB)
            have hcKB := (HH.out.same KB.out).hl.cell (n := n + 1) HN.out
            clear qKB hkKB
            have m3 := rSwap hcKB
            clear hlt
            have qs := swap_ids w2 g (n + 1) c l (HH.out.same KB.out).hl.at'.own (by rw [HN.out, ← HH.out.hl.len]) (by omega) I (2 * I + 2) (by omega) (by omega)
            rw [show (((2 * I + 2) : Nat) : Int) = 2 * (I : Int) + 1 + 1 by omega] at qs
            go_wp2_with fail
            refine qs.mono ?_
            rintro e w3 ⟨rfl, ho3, hk3⟩
            have HD : Hid (DI w p la g c fr n w3 (swp l I (2 * I + 2)) (2 * I + 2)) := (HH.out.same KB.out).step HN.out HJ.out HLT.out ho3 hk3
            clear ho3 hk3 qs m3 hcKB
            go_wp2_with fail
            go_roundw
            case rel => exact ⟨(2 * I + 2), _, by go_num, by omega, HD⟩
            case measure => simp [intOf] <;> omega
          · have HE : Hid (HeapN l n) := hdn_done HH.out.dn HJ.out (by omega)
            have qKB := HLs.out w1 (2 * I + 2) I KA.out (by omega) (by omega)
            rw [show decide (l.getD (2 * I + 2) 0 < l.getD I 0) = false by simpa using hlt] at qKB
            rw [show (((2 * I + 2) : Nat) : Int) = 2 * (I : Int) + 1 + 1 by omega, show ((I : Nat) : Int) = (I : Int) by omega] at qKB
            go_wp2_with fail
            refine qKB.mono ?_
            rintro e w2 ⟨rfl, hkKB⟩
            have KB : Hid (Keeps no wr w2) := (show _ from (KA.out).trans hkKB)
            have hcKB := (HH.out.same KB.out).hl.cell (n := n + 1) HN.out
            clear qKB hkKB
            go_wp2_with fail
            go_ret
            exact ⟨⟨_, rfl⟩, l, (HH.out.same KB.out).hl, HE.out, HH.out.top⟩
        · have HJ : Hid (Less2 l I (2 * I + 1) n) := ⟨hA, .inl rfl, fun k hk hk2 => by rcases hk2 with rfl | rfl; exact Nat.le_refl _; omega⟩
          have qKA := HLs.out wr (2 * I + 2) (2 * I + 1) (Keeps.refl no wr) (by omega) (by omega)
          rw [show decide (l.getD (2 * I + 2) 0 < l.getD (2 * I + 1) 0) = false by simpa using hlt1] at qKA
          rw [show (((2 * I + 2) : Nat) : Int) = 2 * (I : Int) + 1 + 1 by omega, show (((2 * I + 1) : Nat) : Int) = 2 * (I : Int) + 1 by omega] at qKA
          go_wp2_with fail
          refine qKA.mono ?_
          rintro e w1 ⟨rfl, hkKA⟩
          have KA : Hid (Keeps no wr w1) := (show _ from ((Keeps.refl no wr)).trans hkKA)
          have hcKA := (HH.out.same KA.out).hl.cell (n := n + 1) HN.out
          clear qKA hkKA
          have m2 := rLess hcKA
          by_cases hlt : l.getD (2 * I + 1) 0 < l.getD I 0
          · have HLT : Hid (l.getD (2 * I + 1) 0 < l.getD I 0) := hlt
            have qKB := HLs.out w1 (2 * I + 1) I KA.out (by omega) (by omega)
            rw [show decide (l.getD (2 * I + 1) 0 < l.getD I 0) = true by simpa using hlt] at qKB
            rw [show (((2 * I + 1) : Nat) : Int) = 2 * (I : Int) + 1 by omega, show ((I : Nat) : Int) = (I : Int) by omega] at qKB
            go_wp2_with fail
            refine qKB.mono ?_
            rintro e w2 ⟨rfl, hkKB⟩
            have KB : Hid (Keeps no wr w2) := (show _ from (KA.out).trans hkKB)
            have hcKB := (HH.out.same KB.out).hl.cell (n := n + 1) HN.out
            clear qKB hkKB
            have m3 := rSwap hcKB
            clear hlt
            have qs := swap_ids w2 g (n + 1) c l (HH.out.same KB.out).hl.at'.own (by rw [HN.out, ← HH.out.hl.len]) (by omega) I (2 * I + 1) (by omega) (by omega)
            rw [show (((2 * I + 1) : Nat) : Int) = 2 * (I : Int) + 1 by omega] at qs
            go_wp2_with fail
            refine qs.mono ?_
            rintro e w3 ⟨rfl, ho3, hk3⟩
            have HD : Hid (DI w p la g c fr n w3 (swp l I (2 * I + 1)) (2 * I + 1)) := (HH.out.same KB.out).step HN.out HJ.out HLT.out ho3 hk3
            clear ho3 hk3 qs m3 hcKB
            go_wp2_with fail
            go_roundw
            case rel => exact ⟨(2 * I + 1), _, by go_num, by omega, HD⟩
            case measure => simp [intOf] <;> omega
          · have HE : Hid (HeapN l n) := hdn_done HH.out.dn HJ.out (by omega)
            have qKB := HLs.out w1 (2 * I + 1) I KA.out (by omega) (by omega)
            rw [show decide (l.getD (2 * I + 1) 0 < l.getD I 0) = false by simpa using hlt] at qKB
            rw [show (((2 * I + 1) : Nat) : Int) = 2 * (I : Int) + 1 by omega, show ((I : Nat) : Int) = (I : Int) by omega] at qKB
            go_wp2_with fail
            refine qKB.mono ?_
            rintro e w2 ⟨rfl, hkKB⟩
            have KB : Hid (Keeps no wr w2) := (show _ from (KA.out).trans hkKB)
            have hcKB := (HH.out.same KB.out).hl.cell (n := n + 1) HN.out
            clear qKB hkKB
            go_wp2_with fail
            go_ret
            exact ⟨⟨_, rfl⟩, l, (HH.out.same KB.out).hl, HE.out, HH.out.top⟩
      · have hB' : ¬ 2 * (I : Int) + 1 + 1 < n := by omega
        have HJ : Hid (Less2 l I (2 * I + 1) n) := ⟨hA, .inl rfl, fun k hk hk2 => by rcases hk2 with rfl | rfl; exact Nat.le_refl _; omega⟩
        by_cases hlt : l.getD (2 * I + 1) 0 < l.getD I 0
        · have HLT : Hid (l.getD (2 * I + 1) 0 < l.getD I 0) := hlt
          have qKB := HLs.out wr (2 * I + 1) I (Keeps.refl no wr) (by omega) (by omega)
          rw [show decide (l.getD (2 * I + 1) 0 < l.getD I 0) = true by simpa using hlt] at qKB
          rw [show (((2 * I + 1) : Nat) : Int) = 2 * (I : Int) + 1 by omega, show ((I : Nat) : Int) = (I : Int) by omega] at qKB
          go_wp2_with fail
          refine qKB.mono ?_
          rintro e w2 ⟨rfl, hkKB⟩
          have KB : Hid (Keeps no wr w2) := (show _ from ((Keeps.refl no wr)).trans hkKB)
          have hcKB := (HH.out.same KB.out).hl.cell (n := n + 1) HN.out
          clear qKB hkKB
          have m3 := rSwap hcKB
          clear hlt
          have qs := swap_ids w2 g (n + 1) c l (HH.out.same KB.out).hl.at'.own (by rw [HN.out, ← HH.out.hl.len]) (by omega) I (2 * I + 1) (by omega) (by omega)
          rw [show (((2 * I + 1) : Nat) : Int) = 2 * (I : Int) + 1 by omega] at qs
          go_wp2_with fail
          refine qs.mono ?_
          rintro e w3 ⟨rfl, ho3, hk3⟩
          have HD : Hid (DI w p la g c fr n w3 (swp l I (2 * I + 1)) (2 * I + 1)) := (HH.out.same KB.out).step HN.out HJ.out HLT.out ho3 hk3
          clear ho3 hk3 qs m3 hcKB
          go_wp2_with fail
          go_roundw
          case rel => exact ⟨(2 * I + 1), _, by go_num, by omega, HD⟩
          case measure => simp [intOf] <;> omega
        · have HE : Hid (HeapN l n) := hdn_done HH.out.dn HJ.out (by omega)
          have qKB := HLs.out wr (2 * I + 1) I (Keeps.refl no wr) (by omega) (by omega)
          rw [show decide (l.getD (2 * I + 1) 0 < l.getD I 0) = false by simpa using hlt] at qKB
          rw [show (((2 * I + 1) : Nat) : Int) = 2 * (I : Int) + 1 by omega, show ((I : Nat) : Int) = (I : Int) by omega] at qKB
          go_wp2_with fail
          refine qKB.mono ?_
          rintro e w2 ⟨rfl, hkKB⟩
          have KB : Hid (Keeps no wr w2) := (show _ from ((Keeps.refl no wr)).trans hkKB)
          have hcKB := (HH.out.same KB.out).hl.cell (n := n + 1) HN.out
          clear qKB hkKB
          go_wp2_with fail
          go_ret
          exact ⟨⟨_, rfl⟩, l, (HH.out.same KB.out).hl, HE.out, HH.out.top⟩
    · have hA2 : (n : Int) ≤ 2 * (I : Int) + 1 := by omega
      have HE : Hid (DT w p la g c fr n wr) := ⟨l, HH.out.hl, hdn_leaf HH.out.dn (by omega), HH.out.top⟩
      clear HLs
      go_wp2_with fail
      go_ret
      exact ⟨⟨_, rfl⟩, HE.out⟩
set_option maxRecDepth 10000 in
theorem hpop_any (w : World) (x : Ln) (h : LineAt w x) (hh : Heap x.fr) (hl : 0 < x.fr.length) (hb : x.fr.length ≤ 2000000000000) :
    Calls Tryz.prog 140 #[.iface 212 (.pointer (some ⟨x.p, 1, none⟩))] w fun e w' => e = .returned (.iface 43 (.int .u64 ((x.fr.getD 0 0 : Nat) : Int))) ∧ ∃ l, LineAt w' (x.with x.o x.c l) ∧ (x.fr.getD 0 0 :: l).Perm x.fr ∧ Heap l ∧ Keeps (fun b => b = x.p ∨ inO x.o b) w w' := by
  obtain ⟨p, la, o, c, fr⟩ := x
  simp only [Ln.with] at *
  obtain ⟨g, rfl⟩ := h.own.g0 hl
  obtain ⟨n, hn⟩ : ∃ n, n + 1 = fr.length := ⟨fr.length - 1, by omega⟩
  have hc : w.cell? ⟨p, 1, none⟩ = some (.slice (some ⟨g, 0, none⟩) (n + 1) c) := by rw [hn]; exact cell_of_blk h.blk 1
  have m1 := rLen hc
  have m2 := rSwap hc
  have e1 := enPop
  have e2 := enLen
  have e3 := enSwap
  have hnb : (n : Int) + 1 ≤ 2000000000000 := by omega
  have H0 : Hid (HL w p la g c fr w fr ∧ Heap fr ∧ n + 1 = fr.length) := ⟨⟨h, List.Perm.refl _, Keeps.refl _ _⟩, hh, hn⟩
  have HS := swap_ids w g (n + 1) c fr h.own hn (by omega) 0 n (by omega) (by omega)
  clear h hl hb hn hh
  go_enter Tryz.func140, Tryz.ntmps140
  go_wp2_with fail
  refine (len_ids _ _ _ _).mono ?_
  rintro e w1 ⟨rfl, hw⟩
  subst w1
  go_wp2_with fail
  refine HS.mono ?_
  rintro e w1 ⟨rfl, ho1, hk1⟩
  have hfl := H0.out.2.2
  have H1 : Hid (HL w p la g c fr w1 (swp fr 0 n)) := H0.out.1.swap (by omega) (by omega) ho1 hk1
  have HD := down_any w1 p la g c (swp fr 0 n) n H1.out.at' (hdn_start H0.out.2.1 H0.out.2.2) (by rw [swp_length]; exact H0.out.2.2) (by rw [swp_length]; omega)
  clear hc m1 m2 HS ho1 hk1 hfl
  go_wp2_with fail
  refine HD.mono ?_
  rintro e w2 ⟨⟨B, rfl⟩, l, hl2, hh2, ht2⟩
  have hlen : l.length = n + 1 := by rw [hl2.len, swp_length]; exact H0.out.2.2.symm
  have HP := pop_ids w2 ⟨p, la, some ⟨g, 0, none⟩, c, l⟩ hl2.at' (by show 0 < l.length; omega) (by show l.length ≤ _; omega)
  simp only [Ln.with, hlen, Nat.add_sub_cancel] at HP
  have hfl := H0.out.2.2
  have hz : l.getD n 0 = fr.getD 0 0 := by rw [ht2, swp_at fr (by omega) (by omega), if_pos rfl]
  rw [hz] at HP
  have H2 : Hid ((fr.getD 0 0 :: l.take n).Perm fr ∧ Heap (l.take n) ∧ Keeps (fun b => b = g) w w2) := by
    refine ⟨?_, heap_take hh2 (by omega), H1.out.keep.trans hl2.keep⟩
    have e : l.take n ++ [fr.getD 0 0] = l := by
      have := List.take_append_drop n l
      rw [← hz]
      have hd : l.drop n = [l.getD n 0] := by
        rw [List.drop_eq_getElem_cons (by omega), List.drop_of_length_le (by omega)]
        simp [List.getD_eq_getElem?_getD, show n < l.length by omega]
      rw [← hd, this]
    have hp : (fr.getD 0 0 :: l.take n).Perm l := by
      conv => rhs; rw [← e]
      exact (List.perm_append_singleton _ _).symm
    exact hp.trans (hl2.perm.trans H1.out.perm)
  have m3 := rPop (.pointer (some ⟨p, 1, none⟩)) w2
  clear hl2 hh2 ht2 hlen hfl hz HD H1
  go_wp2_with fail
  refine HP.mono ?_
  rintro e w3 ⟨rfl, hl3, hk3⟩
  go_wp2_with fail
  go_ret
  refine ⟨rfl, l.take n, hl3, H2.out.1, H2.out.2.1, ?_⟩
  exact (H2.out.2.2.mono (fun b hb => .inr ⟨_, rfl, hb.symm⟩)).trans (hk3.mono (fun b hb => .inl hb))
end Go.Proofs.YtdemoghlibnooaaGreatDoor
namespace Go.Proofs.YtdemoghlibnooaaGreatDoor
open Go.RowKit Go.Sort Orl
set_option linter.unusedVariables false
set_option linter.unusedSimpArgs false
theorem and_low (x : Int) (h0 : 0 ≤ x) (h1 : x ≤ 18446744073709551615) : bits .and .u64 x 65535 = x % 65536 := by
  rw [u64_and _ _ h0 (by omega) (by decide) (by decide)]
  show ((x.toNat &&& 65535 : Nat) : Int) = _
  rw [show x.toNat &&& 65535 = x.toNat % 65536 from Nat.and_two_pow_sub_one_eq_mod _ 16]
  omega
theorem isSeq_yes (w : World) (s : Int) (h1 : 1 ≤ s) (h2 : s ≤ 281474976710655) : Calls Tryz.prog 176 #[.int .u64 s] w fun e w' => e = .returned (.bool true) ∧ w' = w := by
  go_enter Tryz.func176, Tryz.ntmps176
  go_wp2
  go_ret
  exact ⟨rfl, rfl⟩
theorem isSeq_zero (w : World) : Calls Tryz.prog 176 #[.int .u64 0] w fun e w' => e = .returned (.bool false) ∧ w' = w := by
  go_enter Tryz.func176, Tryz.ntmps176
  go_wp2
  go_ret
  exact ⟨rfl, rfl⟩
theorem isWrite_any (w : World) (i : Nat) (hi : i < 18446744073709551616) : Calls Tryz.prog 88 #[.int .u64 ((i : Nat) : Int)] w fun e w' => e = .returned (.bool (decide (65536 ≤ i))) ∧ w' = w := by
  by_cases h : 65536 ≤ i
  · have hS : Calls Tryz.prog 131 #[.int .u64 ((i : Nat) : Int)] w fun e w' => e = .returned (.tuple #[.int .u64 ((i : Int) / 65536), .int .i64 ((i : Int) % 65536), .int .i64 0]) ∧ w' = w := by
      have hand := and_low i (by omega) (by omega)
      have h1 : (i : Int) ≤ 18446744073709551615 := by omega
      go_enter Tryz.func131, Tryz.ntmps131
      go_wp2_with fail
      refine (isSeq_yes w ((i : Int) / 65536) (by omega) (by omega)).mono ?_
      rintro e w1 ⟨rfl, rfl⟩
      go_wp2
      go_ret3
      exact ⟨rfl, rfl⟩
    have hd : decide (65536 ≤ i) = true := by simp [h]
    rw [hd]
    clear hd
    go_enter Tryz.func88, Tryz.ntmps88
    go_wp2_with fail
    refine hS.mono ?_
    rintro e w1 ⟨rfl, rfl⟩
    go_wp2
    go_ret
    exact ⟨rfl, rfl⟩
  · have hS : Calls Tryz.prog 131 #[.int .u64 ((i : Nat) : Int)] w fun e w' => e = .returned (.tuple #[.int .u64 0, .int .i64 0, .int .i64 1]) ∧ w' = w := by
      have hdd : (i : Int) / 65536 = 0 := by omega
      have h1 : (i : Int) ≤ 18446744073709551615 := by omega
      go_enter Tryz.func131, Tryz.ntmps131
      go_wp2_with fail
      refine (isSeq_zero w).mono ?_
      rintro e w1 ⟨rfl, rfl⟩
      go_wp2
      go_ret3
      exact ⟨rfl, rfl⟩
    have hd : decide (65536 ≤ i) = false := by simp [h]
    rw [hd]
    clear hd
    go_enter Tryz.func88, Tryz.ntmps88
    go_wp2_with fail
    refine hS.mono ?_
    rintro e w1 ⟨rfl, rfl⟩
    go_wp2
    go_ret
    exact ⟨rfl, rfl⟩
def tickB (t : Int) : Bool := decide (0 ≤ t ∧ t ≤ 1099511627776)
theorem isTick_any (w : World) (t : Int) : Calls Tryz.prog 91 #[.int .i64 t] w fun e w' => e = .returned (.bool (tickB t)) ∧ w' = w := by
  by_cases h : 0 ≤ t
  · by_cases h2 : t ≤ 1099511627776
    · have hd : tickB t = true := by simp [tickB, h, h2]
      rw [hd]
      go_enter Tryz.func91, Tryz.ntmps91
      go_wp2
      go_ret
      exact ⟨rfl, rfl⟩
    · have hd : tickB t = false := by simp [tickB]; intro; omega
      rw [hd]
      go_enter Tryz.func91, Tryz.ntmps91
      go_wp2
      go_ret
      exact ⟨rfl, rfl⟩
  · have hd : tickB t = false := by simp [tickB]; omega
    rw [hd]
    go_enter Tryz.func91, Tryz.ntmps91
    go_wp2
    go_ret
    exact ⟨rfl, rfl⟩
def cmpT (x y : Tx) : Int := if lts x y then -1 else if lts y x then 1 else 0
theorem compare_list : ∀ a b : List UInt8, Lib.compareBytes a b = if decide (a < b) then -1 else if decide (b < a) then 1 else 0
  | [], [] => by simp [Lib.compareBytes]
  | [], b :: bs => by simp [Lib.compareBytes]
  | a :: r, [] => by simp [Lib.compareBytes]
  | a :: r, b :: bs => by
    have ih := compare_list r bs
    unfold Lib.compareBytes
    simp only [List.cons_lt_cons_iff, decide_eq_true_eq] at ih ⊢
    by_cases h1 : a < b
    · simp [h1]
    · by_cases h2 : b < a
      · have : ¬ a = b := fun e => by subst e; exact absurd h2 (by simp)
        simp [h1, h2, this]
      · have e : a = b := by
          have a1 : ¬ a.toNat < b.toNat := fun h => h1 h
          have a2 : ¬ b.toNat < a.toNat := fun h => h2 h
          exact UInt8.toNat_inj.1 (by omega)
        subst e
        simp [ih]
theorem compare_eq (x y : Tx) : Lib.compareBytes x.data.toList y.data.toList = cmpT x y := by
  rw [compare_list, ← lts_eq, ← lts_eq]; rfl
theorem compare_any (x y : Tx) (w : World) : Calls Tryz.prog 119 #[.string x, .string y] w fun e w' => e = .returned (.int .i64 (cmpT x y)) ∧ w' = w := by
  have h := Any.strings_Compare Tryz.laysCompare x y w
  rw [compare_eq] at h
  exact h
theorem cmpT_lt {x y : Tx} (h : lts x y = true) : cmpT x y = -1 := by simp [cmpT, h]
theorem cmpT_ge {x y : Tx} (h : lts x y = false) : 0 ≤ cmpT x y := by simp [cmpT, h]; split <;> omega
theorem search_pos (xs : List Tx) (s : Tx) (hi : Inc lts xs) :
    ∃ k, Lib.bsGo (fun t => Op.bytesLess ((if t < xs.length then xs.getD t e0 else s) : Tx).toList s.toList) xs.length 0 xs.length = k ∧ decide (k < xs.length ∧ (if k < xs.length then xs.getD k e0 else s) = s) = inn xs s := by
  have key : ∃ k, k ≤ xs.length ∧ (∀ t, t < k → lts (xs.getD t e0) s = true) ∧ (∀ t, k ≤ t → t < xs.length → lts (xs.getD t e0) s = false) := by
    have : ∀ (m : Nat), m ≤ xs.length → ∃ k, k ≤ m ∧ (∀ t, t < k → lts (xs.getD t e0) s = true) ∧ (∀ t, k ≤ t → t < m → lts (xs.getD t e0) s = false) := by
      intro m
      induction m with
      | zero => intro _; exact ⟨0, Nat.le_refl _, fun t h => by omega, fun t _ h => by omega⟩
      | succ m ih =>
        intro hm
        cases e : lts (xs.getD m e0) s
        · obtain ⟨k, hk, h1, h2⟩ := ih (by omega)
          refine ⟨k, by omega, h1, fun t ht htm => ?_⟩
          by_cases h : t = m
          · subst h; exact e
          · exact h2 t ht (by omega)
        · refine ⟨m + 1, Nat.le_refl _, fun t ht => ?_, fun t h1 h2 => by omega⟩
          by_cases h : t = m
          · subst h; exact e
          · exact swoT.trans _ _ _ (inc_getD hi e0 (i := t) (j := m) (by omega) (by omega)) e
    exact this xs.length (Nat.le_refl _)
  obtain ⟨k, hk, h1, h2⟩ := key
  have hb : Lib.bsGo (fun t => Op.bytesLess ((if t < xs.length then xs.getD t e0 else s) : Tx).toList s.toList) xs.length 0 xs.length = k := by
    refine Lib.bsGo_spec _ k (fun t ht => ?_) (fun t ht => ?_) _ _ _ (by omega) (by omega) hk
    · show lts (if t < xs.length then xs.getD t e0 else s) s = true
      rw [if_pos (by omega)]; exact h1 t ht
    · show lts (if t < xs.length then xs.getD t e0 else s) s = false
      split
      · exact h2 t ht (by assumption)
      · exact swoT.irrefl _
  refine ⟨k, hb, ?_⟩
  by_cases hm : s ∈ xs
  · rw [(inn_iff xs s).2 hm]
    obtain ⟨j, hj, rfl⟩ := List.getElem_of_mem hm
    have hjd : xs[j] = xs.getD j e0 := by simp [hj]
    have : k = j := by
      have a1 : ¬ j < k := fun h => by
        have := h1 j h; rw [← hjd, swoT.irrefl] at this; cases this
      have a2 : ¬ k < j := fun h => by
        have := h2 k (Nat.le_refl _) (by omega)
        rw [hjd, inc_getD hi e0 h hj] at this; cases this
      omega
    subst this
    rw [decide_eq_true_eq, if_pos hj]
    exact ⟨hj, hjd.symm⟩
  · rw [inn_no hm, decide_eq_false_iff_not]
    rintro ⟨h3, h4⟩
    rw [if_pos h3] at h4
    exact hm (by rw [← h4]; exact getD_mem_lt e0 h3)
theorem search_any (w : World) (a : Option Addr) (n c : Nat) (xs : List Tx) (s : Tx) (hn : n = xs.length) (hl : xs.length ≤ 140737488355328) (hs : Sl TE w a c xs) (hi : Inc lts xs) :
    Calls Tryz.prog 137 #[.slice a n c, .string s] w fun e w' => ∃ i : Nat, e = .returned (.tuple #[.int .i64 ((i : Nat) : Int), .bool (inn xs s)]) ∧ Hid (s ∈ xs → i < xs.length ∧ xs.getD i e0 = s) ∧ Keeps no w w' := by
  subst hn
  rcases hs.row with e | ⟨b, off, rfl, hc⟩
  · subst e
    have hcon := Any2.slices_BinarySearch_string_empty Tryz.laysSearch a c s w
    change Calls Tryz.prog 137 _ _ _ at hcon
    refine hcon.mono ?_
    rintro e w' ⟨rfl, rfl⟩
    exact ⟨0, rfl, fun h => absurd h (by simp), Keeps.refl _ _⟩
  · obtain ⟨k, hb, hd⟩ := search_pos xs s hi
    have hcon := Any2.slices_BinarySearch_string Tryz.laysSearch b off xs.length c (fun t => if t < xs.length then xs.getD t e0 else s) s w (by omega) (fun j hj => by
      obtain ⟨b', off', e, h⟩ := hs.at hj
      cases e
      rw [if_pos hj]
      exact h)
    rw [hb, hd] at hcon
    change Calls Tryz.prog 137 _ _ _ at hcon
    refine hcon.mono ?_
    rintro e w' ⟨rfl, q, rfl⟩
    refine ⟨k, rfl, fun hm => ?_, (Keeps.refl _ _).drewN _⟩
    rw [(inn_iff xs s).2 hm, decide_eq_true_eq] at hd
    obtain ⟨h1, h2⟩ := hd
    rw [if_pos h1] at h2
    exact ⟨h1, h2⟩
theorem among_any (w : World) (a : Option Addr) (n c : Nat) (xs : List Tx) (s : Tx) (hn : n = xs.length) (hl : xs.length ≤ 140737488355328) (hs : Sl TE w a c xs) (hi : Inc lts xs) :
    Calls Tryz.prog 133 #[.string s, .slice a n c] w fun e w' => e = .returned (.bool (inn xs s)) ∧ Keeps no w w' := by
  have hc := search_any w a n c xs s hn hl hs hi
  clear hn hl hi
  generalize inn xs s = B at hc ⊢
  go_enter Tryz.func133, Tryz.ntmps133
  go_wp2_with fail
  refine hc.mono ?_
  rintro e w1 ⟨i, rfl, _, hk⟩
  go_wp2
  go_ret
  exact ⟨rfl, hk⟩
theorem compareK (x y : Tx) (w : World) : Calls Tryz.prog 119 #[.string x, .string y] w fun e w' => e = .returned (.int .i64 (cmpT x y)) ∧ Keeps no w w' :=
  (compare_any x y w).mono fun e w' ⟨h1, h2⟩ => ⟨h1, by rw [h2]; exact Keeps.refl _ _⟩
set_option maxRecDepth 10000 in
theorem risingT_any (w : World) (a : Option Addr) (n c : Nat) (xs : List Tx) (hn : n = xs.length) (hl : xs.length ≤ 140737488355328) (hs : Sl TE w a c xs) :
    Calls Tryz.prog 132 #[.slice a n c, .func (.func 119) #[] #[]] w fun e w' => e = .returned (.bool (rising lts xs)) ∧ Keeps no w w' := by
  have HA : Hid (n = xs.length) := hn
  have hA : (n : Int) ≤ 140737488355328 := by omega
  clear hn hl
  obtain ⟨R, hR⟩ : ∃ R, rising lts xs = R := ⟨_, rfl⟩
  have HR : Hid (rising lts xs = R) := hR
  rw [hR]
  clear hR
  have HS : Hid (Sl TE w a c xs) := hs
  clear hs
  go_enter Tryz.func132, Tryz.ntmps132
  go_wp2_with fail
  go_loopw [5] (fun i wr => ∃ k : Nat, k ≤ n ∧ i = .int .i64 ((k : Int) + 1) ∧ Hid (Keeps no w wr) ∧ Hid (∀ j, j < k → j + 1 < xs.length → lts (xs.getD j e0) (xs.getD (j + 1) e0) = true)) (fun i _ => n + 1 - (intOf i).toNat)
  case atStart => exact ⟨0, by omega, rfl, Keeps.refl _ _, fun j hj => absurd hj (Nat.not_lt_zero _)⟩
  case round =>
    obtain ⟨k, hk, rfl, HK, HT⟩ := hrel
    by_cases h2 : k + 1 < n
    · have hka : k + 1 < xs.length := by have := HA.out; omega
      obtain ⟨b1, off1, rfl, d1⟩ := (HS.out.keepsN HK.out).at (j := k) (by omega)
      obtain ⟨b2, off2, e2, d2⟩ := (HS.out.keepsN HK.out).at hka
      cases e2
      obtain ⟨x, hx⟩ : ∃ x, x = xs.getD k e0 := ⟨_, rfl⟩
      obtain ⟨y, hy⟩ : ∃ y, y = xs.getD (k + 1) e0 := ⟨_, rfl⟩
      rw [← hx] at d1
      rw [← hy] at d2
      have HX : Hid (x = xs.getD k e0) := hx
      have HY : Hid (y = xs.getD (k + 1) e0) := hy
      clear hx hy hka
      have h3 : (k : Int) + 1 < n := by omega
      have h4 : (k : Int) < n := by omega
      have hwk : IntKind.i64.wrap (k : Int) = (k : Int) := by rw [IntKind.wrap_i64]; omega
      have z1 := cell_regrown d1
      have z2 := cell_regrown d2
      have hq := fun W => compareK x y W
      cases hxy : lts x y
      · have hge := cmpT_ge hxy
        generalize cmpT x y = C at hq hge
        have cS := call_grown (W := wr) (fun X hX => hq X)
        clear hq
        go_wp2_with fail
        refine wp_region_quiet_below (by kernel_rfl) (by kernel_rfl) ?_
        repeat (go_big_quiet_step (exact cS _ _))
        refine wpQuiet_nil ?_
        intro _ hw'
        obtain ⟨⟨dq, osq⟩, rfl⟩ := hw'
        have K1 : Hid (Keeps no w (Sort.grow (redrawn wr dq) osq)) := HK.out.trans (keeps_grownQ ..)
        generalize Sort.grow (redrawn wr dq) osq = u1 at K1 ⊢
        clear d1 d2 z1 z2 cS
        go_wp2_with fail
        go_ret
        refine ⟨?_, K1.out⟩
        have hf := rising_fail (lt := lts) e0 xs k (by have := HA.out; omega) (by rw [← HX.out, ← HY.out]; exact hxy)
        rw [← HR.out, hf]; rfl
      · have hge := cmpT_lt hxy
        rw [hge] at hq
        have cS := call_grown (W := wr) (fun X hX => hq X)
        clear hq hge
        go_wp2_with fail
        refine wp_region_quiet_below (by kernel_rfl) (by kernel_rfl) ?_
        repeat (go_big_quiet_step (exact cS _ _))
        refine wpQuiet_nil ?_
        intro _ hw'
        obtain ⟨⟨dq, osq⟩, rfl⟩ := hw'
        have K1 : Hid (Keeps no w (Sort.grow (redrawn wr dq) osq)) := HK.out.trans (keeps_grownQ ..)
        generalize Sort.grow (redrawn wr dq) osq = u1 at K1 ⊢
        clear d1 d2 z1 z2 cS
        go_wp2_with fail
        go_roundw
        case rel =>
          refine ⟨k + 1, by omega, by go_num, K1, fun j hj hj2 => ?_⟩
          by_cases e : j = k
          · subst e; rw [← HX.out, ← HY.out]; exact hxy
          · exact HT.out j (by omega) hj2
        case measure => simp [intOf]; omega
    · have h3 : ¬ (k : Int) + 1 < n := by omega
      go_wp2_with fail
      go_ret
      refine ⟨?_, HK.out⟩
      have hf := rising_of_all (lt := lts) e0 xs (fun i hi => HT.out i (by have := HA.out; omega) hi)
      rw [← HR.out, hf]; rfl
end Go.Proofs.YtdemoghlibnooaaGreatDoor
namespace Go.Proofs.YtdemoghlibnooaaGreatDoor
open Go.RowKit Go.Sort Orl
set_option linter.unusedVariables false
set_option linter.unusedSimpArgs false
def ltp (p q : Pr) : Bool := lts p.1 q.1
theorem arePairs1_any (x y : Pr) (W : World) : Calls Tryz.prog 135 #[.agg #[.string x.1, .string x.2], .agg #[.string y.1, .string y.2]] W fun e w' => e = .returned (.int .i64 (cmpT x.1 y.1)) ∧ Keeps no W w' := by
  obtain ⟨x1, x2⟩ := x
  obtain ⟨y1, y2⟩ := y
  have hcon := fun W' => compare_any x1 y1 W'
  simp only
  generalize cmpT x1 y1 = r at hcon ⊢
  go_enter Tryz.func135, Tryz.ntmps135
  go_wp2_with (go_at_call 119; refine (hcon _).mono ?_; rintro e w' ⟨rfl, rfl⟩)
  go_ret
  exact ⟨rfl, ((Keeps.refl _ _).alloc _).alloc _⟩
set_option maxRecDepth 10000 in
theorem risingP_any (w : World) (a : Option Addr) (n c : Nat) (xs : List Pr) (hn : n = xs.length) (hl : xs.length ≤ 140737488355328) (hs : Sl PE w a c xs) :
    Calls Tryz.prog 134 #[.slice a n c, .func (.func 135) #[] #[]] w fun e w' => e = .returned (.bool (rising ltp xs)) ∧ Keeps no w w' := by
  have HA : Hid (n = xs.length) := hn
  have hA : (n : Int) ≤ 140737488355328 := by omega
  clear hn hl
  obtain ⟨R, hR⟩ : ∃ R, rising ltp xs = R := ⟨_, rfl⟩
  have HR : Hid (rising ltp xs = R) := hR
  rw [hR]
  clear hR
  have HS : Hid (Sl PE w a c xs) := hs
  clear hs
  go_enter Tryz.func134, Tryz.ntmps134
  go_wp2_with fail
  go_loopw [5] (fun i wr => ∃ k : Nat, k ≤ n ∧ i = .int .i64 ((k : Int) + 1) ∧ Hid (Keeps no w wr) ∧ Hid (∀ j, j < k → j + 1 < xs.length → ltp (xs.getD j p0) (xs.getD (j + 1) p0) = true)) (fun i _ => n + 1 - (intOf i).toNat)
  case atStart => exact ⟨0, by omega, rfl, Keeps.refl _ _, fun j hj => absurd hj (Nat.not_lt_zero _)⟩
  case round =>
    obtain ⟨k, hk, rfl, HK, HT⟩ := hrel
    by_cases h2 : k + 1 < n
    · have hka : k + 1 < xs.length := by have := HA.out; omega
      obtain ⟨b1, off1, rfl, d1, d1'⟩ := (HS.out.keepsN HK.out).atP (j := k) (by omega)
      obtain ⟨b2, off2, e2, d2, d2'⟩ := (HS.out.keepsN HK.out).atP hka
      cases e2
      obtain ⟨x, hx⟩ : ∃ x, x = xs.getD k p0 := ⟨_, rfl⟩
      obtain ⟨y, hy⟩ : ∃ y, y = xs.getD (k + 1) p0 := ⟨_, rfl⟩
      rw [← hx] at d1 d1'
      rw [← hy] at d2 d2'
      have HX : Hid (x = xs.getD k p0) := hx
      have HY : Hid (y = xs.getD (k + 1) p0) := hy
      clear hx hy hka
      have h3 : (k : Int) + 1 < n := by omega
      have h4 : (k : Int) < n := by omega
      have hwk : IntKind.i64.wrap (k : Int) = (k : Int) := by rw [IntKind.wrap_i64]; omega
      have z1 := cell_regrown d1
      have z1' := cell_regrown d1'
      have z2 := cell_regrown d2
      have z2' := cell_regrown d2'
      have hq := fun W => arePairs1_any x y W
      cases hxy : ltp x y
      · have hge := cmpT_ge hxy
        generalize cmpT x.1 y.1 = C at hq hge
        have cS := call_grown (W := wr) (fun X hX => hq X)
        clear hq
        go_wp2_with fail
        refine wp_region_quiet_below (by kernel_rfl) (by kernel_rfl) ?_
        repeat (go_big_quiet_step (exact cS _ _))
        refine wpQuiet_nil ?_
        intro _ hw'
        obtain ⟨⟨dq, osq⟩, rfl⟩ := hw'
        have K1 : Hid (Keeps no w (Sort.grow (redrawn wr dq) osq)) := HK.out.trans (keeps_grownQ ..)
        generalize Sort.grow (redrawn wr dq) osq = u1 at K1 ⊢
        clear d1 d1' d2 d2' z1 z1' z2 z2' cS
        go_wp2_with fail
        go_ret
        refine ⟨?_, K1.out⟩
        have hf := rising_fail (lt := ltp) p0 xs k (by have := HA.out; omega) (by rw [← HX.out, ← HY.out]; exact hxy)
        rw [← HR.out, hf]; rfl
      · have hge := cmpT_lt hxy
        rw [hge] at hq
        have cS := call_grown (W := wr) (fun X hX => hq X)
        clear hq hge
        go_wp2_with fail
        refine wp_region_quiet_below (by kernel_rfl) (by kernel_rfl) ?_
        repeat (go_big_quiet_step (exact cS _ _))
        refine wpQuiet_nil ?_
        intro _ hw'
        obtain ⟨⟨dq, osq⟩, rfl⟩ := hw'
        have K1 : Hid (Keeps no w (Sort.grow (redrawn wr dq) osq)) := HK.out.trans (keeps_grownQ ..)
        generalize Sort.grow (redrawn wr dq) osq = u1 at K1 ⊢
        clear d1 d1' d2 d2' z1 z1' z2 z2' cS
        go_wp2_with fail
        go_roundw
        case rel =>
          refine ⟨k + 1, by omega, by go_num, K1, fun j hj hj2 => ?_⟩
          by_cases e : j = k
          · subst e; rw [← HX.out, ← HY.out]; exact hxy
          · exact HT.out j (by omega) hj2
        case measure => simp [intOf]; omega
    · have h3 : ¬ (k : Int) + 1 < n := by omega
      go_wp2_with fail
      go_ret
      refine ⟨?_, HK.out⟩
      have hf := rising_of_all (lt := ltp) p0 xs (fun i hi => HT.out i (by have := HA.out; omega) hi)
      rw [← HR.out, hf]; rfl
def okKeys (l : List Tx) : Bool := decide (1 ≤ l.length ∧ l.length ≤ 1024) && (l.all fun k => decide (k.size ≤ 65535)) && rising lts l
theorem okKeys_iff {l : List Tx} : okKeys l = true ↔ (1 ≤ l.length ∧ l.length ≤ 1024) ∧ (∀ k ∈ l, k.size ≤ 65535) ∧ Inc lts l := by
  unfold okKeys
  simp only [Bool.and_eq_true, decide_eq_true_eq, List.all_eq_true, rising_iff swoT]
  constructor
  · rintro ⟨⟨h1, h2⟩, h3⟩; exact ⟨h1, h2, h3⟩
  · rintro ⟨h1, h2, h3⟩; exact ⟨⟨h1, h2⟩, h3⟩
set_option maxRecDepth 10000 in
theorem areKeys_any (w : World) (a : Option Addr) (n c : Nat) (xs : List Tx) (hn : n = xs.length) (hl : xs.length ≤ 140737488355328) (hs : Sl TE w a c xs) :
    Calls Tryz.prog 89 #[.slice a n c] w fun e w' => e = .returned (.bool (okKeys xs)) ∧ Keeps no w w' := by
  have HA : Hid (n = xs.length) := hn
  have hA : (n : Int) ≤ 140737488355328 := by omega
  have HL : Hid (xs.length ≤ 140737488355328) := hl
  obtain ⟨R, hR⟩ : ∃ R, okKeys xs = R := ⟨_, rfl⟩
  have HR : Hid (okKeys xs = R) := hR
  rw [hR]
  clear hR hn hl
  by_cases h0 : n = 0
  · subst h0
    go_enter Tryz.func89, Tryz.ntmps89
    go_wp2
    go_ret
    refine ⟨?_, Keeps.refl _ _⟩
    rw [← HR.out]
    have := HA.out
    simp [okKeys, ← this]
  by_cases h1 : 1024 < n
  · have h1' : (1024 : Int) < n := by omega
    have h0' : ((n : Int) == 0) = false := by simp; omega
    go_enter Tryz.func89, Tryz.ntmps89
    go_wp2
    go_ret
    refine ⟨?_, Keeps.refl _ _⟩
    rw [← HR.out]
    have := HA.out
    have h2 : ¬ xs.length ≤ 1024 := by omega
    simp [okKeys, h2]
  have h1' : ¬ (1024 : Int) < n := by omega
  have h0' : ((n : Int) == 0) = false := by simp; omega
  have h01 : 0 < n := by omega
  clear h0
  go_enter Tryz.func89, Tryz.ntmps89
  go_wp2_with fail
  go_loopw [15] (fun i wr => ∃ k : Nat, k ≤ n ∧ i = .int .i64 (k : Int) ∧ wr = w ∧ Hid (∀ j, j < k → (xs.getD j e0).size ≤ 65535)) (fun i _ => n - (intOf i).toNat)
  case atStart => exact ⟨0, by omega, rfl, rfl, fun j hj => absurd hj (Nat.not_lt_zero _)⟩
  case round =>
    obtain ⟨k, hk, rfl, hw, HT⟩ := hrel
    subst wr
    by_cases h2 : k < n
    · have hka : k < xs.length := by have := HA.out; omega
      obtain ⟨b1, off1, rfl, d1⟩ := hs.at hka
      obtain ⟨x, hx⟩ : ∃ x, x = xs.getD k e0 := ⟨_, rfl⟩
      rw [← hx] at d1
      have HX : Hid (x = xs.getD k e0) := hx
      clear hx hka
      have h3 : (k : Int) < n := by omega
      by_cases hx : x.size ≤ 65535
      · have hx' : ¬ (65535 : Int) < x.size := by omega
        go_wp2_with fail
        go_roundw
        case rel =>
          refine ⟨k + 1, by omega, by go_num, trivial, fun j hj => ?_⟩
          by_cases e : j = k
          · subst e; rw [← HX.out]; exact hx
          · exact HT.out j (by omega)
        case measure => simp [intOf]; omega
      · have hx' : (65535 : Int) < x.size := by omega
        go_wp2_with fail
        go_ret
        refine ⟨?_, Keeps.refl _ _⟩
        rw [← HR.out]
        cases e : okKeys xs with
        | false => rfl
        | true =>
          have := (okKeys_iff.1 e).2.1 _ (getD_mem_lt e0 (show k < xs.length by have := HA.out; omega))
          rw [← HX.out] at this
          exact absurd this hx
    · have h3 : ¬ (k : Int) < n := by omega
      have hr := risingT_any w a n c xs HA.out HL.out hs
      have e : rising lts xs = R := by
        rw [← HR.out]
        unfold okKeys
        have e1 : decide (1 ≤ xs.length ∧ xs.length ≤ 1024) = true := by have := HA.out; simp; omega
        have e2 : (xs.all fun k => decide (k.size ≤ 65535)) = true := by
          rw [List.all_eq_true]
          intro x hx
          obtain ⟨j, hj, rfl⟩ := List.getElem_of_mem hx
          have := HT.out j (by have := HA.out; omega)
          simpa [List.getD_eq_getElem?_getD, hj] using this
        rw [e1, e2]; rfl
      rw [e] at hr
      go_wp2_with fail
      refine hr.mono ?_
      rintro e w1 ⟨rfl, hk1⟩
      go_wp2
      go_ret
      exact ⟨rfl, hk1⟩
def okPairs (l : List Pr) (keys : List Tx) : Bool := (l.all fun p => decide (p.2.size ≤ 65535) && inn keys p.1) && (decide (0 < l.length) && rising ltp l)
set_option maxRecDepth 10000 in
theorem arePairs_any (w : World) (a : Option Addr) (n c : Nat) (xs : List Pr) (hn : n = xs.length) (hl : xs.length ≤ 140737488355328) (hs : Sl PE w a c xs) (ak : Option Addr) (nk ck : Nat) (ks : List Tx) (hnk : nk = ks.length) (hlk : ks.length ≤ 140737488355328) (hsk : Sl TE w ak ck ks) (hi : Inc lts ks) :
    Calls Tryz.prog 90 #[.slice a n c, .slice ak nk ck] w fun e w' => e = .returned (.bool (okPairs xs ks)) ∧ Keeps no w w' := by
  have HA : Hid (n = xs.length) := hn
  have hA : (n : Int) ≤ 140737488355328 := by omega
  have HL : Hid (xs.length ≤ 140737488355328) := hl
  have HM : Hid (∀ X s, Keeps no w X → Calls Tryz.prog 133 #[.string s, .slice ak nk ck] X fun e w' => e = .returned (.bool (inn ks s)) ∧ Keeps no X w') := fun X s hX => among_any X ak nk ck ks s hnk hlk (hsk.keepsN hX) hi
  obtain ⟨R, hR⟩ : ∃ R, okPairs xs ks = R := ⟨_, rfl⟩
  have HR : Hid (okPairs xs ks = R) := hR
  have HS : Hid (Sl PE w a c xs) := hs
  rw [hR]
  clear hR hn hl hnk hlk hsk hi hs
  go_enter Tryz.func90, Tryz.ntmps90
  go_wp2_with fail
  go_loopw [9] (fun i wr => ∃ k : Nat, k ≤ n ∧ i = .int .i64 (k : Int) ∧ Hid (Keeps no w wr) ∧ Hid (∀ j, j < k → (xs.getD j p0).2.size ≤ 65535 ∧ inn ks (xs.getD j p0).1 = true)) (fun i _ => n - (intOf i).toNat)
  case atStart => exact ⟨0, by omega, rfl, Keeps.refl _ _, fun j hj => absurd hj (Nat.not_lt_zero _)⟩
  case round =>
    obtain ⟨k, hk, rfl, HK, HT⟩ := hrel
    by_cases h2 : k < n
    · have hka : k < xs.length := by have := HA.out; omega
      obtain ⟨b1, off1, rfl, d1, d2⟩ := (HS.out.keepsN HK.out).atP hka
      obtain ⟨x, hx⟩ : ∃ x, x = xs.getD k p0 := ⟨_, rfl⟩
      rw [← hx] at d1 d2
      have HX : Hid (x = xs.getD k p0) := hx
      have HKA : Hid (k < xs.length) := hka
      clear hx hka
      obtain ⟨x1, x2⟩ := x
      simp only at d1 d2
      have h3 : (k : Int) < n := by omega
      have hfail : (¬ x2.size ≤ 65535 ∨ inn ks x1 = false) → R = false := fun h => by
        rw [← HR.out]
        have h1 : (xs.all fun p => decide (p.2.size ≤ 65535) && inn ks p.1) = false := by
          rw [List.all_eq_false]
          refine ⟨xs.getD k p0, getD_mem_lt p0 HKA.out, ?_⟩
          rw [← HX.out]
          rcases h with h | h
          · simp [h]
          · simp [h]
        unfold okPairs
        rw [h1]; rfl
      have HF : Hid ((¬ x2.size ≤ 65535 ∨ inn ks x1 = false) → R = false) := hfail
      clear hfail
      by_cases hx : x2.size ≤ 65535
      · have hx' : ¬ (65535 : Int) < x2.size := by omega
        have hc := fun X (hX : Keeps no w X) => HM.out X x1 hX
        cases e : inn ks x1 with
        | true =>
          rw [e] at hc
          have HC : Hid (∀ X, Keeps no w X → Calls Tryz.prog 133 #[.string x1, .slice ak nk ck] X fun e w' => e = .returned (.bool true) ∧ Keeps no X w') := hc
          clear hc
          have HE : Hid (inn ks x1 = true) := e
          clear e
          go_wp2_with fail
          refine (HC.out _ (HK.out.alloc _)).mono ?_
          rintro e w1 ⟨rfl, hk1⟩
          have HK1 : Hid (Keeps no w w1) := (HK.out.alloc _).trans hk1
          clear hk1
          go_wp2_with fail
          go_roundw
          case rel =>
            refine ⟨k + 1, by omega, by go_num, HK1, fun j hj => ?_⟩
            by_cases e : j = k
            · subst e; rw [← HX.out]; exact ⟨hx, HE.out⟩
            · exact HT.out j (by omega)
          case measure => simp [intOf]; omega
        | false =>
          rw [e] at hc
          have HC : Hid (∀ X, Keeps no w X → Calls Tryz.prog 133 #[.string x1, .slice ak nk ck] X fun e w' => e = .returned (.bool false) ∧ Keeps no X w') := hc
          clear hc
          have HE : Hid (inn ks x1 = false) := e
          clear e
          go_wp2_with fail
          refine (HC.out _ (HK.out.alloc _)).mono ?_
          rintro e w1 ⟨rfl, hk1⟩
          have HK1 : Hid (Keeps no w w1) := (HK.out.alloc _).trans hk1
          clear hk1
          go_wp2_with fail
          go_ret
          exact ⟨by rw [HF.out (.inr HE.out)]; rfl, HK1.out⟩
      · have hx' : (65535 : Int) < x2.size := by omega
        go_wp2_with fail
        go_ret
        exact ⟨by rw [HF.out (.inl hx)]; rfl, HK.out.alloc _⟩
    · have h3 : ¬ (k : Int) < n := by omega
      have hall : (xs.all fun p => decide (p.2.size ≤ 65535) && inn ks p.1) = true := by
        rw [List.all_eq_true]
        intro x hx
        obtain ⟨j, hj, rfl⟩ := List.getElem_of_mem hx
        have := HT.out j (by have := HA.out; omega)
        have e : xs.getD j p0 = xs[j] := by simp [List.getD_eq_getElem?_getD, hj]
        rw [e] at this
        simp [this.1, this.2]
      by_cases h0 : n = 0
      · have hz : ¬ (0 : Int) < n := by omega
        have HE : Hid (R = false) := (show _ = _ by
          rw [← HR.out]
          have : ¬ 0 < xs.length := by have := HA.out; omega
          simp [okPairs, this])
        go_wp2_with fail
        go_ret
        exact ⟨by rw [HE.out]; rfl, HK.out⟩
      · have hz : (0 : Int) < n := by omega
        have hr := fun X (hX : Keeps no w X) => risingP_any X a n c xs HA.out HL.out (HS.out.keepsN hX)
        have e : rising ltp xs = R := by
          rw [← HR.out]
          unfold okPairs
          have : 0 < xs.length := by have := HA.out; omega
          rw [hall]
          simp [this]
        rw [e] at hr
        have HRR : Hid (∀ X, Keeps no w X → Calls Tryz.prog 134 #[.slice a n c, .func (.func 135) #[] #[]] X fun e w' => e = .returned (.bool R) ∧ Keeps no X w') := hr
        clear hr e hall
        go_wp2_with fail
        refine (HRR.out _ HK.out).mono ?_
        rintro e w1 ⟨rfl, hk1⟩
        go_wp2_with fail
        go_ret
        exact ⟨rfl, HK.out.trans hk1⟩
theorem clone_any (w : World) (a : Option Addr) (n c : Nat) (xs : List Tx) (hn : n = xs.length) (hs : Sl TE w a c xs) (hb : xs.length ≤ 100000) :
    Calls Tryz.prog 121 #[.slice a n c] w fun e w' => ∃ v, e = .returned v ∧ Gives TE w xs v w' := by
  have HN : Hid (n = xs.length) := hn
  have hb' : Hid (xs.length ≤ 100000) := hb
  match a, hs with
  | none, hs =>
    have h0 : xs = [] := by rcases hs.row with h | ⟨b, off, h, _⟩; exact h; cases h
    have hnil := fun w => Lib.run_eql_slice_nil (P := Tryz.prog) w 45 9 none n c 0 0 Tryz.underlying45
    clear hn hb
    go_enter Tryz.func121, Tryz.ntmps121
    go_wp2_with fail
    go_ret
    subst h0
    exact ⟨_, rfl, none, 0, 0, rfl, (show 0 = _ by simp), own_nil _, new_none _, Keeps.refl _ _⟩
  | some ad, hs =>
    have hnil := fun w => Lib.run_eql_slice_nil (P := Tryz.prog) w 45 9 (some ad) n c 0 0 Tryz.underlying45
    clear hn hb
    go_enter Tryz.func121, Tryz.ntmps121
    go_wp2_with (at_builtin; refine wpList_app okT rfl _ _ rfl _ _ _ [] rfl rfl (own_empty okT _) _ _ _ xs rfl HN.out hs.nil (hs.row.keepsN ((Keeps.refl _ _).alloc _)) (by have := hb'.out; simp [TE]; omega) (by have := hb'.out; simp; omega) ?_; intro o' c' w' ho hap)
    go_ret
    have := hap.new (w0 := w) (new_fresh w _ (Nat.le_refl _) _) ((Keeps.refl _ _).alloc _)
    refine ⟨_, rfl, o', _, c', rfl, show _ = _ by simp [HN.out], by simpa using ho, this.1, this.2⟩
theorem sclone_any (w : World) (s : Tx) (h : s.size ≤ 281474976710656) :
    Calls Tryz.prog 95 #[.string s] w fun e w' => e = .returned (.string s) ∧ Keeps no w w' := by
  go_enter Tryz.func95, Tryz.ntmps95
  go_wp2_with fail
  refine (Any.stringslite_Clone Tryz.laysClone s w h).mono ?_
  rintro e w1 ⟨rfl, hb⟩
  go_wp2
  go_ret
  exact ⟨rfl, Keeps.of_below hb⟩
end Go.Proofs.YtdemoghlibnooaaGreatDoor
