import Derived.Test.YtagekdmkidbhpaaH2
/- container/heap: Push, down, Pop. -/
namespace Go.Proofs.Ytagekdmkidbhpaa
open Go.RowKit Go.Shelf Go.Sort Hp
set_option linter.unusedVariables false
set_option linter.unusedSimpArgs false
set_option maxRecDepth 10000 in
theorem hpush_any (w : World) (x : Ln) (i : Nat) (h : LineAt w x) (hh : Heap x.fr) (hb : x.fr.length ≤ 2000000000000) :
    Calls Try.prog 47 #[.iface 115 (.pointer (some ⟨x.p, 1, none⟩)), .iface 35 (.int .u64 ((i : Nat) : Int))] w fun e w' => e = .returned (.tuple #[]) ∧ ∃ o' c' l, LineAt w' (x.with o' c' l) ∧ l.Perm (x.fr ++ [i]) ∧ Heap l ∧ (∀ b, inO o' b → inO x.o b ∨ w.heap.size ≤ b) ∧ Keeps (fun b => b = x.p ∨ inO x.o b) w w' := by
  have HP := push_ids w x i h hb
  obtain ⟨p, la, o, c, fr⟩ := x
  simp only [Ln.with] at *
  obtain ⟨n, hn⟩ : ∃ n, n = fr.length := ⟨_, rfl⟩
  have m1 := rPush (.pointer (some ⟨p, 1, none⟩)) w
  have e1 := enPush
  have e2 := enLen
  have HN : Hid (n = fr.length ∧ fr.length ≤ 2000000000000 ∧ Heap fr) := ⟨hn, hb, hh⟩
  have hnb : (n : Int) ≤ 2000000000000 := by omega
  clear h hn hh hb
  go_enter Try.func47, Try.ntmps47
  go_wp2_with fail
  refine HP.mono ?_
  rintro e w1 ⟨rfl, o', c', hl, hnew, hk⟩
  have hlen : (fr ++ [i]).length = n + 1 := by rw [List.length_append, HN.out.1]; rfl
  obtain ⟨g, rfl⟩ := hl.own.g0 (by show 0 < (fr ++ [i]).length; omega)
  have hc : w1.cell? ⟨p, 1, none⟩ = some (.slice (some ⟨g, 0, none⟩) (n + 1) c') := by rw [← hlen]; exact cell_of_blk hl.blk 1
  have m2 := rLen hc
  have HU := up_any w1 p la g c' (fr ++ [i]) n hl (by rw [HN.out.1]; exact hup_push HN.out.2.2 i) (by omega) (by have := HN.out; omega)
  have HK : Hid ((∀ b, inO (some ⟨g, 0, none⟩) b → inO o b ∨ w.heap.size ≤ b) ∧ Keeps (fun b => b = p ∨ inO o b) w w1) := ⟨hnew, hk⟩
  clear m1 hl hnew hk hc hlen
  go_wp2_with fail
  refine (len_ids _ _ _ _).mono ?_
  rintro e w2 ⟨rfl, hw⟩
  subst w2
  go_wp2_with fail
  refine HU.mono ?_
  rintro e w3 ⟨rfl, l, hl, hheap⟩
  go_wp2_with fail
  go_end0
  refine ⟨rfl, _, c', l, hl.at', hl.perm, hheap, HK.out.1, HK.out.2.then hl.keep (fun b hb => ?_)⟩
  rcases HK.out.1 b ⟨_, rfl, hb.symm⟩ with h | h
  · exact .inl (.inr h)
  · exact .inr h

/-- down has come here -/
structure DI (w : World) (p la g c : Nat) (fr : List Nat) (n : Nat) (wr : World) (l : List Nat) (I : Nat) : Prop where
  hl : HL w p la g c fr wr l
  dn : HDn l I n
  top : l.getD n 0 = fr.getD n 0
  lt : I ≤ n
theorem DI.same {w : World} {p la g c : Nat} {fr : List Nat} {n : Nat} {wr wr' : World} {l : List Nat} {I : Nat} (h : DI w p la g c fr n wr l I) (hk : Keeps no wr wr') : DI w p la g c fr n wr' l I := ⟨h.hl.same hk, h.dn, h.top, h.lt⟩
theorem DI.step {w : World} {p la g c : Nat} {fr : List Nat} {n : Nat} {wr wr' : World} {l : List Nat} {I J : Nat} (h : DI w p la g c fr n wr l I) (hn : n + 1 = fr.length) (hJ : Less2 l I J n) (hlt : l.getD J 0 < l.getD I 0) (ho : Own IE wr' (some ⟨g, 0, none⟩) c (swp l I J)) (hk : Keeps (fun b => b = g) wr wr') : DI w p la g c fr n wr' (swp l I J) J := by
  have hlen := h.hl.len
  have h1 := hJ.1
  have h2 := hJ.2.1
  refine ⟨h.hl.swap (by omega) (by omega) ho hk, hdn_step h.dn (by omega) hJ hlt, ?_, by omega⟩
  rw [swp_at l (by omega) (by omega), if_neg (by omega), if_neg (by omega)]
  exact h.top
def DT (w : World) (p la g c : Nat) (fr : List Nat) (n : Nat) (w' : World) : Prop := ∃ l, HL w p la g c fr w' l ∧ HeapN l n ∧ l.getD n 0 = fr.getD n 0
set_option maxRecDepth 10000 in
set_option maxHeartbeats 2000000 in
theorem down_any (w : World) (p la g c : Nat) (fr : List Nat) (n : Nat) (h : LineAt w ⟨p, la, some ⟨g, 0, none⟩, c, fr⟩) (hd : HDn fr 0 n) (hn : n + 1 = fr.length) (hb : fr.length ≤ 140737488355328) :
    Calls Try.prog 60 #[.iface 115 (.pointer (some ⟨p, 1, none⟩)), .int .i64 0, .int .i64 ((n : Nat) : Int)] w fun e w' => (∃ B, e = .returned (.bool B)) ∧ DT w p la g c fr n w' := by
  have HN : Hid (n + 1 = fr.length) := hn
  have hb' : (n : Int) + 1 ≤ 140737488355328 := by omega
  have H0 : Hid (DI w p la g c fr n w fr 0) := ⟨⟨h, List.Perm.refl _, Keeps.refl _ _⟩, hd, rfl, Nat.zero_le _⟩
  have e1 := enLess
  have e2 := enSwap
  clear h hd hn hb
  go_enter Try.func60, Try.ntmps60
  go_wp2_with fail
  go_loopw [7] (fun v wr => ∃ (I : Nat) (l : List Nat), v = .int .i64 (I : Int) ∧ (I : Int) ≤ n ∧ Hid (DI w p la g c fr n wr l I)) (fun v _ => n - (intOf v).toNat)
  case atStart => exact ⟨0, fr, rfl, by omega, H0⟩
  case round =>
    obtain ⟨I, l, rfl, hIn, HH⟩ := hrel
    have hc := HH.out.hl.cell (n := n + 1) HN.out
    have m1 := rLess hc
    have hless : ∀ X (i j : Nat), Keeps no wr X → i < n + 1 → j < n + 1 → Calls Try.prog 106 #[.slice (some ⟨g, 0, none⟩) (n + 1) c, .int .i64 ((i : Nat) : Int), .int .i64 ((j : Nat) : Int)] X fun e w' => e = .returned (.bool (decide (l.getD i 0 < l.getD j 0))) ∧ Keeps no X w' := fun X i j hX hi hj => less_ids X g (n + 1) c l (HH.out.hl.at'.own.keepsN hX) (by rw [HN.out, ← HH.out.hl.len]) (by omega) i j hi hj
    have HLs : Hid (∀ X (i j : Nat), Keeps no wr X → i < n + 1 → j < n + 1 → Calls Try.prog 106 #[.slice (some ⟨g, 0, none⟩) (n + 1) c, .int .i64 ((i : Nat) : Int), .int .i64 ((j : Nat) : Int)] X fun e w' => e = .returned (.bool (decide (l.getD i 0 < l.getD j 0))) ∧ Keeps no X w') := hless
    clear hless
    by_cases hA : 2 * I + 1 < n
    · have hA' : 2 * (I : Int) + 1 < n := by omega
      have hA2 : ¬ (n : Int) ≤ 2 * (I : Int) + 1 := by omega
      have hA3 : ¬ 2 * (I : Int) + 1 < 0 := by omega
      by_cases hB : 2 * I + 2 < n
      · have hB' : 2 * (I : Int) + 1 + 1 < n := by omega
        by_cases hlt1 : l.getD (2 * I + 2) 0 < l.getD (2 * I + 1) 0
        · have HJ : Hid (Less2 l I (2 * I + 2) n) := ⟨hB, .inr rfl, fun k hk hk2 => by rcases hk2 with rfl | rfl; exact Nat.le_of_lt hlt1; exact Nat.le_refl _⟩
          have qKA := HLs.out wr (2 * I + 2) (2 * I + 1) (Keeps.refl no wr) (by omega) (by omega)
          rw [show decide (l.getD (2 * I + 2) 0 < l.getD (2 * I + 1) 0) = true by simpa using hlt1] at qKA
          rw [show (((2 * I + 2) : Nat) : Int) = 2 * (I : Int) + 1 + 1 by omega, show (((2 * I + 1) : Nat) : Int) = 2 * (I : Int) + 1 by omega] at qKA
          go_wp2_with fail
          refine qKA.mono ?_
          rintro e w1 ⟨rfl, hkKA⟩
          have KA : Hid (Keeps no wr w1) := (show _ from ((Keeps.refl no wr)).trans hkKA)
          have hcKA := (HH.out.same KA.out).hl.cell (n := n + 1) HN.out
          clear qKA hkKA
          have m2 := rLess hcKA
          by_cases hlt : l.getD (2 * I + 2) 0 < l.getD I 0
          · have HLT : Hid (l.getD (2 * I + 2) 0 < l.getD I 0) := hlt
            have qKB := HLs.out w1 (2 * I + 2) I KA.out (by omega) (by omega)
            rw [show decide (l.getD (2 * I + 2) 0 < l.getD I 0) = true by simpa using hlt] at qKB
            rw [show (((2 * I + 2) : Nat) : Int) = 2 * (I : Int) + 1 + 1 by omega, show ((I : Nat) : Int) = (I : Int) by omega] at qKB
            go_wp2_with fail
            refine qKB.mono ?_
            rintro e w2 ⟨rfl, hkKB⟩
            have KB : Hid (Keeps no wr w2) := (show _ from (KA.out).trans hkKB)
            have hcKB := (HH.out.same KB.out).hl.cell (n := n + 1) HN.out
            clear qKB hkKB
            have m3 := rSwap hcKB
            clear hlt
            have qs := swap_ids w2 g (n + 1) c l (HH.out.same KB.out).hl.at'.own (by rw [HN.out, ← HH.out.hl.len]) (by omega) I (2 * I + 2) (by omega) (by omega)
            rw [show (((2 * I + 2) : Nat) : Int) = 2 * (I : Int) + 1 + 1 by omega] at qs
            go_wp2_with fail
            refine qs.mono ?_
            rintro e w3 ⟨rfl, ho3, hk3⟩
            have HD : Hid (DI w p la g c fr n w3 (swp l I (2 * I + 2)) (2 * I + 2)) := (HH.out.same KB.out).step HN.out HJ.out HLT.out ho3 hk3
            clear ho3 hk3 qs m3 hcKB
            go_wp2_with fail
            go_roundw
            case rel => exact ⟨(2 * I + 2), _, by go_num, by omega, HD⟩
            case measure => simp [intOf] <;> omega
          · have HE : Hid (HeapN l n) := hdn_done HH.out.dn HJ.out (by omega)
            have qKB := HLs.out w1 (2 * I + 2) I KA.out (by omega) (by omega)
            rw [show decide (l.getD (2 * I + 2) 0 < l.getD I 0) = false by simpa using hlt] at qKB
            rw [show (((2 * I + 2) : Nat) : Int) = 2 * (I : Int) + 1 + 1 by omega, show ((I : Nat) : Int) = (I : Int) by omega] at qKB
            go_wp2_with fail
            refine qKB.mono ?_
            rintro e w2 ⟨rfl, hkKB⟩
            have KB : Hid (Keeps no wr w2) := (show _ from (KA.out).trans hkKB)
            have hcKB := (HH.out.same KB.out).hl.cell (n := n + 1) HN.out
            clear qKB hkKB
            go_wp2_with fail
            go_ret
            exact ⟨⟨_, rfl⟩, l, (HH.out.same KB.out).hl, HE.out, HH.out.top⟩
        · have HJ : Hid (Less2 l I (2 * I + 1) n) := ⟨hA, .inl rfl, fun k hk hk2 => by rcases hk2 with rfl | rfl; exact Nat.le_refl _; omega⟩
          have qKA := HLs.out wr (2 * I + 2) (2 * I + 1) (Keeps.refl no wr) (by omega) (by omega)
          rw [show decide (l.getD (2 * I + 2) 0 < l.getD (2 * I + 1) 0) = false by simpa using hlt1] at qKA
          rw [show (((2 * I + 2) : Nat) : Int) = 2 * (I : Int) + 1 + 1 by omega, show (((2 * I + 1) : Nat) : Int) = 2 * (I : Int) + 1 by omega] at qKA
          go_wp2_with fail
          refine qKA.mono ?_
          rintro e w1 ⟨rfl, hkKA⟩
          have KA : Hid (Keeps no wr w1) := (show _ from ((Keeps.refl no wr)).trans hkKA)
          have hcKA := (HH.out.same KA.out).hl.cell (n := n + 1) HN.out
          clear qKA hkKA
          have m2 := rLess hcKA
          by_cases hlt : l.getD (2 * I + 1) 0 < l.getD I 0
          · have HLT : Hid (l.getD (2 * I + 1) 0 < l.getD I 0) := hlt
            have qKB := HLs.out w1 (2 * I + 1) I KA.out (by omega) (by omega)
            rw [show decide (l.getD (2 * I + 1) 0 < l.getD I 0) = true by simpa using hlt] at qKB
            rw [show (((2 * I + 1) : Nat) : Int) = 2 * (I : Int) + 1 by omega, show ((I : Nat) : Int) = (I : Int) by omega] at qKB
            go_wp2_with fail
            refine qKB.mono ?_
            rintro e w2 ⟨rfl, hkKB⟩
            have KB : Hid (Keeps no wr w2) := (show _ from (KA.out).trans hkKB)
            have hcKB := (HH.out.same KB.out).hl.cell (n := n + 1) HN.out
            clear qKB hkKB
            have m3 := rSwap hcKB
            clear hlt
            have qs := swap_ids w2 g (n + 1) c l (HH.out.same KB.out).hl.at'.own (by rw [HN.out, ← HH.out.hl.len]) (by omega) I (2 * I + 1) (by omega) (by omega)
            rw [show (((2 * I + 1) : Nat) : Int) = 2 * (I : Int) + 1 by omega] at qs
            go_wp2_with fail
            refine qs.mono ?_
            rintro e w3 ⟨rfl, ho3, hk3⟩
            have HD : Hid (DI w p la g c fr n w3 (swp l I (2 * I + 1)) (2 * I + 1)) := (HH.out.same KB.out).step HN.out HJ.out HLT.out ho3 hk3
            clear ho3 hk3 qs m3 hcKB
            go_wp2_with fail
            go_roundw
            case rel => exact ⟨(2 * I + 1), _, by go_num, by omega, HD⟩
            case measure => simp [intOf] <;> omega
          · have HE : Hid (HeapN l n) := hdn_done HH.out.dn HJ.out (by omega)
            have qKB := HLs.out w1 (2 * I + 1) I KA.out (by omega) (by omega)
            rw [show decide (l.getD (2 * I + 1) 0 < l.getD I 0) = false by simpa using hlt] at qKB
            rw [show (((2 * I + 1) : Nat) : Int) = 2 * (I : Int) + 1 by omega, show ((I : Nat) : Int) = (I : Int) by omega] at qKB
            go_wp2_with fail
            refine qKB.mono ?_
            rintro e w2 ⟨rfl, hkKB⟩
            have KB : Hid (Keeps no wr w2) := (show _ from (KA.out).trans hkKB)
            have hcKB := (HH.out.same KB.out).hl.cell (n := n + 1) HN.out
            clear qKB hkKB
            go_wp2_with fail
            go_ret
            exact ⟨⟨_, rfl⟩, l, (HH.out.same KB.out).hl, HE.out, HH.out.top⟩
      · have hB' : ¬ 2 * (I : Int) + 1 + 1 < n := by omega
        have HJ : Hid (Less2 l I (2 * I + 1) n) := ⟨hA, .inl rfl, fun k hk hk2 => by rcases hk2 with rfl | rfl; exact Nat.le_refl _; omega⟩
        by_cases hlt : l.getD (2 * I + 1) 0 < l.getD I 0
        · have HLT : Hid (l.getD (2 * I + 1) 0 < l.getD I 0) := hlt
          have qKB := HLs.out wr (2 * I + 1) I (Keeps.refl no wr) (by omega) (by omega)
          rw [show decide (l.getD (2 * I + 1) 0 < l.getD I 0) = true by simpa using hlt] at qKB
          rw [show (((2 * I + 1) : Nat) : Int) = 2 * (I : Int) + 1 by omega, show ((I : Nat) : Int) = (I : Int) by omega] at qKB
          go_wp2_with fail
          refine qKB.mono ?_
          rintro e w2 ⟨rfl, hkKB⟩
          have KB : Hid (Keeps no wr w2) := (show _ from ((Keeps.refl no wr)).trans hkKB)
          have hcKB := (HH.out.same KB.out).hl.cell (n := n + 1) HN.out
          clear qKB hkKB
          have m3 := rSwap hcKB
          clear hlt
          have qs := swap_ids w2 g (n + 1) c l (HH.out.same KB.out).hl.at'.own (by rw [HN.out, ← HH.out.hl.len]) (by omega) I (2 * I + 1) (by omega) (by omega)
          rw [show (((2 * I + 1) : Nat) : Int) = 2 * (I : Int) + 1 by omega] at qs
          go_wp2_with fail
          refine qs.mono ?_
          rintro e w3 ⟨rfl, ho3, hk3⟩
          have HD : Hid (DI w p la g c fr n w3 (swp l I (2 * I + 1)) (2 * I + 1)) := (HH.out.same KB.out).step HN.out HJ.out HLT.out ho3 hk3
          clear ho3 hk3 qs m3 hcKB
          go_wp2_with fail
          go_roundw
          case rel => exact ⟨(2 * I + 1), _, by go_num, by omega, HD⟩
          case measure => simp [intOf] <;> omega
        · have HE : Hid (HeapN l n) := hdn_done HH.out.dn HJ.out (by omega)
          have qKB := HLs.out wr (2 * I + 1) I (Keeps.refl no wr) (by omega) (by omega)
          rw [show decide (l.getD (2 * I + 1) 0 < l.getD I 0) = false by simpa using hlt] at qKB
          rw [show (((2 * I + 1) : Nat) : Int) = 2 * (I : Int) + 1 by omega, show ((I : Nat) : Int) = (I : Int) by omega] at qKB
          go_wp2_with fail
          refine qKB.mono ?_
          rintro e w2 ⟨rfl, hkKB⟩
          have KB : Hid (Keeps no wr w2) := (show _ from ((Keeps.refl no wr)).trans hkKB)
          have hcKB := (HH.out.same KB.out).hl.cell (n := n + 1) HN.out
          clear qKB hkKB
          go_wp2_with fail
          go_ret
          exact ⟨⟨_, rfl⟩, l, (HH.out.same KB.out).hl, HE.out, HH.out.top⟩
    · have hA2 : (n : Int) ≤ 2 * (I : Int) + 1 := by omega
      have HE : Hid (DT w p la g c fr n wr) := ⟨l, HH.out.hl, hdn_leaf HH.out.dn (by omega), HH.out.top⟩
      clear HLs
      go_wp2_with fail
      go_ret
      exact ⟨⟨_, rfl⟩, HE.out⟩

set_option maxRecDepth 10000 in
theorem hpop_any (w : World) (x : Ln) (h : LineAt w x) (hh : Heap x.fr) (hl : 0 < x.fr.length) (hb : x.fr.length ≤ 2000000000000) :
    Calls Try.prog 49 #[.iface 115 (.pointer (some ⟨x.p, 1, none⟩))] w fun e w' => e = .returned (.iface 35 (.int .u64 ((x.fr.getD 0 0 : Nat) : Int))) ∧ ∃ l, LineAt w' (x.with x.o x.c l) ∧ (x.fr.getD 0 0 :: l).Perm x.fr ∧ Heap l ∧ Keeps (fun b => b = x.p ∨ inO x.o b) w w' := by
  obtain ⟨p, la, o, c, fr⟩ := x
  simp only [Ln.with] at *
  obtain ⟨g, rfl⟩ := h.own.g0 hl
  obtain ⟨n, hn⟩ : ∃ n, n + 1 = fr.length := ⟨fr.length - 1, by omega⟩
  have hc : w.cell? ⟨p, 1, none⟩ = some (.slice (some ⟨g, 0, none⟩) (n + 1) c) := by rw [hn]; exact cell_of_blk h.blk 1
  have m1 := rLen hc
  have m2 := rSwap hc
  have e1 := enPop
  have e2 := enLen
  have e3 := enSwap
  have hnb : (n : Int) + 1 ≤ 2000000000000 := by omega
  have H0 : Hid (HL w p la g c fr w fr ∧ Heap fr ∧ n + 1 = fr.length) := ⟨⟨h, List.Perm.refl _, Keeps.refl _ _⟩, hh, hn⟩
  have HS := swap_ids w g (n + 1) c fr h.own hn (by omega) 0 n (by omega) (by omega)
  clear h hl hb hn hh
  go_enter Try.func49, Try.ntmps49
  go_wp2_with fail
  refine (len_ids _ _ _ _).mono ?_
  rintro e w1 ⟨rfl, hw⟩
  subst w1
  go_wp2_with fail
  refine HS.mono ?_
  rintro e w1 ⟨rfl, ho1, hk1⟩
  have hfl := H0.out.2.2
  have H1 : Hid (HL w p la g c fr w1 (swp fr 0 n)) := H0.out.1.swap (by omega) (by omega) ho1 hk1
  have HD := down_any w1 p la g c (swp fr 0 n) n H1.out.at' (hdn_start H0.out.2.1 H0.out.2.2) (by rw [swp_length]; exact H0.out.2.2) (by rw [swp_length]; omega)
  clear hc m1 m2 HS ho1 hk1 hfl
  go_wp2_with fail
  refine HD.mono ?_
  rintro e w2 ⟨⟨B, rfl⟩, l, hl2, hh2, ht2⟩
  have hlen : l.length = n + 1 := by rw [hl2.len, swp_length]; exact H0.out.2.2.symm
  have HP := pop_ids w2 ⟨p, la, some ⟨g, 0, none⟩, c, l⟩ hl2.at' (by show 0 < l.length; omega) (by show l.length ≤ _; omega)
  simp only [Ln.with, hlen, Nat.add_sub_cancel] at HP
  have hfl := H0.out.2.2
  have hz : l.getD n 0 = fr.getD 0 0 := by rw [ht2, swp_at fr (by omega) (by omega), if_pos rfl]
  rw [hz] at HP
  have H2 : Hid ((fr.getD 0 0 :: l.take n).Perm fr ∧ Heap (l.take n) ∧ Keeps (fun b => b = g) w w2) := by
    refine ⟨?_, heap_take hh2 (by omega), H1.out.keep.trans hl2.keep⟩
    have e : l.take n ++ [fr.getD 0 0] = l := by
      have := List.take_append_drop n l
      rw [← hz]
      have hd : l.drop n = [l.getD n 0] := by
        rw [List.drop_eq_getElem_cons (by omega), List.drop_of_length_le (by omega)]
        simp [List.getD_eq_getElem?_getD, show n < l.length by omega]
      rw [← hd, this]
    have hp : (fr.getD 0 0 :: l.take n).Perm l := by
      conv => rhs; rw [← e]
      exact (List.perm_append_singleton _ _).symm
    exact hp.trans (hl2.perm.trans H1.out.perm)
  have m3 := rPop (.pointer (some ⟨p, 1, none⟩)) w2
  clear hl2 hh2 ht2 hlen hfl hz HD H1
  go_wp2_with fail
  refine HP.mono ?_
  rintro e w3 ⟨rfl, hl3, hk3⟩
  go_wp2_with fail
  go_ret
  refine ⟨rfl, l.take n, hl3, H2.out.1, H2.out.2.1, ?_⟩
  exact (H2.out.2.2.mono (fun b hb => .inr ⟨_, rfl, hb.symm⟩)).trans (hk3.mono (fun b hb => .inl hb))
end Go.Proofs.Ytagekdmkidbhpaa
