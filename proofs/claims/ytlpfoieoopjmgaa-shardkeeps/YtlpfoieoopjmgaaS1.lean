import Derived.Test.YtlpfoieoopjmgaaH1
import Derived.Laws.MakeOwn
import Derived.Laws.OwnMore
import Derived.Deep.OwnRows
namespace Go.Proofs.Ytlpfoieoopjmgaa
open Go.RowKit
set_option linter.unusedVariables false
set_option linter.unusedSimpArgs false

theorem may_any (n : Int) (w : World) : Calls Try.prog 19 #[.int .i64 n] w fun e w' => e = .returned (.bool (decide (1 ≤ n ∧ n ≤ 64))) ∧ w' = w := by
  by_cases h : 1 ≤ n
  · by_cases h2 : n ≤ 64
    · have hd : decide (1 ≤ n ∧ n ≤ 64) = true := by simp [h, h2]
      rw [hd]
      go_enter Try.func19, Try.ntmps19
      go_wp2
      go_ret
      exact ⟨rfl, rfl⟩
    · have hd : decide (1 ≤ n ∧ n ≤ 64) = false := by simp [h2]
      rw [hd]
      go_enter Try.func19, Try.ntmps19
      go_wp2
      go_ret
      exact ⟨rfl, rfl⟩
  · have hd : decide (1 ≤ n ∧ n ≤ 64) = false := by simp [h]
    rw [hd]
    go_enter Try.func19, Try.ntmps19
    go_wp2
    go_ret
    exact ⟨rfl, rfl⟩
theorem may_yes (P : Nat) (h1 : 0 < P) (h2 : P ≤ 64) (w : World) : Calls Try.prog 19 #[.int .i64 (P : Int)] w fun e w' => e = .returned (.bool true) ∧ w' = w := by
  refine (may_any P w).mono ?_
  rintro e w' ⟨rfl, rfl⟩
  have : decide (1 ≤ (P : Int) ∧ (P : Int) ≤ 64) = true := by simp; omega
  rw [this]; exact ⟨rfl, rfl⟩
theorem may_no (n : Int) (h : ¬ (1 ≤ n ∧ n ≤ 64)) (w : World) : Calls Try.prog 19 #[.int .i64 n] w fun e w' => e = .returned (.bool false) ∧ w' = w := by
  refine (may_any n w).mono ?_
  rintro e w' ⟨rfl, rfl⟩
  have : decide (1 ≤ n ∧ n ≤ 64) = false := by simpa using h
  rw [this]; exact ⟨rfl, rfl⟩

theorem place_any (s : Tx) (P : Nat) (h1 : 0 < P) (h2 : P ≤ 64) (w : World) (hs : s.size ≤ maxLen) :
    Calls Try.prog 22 #[.string s, .int .i64 (P : Int)] w fun e w' => e = .returned (.int .i64 (pl P s : Nat)) ∧ w' = w := by
  have hh := hsh_lt s
  have HP : Hid (pl P s = hsh s % P) := rfl
  obtain ⟨q, hq⟩ : ∃ q, q = pl P s := ⟨_, rfl⟩
  obtain ⟨h, hhh⟩ : ∃ h, h = hsh s := ⟨_, rfl⟩
  have hql : q < P := by rw [hq]; exact pl_lt s h1
  rw [← hq]
  have HQ : Hid (q = h % P) := show _ = _ by rw [hq, hhh]; rfl
  rw [← hhh] at hh
  have HH : Hid (h = hsh s) := hhh
  clear hq hhh HP
  have hrem : ((h : Int) % (P : Int)) = (q : Int) := by rw [pl_num h P hh h1 h2, HQ.out]
  have hrem' : ((h : Int).tmod (P : Int)) = (q : Int) := by rw [Int.tmod_eq_emod_of_nonneg (by omega), hrem]
  have hP0 : ¬ (P : Int) = 0 := by omega
  go_enter Try.func22, Try.ntmps22
  go_wp2_with (go_at_call 27; go_must (refine (hash_any s _ hs).mono ?_); rintro e w' ⟨rfl, rfl⟩; rw [← HH.out])
  go_ret
  exact ⟨rfl, rfl⟩

def ofA (s : Tx) (n : Int) : Int := if 1 ≤ n ∧ n ≤ 64 then (pl n.toNat s : Nat) else 0
def ofE (n : Int) : Int := if 1 ≤ n ∧ n ≤ 64 then 0 else 1
theorem of_yes (s : Tx) (P : Nat) (h1 : 0 < P) (h2 : P ≤ 64) (w : World) (hs : s.size ≤ maxLen) :
    Calls Try.prog 11 #[.string s, .int .i64 (P : Int)] w fun e w' => e = .returned (.tuple #[.int .i64 (pl P s : Nat), .int .i64 0]) ∧ w' = w := by
  go_enter Try.func11, Try.ntmps11
  go_wp2_with (first | (go_at_call 19; go_must (refine (may_yes P h1 h2 _).mono ?_); rintro e w' ⟨rfl, rfl⟩) | (go_at_call 22; go_must (refine (place_any s P h1 h2 _ hs).mono ?_); rintro e w' ⟨rfl, rfl⟩))
  go_ret2
  exact ⟨rfl, rfl⟩
theorem of_no (s : Tx) (n : Int) (h : ¬ (1 ≤ n ∧ n ≤ 64)) (w : World) :
    Calls Try.prog 11 #[.string s, .int .i64 n] w fun e w' => e = .returned (.tuple #[.int .i64 0, .int .i64 1]) ∧ w' = w := by
  have H : Hid (¬ (1 ≤ n ∧ n ≤ 64)) := h
  clear h
  go_enter Try.func11, Try.ntmps11
  go_wp2_with (go_at_call 19; go_must (refine (may_no n H.out _).mono ?_); rintro e w' ⟨rfl, rfl⟩)
  go_ret2
  exact ⟨rfl, rfl⟩
theorem refOf_yes (s : Tx) (P : Nat) (h1 : 0 < P) (h2 : P ≤ 64) (w : World) (hs : s.size ≤ maxLen) :
    Calls Try.prog 14 #[.string s, .int .i64 (P : Int)] w fun e w' => e = .returned (.tuple #[.int .i64 (pl P s : Nat), .int .i64 0]) ∧ w' = w := by
  have hh := hsh_lt s
  obtain ⟨q, hq⟩ : ∃ q, q = pl P s := ⟨_, rfl⟩
  obtain ⟨h, hhh⟩ : ∃ h, h = hsh s := ⟨_, rfl⟩
  have hql : q < P := by rw [hq]; exact pl_lt s h1
  rw [← hq]
  have HQ : Hid (q = h % P) := show _ = _ by rw [hq, hhh]; rfl
  rw [← hhh] at hh
  have HH : Hid (h = hsh s) := hhh
  clear hq hhh
  have hrem : ((h : Int) % (P : Int)) = (q : Int) := by rw [pl_num h P hh h1 h2, HQ.out]
  have hrem' : ((h : Int).tmod (P : Int)) = (q : Int) := by rw [Int.tmod_eq_emod_of_nonneg (by omega), hrem]
  have hP0 : ¬ (P : Int) = 0 := by omega
  have hP1 : ¬ (P : Int) < 1 := by omega
  go_enter Try.func14, Try.ntmps14
  go_wp2_with (go_at_call 25; go_must (refine (refHash_any s _ hs).mono ?_); rintro e w' ⟨rfl, rfl⟩; rw [← HH.out])
  go_ret2
  exact ⟨rfl, rfl⟩
theorem refOf_no (s : Tx) (n : Int) (h : ¬ (1 ≤ n ∧ n ≤ 64)) (w : World) :
    Calls Try.prog 14 #[.string s, .int .i64 n] w fun e w' => e = .returned (.tuple #[.int .i64 0, .int .i64 1]) ∧ w' = w := by
  by_cases h1 : n < 1
  · clear h
    go_enter Try.func14, Try.ntmps14
    go_wp2_with fail
    go_ret2
    exact ⟨rfl, rfl⟩
  · have h2 : 64 < n := by omega
    clear h
    go_enter Try.func14, Try.ntmps14
    go_wp2_with fail
    go_ret2
    exact ⟨rfl, rfl⟩

/-- rest(n, 63): 0 to 63 -/
def restN (n : Int) : Nat := (n % 64).toNat
theorem restN_lt (n : Int) : restN n < 64 := by unfold restN; omega
theorem rest_any (n : Int) (w : World) (hn : -9223372036854775808 ≤ n ∧ n ≤ 9223372036854775807) :
    Calls Try.prog 8 #[.int .i64 n, .int .i64 63] w fun e w' => e = .returned (.int .i64 (restN n : Nat)) ∧ w' = w := by
  obtain ⟨k, hk⟩ : ∃ k, n.tmod 64 = k := ⟨_, rfl⟩
  have hke : k = n % 64 ∨ (k = n % 64 - 64 ∧ n % 64 ≠ 0) := by
    rw [← hk, Int.tmod_eq_emod]
    split
    · left; omega
    · right
      rename_i hnot
      refine ⟨by simp, fun h => hnot (.inr ?_)⟩
      exact Int.dvd_of_emod_eq_zero h
  have hlo : -64 < k ∧ k < 64 := by omega
  have HR : Hid ((restN n : Int) = if k < 0 then k + 64 else k) := by
    show _ = _
    unfold restN; split <;> omega
  clear hke
  obtain ⟨r, hr⟩ : ∃ r, r = restN n := ⟨_, rfl⟩
  rw [← hr] at HR ⊢
  obtain ⟨hn1, hn2⟩ := hn
  by_cases h0 : k < 0
  · have e : (r : Int) = k + 64 := by have := HR.out; rwa [if_pos h0] at this
    clear hr HR
    go_enter Try.func8, Try.ntmps8
    go_wp2_with fail
    go_ret
    exact ⟨ret_i64 (by omega), rfl⟩
  · have e : (r : Int) = k := by have := HR.out; rwa [if_neg h0] at this
    clear hr HR
    go_enter Try.func8, Try.ntmps8
    go_wp2_with fail
    go_ret
    exact ⟨ret_i64 (by omega), rfl⟩

/-! ### what is dealt -/
def ownOf {α : Type} (P : Nat) (key : α → Tx) (l : List α) (j : Nat) : List α := l.filter fun x => decide (pl P (key x) = j)
theorem ownOf_snoc {α : Type} (P : Nat) (key : α → Tx) (l : List α) (x : α) (j : Nat) : ownOf P key (l ++ [x]) j = if j = pl P (key x) then ownOf P key l j ++ [x] else ownOf P key l j := by
  unfold ownOf
  rw [List.filter_append]
  by_cases h : pl P (key x) = j
  · rw [if_pos h.symm, List.filter_cons_of_pos (by simpa using h)]; rfl
  · rw [if_neg (fun e => h e.symm), List.filter_cons_of_neg (by simpa using h)]; simp
theorem ownOf_length {α : Type} (P : Nat) (key : α → Tx) (l : List α) (j : Nat) : (ownOf P key l j).length ≤ l.length := List.length_filter_le _ _

theorem lots_made {α : Type} {E : El α} {X : El (LS α)} (K : Kind E X) (w : World) (P : Nat) (hP : P ≤ 64) (cur : Array Value) (hc : cur.toList = List.replicate P (.slice none 0 0)) :
    Lots E X (w.alloc (.cells cur X.e)) (some ⟨w.heap.size, 0, none⟩) P (List.replicate P ls0) := by
  have hg : ∀ j, j < P → (List.replicate P (ls0 : LS α)).getD j ls0 = ls0 := fun j hj => by simp [hj]
  have hcs : cur.size = P := by rw [← Array.length_toList, hc, List.length_replicate]
  refine ⟨?_, ?_, ?_⟩
  · refine own_of_shape K.x (blk_new w _) (by simp) (by unfold maxLen; omega) (by rw [K.k]; omega) ?_
    rw [cells_map K.k _ K.enc, K.k, List.length_replicate, Nat.mul_one, hc, List.map_replicate]
    simp [ls0]
  · intro j hj
    rw [List.length_replicate] at hj
    rw [hg j hj]
    exact own_nil _
  · intro i j hi hj hij k hk
    rw [List.length_replicate] at hi
    rw [hg i hi] at hk
    obtain ⟨x, h, _⟩ := hk
    cases h
theorem makeX (w : World) (P : Nat) (hP : P ≤ 64) : ∃ w', (Instr.makeSlice 47 (.int .i64 (P : Int)) (.int .i64 (P : Int))).run Try.prog w = .ok (.slice (some ⟨w.heap.size, 0, none⟩) P P) w' ∧ Lots TE XE w' (some ⟨w.heap.size, 0, none⟩) P (List.replicate P ls0) ∧ Keeps no w w' :=
  ⟨_, run_make_row' (P := Try.prog) 47 22 (.slice none 0 0) 24 Try.underlying47 info22 rfl .i64 .i64 P (by omega) (by omega) w, lots_made kindT w P hP _ (toList_madeCells_one _ _), (Keeps.refl _ _).alloc _⟩
theorem makeY (w : World) (P : Nat) (hP : P ≤ 64) : ∃ w', (Instr.makeSlice 48 (.int .i64 (P : Int)) (.int .i64 (P : Int))).run Try.prog w = .ok (.slice (some ⟨w.heap.size, 0, none⟩) P P) w' ∧ Lots PE YE w' (some ⟨w.heap.size, 0, none⟩) P (List.replicate P ls0) ∧ Keeps no w w' :=
  ⟨_, run_make_row' (P := Try.prog) 48 36 (.slice none 0 0) 24 Try.underlying48 info36 rfl .i64 .i64 P (by omega) (by omega) w, lots_made kindP w P hP _ (toList_madeCells_one _ _), (Keeps.refl _ _).alloc _⟩
theorem makeI (w : World) (P : Nat) (hP : P ≤ 1000) : ∃ w', (Instr.makeSlice 31 (.int .i64 (P : Int)) (.int .i64 (P : Int))).run Try.prog w = .ok (.slice (some ⟨w.heap.size, 0, none⟩) P P) w' ∧ Own IE w' (some ⟨w.heap.size, 0, none⟩) P (List.replicate P 0) ∧ Keeps no w w' := by
  refine ⟨_, run_make_row' (P := Try.prog) 31 3 (.int .i64 0) 8 Try.underlying31 info3 rfl .i64 .i64 P (by omega) (by omega) w, ?_, (Keeps.refl _ _).alloc _⟩
  have hcs : (madeCells #[Value.int .i64 0] P).size = P := by rw [← Array.length_toList, toList_madeCells_one, List.length_replicate]
  refine own_of_shape okI (blk_new w _) (by simp) (by unfold maxLen; omega) (by rw [hcs]; simp [IE]) ?_
  rw [cells_map rfl (fun n => .int .i64 (n : Nat)) (fun _ => rfl), toList_madeCells_one, List.map_replicate]
  simp [IE]
end Go.Proofs.Ytlpfoieoopjmgaa
