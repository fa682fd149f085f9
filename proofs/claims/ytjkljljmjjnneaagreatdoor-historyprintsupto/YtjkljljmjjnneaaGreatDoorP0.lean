/- strings.Cut and strings.Split at a sep of one byte. -/
import Derived.Test.YtjkljljmjjnneaaGreatDoorV0
import Derived.Test.YtjkljljmjjnneaaGreatDoorShelf
import Derived.Shelf.Strings.SplitCore
import Derived.Shelf.Strings.Count
import Derived.Shelf.Strings.Search3
import Derived.Lib.SplitLaws
import Derived.Lib.CutLaws
namespace Go.Proofs.YtjkljljmjjnneaaGreatDoor
open Go.RowKit Go.Sort Orl
set_option linter.unusedVariables false
set_option linter.unusedSimpArgs false

/-- a text cut at each c -/
def splitL (c : UInt8) : List UInt8 → List (List UInt8)
  | [] => [[]]
  | x :: l => if x = c then [] :: splitL c l else (match splitL c l with | [] => [[x]] | p :: ps => (x :: p) :: ps)
/-- a text cut at the first c -/
def cutL (c : UInt8) : List UInt8 → List UInt8 × List UInt8 × Bool
  | [] => ([], [], false)
  | x :: l => if x = c then ([], l, true) else (x :: (cutL c l).1, (cutL c l).2.1, (cutL c l).2.2)
theorem split_one (c : UInt8) : ∀ l : List UInt8, Lib.splitK [c] 0 (Lib.count l [c]) l = splitL c l
  | [] => by rw [Lib.count_one]; rfl
  | b :: l => by
    have ih := split_one c l
    by_cases h : b = c
    · subst h
      have hix : Lib.index (b :: l) [b] = 0 := by rw [Lib.index]; simp [List.isPrefixOf]
      rw [Lib.count_cons_eq, Nat.add_comm, Lib.splitK, hix, splitL, if_pos rfl, ← ih]
      rfl
    · have hp : ([c] : List UInt8).isPrefixOf (b :: l) = false := by simp [List.isPrefixOf, Ne.symm h]
      have hix : Lib.index (b :: l) [c] = if Lib.index l [c] == -1 then -1 else Lib.index l [c] + 1 := by rw [Lib.index, hp]; simp
      rw [Lib.count_cons_ne b c l h, splitL, if_neg h, ← ih]
      cases hk : Lib.count l [c] with
      | zero => rfl
      | succ k =>
        rw [Lib.splitK, Lib.splitK, hix]
        have hge := Lib.index_ge l [c]
        by_cases hm : Lib.index l [c] = -1
        · rw [if_pos (by rw [hm]; decide), if_pos (by rw [hm]; decide)]
        · obtain ⟨j, hj⟩ : ∃ j : Nat, Lib.index l [c] = j := ⟨(Lib.index l [c]).toNat, by omega⟩
          rw [hj]
          have e1 : ((j : Int) == -1) = false := by rw [beq_eq_false_iff_ne]; omega
          have e2 : ((j : Int) + 1 == -1) = false := by rw [beq_eq_false_iff_ne]; omega
          simp only [e1, e2, Bool.false_eq_true, if_false, Int.toNat_natCast, show ((j : Int) + 1).toNat = j + 1 by omega, List.length_singleton, Nat.add_zero, List.take_succ_cons, List.drop_succ_cons]
theorem split_any (w : World) (s : ByteArray) (c : UInt8) (hs : s.size < 4294967281) :
    Calls Tryz.prog 44 #[.string s, .string ⟨#[c]⟩] w fun e w' => ∃ o n xs, e = .returned (.slice o n n) ∧ n = xs.length ∧ Own TE w' o n xs ∧ New w o ∧ Keeps no w w' ∧ xs.map (fun x => x.data.toList) = splitL c s.data.toList := by
  have h1 : 1 ≤ (⟨#[c]⟩ : ByteArray).size := Nat.le_refl 1
  have hle := Lib.countB_le ⟨#[c]⟩ h1 s.size s (Nat.le_refl _)
  have hlen := Lib.splitB_all ⟨#[c]⟩ h1 0 _ s rfl
  have hdat := Lib.splitB_data ⟨#[c]⟩ 0 (Lib.countB s ⟨#[c]⟩) s
  have hone : Lib.countB s ⟨#[c]⟩ = Lib.count s.data.toList [c] := rfl
  have hdat2 : (Lib.splitB ⟨#[c]⟩ 0 (Lib.countB s ⟨#[c]⟩) s).map (fun x => x.data.toList) = splitL c s.data.toList := by
    rw [hdat, hone]; exact split_one c _
  have hI : ∀ (x : ByteArray) (cc : Array Value), x.size ≤ s.size → Calls Tryz.prog 84 #[.string x, .string ⟨#[c]⟩] (w.alloc (.cells cc 9)) fun e w' => e = .returned (.int .i64 (Lib.indexB x ⟨#[c]⟩)) ∧ w' = w.alloc (.cells cc 9) := fun x cc _ => by
    have h := Any.strings_Index_one Tryz.laysIndex x c (w.alloc (.cells cc 9))
    rw [← Lib.index_one] at h
    exact h
  have hC : Calls Tryz.prog 83 #[.string s, .string ⟨#[c]⟩] w fun e w' => e = .returned (.int .i64 (Lib.countB s ⟨#[c]⟩)) ∧ w' = w := by
    refine (Any.strings_Count_one Tryz.laysCount s c w).mono fun e w' ⟨he, hw⟩ => ⟨?_, hw⟩
    rw [he]
    show _ = Ending.returned (Value.int .i64 ((Lib.count s.data.toList [c] : Nat) : Int))
    rw [Lib.count_one]
    rfl
  have hG := Any.strings_genSplit_core Tryz.laysGenSplit (by kernel_rfl) s ⟨#[c]⟩ 0 (-1) (Lib.countB s ⟨#[c]⟩ + 1) w hs h1 (Nat.zero_le _) hI hC (by decide) (by decide) (by rw [if_pos (by decide)]; omega)
  rw [Nat.add_sub_cancel, hlen] at hG
  have e2 : Lib.cellsOf (Lib.splitB ⟨#[c]⟩ 0 (Lib.countB s ⟨#[c]⟩) s) (Lib.countB s ⟨#[c]⟩ + 1) = ((Lib.splitB ⟨#[c]⟩ 0 (Lib.countB s ⟨#[c]⟩) s).map Value.string).toArray := by rw [← hlen]; exact Lib.cellsOf_full _
  rw [e2] at hG
  have HG : Hid (∃ xs : List Tx, Lib.countB s ⟨#[c]⟩ + 1 = xs.length ∧ xs.length ≤ 4294967281 ∧ xs.map (fun x => x.data.toList) = splitL c s.data.toList ∧ Calls Tryz.prog 65 #[.string s, .string ⟨#[c]⟩, .int .i64 0, .int .i64 (-1)] w fun e w' => e = .returned (.slice (some ⟨w.heap.size, 0, none⟩) xs.length xs.length) ∧ w' = w.alloc (.cells (xs.map Value.string).toArray 9)) := by
    refine ⟨_, hlen.symm, by rw [hlen]; omega, hdat2, ?_⟩
    rw [hlen]
    exact hG
  clear h1 hle hlen hdat hdat2 hone hI hC hG e2
  obtain ⟨xs, hx1, hx2, hx3, hx4⟩ := HG.out
  clear HG
  have HX : Hid (xs.map (fun x => x.data.toList) = splitL c s.data.toList ∧ Own TE (w.alloc (.cells (xs.map Value.string).toArray 9)) (some ⟨w.heap.size, 0, none⟩) xs.length xs) := by
    refine ⟨hx3, own_of_shape okT (blk_new w _) (Nat.le_refl _) (by unfold maxLen; omega) (by simp [TE]) ?_⟩
    have e1 : TE.cells xs = xs.map Value.string := by
      unfold El.cells
      clear hx1 hx2 hx3 hx4
      induction xs with
      | nil => rfl
      | cons x xs ih => rw [List.flatMap_cons, List.map_cons, ih]; rfl
    rw [e1]
    exact List.take_of_length_le (by simp [TE])
  clear hx1 hx2 hx3
  go_enter Tryz.func44, Tryz.ntmps44
  go_wp2_with fail
  refine hx4.mono ?_
  rintro e w' ⟨rfl, rfl⟩
  go_wp2_with fail
  go_ret
  exact ⟨_, _, xs, rfl, rfl, HX.out.2, fun k hk => by obtain ⟨x, e, rfl⟩ := hk; cases e; exact Nat.le_refl _, (Keeps.refl _ _).alloc _, HX.out.1⟩
/-- strings.Cut -/
theorem sliteCut_any (w : World) (s : ByteArray) (c : UInt8) (hs : s.size < 4294967281) :
    Calls Tryz.prog 43 #[.string s, .string ⟨#[c]⟩] w fun e w' => e = .returned (.tuple #[.string ⟨(Lib.cut s.data.toList [c]).1.toArray⟩, .string ⟨(Lib.cut s.data.toList [c]).2.1.toArray⟩, .bool (Lib.cut s.data.toList [c]).2.2]) ∧ Keeps no w w' := by
  have HI : Hid (∀ W, Calls Tryz.prog 64 #[.string s, .string ⟨#[c]⟩] W fun e w' => e = .returned (.int .i64 (Lib.indexB s ⟨#[c]⟩)) ∧ w' = W) := fun W => by
    have h := Any.stringslite_Index_one Tryz.laysSliteIndex s c W
    rw [← Lib.index_one] at h
    exact h
  have hsz : (⟨#[c]⟩ : ByteArray).size = 1 := rfl
  rcases Lib.indexB_cases s ⟨#[c]⟩ with hix | ⟨i, hix, hroom⟩
  · obtain ⟨e1, e2, e3⟩ := Lib.cutB_miss s ⟨#[c]⟩ hix
    rw [hix] at HI
    go_enter Tryz.func43, Tryz.ntmps43
    go_wp2_with fail
    refine (HI.out _).mono ?_
    rintro e w' ⟨rfl, rfl⟩
    go_wp2_with fail
    go_ret3
    exact ⟨by rw [show (Lib.cut s.data.toList [c]).2.2 = false from e3, show (⟨(Lib.cut s.data.toList [c]).1.toArray⟩ : ByteArray) = s from e1, show (⟨(Lib.cut s.data.toList [c]).2.1.toArray⟩ : ByteArray) = ByteArray.empty from e2]; rfl, Keeps.refl _ _⟩
  · obtain ⟨e1, e2, e3⟩ := Lib.cutB_hit s ⟨#[c]⟩ i hix
    rw [hix] at HI
    rw [hsz] at hroom
    have c1 : (0 : Int) ≤ ↑i := by omega
    have c2 : (↑i : Int) ≤ ↑s.size := by omega
    have c3 : (0 : Int) ≤ ↑i + 1 := by omega
    have c4 : (↑i + 1 : Int) ≤ ↑s.size := by omega
    go_enter Tryz.func43, Tryz.ntmps43
    go_wp2_with fail
    refine (HI.out _).mono ?_
    rintro e w' ⟨rfl, rfl⟩
    go_wp2_with fail
    go_region
    go_wp2_with fail
    go_ret3
    exact ⟨by rw [show (Lib.cut s.data.toList [c]).2.2 = true from e3, show (⟨(Lib.cut s.data.toList [c]).1.toArray⟩ : ByteArray) = _ from e1, show (⟨(Lib.cut s.data.toList [c]).2.1.toArray⟩ : ByteArray) = _ from e2]; rfl, (Keeps.refl _ _).drew⟩
theorem cut_one (c : UInt8) : ∀ l : List UInt8, Lib.cut l [c] = cutL c l
  | [] => rfl
  | b :: l => by
    have ih := cut_one c l
    by_cases h : b = c
    · subst h
      have hix : Lib.index (b :: l) [b] = 0 := by rw [Lib.index]; simp [List.isPrefixOf]
      unfold Lib.cut
      rw [hix, cutL, if_pos rfl]
      rfl
    · have hp : ([c] : List UInt8).isPrefixOf (b :: l) = false := by simp [List.isPrefixOf, Ne.symm h]
      have hix : Lib.index (b :: l) [c] = if Lib.index l [c] == -1 then -1 else Lib.index l [c] + 1 := by rw [Lib.index, hp]; simp
      rw [cutL, if_neg h, ← ih]
      unfold Lib.cut
      rw [hix]
      have hge := Lib.index_ge l [c]
      by_cases hm : Lib.index l [c] = -1
      · rw [hm]; rfl
      · obtain ⟨j, hj⟩ : ∃ j : Nat, Lib.index l [c] = j := ⟨(Lib.index l [c]).toNat, by omega⟩
        rw [hj]
        have e1 : ((j : Int) == -1) = false := by rw [beq_eq_false_iff_ne]; omega
        simp only [e1, Bool.false_eq_true, if_false, List.length_singleton]
        rw [if_pos (by omega), if_pos (by omega), show ((j : Int) + 1).toNat = j + 1 by omega, Int.toNat_natCast]
        rfl
theorem cut_any (w : World) (s : ByteArray) (c : UInt8) (hs : s.size < 4294967281) :
    Calls Tryz.prog 26 #[.string s, .string ⟨#[c]⟩] w fun e w' => e = .returned (.tuple #[.string ⟨(cutL c s.data.toList).1.toArray⟩, .string ⟨(cutL c s.data.toList).2.1.toArray⟩, .bool (cutL c s.data.toList).2.2]) ∧ Keeps no w w' := by
  have HS := sliteCut_any w s c hs
  rw [cut_one] at HS
  clear hs
  go_enter Tryz.func26, Tryz.ntmps26
  go_wp2_with fail
  refine HS.mono ?_
  rintro e w' ⟨rfl, hk⟩
  go_wp2_with fail
  go_ret3
  exact ⟨rfl, hk⟩
end Go.Proofs.YtjkljljmjjnneaaGreatDoor
