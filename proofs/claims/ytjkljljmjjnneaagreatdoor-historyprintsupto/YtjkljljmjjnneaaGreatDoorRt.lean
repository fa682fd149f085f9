/- The law's own: rest. -/
import Derived.Test.YtjkljljmjjnneaaGreatDoorV0
namespace Go.Proofs.YtjkljljmjjnneaaGreatDoor
open Go.RowKit Go.Sort Orl
set_option linter.unusedVariables false
set_option linter.unusedSimpArgs false

def I64 (n : Int) : Prop := -9223372036854775808 ≤ n ∧ n ≤ 9223372036854775807
def rst (n : Int) (m : Nat) : Nat := (n % ((m : Int) + 1)).toNat
theorem rst_le (n : Int) (m : Nat) : rst n m ≤ m := by
  unfold rst
  have h1 := Int.emod_nonneg n (show ((m : Int) + 1) ≠ 0 by omega)
  have h2 := Int.emod_lt_of_pos n (show (0 : Int) < (m : Int) + 1 by omega)
  omega
theorem rest_any (n : Int) (m : Nat) (w : World) (hn : I64 n) (hm : m ≤ 4398046511104) :
    Calls Tryz.prog 9 #[.int .i64 n, .int .i64 ((m : Nat) : Int)] w fun e w' => e = .returned (.int .i64 ((rst n m : Nat) : Int)) ∧ w' = w := by
  have b1 := Int.tmod_lt_of_pos n (b := (m : Int) + 1) (by omega)
  have b2 : -((m : Int) + 1) < n.tmod ((m : Int) + 1) := by
    have := Int.lt_tmod_of_pos n (b := (m : Int) + 1) (by omega)
    omega
  have hm' : (m : Int) ≤ 4398046511104 := by omega
  obtain ⟨h1, h2⟩ := hn
  have e1 := Int.emod_nonneg n (show ((m : Int) + 1) ≠ 0 by omega)
  have e2 := Int.emod_lt_of_pos n (show (0 : Int) < (m : Int) + 1 by omega)
  have HR : Hid ((rst n m : Int) = if n.tmod ((m : Int) + 1) < 0 then n.tmod ((m : Int) + 1) + m + 1 else n.tmod ((m : Int) + 1)) := by
    show _ = _
    have e : n.tmod ((m : Int) + 1) = n % ((m : Int) + 1) ∨ n.tmod ((m : Int) + 1) = n % ((m : Int) + 1) - ((m : Int) + 1) := by
      rw [Int.tmod_eq_emod]
      split
      · left; omega
      · right; omega
    unfold rst
    split <;> omega
  have hw : wrap64 (n.tmod ((m : Int) + 1)) = n.tmod ((m : Int) + 1) := IntWalk.wrap64_in _ ⟨by omega, by omega⟩
  obtain ⟨t, ht⟩ : ∃ t, t = n.tmod ((m : Int) + 1) := ⟨_, rfl⟩
  rw [← ht] at b1 b2 hw HR
  have HT : Hid (t = n.tmod ((m : Int) + 1)) := ht
  have ht' := ht.symm
  clear ht e1 e2 hm
  generalize rst n m = R at HR ⊢
  by_cases hn : t < 0
  · go_enter Tryz.func9, Tryz.ntmps9
    go_wp2
    go_ret
    refine ⟨?_, rfl⟩
    have := HR.out
    rw [if_pos hn] at this
    rw [this]; rfl
  · go_enter Tryz.func9, Tryz.ntmps9
    go_wp2
    go_ret
    refine ⟨?_, rfl⟩
    have := HR.out
    rw [if_neg (by omega)] at this
    rw [this]; rfl
end Go.Proofs.YtjkljljmjjnneaaGreatDoor
