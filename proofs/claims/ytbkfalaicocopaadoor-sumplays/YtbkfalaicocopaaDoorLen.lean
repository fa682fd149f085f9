import Derived.Test.YtbkfalaicocopaaDoorProg
import Derived.Test.YtbkfalaicocopaaDoorMath
import Derived.Lib.Strings
import Derived.Lib.Slices
import Derived.Lib.Small
import Derived.Lib.Walk
import Derived.Lib.BitFns
namespace Go.Proofs.YtbkfalaicocopaaDoor
open Crc
theorem lt_bitLenAux : ∀ (f x : Nat), x < 2 ^ f → x < 2 ^ Lib.bitLenAux f x
  | 0, x, h => by simpa [Lib.bitLenAux] using h
  | f + 1, x, h => by
    simp only [Lib.bitLenAux]
    split
    · simp_all
    · have h2 := lt_bitLenAux f (x / 2) (by rw [Nat.pow_succ] at h; omega)
      rw [Nat.pow_add]
      omega
theorem lt_bitLen (x : Nat) (h : x < 2 ^ 64) : x < 2 ^ Lib.bitLen x := lt_bitLenAux 64 x h

def LenOf (n : Int) (v : Int) : Prop := ∃ l : Nat, l ≤ 64 ∧ n < 2 ^ l ∧ v = (l : Int)
theorem lenOf (n m : Int) (s : Nat) (h0 : 0 ≤ m) (hm : m ≤ 255) (hs : s ≤ 56) (h : n < (m + 1) * 2 ^ s) (v : Int) (hv : 0 ≤ Lib.len8 m → Lib.len8 m ≤ 8 → v = s + Lib.len8 m) : LenOf n v := by
  have l := Lib.bitLen_le8' m h0 hm
  have k := lt_bitLen m.toNat (by omega)
  refine ⟨s + Lib.bitLen m.toNat, by omega, ?_, by have e := Lib.len8_of m h0 hm; have := hv (by omega) (by omega); omega⟩
  have e : (2 : Int) ^ (s + Lib.bitLen m.toNat) = 2 ^ s * ((2 ^ Lib.bitLen m.toNat : Nat) : Int) := by rw [Int.pow_add]; simp
  have p : m + 1 ≤ ((2 ^ Lib.bitLen m.toNat : Nat) : Int) := by omega
  have q : (m + 1) * 2 ^ s ≤ ((2 ^ Lib.bitLen m.toNat : Nat) : Int) * 2 ^ s := Int.mul_le_mul_of_nonneg_right p (Int.le_of_lt (Int.pow_pos (by decide)))
  rw [e, Int.mul_comm]
  omega

theorem ret_len {n v : Int} {w' w : World} (h : LenOf n v) (hw : w' = w) : (∃ l : Nat, l ≤ 64 ∧ n < 2 ^ l ∧ Ending.returned (.int .i64 v) = .returned (.int .i64 (l : Int))) ∧ w' = w := by
  obtain ⟨l, h1, h2, rfl⟩ := h
  exact ⟨⟨l, h1, h2, rfl⟩, hw⟩

set_option maxHeartbeats 4000000 in
set_option maxRecDepth 100000 in
theorem len64_any (n : Int) (h0 : 0 ≤ n) (hn : n < 18446744073709551616) (w : World) :
    Calls Tryd.prog 27 #[.int .u64 (n : Int)] w fun e w' => (∃ l : Nat, l ≤ 64 ∧ n < 2 ^ l ∧ e = .returned (.int .i64 (l : Int))) ∧ w' = w := by
  go_enter Tryd.func27, Tryd.ntmps27
  go_wp2
  all_goals go_ret
  all_goals first
    | exact ret_len (lenOf n (n / 4294967296 / 65536 / 256 % 256) 56 (by omega) (by omega) (by omega) (by omega) _ (by intro _ _; omega)) rfl
    | exact ret_len (lenOf n (n / 4294967296 / 65536 % 256) 48 (by omega) (by omega) (by omega) (by omega) _ (by intro _ _; omega)) rfl
    | exact ret_len (lenOf n (n / 4294967296 / 256 % 256) 40 (by omega) (by omega) (by omega) (by omega) _ (by intro _ _; omega)) rfl
    | exact ret_len (lenOf n (n / 4294967296 % 256) 32 (by omega) (by omega) (by omega) (by omega) _ (by intro _ _; omega)) rfl
    | exact ret_len (lenOf n (n / 65536 / 256 % 256) 24 (by omega) (by omega) (by omega) (by omega) _ (by intro _ _; omega)) rfl
    | exact ret_len (lenOf n (n / 65536 % 256) 16 (by omega) (by omega) (by omega) (by omega) _ (by intro _ _; omega)) rfl
    | exact ret_len (lenOf n (n / 256 % 256) 8 (by omega) (by omega) (by omega) (by omega) _ (by intro _ _; omega)) rfl
    | exact ret_len (lenOf n (n % 256) 0 (by omega) (by omega) (by omega) (by omega) _ (by intro _ _; omega)) rfl
end Go.Proofs.YtbkfalaicocopaaDoor
