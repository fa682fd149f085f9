/- begun. -/
import Derived.Test.YtghnhkhhpeoheaaGreatW2
import Derived.Laws.BitsAllLaws
namespace Go.Proofs.YtghnhkhhpeoheaaGreat
open Go.RowKit Go.Sort Orl
set_option linter.unusedVariables false
set_option linter.unusedSimpArgs false

theorem i64_and63 (n : Int) : bits .and .i64 n 63 = n % 64 := by
  have h1 : (BitVec.ofInt 64 63).toNat = 2 ^ 6 - 1 := by decide
  have key : (BitVec.ofInt 64 n &&& BitVec.ofInt 64 63).toNat = (n % ((2 ^ 64 : Nat) : Int)).toNat % 2 ^ 6 := by
    rw [BitVec.toNat_and, BitVec.toNat_ofInt, h1, Nat.and_two_pow_sub_one_eq_mod]
  show IntKind.i64.wrap ((BitVec.ofInt 64 n &&& BitVec.ofInt 64 63).toNat : Nat) = n % 64
  rw [key, IntKind.wrap_i64]
  omega
def idN (id : Nat) : Nat := id ||| 65536
theorem idN_lo (id : Nat) : 65536 ≤ idN id := Nat.right_le_or
theorem idN_hi {id : Nat} (h : id < 18446744073709551616) : idN id < 18446744073709551616 := Nat.or_lt_two_pow (n := 64) h (by decide)
def prN (parts : Int) : Nat := (parts % 64).toNat + 1
theorem prN_le (parts : Int) : 1 ≤ prN parts ∧ prN parts ≤ 64 := by unfold prN; omega
/-- a writer that has begun, what it told -/
structure Bgn (w0 w : World) (p cp : Nat) (s : WS) (m : Nat) (F : Nat → Prop) (o : Option Addr) (n c : Nat) (rs : List RQ) : Prop where
  wc : Wc w0 w p cp s m F
  n : n = s.ps.length
  tq : Tq w o c rs (askedS s)
  apart : ∀ i, TB o rs (askedS s).length i → ¬ (F i ∨ i = cp)
  new : ∀ i, TB o rs (askedS s).length i → w0.heap.size ≤ i
def BgnTo (w0 : World) (cp id : Nat) (parts : Int) (l : List Pr) (m : Nat) (e : Ending) (w' : World) : Prop := ∃ p o n c rs F, e = .returned (.tuple #[.pointer (some ⟨p, 0, none⟩), .slice o n c]) ∧ Bgn w0 w' p cp (askS (startS (idN id) l (prN parts)) m) (numS (startS (idN id) l (prN parts)) m) F o n c rs
end Go.Proofs.YtghnhkhhpeoheaaGreat
