/- A plain record that came in; made of it. -/
import Derived.Test.YtdalheeifgampaaDoorD4
namespace Go.Proofs.YtdalheeifgampaaDoor
open Go.RowKit Go.Sort Orl Pk
set_option linter.unusedVariables false
set_option linter.unusedSimpArgs false

/-- a record to be made, as it came in -/
structure IsPl (w : World) (id : Nat) (oK : Option Addr) (nK cK sm : Nat) (val : Tx) (xs : List Tx) : Prop where
  id : id < 18446744073709551616
  sm : sm < 18446744073709551616
  n : nK = xs.length
  nb : (nK : Int) ≤ 8796093022000
  sl : Sl TE w oK cK xs
  siz : ∀ s ∈ xs, s.size ≤ 140737488351232
  val : val.size ≤ 140737488351232
theorem IsPl.keepsN {w w' : World} {id : Nat} {oK : Option Addr} {nK cK sm : Nat} {val : Tx} {xs : List Tx} (h : IsPl w id oK nK cK sm val xs) (k : Keeps no w w') : IsPl w' id oK nK cK sm val xs :=
  ⟨h.id, h.sm, h.n, h.nb, h.sl.keepsN k, h.siz, h.val⟩
theorem made_of {w : World} {cmt : Bool} {id : Nat} {oK : Option Addr} {nK cK sm : Nat} {val : Tx} {xs : List Tx} (h : IsPl w id oK nK cK sm val xs) :
    Calls Tryd.prog 10 #[.agg #[.bool cmt, .int .u64 (id : Nat), .slice oK nK cK, .int .u64 (sm : Nat), .string val]] w (MadeTo w) :=
  made_any w cmt id oK nK cK xs sm val h.id h.sm h.n h.nb h.sl h.siz h.val
theorem cells5 {w : World} {g : Nat} {a0 a1 a2 a3 a4 : Value} {t : TypeId} {fr : Nat × Nat} (h : w.heap[g]? = some (.cells #[a0, a1, a2, a3, a4] t fr)) :
    w.cell? ⟨g, 0, none⟩ = some a0 ∧ w.cell? ⟨g, 1, none⟩ = some a1 ∧ w.cell? ⟨g, 2, none⟩ = some a2 ∧ w.cell? ⟨g, 3, none⟩ = some a3 ∧ w.cell? ⟨g, 4, none⟩ = some a4 := ⟨cell_of_blk h 0, cell_of_blk h 1, cell_of_blk h 2, cell_of_blk h 3, cell_of_blk h 4⟩
theorem i64_and7 (n : Int) : bits .and .i64 n 7 = n % 8 := by
  have h1 : (BitVec.ofInt 64 7).toNat = 2 ^ 3 - 1 := by decide
  have key : (BitVec.ofInt 64 n &&& BitVec.ofInt 64 7).toNat = (n % ((2 ^ 64 : Nat) : Int)).toNat % 2 ^ 3 := by
    rw [BitVec.toNat_and, BitVec.toNat_ofInt, h1, Nat.and_two_pow_sub_one_eq_mod]
  show IntKind.i64.wrap ((BitVec.ofInt 64 n &&& BitVec.ofInt 64 7).toNat : Nat) = n % 8
  rw [key, IntKind.wrap_i64]
  omega
/-- a record in a variable of the law's -/
structure Var (w : World) (D : Nat) (k : Int) (i : Nat) (op : Option Addr) (np cp : Nat) (ok : Option Addr) (nk ck : Nat) (r : Rec) (W : World) : Prop where
  b : W.heap[D]? = some (.cells #[.int .i64 k, .int .u64 (i : Nat), .slice op np cp, .slice ok nk ck] 30 (0, 0))
  c : IsC W ⟨k, i, op, np, cp, ok, nk, ck⟩ r
  kp : Keeps no w W
/-- one that may not be -/
def BadIn (w : World) (D : Nat) (W : World) : Prop := ∃ k i op np cp ok nk ck r, Var w D k i op np cp ok nk ck r W ∧ may r = false
def txa : Tx := ⟨#[97]⟩
def txb : Tx := ⟨#[98]⟩
def txc : Tx := ⟨#[99]⟩
def txk : Tx := ⟨#[107]⟩
theorem own_twoT (w : World) (x y : Tx) : Sl TE (w.alloc (.cells #[.string x, .string y] 9)) (some ⟨w.heap.size, 0, none⟩) 2 [x, y] := by
  refine ⟨.inr ⟨_, _, rfl, fun j u hj => ?_⟩, by simp, fun e => by cases e⟩
  rw [cell_of_blk (blk_new w _), Nat.zero_add]
  simpa [El.cells, TE] using hj
theorem own_twoP (w : World) (x y x2 y2 : Tx) : Sl PE (w.alloc (.cells #[.string x, .string y, .string x2, .string y2] 33)) (some ⟨w.heap.size, 0, none⟩) 2 [(x, y), (x2, y2)] := by
  refine ⟨.inr ⟨_, _, rfl, fun j u hj => ?_⟩, by simp, fun e => by cases e⟩
  rw [cell_of_blk (blk_new w _), Nat.zero_add]
  simpa [El.cells, PE] using hj
theorem fit_small {i : Nat} {ps : List Pr} {ks : List Tx} (hi : i < 18446744073709551616) (k : Int) (hk : 0 ≤ k ∧ k ≤ 255) (h1 : ps.length ≤ 2) (h2 : ks.length ≤ 2) (h3 : ∀ p ∈ ps, p.1.size ≤ 1 ∧ p.2.size ≤ 1) (h4 : ∀ s ∈ ks, s.size ≤ 1) : FitR ⟨k, i, ps, ks⟩ :=
  ⟨by simp only; omega, fun s hs => by have := h4 s hs; omega, by simp only; omega, fun p hp => by have := h3 p hp; omega, by simp only; omega, by simp only; omega, hi⟩
end Go.Proofs.YtdalheeifgampaaDoor
