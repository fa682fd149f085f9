/- begins; masks; a swap of files, step by step. -/
import Derived.Test.YtgobakfffobpkaaL1
namespace Go.Proofs.Ytgobakfffobpkaa
open Go.RowKit Dk
set_option linter.unusedVariables false
set_option linter.unusedSimpArgs false

theorem i64_and7 (n : Int) : bits .and .i64 n 7 = n % 8 := by
  have h1 : (BitVec.ofInt 64 7).toNat = 2 ^ 3 - 1 := by decide
  have key : (BitVec.ofInt 64 n &&& BitVec.ofInt 64 7).toNat = (n % ((2 ^ 64 : Nat) : Int)).toNat % 2 ^ 3 := by
    rw [BitVec.toNat_and, BitVec.toNat_ofInt, h1, Nat.and_two_pow_sub_one_eq_mod]
  show IntKind.i64.wrap ((BitVec.ofInt 64 n &&& BitVec.ofInt 64 7).toNat : Nat) = n % 8
  rw [key, IntKind.wrap_i64]
  omega
theorem i64_and65535 (n : Int) : bits .and .i64 n 65535 = n % 65536 := by
  have h1 : (BitVec.ofInt 64 65535).toNat = 2 ^ 16 - 1 := by decide
  have key : (BitVec.ofInt 64 n &&& BitVec.ofInt 64 65535).toNat = (n % ((2 ^ 64 : Nat) : Int)).toNat % 2 ^ 16 := by
    rw [BitVec.toNat_and, BitVec.toNat_ofInt, h1, Nat.and_two_pow_sub_one_eq_mod]
  show IntKind.i64.wrap ((BitVec.ofInt 64 n &&& BitVec.ofInt 64 65535).toNat : Nat) = n % 65536
  rw [key, IntKind.wrap_i64]
  omega

def begB (xs ys : List UInt8) : Bool := decide (xs.length ≤ ys.length) && decide (xs = ys.take xs.length)
theorem begB_take (xs : List UInt8) (n : Nat) : begB (xs.take n) xs = true := by
  simp only [begB, Bool.and_eq_true, decide_eq_true_eq, List.length_take]
  refine ⟨by omega, ?_⟩
  by_cases h : n ≤ xs.length
  · rw [Nat.min_eq_left h]
  · rw [Nat.min_eq_right (by omega), List.take_of_length_le (by omega), List.take_of_length_le (Nat.le_refl _)]
theorem begins_any (w : World) (oa : Option Addr) (na ca : Nat) (ob : Option Addr) (nb cb : Nat) (xs ys : List UInt8) (hna : na = xs.length) (hnb : nb = ys.length) (ha : Row BE w oa xs) (hb : Sl BE w ob cb ys) (hx : xs.length ≤ 281474976710656) (hy : ys.length ≤ 281474976710656) :
    Calls Try.prog 20 #[.slice oa na ca, .slice ob nb cb] w fun e w' => e = .returned (.bool (begB xs ys)) ∧ w' = w := by
  have hcap := hb.cap
  by_cases h : na ≤ nb
  · have HB : Hid (begB xs ys = decide (xs = ys.take na)) := (show _ = _ by
      simp [begB, ← hna]
      omega)
    have hcut := cutO ob nb cb na (by omega) hb.nil
    have HR : Hid (Row BE w ob (ys.take na)) := (show _ from hb.row.take okB na)
    have HL : Hid (na = (ys.take na).length) := (show _ = _ by rw [List.length_take]; omega)
    have HNA : Hid (na = xs.length) := hna
    have hx' : na ≤ 281474976710656 := by omega
    have hy' : nb ≤ 281474976710656 := by omega
    clear hna hnb hx hy
    go_enter Try.func20, Try.ntmps20
    go_wp2_with (go_at_call 19; refine (same_any _ _ _ _ _ _ _ xs (ys.take na) HNA.out HL.out ha HR.out).mono ?_; rintro e w1 ⟨rfl, rfl⟩)
    go_ret
    rw [HB.out]
    exact ⟨rfl, rfl⟩
  · have HB : Hid (begB xs ys = false) := (show _ = _ by simp [begB]; omega)
    have hx' : na ≤ 281474976710656 := by omega
    have hy' : nb ≤ 281474976710656 := by omega
    clear hna hnb hx hy
    go_enter Try.func20, Try.ntmps20
    go_wp2
    go_ret
    rw [HB.out]
    exact ⟨rfl, rfl⟩

/-! ### a disk that is armed, a disk that is off -/
def st (fs : List (Nm × Fl)) (k keep : Int) : St := ⟨fs, false, 0, k, keep⟩
def sd (fs : List (Nm × Fl)) (keep : Int) : St := ⟨fs, true, 0, -1, keep⟩
theorem tick_pos {fs : List (Nm × Fl)} {k keep : Int} (h : 0 < k) : tick (st fs k keep) = st fs (k - 1) keep := by
  show (if k = 0 then _ else if 0 < k then _ else _) = _
  rw [if_neg (by omega), if_pos h]
  rfl
theorem tick_zero (fs : List (Nm × Fl)) (keep : Int) : tick (st fs 0 keep) = sd (mapv (crF keep) fs) keep := by
  unfold tick st sd crash; simp
theorem tick_none (fs : List (Nm × Fl)) (keep : Int) : tick (st fs (-1) keep) = st fs (-1) keep := by
  unfold tick st; simp
theorem tick_sd (fs : List (Nm × Fl)) (keep : Int) : tick (sd fs keep) = sd fs keep := by
  unfold tick sd; simp
theorem cnt_sd (fs : List (Nm × Fl)) (keep : Int) (g : St → St × Int) : counted (sd fs keep) g = (sd fs keep, 62) := by
  rw [counted_cT, tick_sd, cT_off rfl]
theorem cnt_zero (fs : List (Nm × Fl)) (keep : Int) (g : St → St × Int) : counted (st fs 0 keep) g = (sd (mapv (crF keep) fs) keep, 62) := by
  rw [counted_cT, tick_zero, cT_off rfl]
theorem cnt_pos {fs : List (Nm × Fl)} {k keep : Int} (h : 0 < k) (g : St → St × Int) : counted (st fs k keep) g = g (st fs (k - 1) keep) := by
  rw [counted_cT, tick_pos h, cT_on rfl]
theorem cnt_none (fs : List (Nm × Fl)) (keep : Int) (g : St → St × Int) : counted (st fs (-1) keep) g = g (st fs (-1) keep) := by
  rw [counted_cT, tick_none, cT_on rfl]
theorem app_none {fs : List (Nm × Fl)} {k keep : Int} {n : Nm} (b : List UInt8) (hg : good n = true) (hf : find n fs = none) (hl : fs.length < 16) : appendOn n b (st fs k keep) = (st (put n ⟨b, 0⟩ fs) k keep, 0) := by
  unfold appendOn
  rw [if_pos hg]
  have h1 : find n (st fs k keep).fs = none := hf
  have h2 : noRoom b (st fs k keep) = false := by simp [noRoom, st]
  rw [h1]
  simp only
  rw [if_neg (show ¬ 16 ≤ (st fs k keep).fs.length by show ¬ 16 ≤ fs.length; omega), h2]
  rfl
theorem app_some {fs : List (Nm × Fl)} {k keep : Int} {n : Nm} {f : Fl} (b : List UInt8) (hg : good n = true) (hf : find n fs = some f) : appendOn n b (st fs k keep) = (st (put n ⟨f.bs ++ b, f.sy⟩ fs) k keep, 0) := by
  unfold appendOn
  rw [if_pos hg]
  have h1 : find n (st fs k keep).fs = some f := hf
  have h2 : noRoom b (st fs k keep) = false := by simp [noRoom, st]
  rw [h1]
  simp only
  rw [h2]
  rfl
theorem syn_some {fs : List (Nm × Fl)} {k keep : Int} {n : Nm} {f : Fl} (hf : find n fs = some f) : syncOn n (st fs k keep) = (st (put n ⟨f.bs, f.bs.length⟩ fs) k keep, 0) := by
  unfold syncOn
  rw [onF_some (show find n (st fs k keep).fs = some f from hf)]
  rfl
theorem ren_some {fs : List (Nm × Fl)} {k keep : Int} {a n : Nm} {f : Fl} (hg : good n = true) (hf : find a fs = some f) : renameOn a n (st fs k keep) = (st (put n f (del a fs)) k keep, 0) := by
  unfold renameOn
  rw [if_pos hg, onF_some (show find a (st fs k keep).fs = some f from hf)]
  rfl
theorem dele_some {fs : List (Nm × Fl)} {k keep : Int} {n : Nm} {f : Fl} (hf : find n fs = some f) : deleteOn n (st fs k keep) = (st (del n fs) k keep, 0) := by
  unfold deleteOn
  rw [onF_some (show find n (st fs k keep).fs = some f from hf)]
  rfl
theorem crF_all (k : Int) (b : List UInt8) : crF k ⟨b, b.length⟩ = ⟨b, b.length⟩ := by simp [crF, cutN]
theorem arm_st (n k : Int) (fs : List (Nm × Fl)) (j l : Int) (hn : 0 ≤ n) : arm n k (st fs j l) = st fs n k := by
  simp [arm, st]; omega
theorem up_st (fs : List (Nm × Fl)) (j l : Int) : up (st fs j l) = st fs (-1) l := rfl
theorem up_sd (fs : List (Nm × Fl)) (l : Int) : up (sd fs l) = st fs (-1) l := rfl

/-- the names of a swap -/
def nS : Nm := [115, 110, 97, 112]
def nJ : Nm := [106, 117, 110, 107]
def nT : Nm := [116, 109, 112]
def jF : Fl := ⟨[106], 0⟩
def S0 (o : Fl) : List (Nm × Fl) := [(nS, o)]
def S1 (j o : Fl) : List (Nm × Fl) := [(nJ, j), (nS, o)]
def S2 (j o t : Fl) : List (Nm × Fl) := [(nJ, j), (nS, o), (nT, t)]
theorem s_new : Dk.new = st [] (-1) 0 := rfl
theorem s_p0 (o : Fl) : put nS o [] = S0 o := rfl
theorem s_p00 (o o' : Fl) : put nS o' (S0 o) = S0 o' := rfl
theorem s_f0 (o : Fl) : find nS (S0 o) = some o := rfl
theorem s_fj (o : Fl) : find nJ (S0 o) = none := rfl
theorem s_p1 (o j : Fl) : put nJ j (S0 o) = S1 j o := rfl
theorem s_ft1 (o j : Fl) : find nT (S1 j o) = none := rfl
theorem s_fs1 (o j : Fl) : find nS (S1 j o) = some o := rfl
theorem s_p2 (o j t : Fl) : put nT t (S1 j o) = S2 j o t := rfl
theorem s_p22 (o j t t' : Fl) : put nT t' (S2 j o t) = S2 j o t' := rfl
theorem s_ft2 (o j t : Fl) : find nT (S2 j o t) = some t := rfl
theorem s_fs2 (o j t : Fl) : find nS (S2 j o t) = some o := rfl
theorem s_ren (o j t : Fl) : put nS t (del nT (S2 j o t)) = S1 j t := rfl
theorem s_fj1 (o j : Fl) : find nJ (S1 j o) = some j := rfl
theorem s_del (o j : Fl) : del nJ (S1 j o) = S0 o := rfl
theorem s_ft0 (o : Fl) : find nT (S0 o) = none := rfl
theorem s_m1 (k : Int) (o j : Fl) : mapv (crF k) (S1 j o) = S1 (crF k j) (crF k o) := rfl
theorem s_m2 (k : Int) (o j t : Fl) : mapv (crF k) (S2 j o t) = S2 (crF k j) (crF k o) (crF k t) := rfl
theorem rdB {fs : List (Nm × Fl)} {k l : Int} {n : Nm} {f : Fl} (h : find n fs = some f) : readB n (st fs k l) = f.bs := by
  simp [readB, st, h]
theorem rdE {fs : List (Nm × Fl)} {k l : Int} {n : Nm} {f : Fl} (h : find n fs = some f) : readE n (st fs k l) = 0 := by
  simp [readE, st, h]
theorem rdB0 {fs : List (Nm × Fl)} {k l : Int} {n : Nm} (h : find n fs = none) : readB n (st fs k l) = [] := by
  simp [readB, st, h]
theorem rdE0 {fs : List (Nm × Fl)} {k l : Int} {n : Nm} (h : find n fs = none) : readE n (st fs k l) = 61 := by
  simp [readE, st, h]
end Go.Proofs.Ytgobakfffobpkaa
