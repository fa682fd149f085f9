/- IdentGives: two pairs of sources in two arrays: what holds of them, and what a step does. -/
import Derived.Test.YtkapjgoomceglaaS2
import Derived.Laws.Bits128
namespace Go.Proofs.Ytkapjgoomceglaa
open Go.RowKit
set_option linter.unusedVariables false
set_option linter.unusedSimpArgs false

theorem i64_and1 (n : Int) : bits .and .i64 n 1 = n % 2 := by
  have h1 : (BitVec.ofInt 64 1).toNat = 2 ^ 1 - 1 := by decide
  have key : (BitVec.ofInt 64 n &&& BitVec.ofInt 64 1).toNat = (n % ((2 ^ 64 : Nat) : Int)).toNat % 2 ^ 1 := by
    rw [BitVec.toNat_and, BitVec.toNat_ofInt, h1, Nat.and_two_pow_sub_one_eq_mod]
  show IntKind.i64.wrap ((BitVec.ofInt 64 n &&& BitVec.ofInt 64 1).toNat : Nat) = n % 2
  rw [key, IntKind.wrap_i64]
  omega
theorem i64_and15 (n : Int) : bits .and .i64 n 15 = n % 16 := by
  have h1 : (BitVec.ofInt 64 15).toNat = 2 ^ 4 - 1 := by decide
  have key : (BitVec.ofInt 64 n &&& BitVec.ofInt 64 15).toNat = (n % ((2 ^ 64 : Nat) : Int)).toNat % 2 ^ 4 := by
    rw [BitVec.toNat_and, BitVec.toNat_ofInt, h1, Nat.and_two_pow_sub_one_eq_mod]
  show IntKind.i64.wrap ((BitVec.ofInt 64 n &&& BitVec.ofInt 64 15).toNat : Nat) = n % 16
  rw [key, IntKind.wrap_i64]
  omega

def pv : Option Nat → Value
  | none => .pointer none
  | some a => .pointer (some ⟨a, 0, none⟩)

/-- a source of the program and one of the document: both are nil, or both are in one state -/
def Pair (w : World) (P R : Option Nat) : Prop :=
  (P = none ∧ R = none) ∨ ∃ a b c n l, P = some a ∧ R = some b ∧ IsS 59 w a c n l ∧ IsS 61 w b c n l

theorem ne_of_types {w : World} {x a : Nat} {cx ca : Array Value} {tx ta : TypeId} {fx fa : Nat × Nat} (hx : w.heap[x]? = some (.cells cx tx fx)) (ha : w.heap[a]? = some (.cells ca ta fa)) (h : tx ≠ ta) : x ≠ a := by
  intro e
  subst e
  rw [hx] at ha
  cases ha
  exact h rfl

structure St (w0 w : World) (b1 b2 bs br : Nat) (C F : Nat → Int) (P R : Nat → Option Nat) : Prop where
  c : w.heap[b1]? = some (.cells #[.int .i64 (C 0), .int .i64 (C 1)] 45 (0, 0))
  f : w.heap[b2]? = some (.cells #[.int .u64 (F 0), .int .u64 (F 1)] 46 (0, 0))
  s : w.heap[bs]? = some (.cells #[pv (P 0), pv (P 1)] 47 (0, 0))
  r : w.heap[br]? = some (.cells #[pv (R 0), pv (R 1)] 49 (0, 0))
  p : ∀ j, j < 2 → Pair w (P j) (R j)
  pj : ∀ a, P 0 = some a → P 1 = some a → False
  rj : ∀ a, R 0 = some a → R 1 = some a → False
  fs : w0.heap.size ≤ bs
  fr : w0.heap.size ≤ br
  fP : ∀ j a, P j = some a → w0.heap.size ≤ a
  fR : ∀ j a, R j = some a → w0.heap.size ≤ a
  keep : Keeps (fun _ => False) w0 w

theorem Pair.keeps {S : Nat → Prop} {w w' : World} {P R : Option Nat} (h : Pair w P R) (hk : Keeps S w w') (h1 : ∀ a, P = some a → ¬ S a) (h2 : ∀ a, R = some a → ¬ S a) : Pair w' P R := by
  rcases h with h | ⟨a, b, c, n, l, ha, hb, hs, ht⟩
  · exact .inl h
  · exact .inr ⟨a, b, c, n, l, ha, hb, hs.keeps hk (h1 a ha), ht.keeps hk (h2 b hb)⟩

/-- nothing of it is touched -/
theorem St.keeps {w0 w w' : World} {b1 b2 bs br : Nat} {C F : Nat → Int} {P R : Nat → Option Nat} (h : St w0 w b1 b2 bs br C F P R) (hk : Keeps (fun _ => False) w w') : St w0 w' b1 b2 bs br C F P R :=
  ⟨hk.at h.c (fun h => h), hk.at h.f (fun h => h), hk.at h.s (fun h => h), hk.at h.r (fun h => h), fun j hj => (h.p j hj).keeps hk (fun _ _ h => h) (fun _ _ h => h), h.pj, h.rj, h.fs, h.fr, h.fP, h.fR, h.keep.trans hk⟩

/-- a step of the sources of pair K -/
theorem St.next {w0 w w1 w2 : World} {b1 b2 bs br : Nat} {C F : Nat → Int} {P R : Nat → Option Nat} (h : St w0 w b1 b2 bs br C F P R) {K a b : Nat} {c n l n' l' : Int} (hK : K < 2) (hP : P K = some a) (hR : R K = some b)
    (hs : IsS 59 w a c n l) (ht : IsS 61 w b c n l) (hs' : IsS 59 w1 a c n' l') (hk1 : Keeps (fun k => k = a) w w1) (ht' : IsS 61 w2 b c n' l') (hk2 : Keeps (fun k => k = b) w1 w2) : St w0 w2 b1 b2 bs br C F P R := by
  have hk : Keeps (fun k => k = a ∨ k = b) w w2 := (hk1.mono (fun _ => .inl)).trans (hk2.mono (fun _ => .inr))
  have e1 : ¬ (b1 = a ∨ b1 = b) := by rintro (e | e); exact ne_of_types h.c hs.blk (by decide) e; exact ne_of_types h.c ht.blk (by decide) e
  have e2 : ¬ (b2 = a ∨ b2 = b) := by rintro (e | e); exact ne_of_types h.f hs.blk (by decide) e; exact ne_of_types h.f ht.blk (by decide) e
  have e3 : ¬ (bs = a ∨ bs = b) := by rintro (e | e); exact ne_of_types h.s hs.blk (by decide) e; exact ne_of_types h.s ht.blk (by decide) e
  have e4 : ¬ (br = a ∨ br = b) := by rintro (e | e); exact ne_of_types h.r hs.blk (by decide) e; exact ne_of_types h.r ht.blk (by decide) e
  have hab : a ≠ b := ne_of_types hs.blk ht.blk (by decide)
  refine ⟨hk.at h.c e1, hk.at h.f e2, hk.at h.s e3, hk.at h.r e4, fun j hj => ?_, h.pj, h.rj, h.fs, h.fr, h.fP, h.fR, h.keep.then hk (fun i hi => ?_)⟩
  · by_cases hjK : j = K
    · subst hjK
      exact .inr ⟨a, b, c, n', l', hP, hR, hs'.keeps hk2 hab, ht'⟩
    · rcases h.p j hj with h0 | ⟨a', b', c', n1, l1, ha, hb, hs1, ht1⟩
      · exact .inl h0
      · refine .inr ⟨a', b', c', n1, l1, ha, hb, hs1.keeps hk ?_, ht1.keeps hk ?_⟩
        · rintro (e | e)
          · subst e
            have : (j = 0 ∧ K = 1) ∨ (j = 1 ∧ K = 0) := by omega
            rcases this with ⟨rfl, rfl⟩ | ⟨rfl, rfl⟩
            · exact h.pj _ ha hP
            · exact h.pj _ hP ha
          · exact ne_of_types hs1.blk ht.blk (by decide) e
        · rintro (e | e)
          · exact ne_of_types ht1.blk hs.blk (by decide) e
          · subst e
            have : (j = 0 ∧ K = 1) ∨ (j = 1 ∧ K = 0) := by omega
            rcases this with ⟨rfl, rfl⟩ | ⟨rfl, rfl⟩
            · exact h.rj _ hb hR
            · exact h.rj _ hR hb
  · rcases hi with rfl | rfl
    · exact .inr (h.fP K _ hP)
    · exact .inr (h.fR K _ hR)

def upd (P : Nat → Option Nat) (k : Nat) (v : Option Nat) : Nat → Option Nat := fun j => if j = k then v else P j

/-- two new sources are stored as pair k -/
theorem St.put {w0 w : World} {b1 b2 bs br : Nat} {C F : Nat → Int} {P R : Nat → Option Nat} (h : St w0 w b1 b2 bs br C F P R) {k : Nat} (hk : k < 2) {p r : Option Nat} (hp : Pair w p r)
    (n1 : ∀ j a, j < 2 → p = some a → P j = some a → False) (n2 : ∀ j a, j < 2 → r = some a → R j = some a → False) (g1 : ∀ a, p = some a → w0.heap.size ≤ a) (g2 : ∀ a, r = some a → w0.heap.size ≤ a) :
    St w0 ((w.setCell ⟨bs, k, none⟩ (pv p)).setCell ⟨br, k, none⟩ (pv r)) b1 b2 bs br C F (upd P k p) (upd R k r) := by
  have hrs : br ≠ bs := ne_of_types h.r h.s (by decide)
  have kk1 : Keeps (fun i => i = bs) w (w.setCell ⟨bs, k, none⟩ (pv p)) := keeps_set _ _ _ _
  have kk2 : Keeps (fun i => i = br) (w.setCell ⟨bs, k, none⟩ (pv p)) ((w.setCell ⟨bs, k, none⟩ (pv p)).setCell ⟨br, k, none⟩ (pv r)) := keeps_set _ _ _ _
  have hh : Keeps (fun i => i = bs ∨ i = br) w ((w.setCell ⟨bs, k, none⟩ (pv p)).setCell ⟨br, k, none⟩ (pv r)) := (kk1.mono (fun _ => .inl)).trans (kk2.mono (fun _ => .inr))
  have q : ∀ {x y : Option Nat}, Pair w x y → Pair ((w.setCell ⟨bs, k, none⟩ (pv p)).setCell ⟨br, k, none⟩ (pv r)) x y := by
    intro x y hxy
    rcases hxy with h0 | ⟨a, b, c, n, l, ha, hb, hs, ht⟩
    · exact .inl h0
    · refine .inr ⟨a, b, c, n, l, ha, hb, hs.keeps hh ?_, ht.keeps hh ?_⟩
      · rintro (e | e)
        · exact ne_of_types hs.blk h.s (by decide) e
        · exact ne_of_types hs.blk h.r (by decide) e
      · rintro (e | e)
        · exact ne_of_types ht.blk h.s (by decide) e
        · exact ne_of_types ht.blk h.r (by decide) e
  have hk01 : k = 0 ∨ k = 1 := by omega
  refine ⟨hh.at h.c ?_, hh.at h.f ?_, ?_, ?_, fun j hj => ?_, ?_, ?_, h.fs, h.fr, ?_, ?_, h.keep.then hh (fun i hi => ?_)⟩
  · rintro (e | e)
    · exact ne_of_types h.c h.s (by decide) e
    · exact ne_of_types h.c h.r (by decide) e
  · rintro (e | e)
    · exact ne_of_types h.f h.s (by decide) e
    · exact ne_of_types h.f h.r (by decide) e
  · rw [blk_set_ne (blk_set h.s k (pv p)) (fun e => hrs e.symm)]
    rcases hk01 with rfl | rfl <;> rfl
  · rw [blk_set (blk_set_ne h.r hrs (pv p)) k (pv r)]
    rcases hk01 with rfl | rfl <;> rfl
  · unfold upd
    split
    · exact q hp
    · exact q (h.p j hj)
  · intro a
    unfold upd
    rcases hk01 with rfl | rfl
    · simpa using fun e1 e2 => n1 1 a (by omega) e1 e2
    · simpa using fun e1 e2 => n1 0 a (by omega) e2 e1
  · intro a
    unfold upd
    rcases hk01 with rfl | rfl
    · simpa using fun e1 e2 => n2 1 a (by omega) e1 e2
    · simpa using fun e1 e2 => n2 0 a (by omega) e2 e1
  · intro j a
    unfold upd
    split
    · exact g1 a
    · exact h.fP j a
  · intro j a
    unfold upd
    split
    · exact g2 a
    · exact h.fR j a
  · rcases hi with rfl | rfl
    · exact .inr h.fs
    · exact .inr h.fr

theorem St.sK {w0 w : World} {b1 b2 bs br : Nat} {C F : Nat → Int} {P R : Nat → Option Nat} (h : St w0 w b1 b2 bs br C F P R) {k : Nat} (hk : k < 2) : w.cell? ⟨bs, k, none⟩ = some (pv (P k)) := by
  rw [cell_of_blk h.s]
  have : k = 0 ∨ k = 1 := by omega
  rcases this with rfl | rfl <;> rfl
theorem St.rK {w0 w : World} {b1 b2 bs br : Nat} {C F : Nat → Int} {P R : Nat → Option Nat} (h : St w0 w b1 b2 bs br C F P R) {k : Nat} (hk : k < 2) : w.cell? ⟨br, k, none⟩ = some (pv (R k)) := by
  rw [cell_of_blk h.r]
  have : k = 0 ∨ k = 1 := by omega
  rcases this with rfl | rfl <;> rfl
theorem St.cK {w0 w : World} {b1 b2 bs br : Nat} {C F : Nat → Int} {P R : Nat → Option Nat} (h : St w0 w b1 b2 bs br C F P R) {k : Nat} (hk : k < 2) : w.cell? ⟨b1, k, none⟩ = some (.int .i64 (C k)) := by
  rw [cell_of_blk h.c]
  have : k = 0 ∨ k = 1 := by omega
  rcases this with rfl | rfl <;> rfl
theorem St.fK {w0 w : World} {b1 b2 bs br : Nat} {C F : Nat → Int} {P R : Nat → Option Nat} (h : St w0 w b1 b2 bs br C F P R) {k : Nat} (hk : k < 2) : w.cell? ⟨b2, k, none⟩ = some (.int .u64 (F k)) := by
  rw [cell_of_blk h.f]
  have : k = 0 ∨ k = 1 := by omega
  rcases this with rfl | rfl <;> rfl

theorem St.ltP {w0 w : World} {b1 b2 bs br : Nat} {C F : Nat → Int} {P R : Nat → Option Nat} (h : St w0 w b1 b2 bs br C F P R) {j a : Nat} (hj : j < 2) (ha : P j = some a) : a < w.heap.size := by
  rcases h.p j hj with ⟨h0, _⟩ | ⟨a', b', c, n, l, h1, h2, hs, ht⟩
  · rw [h0] at ha; cases ha
  · rw [h1] at ha; cases ha; exact hs.lt
theorem St.ltR {w0 w : World} {b1 b2 bs br : Nat} {C F : Nat → Int} {P R : Nat → Option Nat} (h : St w0 w b1 b2 bs br C F P R) {j a : Nat} (hj : j < 2) (ha : R j = some a) : a < w.heap.size := by
  rcases h.p j hj with ⟨_, h0⟩ | ⟨a', b', c, n, l, h1, h2, hs, ht⟩
  · rw [h0] at ha; cases ha
  · rw [h2] at ha; cases ha; exact ht.lt

/-- what Next answers and does, the program's and the document's alike -/
theorem next_both (c n l : Int) (h0 : 1 ≤ n) (h1 : n ≤ 281474976710656) (c0 : 0 ≤ c) (c1 : c ≤ 65535) :
    ∃ x k n' l' : Int, 0 ≤ x ∧ x ≤ 18446744073709551615 ∧ 0 ≤ k ∧ k ≤ 30 ∧
      (∀ w a, IsS 59 w a c n l → Calls Try.prog 12 #[.pointer (some ⟨a, 0, none⟩)] w fun e w' => e = .returned (.tuple #[.int .u64 x, .int .i64 k]) ∧ IsS 59 w' a c n' l' ∧ Keeps (fun i => i = a) w w') ∧
      (∀ w a, IsS 61 w a c n l → Calls Try.prog 17 #[.pointer (some ⟨a, 0, none⟩)] w fun e w' => e = .returned (.tuple #[.int .u64 x, .int .i64 k]) ∧ IsS 61 w' a c n' l' ∧ Keeps (fun i => i = a) w w') := by
  by_cases h : n ≤ 281474976710655
  · refine ⟨nam n c, 0, n + 1, nam n c, by unfold nam; omega, by unfold nam; omega, by omega, by omega, fun w a hs => next_yes w a c n l hs h, fun w a hs => refNext_yes w a c n l hs h⟩
  · obtain rfl : n = 281474976710656 := by omega
    refine ⟨0, 30, 281474976710656, l, by omega, by omega, by omega, by omega, fun w a hs => (next_no w a c l hs).mono ?_, fun w a hs => (refNext_no w a c l hs).mono ?_⟩
    · rintro e w' ⟨rfl, rfl⟩
      exact ⟨rfl, hs, Keeps.refl _ _⟩
    · rintro e w' ⟨rfl, rfl⟩
      exact ⟨rfl, hs, Keeps.refl _ _⟩
theorem of_noK (w : World) (c f : Int) (h1 : -9223372036854775808 ≤ c) (h2 : c ≤ 9223372036854775807) (h3 : 0 ≤ f) (h4 : f ≤ 18446744073709551615) (h : ¬ (0 ≤ c ∧ c ≤ 65535 ∧ f ≤ 281474976710655)) :
    Calls Try.prog 10 #[.int .i64 c, .int .u64 f] w fun e w' => e = .returned (.tuple #[.pointer none, .int .i64 1]) ∧ Keeps (fun _ => False) w w' :=
  (of_no w c f h1 h2 h3 h4 h).mono (by rintro e w' ⟨rfl, rfl⟩; exact ⟨rfl, Keeps.refl _ _⟩)
theorem refOf_noK (w : World) (c f : Int) (h1 : -9223372036854775808 ≤ c) (h2 : c ≤ 9223372036854775807) (h3 : 0 ≤ f) (h4 : f ≤ 18446744073709551615) (h : ¬ (0 ≤ c ∧ c ≤ 65535 ∧ f ≤ 281474976710655)) :
    Calls Try.prog 16 #[.int .i64 c, .int .u64 f] w fun e w' => e = .returned (.tuple #[.pointer none, .int .i64 1]) ∧ Keeps (fun _ => False) w w' :=
  (refOf_no w c f h1 h2 h3 h4 h).mono (by rintro e w' ⟨rfl, rfl⟩; exact ⟨rfl, Keeps.refl _ _⟩)
end Go.Proofs.Ytkapjgoomceglaa
