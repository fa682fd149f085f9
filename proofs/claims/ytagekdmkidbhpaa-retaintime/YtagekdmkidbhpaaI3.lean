import Derived.Test.YtagekdmkidbhpaaI2
import Derived.Test.YtagekdmkidbhpaaCA
/- The order of marks; Collect; SortFunc; SortedFunc. -/
namespace Go.Proofs.Ytagekdmkidbhpaa
open Go.RowKit Go.Maps Go.Sort Orl
set_option linter.unusedVariables false
set_option linter.unusedSimpArgs false

def cmpI (i j : Nat) : Int := if i < j then -1 else if j < i then 1 else 0
def cmpM (a b : Mk) : Int := if cmpT a.1 b.1 ≠ 0 then cmpT a.1 b.1 else cmpI a.2 b.2
theorem isNaN_any (w : World) (i : Nat) : Calls Try.prog 71 #[.int .u64 ((i : Nat) : Int)] w fun e w' => e = .returned (.bool false) ∧ w' = w := by
  go_enter Try.func71, Try.ntmps71
  go_wp2
  go_ret
  exact ⟨rfl, rfl⟩
theorem cmpI_any (w : World) (i j : Nat) : Calls Try.prog 65 #[.int .u64 ((i : Nat) : Int), .int .u64 ((j : Nat) : Int)] w fun e w' => e = .returned (.int .i64 (cmpI i j)) ∧ w' = w := by
  unfold cmpI
  rcases Nat.lt_trichotomy i j with h | h | h
  · rw [if_pos h]
    have h1 : (i : Int) < j := by omega
    go_enter Try.func65, Try.ntmps65
    go_wp2_with (go_at_call 71; refine (isNaN_any _ _).mono ?_; rintro e w' ⟨rfl, rfl⟩)
    go_ret
    exact ⟨rfl, rfl⟩
  · subst h
    rw [if_neg (by omega), if_neg (by omega)]
    go_enter Try.func65, Try.ntmps65
    go_wp2_with (go_at_call 71; refine (isNaN_any _ _).mono ?_; rintro e w' ⟨rfl, rfl⟩)
    go_ret
    exact ⟨rfl, rfl⟩
  · rw [if_neg (by omega), if_pos h]
    have h1 : ¬ (i : Int) < j := by omega
    have h2 : (j : Int) < i := by omega
    go_enter Try.func65, Try.ntmps65
    go_wp2_with (go_at_call 71; refine (isNaN_any _ _).mono ?_; rintro e w' ⟨rfl, rfl⟩)
    go_ret
    exact ⟨rfl, rfl⟩
set_option maxHeartbeats 1000000 in
theorem or_any (w : World) (b : Nat) (x y : Int) (h0 : w.cell? ⟨b, 0, none⟩ = some (.int .i64 x)) (h1 : w.cell? ⟨b, 1, none⟩ = some (.int .i64 y)) : Calls Try.prog 64 #[.slice (some ⟨b, 0, none⟩) 2 2] w fun e w' => e = .returned (.int .i64 (if x ≠ 0 then x else y)) ∧ w' = w := by
  by_cases hx : x = 0
  · rw [if_neg (by simp [hx])]
    subst hx
    by_cases hy : y = 0
    · subst hy
      go_enter Try.func64, Try.ntmps64
      go_wp2_with fail
      go_loopw [5, 8] (fun _ i wr => wr = w ∧ ∃ k : Nat, k ≤ 2 ∧ i = .int .i64 (k : Int)) (fun _ i _ => 3 - (intOf i).toNat)
      case atStart => exact ⟨rfl, 0, by omega, rfl⟩
      case round =>
        obtain ⟨rfl, k, hk, rfl⟩ := hrel
        have : k = 0 ∨ k = 1 ∨ k = 2 := by omega
        rcases this with rfl | rfl | rfl
        · go_wp2
          go_roundw
          case rel => exact ⟨trivial, 1, by omega, rfl⟩
          case measure => simp [intOf]
        · go_wp2
          go_roundw
          case rel => exact ⟨trivial, 2, by omega, rfl⟩
          case measure => simp [intOf]
        · go_wp2
          go_ret
          exact ⟨rfl, rfl⟩
    · go_enter Try.func64, Try.ntmps64
      go_wp2_with fail
      go_loopw [5, 8] (fun _ i wr => wr = w ∧ ∃ k : Nat, k ≤ 1 ∧ i = .int .i64 (k : Int)) (fun _ i _ => 3 - (intOf i).toNat)
      case atStart => exact ⟨rfl, 0, by omega, rfl⟩
      case round =>
        obtain ⟨rfl, k, hk, rfl⟩ := hrel
        have : k = 0 ∨ k = 1 := by omega
        rcases this with rfl | rfl
        · go_wp2
          go_roundw
          case rel => exact ⟨trivial, 1, by omega, rfl⟩
          case measure => simp [intOf]
        · go_wp2
          go_ret
          exact ⟨rfl, rfl⟩
  · rw [if_pos hx]
    go_enter Try.func64, Try.ntmps64
    go_wp2_with fail
    go_loopw [5, 8] (fun _ i wr => wr = w ∧ i = .int .i64 0) (fun _ i _ => 1)
    case atStart => exact ⟨rfl, rfl⟩
    case round =>
      obtain ⟨rfl, rfl⟩ := hrel
      go_wp2
      go_ret
      exact ⟨rfl, rfl⟩
set_option maxHeartbeats 1000000 in
theorem byKey_any (x y : Mk) (W : World) : Calls Try.prog 54 #[.agg #[.string x.1, .int .u64 ((x.2 : Nat) : Int)], .agg #[.string y.1, .int .u64 ((y.2 : Nat) : Int)]] W fun e w' => e = .returned (.int .i64 (cmpM x y)) ∧ ∃ q os', w' = grow (W.drewN q) os' := by
  obtain ⟨x1, x2⟩ := x
  obtain ⟨y1, y2⟩ := y
  have hcon := fun W' => compare_any x1 y1 W'
  have hci := fun W' => cmpI_any W' x2 y2
  unfold cmpM
  simp only
  generalize cmpT x1 y1 = r at hcon ⊢
  generalize cmpI x2 y2 = r2 at hci ⊢
  have hor := fun W' b' h0 h1 => or_any W' b' r r2 h0 h1
  generalize (if r ≠ 0 then r else r2) = R at hor ⊢
  go_enter Try.func54, Try.ntmps54
  go_wp2_with fail
  obtain ⟨W1, hW1⟩ : ∃ W1, W1 = (W.alloc (.cells #[.string x1, .int .u64 ((x2 : Nat) : Int)] 87)).alloc (.cells #[.string y1, .int .u64 ((y2 : Nat) : Int)] 87) := ⟨_, rfl⟩
  have HW : Hid (W1 = (W.alloc (.cells #[.string x1, .int .u64 ((x2 : Nat) : Int)] 87)).alloc (.cells #[.string y1, .int .u64 ((y2 : Nat) : Int)] 87)) := hW1
  have hb0 : W1.heap[W.heap.size]? = some (.cells #[.string x1, .int .u64 ((x2 : Nat) : Int)] 87 (0, 0)) := by rw [hW1]; exact blk_alloc (blk_new W _) _
  have hb1 : W1.heap[W.heap.size + 1]? = some (.cells #[.string y1, .int .u64 ((y2 : Nat) : Int)] 87 (0, 0)) := by
    have := blk_new (W.alloc (.cells #[.string x1, .int .u64 ((x2 : Nat) : Int)] 87)) (.cells #[.string y1, .int .u64 ((y2 : Nat) : Int)] 87)
    rw [show (W.alloc (.cells #[.string x1, .int .u64 ((x2 : Nat) : Int)] 87)).heap.size = W.heap.size + 1 by simp] at this
    rw [hW1]; exact this
  have HST : Hid (∀ X, Keeps no W1 X → X.cell? ⟨W.heap.size, 0, none⟩ = some (.string x1) ∧ X.cell? ⟨W.heap.size, 1, none⟩ = some (.int .u64 ((x2 : Nat) : Int)) ∧ X.cell? ⟨W.heap.size + 1, 0, none⟩ = some (.string y1) ∧ X.cell? ⟨W.heap.size + 1, 1, none⟩ = some (.int .u64 ((y2 : Nat) : Int))) := fun X hX =>
    ⟨hX.cellN (cell_of_blk hb0 0), hX.cellN (cell_of_blk hb0 1), hX.cellN (cell_of_blk hb1 0), hX.cellN (cell_of_blk hb1 1)⟩
  rw [← hW1]
  clear hb0 hb1 hW1
  go_region_held3 (fun X => X.cell? ⟨W.heap.size, 0, none⟩ = some (.string x1) ∧ X.cell? ⟨W.heap.size, 1, none⟩ = some (.int .u64 ((x2 : Nat) : Int)) ∧ X.cell? ⟨W.heap.size + 1, 0, none⟩ = some (.string y1) ∧ X.cell? ⟨W.heap.size + 1, 1, none⟩ = some (.int .u64 ((y2 : Nat) : Int))) (first | exact HST.out _ (Keeps.refl no _) | exact HST.out _ ((Keeps.refl no _).drew) | exact HST.out _ (((Keeps.refl no _).drew).alloc _) | exact HST.out _ (((Keeps.refl no _).alloc _).drew)) ((first | (go_at_call 42; refine (hcon _).mono ?_; rintro e w' ⟨rfl, rfl⟩) | (go_at_call 65; refine (hci _).mono ?_; rintro e w' ⟨rfl, rfl⟩) | (go_at_call 64; refine (hor _ W1.heap.size (by first | exact cell_of_blk (blk_new W1 _) 0 | exact cell_of_blk (blk_new W1.drew _) 0) (by first | exact cell_of_blk (blk_new W1 _) 1 | exact cell_of_blk (blk_new W1.drew _) 1)).mono ?_; rintro e w' ⟨rfl, rfl⟩)))
  go_wp2_with fail
  go_ret
  refine ⟨rfl, 1, #[.cells #[.string x1, .int .u64 ((x2 : Nat) : Int)] 87, .cells #[.string y1, .int .u64 ((y2 : Nat) : Int)] 87, .cells #[.int .i64 r, .int .i64 r2] 3], ?_⟩
  rw [HW.out]
  rw [alloc_eq_grow, alloc_eq_grow, alloc_eq_grow, grow_grow, grow_grow]
  rfl
end Go.Proofs.Ytagekdmkidbhpaa
