import Derived.Test.YtbkfalaicocopaaDoorAlive
namespace Go.Proofs.YtbkfalaicocopaaDoor
open Go.RowKit
open Crc

theorem join_to (a b v : Nat) (n : Int) (hv : join a b n.toNat = v) (ha : a < 4294967296) (hb : b < 4294967296) (hn : n < 9223372036854775808) (hn' : -9223372036854775808 ≤ n) (w : World) (ht : TabIn w) :
    Calls Tryd.prog 8 #[.int .u32 (a : Nat), .int .u32 (b : Nat), .int .i64 n] w fun e w' => e = .returned (.int .u32 (v : Nat)) ∧ w = w' := by
  subst hv
  exact (join_any a b n ha hb hn hn' w ht).mono fun _ _ ⟨he, hw⟩ => ⟨he, hw.symm⟩

theorem info5 : (Tryd.prog.info? 5).map (fun i => (i.zero, i.size, i.bytes)) = some (some (.int .u8 0), 1, 1) := by kernel_rfl

theorem row_of_owns {w : World} {base g cap : Nat} {bs : List Nat} (h : w.ownsRow base 5 1 (.slice (some ⟨g, 0, none⟩) bs.length cap) bs.length (bs.map fun c => Value.int .u8 (c : Nat))) (hby : ∀ c ∈ bs, c < 256) (hl : bs.length ≤ 9223372036854775807) :
    Row w (some ⟨g, 0, none⟩) bs := by
  refine ⟨hby, hl, .inr ⟨_, _, rfl, fun j hj => ?_⟩⟩
  rw [Nat.zero_add, h.cellAt j (by omega)]
  simp [hj]

theorem zeros_made (k : Nat) : (madeCells (Value.int .u8 0).cells (k * 1)).toList = (List.replicate k 0).map fun c => Value.int .u8 ((c : Nat) : Int) := by
  apply List.ext_getElem
  · simp [madeCells]
  · intro i h1 h2
    have : i % 1 = 0 := Nat.mod_one i
    simp [madeCells, Value.cells, this]

theorem update_zeros (s k u : Nat) (hu : u = update s (List.replicate k 0)) (hs : s < 4294967296) (a : Option Addr) (w : World) (ht : TabIn w) (hr : Row w a (List.replicate k 0)) :
    Calls Tryd.prog 9 #[.int .u32 (s : Nat), .slice a k k] w fun e w' => e = .returned (.int .u32 (u : Nat)) ∧ w = w' := by
  have := update_any s a (List.replicate k 0) k hs w ht hr
  rw [List.length_replicate] at this
  subst hu
  exact this.mono fun _ _ ⟨he, hw⟩ => ⟨he, hw.symm⟩
theorem sum_zeros (k z : Nat) (hz : z = sum (List.replicate k 0)) (a : Option Addr) (w : World) (ht : TabIn w) (hr : Row w a (List.replicate k 0)) :
    Calls Tryd.prog 10 #[.slice a k k] w fun e w' => e = .returned (.int .u32 (z : Nat)) ∧ w = w' := by
  have := sum_any a (List.replicate k 0) k w ht hr
  rw [List.length_replicate] at this
  subst hz
  exact this.mono fun _ _ ⟨he, hw⟩ => ⟨he, hw.symm⟩

set_option maxHeartbeats 4000000 in
theorem far_walk (a b c : Nat) (n m : Int) (N M : Nat) (ha : a < 4294967296) (hb : b < 4294967296) (hc : c < 4294967296) (hn' : -9223372036854775808 ≤ n) (hm' : -9223372036854775808 ≤ m) (hn : n ≤ 9223372036854775807) (hm : m ≤ 9223372036854775807)
    (hN : 0 ≤ n ∧ n / 2 = N ∨ n < 0 ∧ (-1 - n) / 2 = N) (hM : 0 ≤ m ∧ m / 2 = M ∨ m < 0 ∧ (-1 - m) / 2 = M) (w : World) (ht : TabIn w) :
    Calls Tryd.prog 3 #[.int .u32 (a : Nat), .int .u32 (b : Nat), .int .u32 (c : Nat), .int .i64 n, .int .i64 m] w fun e w' => e = .returned (.bool true) ∧ Below w.heap.size w w' := by
  rcases hN with ⟨hn0, hN⟩ | ⟨hn0, hN⟩ <;> rcases hM with ⟨hm0, hM⟩ | ⟨hm0, hM⟩
  all_goals
    have hx : bits .xor .u32 (a : Int) (b : Int) = ((a ^^^ b : Nat) : Int) := u32_xor_nat a b ha hb
    go_enter Tryd.func3, Tryd.ntmps3
    go_wp2_with fail
    refine (alive_any w ht).mono ?_
    rintro e w1 ⟨rfl, hb1⟩
    have ht1 := ht.below hb1
    have hj := join_join a b c N M
    have l1 := join_lt a b N ha hb
    have l2 := join_lt b c M hb hc
    obtain ⟨x1, e1⟩ : ∃ x, x = join a b N := ⟨_, rfl⟩
    obtain ⟨x2, e2⟩ : ∃ x, x = join b c M := ⟨_, rfl⟩
    obtain ⟨x3, e3⟩ : ∃ x, x = join a x2 (N + M) := ⟨_, rfl⟩
    have l1' : x1 < 4294967296 := by omega
    have l2' : x2 < 4294967296 := by omega
    have f1 : Hid (join a b (N : Int).toNat = x1) := e1.symm
    have f2 : Hid (join x1 c (M : Int).toNat = x3) := by rw [e3, e2, e1]; exact hj
    have f3 : Hid (join b c (M : Int).toNat = x2) := e2.symm
    have f4 : Hid (join a x2 ((N : Int) + M).toNat = x3) := by rw [e3]; rfl
    have f5 : Hid (join a b (0 : Int).toNat = a ^^^ b) := join_zero a b
    have f6 : Hid (join a b (-1 - (N : Int)).toNat = a ^^^ b) := by rw [show (-1 - (N : Int)).toNat = 0 by omega]; exact join_zero a b
    have f7 : Hid (join 0 b (N : Int).toNat = b) := join_none b _
    clear hj l1 l2 e1 e2 e3
    go_wp2_with fail
    refine (join_to a b x1 N f1.out ha hb (by omega) (by omega) _ ht1).mono ?_
    rintro e w2 ⟨rfl, rfl⟩
    go_wp2_with fail
    refine (join_to x1 c x3 M f2.out l1' hc (by omega) (by omega) _ ht1).mono ?_
    rintro e w2 ⟨rfl, rfl⟩
    go_wp2_with fail
    refine (join_to b c x2 M f3.out hb hc (by omega) (by omega) _ ht1).mono ?_
    rintro e w2 ⟨rfl, rfl⟩
    go_wp2_with fail
    refine (join_to a x2 x3 (N + M) f4.out ha l2' (by omega) (by omega) _ ht1).mono ?_
    rintro e w2 ⟨rfl, rfl⟩
    go_wp2_with fail
    refine (join_to a b (a ^^^ b) 0 f5.out ha hb (by omega) (by omega) _ ht1).mono ?_
    rintro e w2 ⟨rfl, rfl⟩
    go_wp2_with fail
    refine (join_to a b (a ^^^ b) (-1 - N) f6.out ha hb (by omega) (by omega) _ ht1).mono ?_
    rintro e w2 ⟨rfl, rfl⟩
    go_wp2_with fail
    refine (join_to 0 b b N f7.out (by decide) hb (by omega) (by omega) _ ht1).mono ?_
    rintro e w2 ⟨rfl, rfl⟩
    have hk : (N : Int) % 200 = ((N % 200 : Nat) : Int) := by omega
    have hkl : N % 200 < 200 := Nat.mod_lt _ (by decide)
    obtain ⟨k, ek⟩ : ∃ k, k = N % 200 := ⟨_, rfl⟩
    rw [← ek] at hk hkl
    have EK : Hid (k = N % 200) := ek
    clear ek f1 f2 f3 f4 f5 f6 f7
    obtain ⟨i0, hi, hz0, hz1, hz2⟩ := info_parts info5
    go_wp2_with (at_make; go_must (refine wpList_make_full _ rfl _ _ 25 rfl w1.heap.size 5 i0 (.int .u8 0) 1 Tryd.underlying25 hi hz0 hz1 .i64 .i64 _ _ k rfl rfl (by omega) (by omega) (by rw [hz2]; omega) (by unfold maxLen; omega) (Nat.le_refl _) ?_); intro w2 hown hgrow)
    have hb2 : Below w1.heap.size w1 w2 := (Below.refl _ _).grown hgrow (Nat.le_refl _) (fun _ h => by cases h)
    have ht2 := ht1.below hb2
    have hrow : Row w2 (some ⟨w1.heap.size, 0, none⟩) (List.replicate k 0) := by
      rw [zeros_made] at hown
      have hl : (List.replicate k 0).length = k := by simp
      exact row_of_owns (cap := k) (base := w1.heap.size) (by rw [hl]; exact hown) (by simp) (by rw [hl]; omega)
    have hb3 := hb1.trans (hb2.mono hb1.size)
    clear hown hgrow hb2 hb1
    have sl := fun i => shn_lt (8 * i) a ha
    go_loop [14, 15] (fun o i => ∃ j : Nat, j ≤ k ∧ i = .int .i64 j ∧ o = .int .u32 (shn (8 * j) a : Nat)) (fun _ i => k - (intOf i).toNat)
    case atStart => exact ⟨0, by omega, rfl, rfl⟩
    case round =>
      obtain ⟨j, hj, rfl, rfl⟩ := hrel
      by_cases h2 : j < k
      · have f : Hid (join (shn (8 * j) a) 0 (1 : Int).toNat = shn (8 * (j + 1)) a) := by
          show shn (8 * 1) (shn (8 * j) a) ^^^ 0 = _
          rw [Nat.xor_zero, ← shn_add, show 8 * 1 + 8 * j = 8 * (j + 1) by omega]
        have slj := sl j
        obtain ⟨y, ey⟩ : ∃ y, y = shn (8 * j) a := ⟨_, rfl⟩
        rw [← ey] at f slj ⊢
        clear ey
        go_wp2_with fail
        refine (join_to y 0 (shn (8 * (j + 1)) a) 1 f.out slj (by decide) (by omega) (by omega) _ ht2).mono ?_
        rintro e w3 ⟨rfl, rfl⟩
        go_wp2_with fail
        go_round
        case rel => exact ⟨j + 1, by omega, by go_num, rfl⟩
        case measure => simp [intOf]; omega
      · obtain rfl : j = k := by omega
        have slj := sl j
        have g1 : Hid (join a 0 (j : Int).toNat = shn (8 * j) a) := by
          show shn (8 * j) a ^^^ 0 = _
          rw [Nat.xor_zero]
        have hs0 : sum (List.replicate j 0) < 4294967296 := update_lt 0 _ (by decide) (by simp)
        have g2 : Hid (join a (sum (List.replicate j 0)) (j : Int).toNat = update a (List.replicate j 0)) := by
          have := update_join a (List.replicate j 0)
          rw [List.length_replicate] at this
          exact this.symm
        obtain ⟨y, ey⟩ : ∃ y, y = shn (8 * j) a := ⟨_, rfl⟩
        rw [← ey] at g1 slj ⊢
        obtain ⟨u, eu⟩ : ∃ u, u = update a (List.replicate j 0) := ⟨_, rfl⟩
        rw [← eu] at g2
        have GU : Hid (u = update a (List.replicate j 0)) := eu
        obtain ⟨z, ez⟩ : ∃ z, z = sum (List.replicate j 0) := ⟨_, rfl⟩
        rw [← ez] at g2 hs0
        have GZ : Hid (z = sum (List.replicate j 0)) := ez
        clear ey eu ez sl
        go_wp2_with fail
        refine (join_to a 0 y j g1.out ha (by decide) (by omega) (by omega) _ ht2).mono ?_
        rintro e w3 ⟨rfl, rfl⟩
        go_wp2_with fail
        refine (update_zeros a j u GU.out ha _ w2 ht2 hrow).mono ?_
        rintro e w3 ⟨rfl, rfl⟩
        go_wp2_with fail
        refine (sum_zeros j z GZ.out _ w2 ht2 hrow).mono ?_
        rintro e w3 ⟨rfl, rfl⟩
        go_wp2_with fail
        refine (join_to a z u j g2.out ha hs0 (by omega) (by omega) _ ht2).mono ?_
        rintro e w3 ⟨rfl, rfl⟩
        go_wp2_with fail
        go_ret
        exact ⟨rfl, hb3⟩
end Go.Proofs.YtbkfalaicocopaaDoor
