/- The walk of IdentOnce. -/
import Derived.Test.YtkapjgoomceglaaLN
namespace Go.Proofs.Ytkapjgoomceglaa
open Go.RowKit
set_option linter.unusedVariables false
set_option linter.unusedSimpArgs false

theorem nam_ne (a c b d : Int) (h : Right a c) (k : Right b d) (hcd : d ≠ c) : (nam a c == nam b d) = false := by
  rw [nam_eq a c b d h k]
  have : ¬ c = d := fun e => hcd e.symm
  simp [this]
theorem nam_step (n c : Int) : nam (n + 1) c - nam n c = 65536 := by unfold nam; omega

/-- both sources, k names behind the first ones -/
structure Both (w0 w : World) (a b : Nat) (c D L k lst : Int) : Prop where
  s : IsS 59 w a c (281474976710655 - L + k) lst
  t : ∃ l, IsS 59 w b D (281474976710655 - L - 20 + k) l
  ab : a < b
  a0 : w0.heap.size ≤ a
  keep : Keeps (fun _ => False) w0 w

set_option maxRecDepth 10000 in
set_option maxHeartbeats 1000000 in
theorem identOnce_any (w : World) (c o b m : Int) (h0 : 0 ≤ c) (h2 : c ≤ 65535) (h3 : 0 ≤ o) (h4 : o ≤ 65535) (h5 : 0 ≤ b) (h6 : b ≤ 255) (h7 : 0 ≤ m) (h8 : m ≤ 255) :
    Calls Try.prog 4 #[.int .u16 c, .int .u16 o, .int .u8 b, .int .u8 m] w fun e w' => e = .returned (.bool true) ∧ Keeps (fun _ => False) w w' := by
  go_enter Try.func4, Try.ntmps4
  go_wp2_with fail
  refine (alive_any w).mono ?_
  rintro e w1 ⟨rfl, hk1⟩
  go_upto_if 34 with fail
  generalize hL : b % 40 = L
  have L0 : 0 ≤ L := by omega
  have L1 : L ≤ 39 := by omega
  clear hL h5 h6
  go_cut [1] from 27 (fun s wc => (∃ D : Int, s = .int .u16 D ∧ 0 ≤ D ∧ D ≤ 65535 ∧ D ≠ c) ∧ wc = w1)
  case first =>
    by_cases hco : c = o
    · subst hco
      by_cases hc5 : c = 65535
      · subst hc5
        go_wp2_with fail
        go_meet
        case rel => exact ⟨⟨0, rfl, by omega, by omega, by omega⟩, rfl⟩
      · go_wp2_with fail
        go_meet
        case rel => exact ⟨⟨c + 1, by go_num, by omega, by omega, by omega⟩, rfl⟩
    · go_wp2_with fail
      go_meet
      case rel => exact ⟨⟨o, rfl, by omega, by omega, fun e => hco e.symm⟩, rfl⟩
  case rest =>
  obtain ⟨⟨D, rfl, d0, d1, dc⟩, rfl⟩ := hcut
  go_wp2_with fail
  refine (of_yes wc c (281474976710655 - L) h0 h2 (by omega) (by omega)).mono ?_
  rintro e w2 ⟨rfl, hs, hk2⟩
  rw [show max (281474976710655 - L) 1 = 281474976710655 - L + 0 by omega] at hs
  go_wp2_with fail
  refine (of_yes w2 D (281474976710655 - L - 20) d0 d1 (by omega) (by omega)).mono ?_
  rintro e w3 ⟨rfl, ht, hk3⟩
  rw [show max (281474976710655 - L - 20) 1 = 281474976710655 - L - 20 + 0 by omega] at ht
  have HB : Hid (Both w w3 wc.heap.size w2.heap.size c D L 0 0) := ⟨hs.keeps hk3 (fun h => h), ⟨_, ht⟩, hs.lt, hk1.size, (hk1.trans hk2).trans hk3⟩
  generalize wc.heap.size = A at *
  generalize w2.heap.size = B at *
  clear hk1 hk2 hk3 hs ht
  go_wp2_with fail
  refine (left_any w3 A c _ 0 HB.out.s).mono ?_
  rw [show (281474976710656 - (281474976710655 - L + 0) : Int) = L + 1 by omega]
  rintro e w4 ⟨rfl, rfl⟩
  go_wp2_with fail
  go_loopw [14, 15] (fun l i wr => ∃ (k lst : Int), 0 ≤ k ∧ k ≤ L + 1 ∧ i = .int .u64 k ∧ l = .int .u64 lst ∧ Hid ((k = 0 ∧ lst = 0) ∨ (1 ≤ k ∧ lst = nam (281474976710655 - L + k - 1) c)) ∧ Hid (Both w wr A B c D L k lst)) (fun _ i _ => (L + 1 - intOf i).toNat)
  case atStart => exact ⟨0, 0, by omega, by omega, rfl, rfl, .inl ⟨rfl, rfl⟩, HB.out⟩
  case round =>
    clear HB
    obtain ⟨k, lst, k0, k1, rfl, rfl, HL, HB⟩ := hrel
    by_cases hk : k ≤ L
    · have rX : Right (281474976710655 - L + k) c := ⟨by omega, by omega, h0, h2⟩
      have rY : Right (281474976710655 - L - 20 + k) D := ⟨by omega, by omega, d0, d1⟩
      have hxy := nam_ne _ c _ D rX rY dc
      have hmx := nam_mod _ c rX
      have hmy := nam_mod _ D rY
      have l1 := nam_low _ c rX
      have l2 := nam_high _ c rX
      have l3 := nam_low _ D rY
      have l4 := nam_high _ D rY
      have HX : Hid (nam (281474976710655 - L + k) c - nam (281474976710655 - L + k - 1) c = 65536) := by
        have := nam_step (281474976710655 - L + k - 1) c
        rwa [show 281474976710655 - L + k - 1 + 1 = 281474976710655 - L + k by omega] at this
      have HR : Hid (1 ≤ k → Right (281474976710655 - L + k - 1) c) := fun h => ⟨by omega, by omega, h0, h2⟩
      clear rX rY
      obtain ⟨tl, ht⟩ := HB.out.t
      have HT : Hid (IsS 59 wr B D (281474976710655 - L - 20 + k) tl) := ht
      clear ht
      go_wp2_with fail
      refine (next_yes wr A c _ lst HB.out.s (by omega)).mono ?_
      rintro e w5 ⟨rfl, hs5, hk5⟩
      have HT5 : Hid (IsS 59 w5 B D (281474976710655 - L - 20 + k) tl) := HT.out.keeps hk5 (fun e => by have := HB.out.ab; omega)
      have HS5 : Hid (IsS 59 w5 A c (281474976710655 - L + k + 1) (nam (281474976710655 - L + k) c)) := hs5
      have HK5 : Hid (Keeps (fun _ => False) w w5) := HB.out.keep.then hk5 (fun i hi => by subst hi; exact .inr HB.out.a0)
      clear hs5 hk5
      go_wp2_with fail
      refine (next_yes w5 B D _ tl HT5.out (by omega)).mono ?_
      rintro e w6 ⟨rfl, ht6, hk6⟩
      have HS6 : Hid (IsS 59 w6 A c (281474976710655 - L + k + 1) (nam (281474976710655 - L + k) c)) := HS5.out.keeps hk6 (fun e => by have := HB.out.ab; omega)
      have HT6 : Hid (IsS 59 w6 B D (281474976710655 - L - 20 + k + 1) (nam (281474976710655 - L - 20 + k) D)) := ht6
      have HK6 : Hid (Keeps (fun _ => False) w w6) := HK5.out.then hk6 (fun i hi => by subst hi; exact .inr (by have := HB.out.ab; have := HB.out.a0; omega))
      clear ht6 hk6
      have HB6 : Hid (Both w w6 A B c D L (k + 1) (nam (281474976710655 - L + k) c)) := ⟨by rw [← Int.add_assoc]; exact HS6.out, ⟨_, by rw [← Int.add_assoc]; exact HT6.out⟩, HB.out.ab, HB.out.a0, HK6.out⟩
      generalize hXX : nam (281474976710655 - L + k) c = X at *
      generalize hYY : nam (281474976710655 - L - 20 + k) D = Y at *
      rcases HL.out with ⟨rfl, rfl⟩ | ⟨k2, rfl⟩
      · go_wp2_with fail
        refine (last_any w6 A c _ _ HS6.out).mono ?_
        rintro e w7 ⟨rfl, rfl⟩
        go_wp2_with fail
        refine (left_any w7 A c _ _ HS6.out).mono ?_
        rintro e w8 ⟨rfl, rfl⟩
        go_wp2_with fail
        go_roundw
        case rel => exact ⟨0 + 1, X, by omega, by omega, by go_num, rfl, .inr ⟨by omega, by rw [← hXX]; congr 1; omega⟩, HB6.out⟩
        case measure => simp [intOf]; omega
      · have hx1 := HX.out
        have l5 := nam_low _ c (HR.out k2)
        have l6 := nam_high _ c (HR.out k2)
        generalize nam (281474976710655 - L + k - 1) c = Z at *
        go_wp2_with fail
        refine (last_any w6 A c _ _ HS6.out).mono ?_
        rintro e w7 ⟨rfl, rfl⟩
        go_wp2_with fail
        refine (left_any w7 A c _ _ HS6.out).mono ?_
        rintro e w8 ⟨rfl, rfl⟩
        go_wp2_with fail
        go_roundw
        case rel => exact ⟨k + 1, X, by omega, by omega, by go_num, rfl, .inr ⟨by omega, by rw [← hXX]; congr 1; omega⟩, HB6.out⟩
        case measure => simp [intOf]; omega
    · have hk1 : k = L + 1 := by omega
      subst hk1
      have hl : lst = nam 281474976710655 c := by
        rcases HL.out with ⟨h, _⟩ | ⟨_, h⟩
        · omega
        · rw [h]; congr 1; omega
      have rM : Right 281474976710655 c := ⟨by omega, by omega, h0, h2⟩
      have hq := nam_div _ c rM
      have l1 := nam_low _ c rM
      have l2 := nam_high _ c rM
      rw [← hl] at hq l1 l2
      clear hl rM HL
      have HS : Hid (IsS 59 wr A c 281474976710656 lst) := by have := HB.out.s; rwa [show 281474976710655 - L + (L + 1) = 281474976710656 by omega] at this
      obtain ⟨tl, ht⟩ := HB.out.t
      have HT : Hid (IsS 59 wr B D 281474976710636 tl) := by rwa [show 281474976710655 - L - 20 + (L + 1) = 281474976710636 by omega] at ht
      have HK : Hid (Keeps (fun _ => False) w wr) := HB.out.keep
      have HA : Hid (w.heap.size ≤ B) := by have := HB.out.ab; have := HB.out.a0; show w.heap.size ≤ B; omega
      clear ht HB
      go_wp2_with fail
      rename World => wq
      go_loopw [20] (fun i wr => wr = wq ∧ ∃ j : Int, 0 ≤ j ∧ j ≤ m % 9 + 1 ∧ i = .int .i64 j) (fun i _ => (m % 9 + 1 - intOf i).toNat)
      case atStart => exact ⟨rfl, 0, by omega, by omega, rfl⟩
      case round =>
        obtain ⟨rfl, j, j0, j1, rfl⟩ := hrel
        have m0 : 0 ≤ m % 9 := by omega
        have m1 : m % 9 ≤ 8 := by omega
        by_cases hj : j ≤ m % 9
        · go_wp2_with fail
          refine (next_no wr A c lst HS.out).mono ?_
          rintro e w5 ⟨rfl, rfl⟩
          go_wp2_with fail
          refine (last_any w5 A c _ _ HS.out).mono ?_
          rintro e w6 ⟨rfl, rfl⟩
          go_wp2_with fail
          refine (left_any w6 A c _ _ HS.out).mono ?_
          rintro e w7 ⟨rfl, rfl⟩
          go_wp2_with fail
          go_roundw
          case rel => exact ⟨trivial, j + 1, by omega, by omega, by go_num⟩
          case measure => simp [intOf]; omega
        · go_wp2_with fail
          refine (next_yes wr B D _ tl HT.out (by omega)).mono ?_
          rintro e w5 ⟨rfl, ht5, hk5⟩
          go_wp2_with fail
          refine (make_noSeq w5 281474976710656 c (by omega) (by omega) (by omega)).mono ?_
          rintro e w6 ⟨rfl, rfl⟩
          go_wp2
          go_ret
          exact ⟨by simp, HK.out.then hk5 (fun i hi => by subst hi; exact .inr HA.out)⟩
end Go.Proofs.Ytkapjgoomceglaa
