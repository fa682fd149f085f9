import Derived.Test.YtclheacjhkoocaaL1
namespace Go.Proofs.Ytclheacjhkoocaa
open Go.RowKit
open Pk
set_option linter.unusedVariables false
set_option linter.unusedSimpArgs false

theorem nats_ab : nats ⟨#[97, 98]⟩ = [97, 98] := by decide

set_option maxRecDepth 10000 in
set_option maxHeartbeats 800000 in
theorem known_any (w : World) : Calls Try.prog 10 #[] w fun e w' => e = .returned (.bool true) ∧ Keeps (fun _ => False) w w' := by
  go_enter Try.func10, Try.ntmps10
  go_wp2_with fail
  refine (newWriter_any 20 w (by omega) (by omega)).mono ?_
  rintro e w1 ⟨rfl, hW1, hk1⟩
  obtain ⟨a, ha⟩ : ∃ a, a = w.heap.size := ⟨_, rfl⟩
  rw [← ha] at hW1 ⊢
  have HA : Hid (a = w.heap.size) := ha
  clear ha
  go_wp2_with fail
  refine (wU8_any w1 a none 0 20 [] 0 7 (by omega) hW1 (by decide)).mono ?_
  rintro e w2 ⟨rfl, o2, c2, hW2, hf2, hk2⟩
  go_wp2_with fail
  refine (wU32_any w2 a o2 c2 20 [7] 0 258 (by omega) hW2 (by decide)).mono ?_
  rintro e w3 ⟨rfl, o3, c3, hW3, hf3, hk3⟩
  go_wp2_with fail
  refine (wText_any w3 a o3 c3 20 [7, 0, 0, 1, 2] 0 ⟨#[97, 98]⟩ (by decide) hW3 (by decide)).mono ?_
  rintro e w4 ⟨rfl, o4, c4, hW4, hf4, hk4⟩
  have hW5 : IsW 65 w4 a o4 c4 20 [7, 0, 0, 1, 2, 0, 0, 0, 2, 97, 98] 0 := hW4
  go_wp2_with fail
  refine (wOut_any w4 a o4 c4 20 _ 0 hW5).mono ?_
  rintro e w5 ⟨hk5, ⟨h0, _⟩ | ⟨_, o5, c5, rfl, hown5, hnew5⟩⟩
  · exact absurd rfl h0
  have hK5 : Keeps (fun _ => False) w w5 := by
    have e2 : Keeps (fun _ => False) w w2 := hk1.then hk2 (fun i hi => by
      rcases hi with rfl | ⟨x, hx, _⟩
      · right; rw [HA.out]; omega
      · cases hx)
    have e3 : Keeps (fun _ => False) w w3 := e2.then hk3 (fun i hi => by
      rcases hi with rfl | hi
      · right; rw [HA.out]; omega
      · rcases hf2.in i hi with ⟨x, hx, _⟩ | h'
        · cases hx
        · right; have := hk1.size; omega)
    have e4 : Keeps (fun _ => False) w w4 := e3.then hk4 (fun i hi => by
      rcases hi with rfl | hi
      · right; rw [HA.out]; omega
      · rcases hf3.in i hi with h' | h'
        · rcases hf2.in i h' with ⟨x, hx, _⟩ | h'
          · cases hx
          · right; have := hk1.size; omega
        · right; have := e2.size; omega)
    exact e4.trans hk5
  have hby : ∀ c ∈ ([7, 0, 0, 1, 2, 0, 0, 0, 2, 97, 98] : List Nat), c < 256 := by decide
  have hsl5 := hown5.sl hby (by decide)
  clear hk1 hk2 hk3 hk4 hk5 hW1 hW2 hW3 hW4 hW5 hf2 hf3 hf4
  go_wp2_with fail
  refine (newReader_any w5 o5 _ c5 [7, 0, 0, 1, 2, 0, 0, 0, 2, 97, 98] rfl hsl5 (by decide)).mono ?_
  rintro e w6 ⟨b, o6, c6, rfl, hR6, hnew6, hk6⟩
  have hown6 := hown5.keeps hk6 (fun _ _ h => h)
  have hrl := row_lit w6 [7, 0, 0, 1, 2, 0, 0, 0, 2, 97, 98] hby (by decide)
  have hkl : Keeps (fun _ => False) w6 (w6.alloc (.cells (vals [7, 0, 0, 1, 2, 0, 0, 0, 2, 97, 98]).toArray 5)) := (Keeps.refl _ _).alloc _
  have hrow6 := (hown6.keeps hkl (fun _ _ h => h)).row hby (by decide)
  have hR7 := hR6.keeps hkl (fun _ _ h => h)
  have HR7 : Hid (IsR 68 (w6.alloc (.cells (vals [7, 0, 0, 1, 2, 0, 0, 0, 2, 97, 98]).toArray 5)) b o6 c6 [7, 0, 0, 1, 2, 0, 0, 0, 2, 97, 98] 0) := hR7
  have HKL : Hid (Keeps (fun _ => False) w (w6.alloc (.cells (vals [7, 0, 0, 1, 2, 0, 0, 0, 2, 97, 98]).toArray 5))) := (hK5.trans hk6).trans hkl
  have HRL : Hid (Row (w6.alloc (.cells (vals [7, 0, 0, 1, 2, 0, 0, 0, 2, 97, 98]).toArray 5)) (some ⟨w6.heap.size, 0, none⟩) [7, 0, 0, 1, 2, 0, 0, 0, 2, 97, 98]) := hrl
  have HR6 : Hid (Row (w6.alloc (.cells (vals [7, 0, 0, 1, 2, 0, 0, 0, 2, 97, 98]).toArray 5)) o5 [7, 0, 0, 1, 2, 0, 0, 0, 2, 97, 98]) := hrow6
  have HN6 : Hid (∀ k, footW b o6 k → w.heap.size ≤ k) := fun k hk => Nat.le_trans hK5.size (hnew6 k hk)
  clear hR7 hkl hrl hrow6 hown5 hown6 hsl5 hnew5 hR6 hk6 hK5 hby hnew6
  go_wp2_with fail
  refine (same_eq _ o5 _ c5 (some ⟨w6.heap.size, 0, none⟩) _ 11 [7, 0, 0, 1, 2, 0, 0, 0, 2, 97, 98] rfl rfl HR6.out HRL.out).mono ?_
  rintro e w7 ⟨rfl, rfl⟩
  go_wp2_with fail
  refine (rU8_any _ b o6 c6 _ 0 HR7.out).mono ?_
  rintro e w8 ⟨rfl, o8, c8, hR8, hs8, hk8⟩
  have hR8' : IsR 68 w8 b o8 c8 [0, 0, 1, 2, 0, 0, 0, 2, 97, 98] 0 := hR8
  rw [show (rnum 1 ([7, 0, 0, 1, 2, 0, 0, 0, 2, 97, 98], 0)).1 = 7 from rfl]
  go_wp2_with fail
  refine (rU32_any _ b o8 c8 _ 0 hR8').mono ?_
  rintro e w9 ⟨rfl, o9, c9, hR9, hs9, hk9⟩
  have hR9' : IsR 68 w9 b o9 c9 [0, 0, 0, 2, 97, 98] 0 := hR9
  rw [show (rnum 4 ([0, 0, 1, 2, 0, 0, 0, 2, 97, 98], 0)).1 = 258 from rfl]
  go_wp2_with fail
  refine (rText_any _ b o9 c9 _ 0 2 (by omega) (by omega) hR9').mono ?_
  rintro e w10 ⟨rfl, o10, c10, hR10, hs10, hk10⟩
  have et : rtext 2 ([0, 0, 0, 2, 97, 98], 0) = ([97, 98], ([], 0)) := by decide
  rw [et] at hR10 ⊢
  have hR10' : IsR 68 w10 b o10 c10 [] 0 := hR10
  rw [show text (([97, 98], ([], 0)) : List Nat × RS).1 = ⟨#[97, 98]⟩ from rfl]
  clear et
  go_wp2_with fail
  refine (rEnd_any _ b o10 c10 _ 0 hR10').mono ?_
  rintro e w11 ⟨rfl, rfl⟩
  rw [show rend [] 0 = 0 from rfl]
  go_wp2_with fail
  refine (rU8_any _ b o10 c10 _ 0 hR10').mono ?_
  rintro e w12 ⟨rfl, o12, c12, hR12, hs12, hk12⟩
  have hR12' : IsR 68 w12 b o12 c12 [] 4 := hR12
  rw [show (rnum 1 ([], 0)).1 = 0 from rfl]
  go_wp2_with fail
  refine (rErr_any _ b o12 c12 _ 4 hR12').mono ?_
  rintro e w13 ⟨rfl, rfl⟩
  go_wp2
  go_ret
  have hb : ∀ i, i = b → False ∨ w.heap.size ≤ i := fun i hi => .inr (HN6.out i (.inl hi))
  exact ⟨rfl, (((HKL.out.then hk8 hb).then hk9 hb).then hk10 hb).then hk12 hb⟩
end Go.Proofs.Ytclheacjhkoocaa
