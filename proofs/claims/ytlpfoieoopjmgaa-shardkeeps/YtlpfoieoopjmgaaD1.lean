import Derived.Test.YtlpfoieoopjmgaaS1
namespace Go.Proofs.Ytlpfoieoopjmgaa
open Go.RowKit
set_option linter.unusedVariables false
set_option linter.unusedSimpArgs false

/-- a slice that a literal of one lays -/
theorem lit_one {α : Type} {E : El α} (w : World) (x : α) (cs : Array Value) (hc : cs.toList = E.enc x) : Sl E (w.alloc (.cells cs E.e)) (some ⟨w.heap.size, 0, none⟩) 1 [x] := by
  refine ⟨.inr ⟨w.heap.size, 0, rfl, fun j u hj => ?_⟩, by simp, by simp⟩
  rw [cell_of_blk (blk_new w _), Nat.zero_add, ← Array.getElem?_toList, hc]
  simpa [El.cells] using hj
def idT : Tx → Tx := fun x => x
/-- what deal holds: each partition's list, all of them new -/
structure Deal {α : Type} (E : El α) (X : El (LS α)) (key : α → Tx) (w : World) (P : Nat) (l : List α) (oA : Option Addr) (cA : Nat) (L : List (LS α)) (w' : World) : Prop where
  lots : Lots E X w' oA cA L
  len : L.length = P
  xs : ∀ j, j < P → (L.getD j ls0).xs = ownOf P key l j
  new : New w oA
  news : ∀ j, j < P → New w (L.getD j ls0).o
  kp : Keeps no w w'
theorem Deal.keepsN {α : Type} {E : El α} {X : El (LS α)} {key : α → Tx} {w : World} {P : Nat} {l : List α} {oA : Option Addr} {cA : Nat} {L : List (LS α)} {w' w'' : World} (h : Deal E X key w P l oA cA L w') (hk : Keeps no w' w'') : Deal E X key w P l oA cA L w'' :=
  ⟨h.lots.keepsN hk, h.len, h.xs, h.new, h.news, h.kp.trans hk⟩
/-- one more dealt -/
theorem Deal.app {α : Type} {E : El α} {X : El (LS α)} (K : Kind E X) {key : α → Tx} {w : World} {P : Nat} {l : List α} {oA : Option Addr} {cA : Nat} {L : List (LS α)} {wr w' : World} (h : Deal E X key w P l oA cA L wr) (x : α) (hP : pl P (key x) < P)
    {o' : Option Addr} {c' : Nat} (ho : Own E w' o' c' ((L.getD (pl P (key x)) ls0).xs ++ [x])) (hap : Ap wr (L.getD (pl P (key x)) ls0).o o' w') (N : Nat) (hN : N = (L.getD (pl P (key x)) ls0).xs.length + 1) :
    ∃ b, oA = some ⟨b, 0, none⟩ ∧ (∃ v, w'.cell? ⟨b, pl P (key x), none⟩ = some v) ∧ w'.frozen? ⟨b, pl P (key x), none⟩ = false ∧ ∃ L', Deal E X key w P (l ++ [x]) oA cA L' (w'.setCell ⟨b, pl P (key x), none⟩ (.slice o' N c')) := by
  obtain ⟨b, e, h1, h2, h3, h4⟩ := h.lots.app K (pl P (key x)) (by rw [h.len]; exact hP) ho hap
  have hN' : N = ((L.getD (pl P (key x)) ls0).xs ++ [x]).length := by rw [hN]; simp
  have hs := h.news (pl P (key x)) hP
  refine ⟨b, e, ⟨_, h1⟩, h2, L.set (pl P (key x)) ⟨o', c', (L.getD (pl P (key x)) ls0).xs ++ [x]⟩, ?_, by rw [List.length_set]; exact h.len, ?_, h.new, ?_, ?_⟩
  · rw [hN']; exact h3
  · intro j hj
    rw [getD_set _ _ _ _ _ (by rw [h.len]; exact hP), ownOf_snoc]
    by_cases ej : j = pl P (key x)
    · rw [if_pos ej, if_pos ej, ej, ← h.xs _ hP]
    · rw [if_neg ej, if_neg ej]; exact h.xs j hj
  · intro j hj
    rw [getD_set _ _ _ _ _ (by rw [h.len]; exact hP)]
    by_cases ej : j = pl P (key x)
    · rw [if_pos ej]; exact (hap.new hs h.kp).1
    · rw [if_neg ej]; exact h.news j hj
  · exact (hap.new hs h.kp).2.setCell (.inr (by subst e; exact h.new b ⟨_, rfl, rfl⟩)) _

theorem keyT_any (x : Tx) (w : World) : Calls Try.prog 21 #[.string x] w fun e w' => e = .returned (.string x) ∧ w' = w := by
  go_enter Try.func21, Try.ntmps21
  go_wp2
  go_ret
  exact ⟨rfl, rfl⟩
theorem keyP_any (x y : Tx) (w : World) : Calls Try.prog 24 #[.agg #[.string x, .string y]] w fun e w' => e = .returned (.string x) ∧ Keeps no w w' := by
  go_enter Try.func24, Try.ntmps24
  go_wp2
  go_ret
  exact ⟨rfl, by first | exact Keeps.refl _ _ | exact (Keeps.refl _ _).alloc _⟩
theorem mem_getD {α : Type} (l : List α) (k : Nat) (d : α) (h : k < l.length) : l.getD k d ∈ l := by
  rw [List.getD_eq_getElem?_getD, List.getElem?_eq_getElem h]; exact List.getElem_mem h
/-- the list of the key x, as it lies -/
theorem Deal.at {α : Type} {E : El α} {X : El (LS α)} (K : Kind E X) {key : α → Tx} {w : World} {P : Nat} {l : List α} {b cA : Nat} {L : List (LS α)} {wr : World} (h : Deal E X key w P l (some ⟨b, 0, none⟩) cA L wr) (q : Nat) (hq : q < P) :
    wr.cell? ⟨b, q, none⟩ = some (.slice (L.getD q ls0).o (L.getD q ls0).xs.length (L.getD q ls0).c) ∧ Own E wr (L.getD q ls0).o (L.getD q ls0).c (L.getD q ls0).xs ∧ (L.getD q ls0).xs.length ≤ l.length := by
  have hq' : q < L.length := by rw [h.len]; exact hq
  obtain ⟨b', off, e, hc⟩ := h.lots.own.sl.one K.x K.k ls0 hq' _ (K.enc _)
  cases e
  rw [Nat.zero_add] at hc
  exact ⟨hc, h.lots.each q hq', by rw [h.xs q hq]; exact ownOf_length _ _ _ _⟩

set_option maxRecDepth 10000 in
theorem dealT_any (w : World) (a : Option Addr) (n c : Nat) (xs : List Tx) (P : Nat) (hn : n = xs.length) (hfit : (xs.length : Int) * 16 ≤ 140737488351232) (hsz : ∀ x ∈ xs, x.size ≤ maxLen) (hs : Sl TE w a c xs) (h1 : 0 < P) (h2 : P ≤ 64) :
    Calls Try.prog 20 #[.slice a n c, .int .i64 (P : Int), .func (.func 21) #[] #[]] w fun e w' => ∃ b cA L, e = .returned (.slice (some ⟨b, 0, none⟩) P cA) ∧ Deal TE XE idT w P xs (some ⟨b, 0, none⟩) cA L w' := by
  have HA : Hid (n = xs.length) := hn
  have HF : Hid ((xs.length : Int) * 16 ≤ 140737488351232) := hfit
  have hA : (n : Int) ≤ 8796093021952 := by omega
  have HZ : Hid (∀ x ∈ xs, x.size ≤ maxLen) := hsz
  obtain ⟨w1, hr1, hl1, hk1⟩ := makeX w P h2
  have HM : Hid (Deal TE XE idT w P [] (some ⟨w.heap.size, 0, none⟩) P (List.replicate P ls0) w1) := ⟨hl1, by simp, fun j hj => by simp [hj, ls0, ownOf], new_fresh _ _ (Nat.le_refl _) _, fun j hj => by simp [hj, ls0]; exact new_none _, hk1⟩
  clear hn hfit hsz hl1 hk1
  go_enter Try.func20, Try.ntmps20
  go_wp2_with fail
  go_loopw [15] (fun i wr => ∃ (k : Nat) (L : List (LS Tx)), k ≤ n ∧ i = .int .i64 k ∧ Hid (Deal TE XE idT w P (xs.take k) (some ⟨w.heap.size, 0, none⟩) P L wr)) (fun i _ => n - (intOf i).toNat)
  case atStart => exact ⟨0, _, by omega, rfl, HM⟩
  case round =>
    obtain ⟨k, L, hk, rfl, HI⟩ := hrel
    clear HM
    by_cases hlt : k < n
    · have hka : k < xs.length := by have := HA.out; omega
      have hs' := hs.keepsN HI.out.kp
      obtain ⟨b1, off1, rfl, d1⟩ := hs'.at hka
      obtain ⟨x, hx⟩ : ∃ x, x = xs.getD k e0 := ⟨_, rfl⟩
      have hxs : x.size ≤ maxLen := HZ.out x (by rw [hx]; exact mem_getD _ _ _ hka)
      rw [← hx] at d1
      have HT : Hid (xs.take (k + 1) = xs.take k ++ [x]) := by rw [take_succ_getD xs k e0 hka, ← hx]; exact rfl
      obtain ⟨q, hq⟩ : ∃ q, q = pl P x := ⟨_, rfl⟩
      have hqP : q < P := by rw [hq]; exact pl_lt x h1
      have HQ : Hid (q = pl P x) := hq
      obtain ⟨d2, ho, hle⟩ := HI.out.at kindT q hqP
      obtain ⟨s, hsq⟩ : ∃ s, s = L.getD q ls0 := ⟨_, rfl⟩
      rw [← hsq] at d2 ho hle
      obtain ⟨o, cc, ys⟩ := s
      simp only at d2 ho hle
      obtain ⟨m, hm⟩ : ∃ m, m = ys.length := ⟨_, rfl⟩
      rw [← hm] at d2
      have HO : Hid (Own TE wr o cc ys ∧ m = ys.length ∧ L.getD q ls0 = ⟨o, cc, ys⟩) := ⟨ho, hm, hsq.symm⟩
      have hmI : (m : Int) ≤ 8796093021952 := by rw [List.length_take] at hle; omega
      have HB : Hid ((ys.length + [x].length) * TE.nb ≤ 140737488355328 ∧ ys.length + [x].length ≤ 140737488355328) := ⟨by simp [TE]; omega, by simp; omega⟩
      have HD : Hid (Deal TE XE idT w P (xs.take k) (some ⟨w.heap.size, 0, none⟩) P L (wr.alloc (.cells #[.string x] 9))) := HI.out.keepsN ((Keeps.refl _ _).alloc _)
      clear hx hka hq hs' ho hle hm hsq HI
      go_wp2_with (first | (go_at_call 21; go_must (refine (keyT_any x _).mono ?_); rintro e w' ⟨rfl, rfl⟩) | (go_at_call 22; go_must (refine (place_any x P h1 h2 _ hxs).mono ?_); rintro e w' ⟨rfl, rfl⟩; rw [← HQ.out]) | (at_builtin; go_loud (refine wpList_app okT rfl _ _ rfl _ _ _ ys rfl HO.out.2.1 (HO.out.1.keepsN ((Keeps.refl _ _).alloc _)) _ _ _ [x] rfl rfl (fun h => by cases h) (lit_one (E := TE) _ x _ rfl).row HB.out.1 HB.out.2 ?_); intro o5 c5 w5 ho5 hap5; obtain ⟨b5, eb5, ⟨v5, hv5⟩, hf5, L5, hD5⟩ := Deal.app kindT HD.out x (by rw [show pl P (idT x) = q from HQ.out.symm]; exact hqP) (by rw [show pl P (idT x) = q from HQ.out.symm, HO.out.2.2]; exact ho5) (by rw [show pl P (idT x) = q from HQ.out.symm, HO.out.2.2]; exact hap5) (m + 1) (by rw [show pl P (idT x) = q from HQ.out.symm, HO.out.2.2, HO.out.2.1]); cases eb5; rw [show pl P (idT x) = q from HQ.out.symm] at hv5 hf5 hD5; have HD5 : Hid _ := hD5; clear hD5))
      go_roundw
      case rel =>
        refine ⟨k + 1, L5, by omega, by go_num, ?_⟩
        have := HD5.out
        rw [← HT.out] at this
        exact this
      case measure => simp [intOf]; omega
    · go_wp2_with fail
      go_ret
      refine ⟨_, _, L, rfl, ?_⟩
      have he : xs.take k = xs := List.take_of_length_le (by have := HA.out; omega)
      have := HI.out
      rwa [he] at this
end Go.Proofs.Ytlpfoieoopjmgaa
