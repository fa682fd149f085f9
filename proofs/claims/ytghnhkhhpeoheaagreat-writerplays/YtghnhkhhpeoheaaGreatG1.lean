/- shard.GroupPairs (ported from stage 5). -/
import Derived.Test.YtghnhkhhpeoheaaGreatG0
namespace Go.Proofs.YtghnhkhhpeoheaaGreat
open Go.RowKit Go.Sort Orl
set_option linter.unusedVariables false
set_option linter.unusedSimpArgs false

open Classical in
noncomputable def gsl {α : Type} (L : List (LS α)) : Nat → List (GS α)
  | 0 => []
  | k + 1 => gsl L k ++ (if (L.getD k ls0).xs = [] then [] else [⟨k, (L.getD k ls0).o, (L.getD k ls0).c, (L.getD k ls0).xs⟩])
section
variable {α : Type} {E : El α} {X : El (LS α)} {G : El (GS α)} {key : α → Tx}
theorem gsl_no (L : List (LS α)) (k : Nat) (h : (L.getD k ls0).xs = []) : gsl L (k + 1) = gsl L k := by
  rw [gsl, if_pos h, List.append_nil]
theorem gsl_yes (L : List (LS α)) (k : Nat) (h : (L.getD k ls0).xs ≠ []) : gsl L (k + 1) = gsl L k ++ [⟨k, (L.getD k ls0).o, (L.getD k ls0).c, (L.getD k ls0).xs⟩] := by
  rw [gsl, if_neg h]
theorem gsl_map (P : Nat) (l : List α) (L : List (LS α)) (h : ∀ j, j < P → (L.getD j ls0).xs = ownOf P key l j) : ∀ k, k ≤ P → (gsl L k).map (fun g => (g.n, g.xs)) = prt P key l k
  | 0, _ => rfl
  | k + 1, hk => by
    have ih := gsl_map P l L h k (by omega)
    have e := h k (by omega)
    rw [prt, ← ih]
    by_cases h0 : ownOf P key l k = []
    · rw [gsl_no L k (by rw [e, h0]), if_pos (by rw [h0]; rfl), List.append_nil]
    · rw [gsl_yes L k (by rw [e]; exact h0), if_neg (by simpa using h0), List.map_append, List.map_singleton, ← e]
theorem gsl_mem (L : List (LS α)) : ∀ k, ∀ g ∈ gsl L k, g.n < k ∧ g = ⟨g.n, (L.getD g.n ls0).o, (L.getD g.n ls0).c, (L.getD g.n ls0).xs⟩ ∧ g.xs ≠ []
  | 0, g, hg => by cases hg
  | k + 1, g, hg => by
    by_cases h0 : (L.getD k ls0).xs = []
    · rw [gsl_no L k h0] at hg
      obtain ⟨h1, h2⟩ := gsl_mem L k g hg
      exact ⟨by omega, h2⟩
    · rw [gsl_yes L k h0, List.mem_append, List.mem_singleton] at hg
      rcases hg with hg | rfl
      · obtain ⟨h1, h2⟩ := gsl_mem L k g hg
        exact ⟨by omega, h2⟩
      · exact ⟨by simp, rfl, h0⟩
theorem gsl_rise (L : List (LS α)) : ∀ k, (gsl L k).Pairwise (fun a b => a.n < b.n)
  | 0 => List.Pairwise.nil
  | k + 1 => by
    by_cases h0 : (L.getD k ls0).xs = []
    · rw [gsl_no L k h0]; exact gsl_rise L k
    · rw [gsl_yes L k h0, List.pairwise_append]
      refine ⟨gsl_rise L k, by simp, fun a ha b hb => ?_⟩
      rw [List.mem_singleton] at hb
      subst hb
      exact (gsl_mem L k a ha).1
theorem gsl_length (L : List (LS α)) : ∀ k, (gsl L k).length ≤ k
  | 0 => by simp [gsl]
  | k + 1 => by
    have := gsl_length L k
    by_cases h0 : (L.getD k ls0).xs = []
    · rw [gsl_no L k h0]; omega
    · rw [gsl_yes L k h0]; simp; omega

/-- what is told: numbers that rise, each with a list of its own -/
structure Told {α : Type} (E : El α) (G : El (GS α)) (key : α → Tx) (w : World) (P : Nat) (l : List α) (o : Option Addr) (c : Nat) (gs : List (GS α)) (w' : World) : Prop where
  own : Own G w' o c gs
  each : ∀ j, j < gs.length → Own E w' (gs.getD j gs0).o (gs.getD j gs0).c (gs.getD j gs0).xs
  far : ∀ i j, i < gs.length → j < gs.length → i ≠ j → ∀ k, inO (gs.getD i gs0).o k → ¬ inO (gs.getD j gs0).o k
  val : gs.map (fun g => (g.n, g.xs)) = prt P key l P
  rise : ∀ i j, i < j → j < gs.length → (gs.getD i gs0).n < (gs.getD j gs0).n
  top : ∀ j, j < gs.length → (gs.getD j gs0).n < P ∧ (gs.getD j gs0).xs = ownOf P key l (gs.getD j gs0).n ∧ (gs.getD j gs0).xs ≠ []
  len : gs.length ≤ P
  new : New w o
  news : ∀ j, j < gs.length → New w (gs.getD j gs0).o
  kp : Keeps no w w'
theorem Told.keeps {S : Nat → Prop} {w : World} {P : Nat} {l : List α} {o : Option Addr} {c : Nat} {gs : List (GS α)} {w' w'' : World} (h : Told E G key w P l o c gs w') (hk : Keeps S w' w'') (h1 : ∀ k, inO o k → ¬ S k) (h2 : ∀ j, j < gs.length → ∀ k, inO (gs.getD j gs0).o k → ¬ S k) (h3 : Keeps no w w'') : Told E G key w P l o c gs w'' :=
  ⟨h.own.keeps hk h1, fun j hj => (h.each j hj).keeps hk (h2 j hj), h.far, h.val, h.rise, h.top, h.len, h.new, h.news, h3⟩
theorem Told.keepsN {w : World} {P : Nat} {l : List α} {o : Option Addr} {c : Nat} {gs : List (GS α)} {w' w'' : World} (h : Told E G key w P l o c gs w') (hk : Keeps no w' w'') : Told E G key w P l o c gs w'' :=
  h.keeps hk (fun _ _ => id) (fun _ _ _ _ => id) (h.kp.trans hk)
theorem Told.lens {w w2 : World} {P : Nat} {l : List α} {o o2 : Option Addr} {c c2 : Nat} {gs gs2 : List (GS α)} {w' w2' : World} {E2 : El α} {G2 : El (GS α)} (h : Told E G key w P l o c gs w') (h2 : Told E2 G2 key w2 P l o2 c2 gs2 w2') : gs.length = gs2.length ∧ ∀ j, (gs.getD j gs0).n = (gs2.getD j gs0).n ∧ (gs.getD j gs0).xs = (gs2.getD j gs0).xs := by
  have e := h.val.trans h2.val.symm
  have hl : gs.length = gs2.length := by have := congrArg List.length e; simpa using this
  refine ⟨hl, fun j => ?_⟩
  have ej := congrArg (fun m => m[j]?) e
  simp only [List.getElem?_map] at ej
  rw [List.getD_eq_getElem?_getD, List.getD_eq_getElem?_getD]
  by_cases hj : j < gs.length
  · rw [List.getElem?_eq_getElem hj, List.getElem?_eq_getElem (hl ▸ hj)] at ej ⊢
    simp only [Option.map_some, Option.some.injEq, Prod.mk.injEq] at ej
    exact ej
  · rw [List.getElem?_eq_none (by omega), List.getElem?_eq_none (by omega)]
    exact ⟨rfl, rfl⟩
theorem told_of {w : World} {P : Nat} {l : List α} {oA : Option Addr} {cA : Nat} {L : List (LS α)} {w' : World} (h : Deal E X key w P l oA cA L w') {o : Option Addr} {c : Nat} (ho : Own G w' o c (gsl L P)) (hn : New w o) : Told E G key w P l o c (gsl L P) w' := by
  have hm : ∀ j, j < (gsl L P).length → ((gsl L P).getD j gs0).n < P ∧ ((gsl L P).getD j gs0) = ⟨((gsl L P).getD j gs0).n, (L.getD ((gsl L P).getD j gs0).n ls0).o, (L.getD ((gsl L P).getD j gs0).n ls0).c, (L.getD ((gsl L P).getD j gs0).n ls0).xs⟩ ∧ ((gsl L P).getD j gs0).xs ≠ [] := fun j hj => gsl_mem L P _ (mem_getD _ _ _ hj)
  have hr : ∀ i j, i < j → j < (gsl L P).length → ((gsl L P).getD i gs0).n < ((gsl L P).getD j gs0).n := by
    intro i j hij hj
    have := List.pairwise_iff_getElem.1 (gsl_rise L P) i j (by omega) hj hij
    simpa [List.getD_eq_getElem?_getD, hj, show i < (gsl L P).length by omega] using this
  refine ⟨ho, ?_, ?_, gsl_map P l L h.xs P (Nat.le_refl _), hr, ?_, gsl_length L P, hn, ?_, h.kp⟩
  · intro j hj
    obtain ⟨h1, h2, _⟩ := hm j hj
    rw [h2]
    exact h.lots.each _ (by rw [h.len]; exact h1)
  · intro i j hi hj hij
    obtain ⟨h1, h2, _⟩ := hm i hi
    obtain ⟨h3, h4, _⟩ := hm j hj
    have hne : ((gsl L P).getD i gs0).n ≠ ((gsl L P).getD j gs0).n := by
      rcases Nat.lt_or_gt_of_ne hij with h5 | h5
      · exact Nat.ne_of_lt (hr i j h5 hj)
      · exact Nat.ne_of_gt (hr j i h5 hi)
    rw [h2, h4]
    exact h.lots.far _ _ (by rw [h.len]; exact h1) (by rw [h.len]; exact h3) hne
  · intro j hj
    obtain ⟨h1, h2, h3⟩ := hm j hj
    refine ⟨h1, ?_, h3⟩
    rw [show ((gsl L P).getD j gs0).xs = (L.getD ((gsl L P).getD j gs0).n ls0).xs by rw [h2]]
    exact h.xs _ h1
  · intro j hj
    obtain ⟨h1, h2, _⟩ := hm j hj
    rw [h2]
    exact h.news _ h1
/-- one part more told -/
theorem Deal.more (hE : G.e ≠ E.e) (hX : G.e ≠ X.e) {w : World} {P : Nat} {l : List α} {oA : Option Addr} {cA : Nat} {L : List (LS α)} {wr w' : World} (h : Deal E X key w P l oA cA L wr) {o : Option Addr} {c : Nat} {gs : List (GS α)} (ho : Own G wr o c gs) (hn : New w o) {o' : Option Addr} (hap : Ap wr o o' w') : Deal E X key w P l oA cA L w' ∧ New w o' := by
  have hk : Keeps (inO o) wr w' := by
    rcases hap with ⟨_, hk⟩ | ⟨_, hk⟩
    · exact hk
    · exact hk.of_no
  have h2 := hap.new hn h.kp
  exact ⟨⟨h.lots.keeps hk (fun k h1 h2 => tags_ne hX ho h.lots.own k h2 h1) (fun j hj k h1 h2 => tags_ne hE ho (h.lots.each j hj) k h2 h1), h.len, h.xs, h.new, h.news, h2.2⟩, h2.1⟩

end
set_option maxRecDepth 10000 in
theorem groupP_yes (w : World) (a : Option Addr) (n c : Nat) (xs : List Pr) (P : Nat) (hn : n = xs.length) (hfit : (xs.length : Int) * 32 ≤ 140737488351232) (hsz : ∀ x ∈ xs, x.1.size ≤ maxLen ∧ x.2.size ≤ maxLen) (hs : Sl PE w a c xs) (h1 : 0 < P) (h2 : P ≤ 64) :
    Calls Tryz.prog 26 #[.slice a n c, .int .i64 (P : Int)] w fun e w' => ∃ o m c gs, e = .returned (.tuple #[.slice o m c, .int .i64 0]) ∧ Hid (m = gs.length ∧ Told PE HE fstP w P xs o c gs w') := by
  have HF : Hid (n = xs.length ∧ (xs.length : Int) * 32 ≤ 140737488351232 ∧ (∀ x ∈ xs, x.1.size ≤ maxLen ∧ x.2.size ≤ maxLen) ∧ Sl PE w a c xs) := ⟨hn, hfit, hsz, hs⟩
  clear hn hfit hsz hs
  go_enter Tryz.func26, Tryz.ntmps26
  go_wp2_with (first | (go_at_call 51; go_must (refine (may_yes P h1 h2 _).mono ?_); rintro e w' ⟨rfl, hw'⟩; subst w') | (go_at_call 52; go_loud (refine (dealP_any _ a n c xs P HF.out.1 HF.out.2.1 HF.out.2.2.1 HF.out.2.2.2 h1 h2).mono ?_); rintro e w1 ⟨bA, cA, L, rfl, hD⟩; have HD0 : Hid _ := hD; clear hD))
  go_loopw [6, 16] (fun s6 i wr => ∃ (k m : Nat) (o : Option Addr) (cc : Nat), k ≤ P ∧ i = .int .i64 k ∧ s6 = .slice o m cc ∧ Hid (m = (gsl L k).length ∧ Deal PE YE fstP w P xs (some ⟨bA, 0, none⟩) cA L wr ∧ Own HE wr o cc (gsl L k) ∧ New w o)) (fun _ i _ => P - (intOf i).toNat)
  case atStart => exact ⟨0, 0, none, 0, by omega, rfl, rfl, ⟨rfl, HD0.out, own_nil _, new_none _⟩⟩
  case round =>
    obtain ⟨k, m, o, cc, hk, rfl, rfl, HI⟩ := hrel
    by_cases hlt : k < P
    · obtain ⟨g1, g2, g3, g4⟩ := HI.out
      obtain ⟨d2, ho, hle⟩ := g2.at kindP k hlt
      obtain ⟨s, hsq⟩ : ∃ s, s = L.getD k ls0 := ⟨_, rfl⟩
      rw [← hsq] at d2 ho hle
      obtain ⟨o2, c2, ys⟩ := s
      simp only at d2 ho hle
      obtain ⟨m2, hm2⟩ : ∃ m2, m2 = ys.length := ⟨_, rfl⟩
      rw [← hm2] at d2
      have HS : Hid (m2 = ys.length ∧ L.getD k ls0 = ⟨o2, c2, ys⟩) := ⟨hm2, hsq.symm⟩
      have hmI : (m2 : Int) ≤ 4398046510976 := by have := HF.out.2.1; omega
      have hmk : m ≤ 64 := by have := gsl_length L k; omega
      have HB : Hid (((gsl L k).length + [(⟨k, o2, c2, ys⟩ : GS Pr)].length) * HE.nb ≤ 140737488355328 ∧ (gsl L k).length + [(⟨k, o2, c2, ys⟩ : GS Pr)].length ≤ 140737488355328) := ⟨by simp [HE]; omega, by simp; omega⟩
      clear g1 g2 g3 g4 ho hle hsq hm2
      by_cases h0 : m2 = 0
      · have hxs : (L.getD k ls0).xs = [] := by rw [HS.out.2]; exact List.length_eq_zero_iff.1 (by rw [← HS.out.1]; exact h0)
        have HX : Hid ((L.getD k ls0).xs = []) := hxs
        clear hxs
        subst h0
        go_wp2_with fail
        go_roundw
        case rel =>
          refine ⟨k + 1, m, o, cc, by omega, by go_num, rfl, ?_⟩
          have := HI.out
          rw [← gsl_no L k HX.out] at this
          exact this
        case measure => simp [intOf] <;> omega
      · have h0' : (0 : Int) < m2 := by omega
        have HX : Hid ((L.getD k ls0).xs ≠ []) := by
          show _ ≠ _
          rw [HS.out.2]
          intro e
          have := HS.out.1
          rw [show ys = [] from e] at this
          exact h0 this
        go_wp2_with (at_builtin; go_loud (refine wpList_app okH rfl _ _ rfl _ _ _ (gsl L k) rfl HI.out.1 (HI.out.2.2.1.keepsN ((Keeps.refl _ _).alloc _)) _ _ _ [⟨k, o2, c2, ys⟩] rfl rfl (fun h => by cases h) (lit_one (E := HE) _ _ _ (by simp [HE, GS.enc, HS.out.1])).row HB.out.1 HB.out.2 ?_); intro o5 c5 w5 ho5 hap5)
        go_roundw
        case rel =>
          obtain ⟨g1, g2, g3, g4⟩ := HI.out
          have hm := (g2.keepsN ((Keeps.refl _ _).alloc (.cells #[.int .i64 (k : Int), .slice o2 m2 c2] 75))).more (G := HE) (by decide) (by decide) (g3.keepsN ((Keeps.refl _ _).alloc _)) g4 hap5
          refine ⟨k + 1, m + 1, o5, c5, by omega, by go_num, rfl, ?_, hm.1, ?_, hm.2⟩
          · rw [gsl_yes L k HX.out]; simp; exact g1
          · rw [gsl_yes L k HX.out, HS.out.2]; exact ho5
        case measure => simp [intOf] <;> omega
    · go_wp2_with fail
      go_ret2
      obtain rfl : k = P := by omega
      obtain ⟨g1, g2, g3, g4⟩ := HI.out
      exact ⟨o, m, cc, gsl L k, rfl, g1, told_of g2 g3 g4⟩

theorem groupP_no (w : World) (a : Option Addr) (n c : Nat) (z : Int) (h : ¬ (1 ≤ z ∧ z ≤ 64)) :
    Calls Tryz.prog 26 #[.slice a n c, .int .i64 z] w fun e w' => e = .returned (.tuple #[.slice none 0 0, .int .i64 1]) ∧ w' = w := by
  have H : Hid (¬ (1 ≤ z ∧ z ≤ 64)) := h
  clear h
  go_enter Tryz.func26, Tryz.ntmps26
  go_wp2_with (go_at_call 51; go_must (refine (may_no z H.out _).mono ?_); rintro e w' ⟨rfl, rfl⟩)
  go_ret2
  exact ⟨rfl, rfl⟩

end Go.Proofs.YtghnhkhhpeoheaaGreat
