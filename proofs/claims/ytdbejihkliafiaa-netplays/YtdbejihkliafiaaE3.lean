/- NetPlays: two nets and the document's two. -/
import Derived.Test.YtdbejihkliafiaaE2
namespace Go.Proofs.Ytdbejihkliafiaa
open Go.RowKit Go.Sort
set_option linter.unusedVariables false
set_option linter.unusedSimpArgs false

/-- one net and the document's, or none -/
def Sd (w : World) (v u : Value) (F G : Nat → Prop) (K : Nat) : Prop := (v = .pointer none ∧ u = .pointer none ∧ (∀ i, ¬ F i) ∧ ∀ i, ¬ G i) ∨ ∃ p q s, v = .pointer (some ⟨p, 0, none⟩) ∧ u = .pointer (some ⟨q, 0, none⟩) ∧ Two w p q F G s K
theorem Two.mono {w : World} {p q : Nat} {F G : Nat → Prop} {s : NS} {K L : Nat} (h : Two w p q F G s K) (hl : K ≤ L) : Two w p q F G s L := ⟨h.n, h.d, h.sep, h.wf.mono hl⟩
theorem Sd.keeps {S : Nat → Prop} {w w' : World} {v u : Value} {F G : Nat → Prop} {K L : Nat} (h : Sd w v u F G K) (hl : K ≤ L) (k : Keeps S w w') (hs : ∀ i, F i ∨ G i → ¬ S i) : Sd w' v u F G L := by
  rcases h with h | ⟨p, q, s, h1, h2, h3⟩
  · exact .inl h
  · exact .inr ⟨p, q, s, h1, h2, (h3.keeps k hs).mono hl⟩
theorem Sd.lt {w : World} {v u : Value} {F G : Nat → Prop} {K : Nat} (h : Sd w v u F G K) : ∀ i, F i ∨ G i → i < w.heap.size := by
  rintro i hi
  rcases h with ⟨_, _, h1, h2⟩ | ⟨p, q, s, _, _, h3⟩
  · exact (hi.elim (h1 i) (h2 i)).elim
  · exact hi.elim (h3.n.lt i) (h3.d.lt i)
structure Qd (w0 w : World) (N R : Nat) (v u : Nat → Value) (F G : Nat → Nat → Prop) (K : Nat) : Prop where
  sd : ∀ j, j < 2 → Sd w (v j) (u j) (F j) (G j) K
  ap : ∀ i j, i < 2 → j < 2 → i ≠ j → ∀ x, F i x ∨ G i x → ¬ (F j x ∨ G j x)
  nN : w.heap[N]? = some (.cells #[v 0, v 1] 50 (0, 0))
  nR : w.heap[R]? = some (.cells #[u 0, u 1] 52 (0, 0))
  out : ∀ j, j < 2 → ∀ x, F j x ∨ G j x → x ≠ N ∧ x ≠ R ∧ w0.heap.size ≤ x
  hN : w0.heap.size ≤ N
  hR : w0.heap.size ≤ R
  ne : N ≠ R
  kp : Keeps no w0 w
section
variable {w0 w w' : World} {N R : Nat} {v u : Nat → Value} {F G : Nat → Nat → Prop} {K L : Nat}
theorem Qd.keepsN (h : Qd w0 w N R v u F G K) (k : Keeps no w w') : Qd w0 w' N R v u F G K :=
  ⟨fun j hj => (h.sd j hj).keeps (Nat.le_refl _) k (fun _ _ h => h), h.ap, k.at h.nN (fun h => h), k.at h.nR (fun h => h), h.out, h.hN, h.hR, h.ne, h.kp.trans k⟩
theorem Qd.more (h : Qd w0 w N R v u F G K) (hl : K ≤ L) : Qd w0 w N R v u F G L :=
  ⟨fun j hj => (h.sd j hj).keeps hl (Keeps.refl no w) (fun _ _ h => h), h.ap, h.nN, h.nR, h.out, h.hN, h.hR, h.ne, h.kp⟩
/-- one of them goes on -/
theorem Qd.step (h : Qd w0 w N R v u F G K) (hl : K ≤ L) {j : Nat} (hj : j < 2) {p q : Nat} (hv : v j = .pointer (some ⟨p, 0, none⟩)) (hu : u j = .pointer (some ⟨q, 0, none⟩)) {s' : NS} (ht : TwoTo w p q (F j) (G j) s' L w') : ∃ F' G', Qd w0 w' N R v u F' G' L ∧ Two w' p q (F' j) (G' j) s' L := by
  obtain ⟨F1, G1, t1, t2, t3, t4⟩ := ht
  have hsz := t4.size
  have hsN := lt_of_block h.nN
  have hsR := lt_of_block h.nR
  have key : ∀ x, F1 x ∨ G1 x → (F j x ∨ G j x) ∨ w.heap.size ≤ x := by
    rintro x (hx | hx)
    · exact (t2 x hx).imp (fun h => .inl h) (fun h => h)
    · exact (t3 x hx).imp (fun h => .inr h) (fun h => h)
  refine ⟨fun i => if i = j then F1 else F i, fun i => if i = j then G1 else G i, ⟨fun i hi => ?_, fun a b ha hb hab x hx hy => ?_, t4.at h.nN (fun e => (h.out j hj N e).1 rfl), t4.at h.nR (fun e => (h.out j hj R e).2.1 rfl), fun i hi x hx => ?_, h.hN, h.hR, h.ne, h.kp.then t4 (fun x hx => .inr (h.out j hj x hx).2.2)⟩, by simpa using t1⟩
  · by_cases e : i = j
    · subst e
      simp only [if_true]
      exact .inr ⟨p, q, s', hv, hu, t1⟩
    · simp only [if_neg e]
      exact (h.sd i hi).keeps hl t4 (fun x hx hy => h.ap i j hi hj e x hx hy)
  · by_cases e1 : a = j
    · by_cases e2 : b = j
      · exact hab (by rw [e1, e2])
      · simp only [e1, if_true] at hx
        simp only [if_neg e2] at hy
        rcases key x hx with e | e
        · exact h.ap j b hj hb (fun e => e2 e.symm) x e hy
        · have := (h.sd b hb).lt x hy; omega
    · simp only [if_neg e1] at hx
      by_cases e2 : b = j
      · simp only [e2, if_true] at hy
        rcases key x hy with e | e
        · exact h.ap a j ha hj e1 x hx e
        · have := (h.sd a ha).lt x hx; omega
      · simp only [if_neg e2] at hy
        exact h.ap a b ha hb hab x hx hy
  · by_cases e : i = j
    · simp only [e, if_true] at hx
      rcases key x hx with e | e
      · exact h.out j hj x e
      · exact ⟨by omega, by omega, Nat.le_trans h.kp.size e⟩
    · simp only [if_neg e] at hx
      exact h.out i hi x hx
/-- one of them is made -/
theorem Qd.make (h : Qd w0 w N R v u F G K) {k : Nat} (hk : k < 2) (hnil : ∀ x, ¬ F k x ∧ ¬ G k x) {w4 : World} (k4 : Keeps no w w4) {p q : Nat} {F1 G1 : Nat → Prop} {s : NS} (ht : Two w4 p q F1 G1 s K) (hF : ∀ x, F1 x ∨ G1 x → w.heap.size ≤ x) :
    Qd w0 ((w4.setCell ⟨N, k, none⟩ (.pointer (some ⟨p, 0, none⟩))).setCell ⟨R, k, none⟩ (.pointer (some ⟨q, 0, none⟩))) N R (fun i => if i = k then .pointer (some ⟨p, 0, none⟩) else v i) (fun i => if i = k then .pointer (some ⟨q, 0, none⟩) else u i) (fun i => if i = k then F1 else F i) (fun i => if i = k then G1 else G i) K := by
  have hs4 := k4.size
  have hsN := lt_of_block h.nN
  have hsR := lt_of_block h.nR
  have kk : Keeps (fun i => i = N ∨ i = R) w4 ((w4.setCell ⟨N, k, none⟩ (.pointer (some ⟨p, 0, none⟩))).setCell ⟨R, k, none⟩ (.pointer (some ⟨q, 0, none⟩))) := ((Keeps.refl (fun i => i = N ∨ i = R) w4).setCell (p := ⟨N, k, none⟩) (.inl (.inl (show N = N from rfl))) _).setCell (p := ⟨R, k, none⟩) (.inl (.inr (show R = R from rfl))) _
  have bN := blk_set_ne (blk_set (k4.at h.nN (fun h => h)) k (.pointer (some ⟨p, 0, none⟩))) (p := ⟨R, k, none⟩) (show N ≠ R from h.ne) (.pointer (some ⟨q, 0, none⟩))
  have bR := blk_set (blk_set_ne (k4.at h.nR (fun h => h)) (p := ⟨N, k, none⟩) (show R ≠ N from fun e => h.ne e.symm) (.pointer (some ⟨p, 0, none⟩))) k (.pointer (some ⟨q, 0, none⟩))
  have hk2 : k = 0 ∨ k = 1 := by omega
  refine ⟨fun i hi => ?_, fun a b ha hb hab x hx hy => ?_, ?_, ?_, fun i hi x hx => ?_, h.hN, h.hR, h.ne, (h.kp.trans k4).then kk (fun x hx => .inr (by rcases hx with e | e <;> rw [e]; exact h.hN; exact h.hR))⟩
  · by_cases e : i = k
    · subst e
      simp only [if_true]
      exact .inr ⟨p, q, s, rfl, rfl, ht.keeps kk (fun x hx e => by have := hF x hx; rcases e with e | e <;> omega)⟩
    · simp only [if_neg e]
      exact ((h.sd i hi).keeps (Nat.le_refl _) k4 (fun _ _ h => h)).keeps (Nat.le_refl _) kk (fun x hx e => by have := h.out i hi x hx; rcases e with e | e; exact this.1 e; exact this.2.1 e)
  · by_cases e1 : a = k
    · by_cases e2 : b = k
      · exact hab (by rw [e1, e2])
      · simp only [e1, if_true] at hx
        simp only [if_neg e2] at hy
        have h1 := hF x hx
        have h2 := (h.sd b hb).lt x hy
        omega
    · simp only [if_neg e1] at hx
      by_cases e2 : b = k
      · simp only [e2, if_true] at hy
        have h1 := hF x hy
        have h2 := (h.sd a ha).lt x hx
        omega
      · simp only [if_neg e2] at hy
        exact h.ap a b ha hb hab x hx hy
  · rw [bN]
    rcases hk2 with rfl | rfl <;> rfl
  · rw [bR]
    rcases hk2 with rfl | rfl <;> rfl
  · by_cases e : i = k
    · simp only [e, if_true] at hx
      have h1 := hF x hx
      exact ⟨by omega, by omega, Nat.le_trans h.kp.size h1⟩
    · simp only [if_neg e] at hx
      exact h.out i hi x hx
/-- none is made -/
theorem Qd.none (h : Qd w0 w N R v u F G K) {k : Nat} (hk : k < 2) (hv : v k = .pointer Option.none) (hu : u k = .pointer Option.none) {w4 : World} (k4 : Keeps no w w4) : Qd w0 ((w4.setCell ⟨N, k, Option.none⟩ (.pointer Option.none)).setCell ⟨R, k, Option.none⟩ (.pointer Option.none)) N R v u F G K := by
  have kk : Keeps (fun i => i = N ∨ i = R) w4 ((w4.setCell ⟨N, k, Option.none⟩ (.pointer Option.none)).setCell ⟨R, k, Option.none⟩ (.pointer Option.none)) := ((Keeps.refl (fun i => i = N ∨ i = R) w4).setCell (p := ⟨N, k, Option.none⟩) (.inl (.inl (show N = N from rfl))) _).setCell (p := ⟨R, k, Option.none⟩) (.inl (.inr (show R = R from rfl))) _
  have bN := blk_set_ne (blk_set (k4.at h.nN (fun h => h)) k (.pointer Option.none)) (p := ⟨R, k, Option.none⟩) (show N ≠ R from h.ne) (.pointer Option.none)
  have bR := blk_set (blk_set_ne (k4.at h.nR (fun h => h)) (p := ⟨N, k, Option.none⟩) (show R ≠ N from fun e => h.ne e.symm) (.pointer Option.none)) k (.pointer Option.none)
  have hk2 : k = 0 ∨ k = 1 := by omega
  refine ⟨fun i hi => ((h.sd i hi).keeps (Nat.le_refl _) k4 (fun _ _ h => h)).keeps (Nat.le_refl _) kk (fun x hx e => by have := h.out i hi x hx; rcases e with e | e; exact this.1 e; exact this.2.1 e), h.ap, ?_, ?_, h.out, h.hN, h.hR, h.ne, (h.kp.trans k4).then kk (fun x hx => .inr (by rcases hx with e | e <;> rw [e]; exact h.hN; exact h.hR))⟩
  · rw [bN]
    rcases hk2 with rfl | rfl
    · rw [hv]; rfl
    · rw [hv]; rfl
  · rw [bR]
    rcases hk2 with rfl | rfl
    · rw [hu]; rfl
    · rw [hu]; rfl
theorem Qd.cellsN (h : Qd w0 w N R v u F G K) {k : Nat} (hk : k < 2) : w.cell? ⟨N, k, Option.none⟩ = some (v k) ∧ w.cell? ⟨R, k, Option.none⟩ = some (u k) ∧ w.frozen? ⟨N, k, Option.none⟩ = false ∧ w.frozen? ⟨R, k, Option.none⟩ = false := by
  have hk2 : k = 0 ∨ k = 1 := by omega
  refine ⟨?_, ?_, frozen_of_blk h.nN k, frozen_of_blk h.nR k⟩
  · rw [cell_of_blk h.nN]; rcases hk2 with rfl | rfl <;> rfl
  · rw [cell_of_blk h.nR]; rcases hk2 with rfl | rfl <;> rfl
end
end Go.Proofs.Ytdbejihkliafiaa
