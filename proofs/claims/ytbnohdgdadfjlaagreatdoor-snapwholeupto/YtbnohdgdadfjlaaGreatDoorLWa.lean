import Derived.Test.YtbnohdgdadfjlaaGreatDoorLBa
/- Five rows of bytes in a row. -/
namespace Go.Proofs.YtbnohdgdadfjlaaGreatDoor
open Go.RowKit Go.Sort Orl Pk Go.Maps
set_option linter.unusedVariables false
set_option linter.unusedSimpArgs false

def pt5 {α : Type} (f : Nat → α) (i : Nat) (v : α) : Nat → α := fun j => if j = i then v else f j
theorem pt5_at {α : Type} (f : Nat → α) (i : Nat) (v : α) : pt5 f i v i = v := by simp [pt5]
theorem pt5_ne {α : Type} (f : Nat → α) {i j : Nat} (v : α) (h : j ≠ i) : pt5 f i v j = f j := by simp [pt5, h]
structure Five (P : Nat → Prop) (w0 w : World) (A : Nat) (G C : Nat → Nat) (X : Nat → List Nat) : Prop where
  arr : ∃ cur : Array Value, w.heap[A]? = some (.cells cur 27 (0, 0)) ∧ cur.size = 5 ∧ ∀ i, i < 5 → cur[i]? = some (.slice (some ⟨G i, 0, none⟩) (X i).length (C i))
  own : ∀ i, i < 5 → Owns w (some ⟨G i, 0, none⟩) (C i) (X i)
  ne : ∀ i j, i < 5 → j < 5 → G i = G j → i = j
  na : ∀ i, i < 5 → G i ≠ A
  mine : ∀ i, i < 5 → P (G i) ∨ w0.heap.size ≤ G i
  minea : P A ∨ w0.heap.size ≤ A
  keep : Keeps P w0 w
section
variable {P : Nat → Prop} {w0 w w' : World} {A : Nat} {G C : Nat → Nat} {X : Nat → List Nat}
theorem Five.cell (h : Five P w0 w A G C X) {i : Nat} (hi : i < 5) : w.cell? ⟨A, i, none⟩ = some (.slice (some ⟨G i, 0, none⟩) (X i).length (C i)) := by
  obtain ⟨cur, h1, h2, h3⟩ := h.arr
  rw [cell_of_blk h1, h3 i hi]
theorem Five.free (h : Five P w0 w A G C X) (i : Nat) : w.frozen? ⟨A, i, none⟩ = false := by
  obtain ⟨cur, h1, h2, h3⟩ := h.arr
  exact frozen_of_blk h1 i
theorem Five.lt (h : Five P w0 w A G C X) {i : Nat} (hi : i < 5) : G i < w.heap.size := by
  rcases (h.own i hi).shape with ⟨e, _⟩ | ⟨g, cur, e, hg, _⟩
  · cases e
  · cases e; exact lt_of_block hg
theorem Five.lta (h : Five P w0 w A G C X) : A < w.heap.size := by
  obtain ⟨cur, h1, _⟩ := h.arr
  exact lt_of_block h1
theorem Five.keepsN (h : Five P w0 w A G C X) (hk : Keeps no w w') : Five P w0 w' A G C X := by
  obtain ⟨cur, h1, h2, h3⟩ := h.arr
  exact ⟨⟨cur, hk.at h1 id, h2, h3⟩, fun i hi => (h.own i hi).keepsN hk, h.ne, h.na, h.mine, h.minea, h.keep.trans hk.of_no⟩
theorem Five.set (h : Five P w0 w A G C X) {i : Nat} (hi : i < 5) (j v : Nat) : Five P w0 (w.setCell ⟨G i, j, none⟩ (.int .u8 ((v : Nat) : Int))) A G C (pt5 X i ((X i).set j v)) := by
  obtain ⟨cur, h1, h2, h3⟩ := h.arr
  refine ⟨⟨cur, blk_set_ne h1 (fun e => h.na i hi e.symm) _, h2, fun k hk => ?_⟩, fun k hk => ?_, h.ne, h.na, h.mine, h.minea, h.keep.setCell (h.mine i hi) _⟩
  · rw [h3 k hk]
    by_cases e : k = i
    · subst e; rw [pt5_at, List.length_set]
    · rw [pt5_ne _ _ e]
  · by_cases e : k = i
    · subst e; rw [pt5_at]; exact (h.own k hk).set j v
    · rw [pt5_ne _ _ e]
      exact (h.own k hk).keeps (keeps_set _ _ _ _) (fun b hb hc => by obtain ⟨x, ex, rfl⟩ := hb; cases ex; exact e (h.ne _ _ hk hi hc))
theorem Five.app (h : Five P w0 w A G C X) {i : Nat} (hi : i < 5) {g c m : Nat} {x : List Nat} (ho : Owns w' (some ⟨g, 0, none⟩) c x) (hm : m = x.length) (hf : g = G i ∨ w.heap.size ≤ g) (hk : Keeps (fun b => b = G i) w w') : Five P w0 (w'.setCell ⟨A, i, none⟩ (.slice (some ⟨g, 0, none⟩) m c)) A (pt5 G i g) (pt5 C i c) (pt5 X i x) := by
  obtain ⟨cur, h1, h2, h3⟩ := h.arr
  subst hm
  have hk' : Keeps P w0 w' := h.keep.then hk (fun b hb => by rw [hb]; exact h.mine i hi)
  have hgA : g ≠ A := by
    rcases hf with e | e
    · rw [e]; exact h.na i hi
    · have := h.lta; omega
  have hne : ∀ k, k < 5 → k ≠ i → G k ≠ g := by
    intro k hk ek e
    rcases hf with e' | e'
    · exact ek (h.ne k i hk hi (e.trans e'))
    · have := h.lt hk; omega
  refine ⟨⟨_, blk_set (hk.at h1 (fun e => h.na i hi e.symm)) i _, by simpa using h2, fun k hk => ?_⟩, fun k hk5 => ?_, fun a b ha hb e => ?_, fun k hk => ?_, fun k hk => ?_, h.minea, hk'.setCell h.minea _⟩
  · by_cases e : k = i
    · subst e; rw [pt5_at, pt5_at, pt5_at, Array.getElem?_setIfInBounds_self_of_lt (by omega)]
    · rw [pt5_ne _ _ e, pt5_ne _ _ e, pt5_ne _ _ e, Array.getElem?_setIfInBounds_ne (fun e' => e e'.symm)]; exact h3 k hk
  · by_cases e : k = i
    · subst e; rw [pt5_at, pt5_at, pt5_at]
      exact ho.keeps (keeps_set _ _ _ _) (fun b hb hc => by obtain ⟨x, ex, rfl⟩ := hb; cases ex; exact hgA hc)
    · rw [pt5_ne _ _ e, pt5_ne _ _ e, pt5_ne _ _ e]
      exact ((h.own k hk5).keeps hk (fun b hb hc => by obtain ⟨x, ex, rfl⟩ := hb; cases ex; exact e (h.ne _ _ hk5 hi hc))).keeps (keeps_set _ _ _ _) (fun b hb hc => by obtain ⟨x, ex, rfl⟩ := hb; cases ex; exact h.na k hk5 hc)
  · by_cases ea : a = i
    · by_cases eb : b = i
      · rw [ea, eb]
      · rw [ea, pt5_at, pt5_ne _ _ eb] at e; exact absurd e.symm (hne b hb eb)
    · by_cases eb : b = i
      · rw [eb, pt5_at, pt5_ne _ _ ea] at e; exact absurd e (hne a ha ea)
      · rw [pt5_ne _ _ ea, pt5_ne _ _ eb] at e; exact h.ne a b ha hb e
  · by_cases e : k = i
    · subst e; rw [pt5_at]; exact hgA
    · rw [pt5_ne _ _ e]; exact h.na k hk
  · by_cases e : k = i
    · subst e; rw [pt5_at]
      rcases hf with e | e
      · rw [e]; exact h.mine k hi
      · exact .inr (Nat.le_trans h.keep.size e)
    · rw [pt5_ne _ _ e]; exact h.mine k hk
end
theorem own_lt {α : Type} {E : El α} {w : World} {o : Option Addr} {c : Nat} {xs : List α} (h : Own E w o c xs) : ∀ b, inO o b → b < w.heap.size := by
  rintro b ⟨x, rfl, rfl⟩
  rcases h.shape with ⟨e, _⟩ | ⟨g, cur, e, hg, _⟩
  · cases e
  · cases e; exact lt_of_block hg
/-- versions told, while others are written that are older or newer -/
theorem Kn.past {s : St} {w0 w w1 w' : World} {P : Nat → Prop} {ks : List KV} {o : Option Addr} {n c : Nat} (h : Kn s w0 ks o n c w) (hk : Keeps no w w1) (hk' : Keeps P w1 w') (hP : ∀ b, P b → b < w0.heap.size ∨ w.heap.size ≤ b) : Kn s w0 ks o n c w' :=
  ⟨(h.kd.keepsN hk).keeps hk' (fun b hb hs => by have := h.new b hb; have := own_lt h.kd.own b hb; have := hP b hs; omega) (fun x hx b hb hs => by have := h.key x hx b hb; have := own_lt (h.kd.key x hx) b hb; have := hP b hs; omega), h.new, h.key⟩
/-- a store read, told from an older world on -/
theorem Ow.older {w0 w1 w : World} {p : Nat} {s : St} {N : Nat} (h : Ow w1 w p s N no) (hk : Keeps no w0 w1) : Ow w0 w p s N (fun b => w0.heap.size ≤ b ∧ b < w1.heap.size) := by
  obtain ⟨T, h, _⟩ := h
  refine ⟨T, ⟨h.is, h.ok, fun b hb => Nat.le_trans hk.size (h.new b hb), hk.trans h.keep⟩, fun b hb => ⟨?_, hb.1, Nat.lt_of_lt_of_le hb.2 h.keep.size⟩⟩
  cases e : T b with
  | none => rfl
  | some r => have := h.new b (by rw [e]; simp); omega
/-- what the rows hold -/
def Wr5 (n i k : Nat) (X : Nat → List Nat) : Prop := ∀ j, j < 5 → ∀ t, t < n → (j < i ∨ (j = i ∧ t < k)) → (X j).getD t 0 = 1 + j
def Ln5 (n : Nat) (X : Nat → List Nat) : Prop := (∀ j, j < 4 → (X j).length = n) ∧ (X 4).length = n + 2
theorem getD_set_at (l : List Nat) (j v : Nat) (h : j < l.length) : (l.set j v).getD j 0 = v := by simp [List.getD, h]
theorem getD_set_off (l : List Nat) {j k : Nat} (v : Nat) (h : k ≠ j) : (l.set j v).getD k 0 = l.getD k 0 := by
  simp [List.getD, List.getElem?_set_ne (Ne.symm h)]
theorem Ln5.ge {n : Nat} {X : Nat → List Nat} (h : Ln5 n X) {i : Nat} (hi : i < 5) : n ≤ (X i).length := by
  by_cases e : i < 4
  · rw [h.1 i e]; exact Nat.le_refl _
  · have : i = 4 := by omega
    subst this; rw [h.2]; omega
theorem Ln5.set {n : Nat} {X : Nat → List Nat} (h : Ln5 n X) (i j v : Nat) : Ln5 n (pt5 X i ((X i).set j v)) := by
  have e : ∀ k, (pt5 X i ((X i).set j v) k).length = (X k).length := fun k => by
    by_cases e : k = i
    · subst e; rw [pt5_at, List.length_set]
    · rw [pt5_ne _ _ e]
  exact ⟨fun k hk => by rw [e]; exact h.1 k hk, by rw [e]; exact h.2⟩
theorem Wr5.set {n i k : Nat} {X : Nat → List Nat} (h : Wr5 n i k X) (hk : k < (X i).length) : Wr5 n i (k + 1) (pt5 X i ((X i).set k (1 + i))) := by
  intro j hj t ht hc
  by_cases e : j = i
  · subst e
    rw [pt5_at]
    by_cases e2 : t = k
    · subst e2; exact getD_set_at _ _ _ hk
    · rw [getD_set_off _ _ e2]; exact h j hj t ht (by omega)
  · rw [pt5_ne _ _ e]; exact h j hj t ht (by omega)
theorem Wr5.next {n i k : Nat} {X : Nat → List Nat} (h : Wr5 n i k X) (hk : n ≤ k) : Wr5 n (i + 1) 0 X := fun j hj t ht hc => h j hj t ht (by omega)
/-- the rows, longer by and by -/
structure Lg5 (n i q : Nat) (X : Nat → List Nat) : Prop where
  a : ∀ j, j < i → j < 4 → (X j).length = n + 80
  b : i < 4 → (X i).length = n + q
  c : ∀ j, i < j → j < 4 → (X j).length = n
  w : ∀ j, j < 4 → ∀ t, t < n → (X j).getD t 0 = 1 + j
  z : ∀ j, j < 4 → ∀ t, n ≤ t → t < (X j).length → (X j).getD t 0 = 101 + j
theorem lg0 {n : Nat} {X : Nat → List Nat} (h : Ln5 n X) (k : Wr5 n 5 0 X) : Lg5 n 0 0 X :=
  ⟨fun j h0 => by omega, fun _ => h.1 0 (by omega), fun j _ hj => h.1 j hj, fun j hj t ht => k j (by omega) t ht (.inl (by omega)), fun j hj t ht h2 => by have := h.1 j hj; omega⟩
theorem Lg5.app {n i q : Nat} {X : Nat → List Nat} (h : Lg5 n i q X) (hi : i < 4) : Lg5 n i (q + 1) (pt5 X i (X i ++ [101 + i])) := by
  refine ⟨fun j h1 h2 => by rw [pt5_ne _ _ (by omega)]; exact h.a j h1 h2, fun _ => by rw [pt5_at, List.length_append, h.b hi]; rfl, fun j h1 h2 => by rw [pt5_ne _ _ (by omega)]; exact h.c j h1 h2, fun j hj t ht => ?_, fun j hj t ht h2 => ?_⟩
  · by_cases e : j = i
    · subst e; rw [pt5_at, getD_app_l _ _ _ (by rw [h.b hi]; omega)]; exact h.w j hj t ht
    · rw [pt5_ne _ _ e]; exact h.w j hj t ht
  · by_cases e : j = i
    · subst e
      rw [pt5_at] at h2 ⊢
      rw [List.length_append, h.b hi] at h2
      simp only [List.length_cons, List.length_nil] at h2
      by_cases e2 : t = n + q
      · rw [getD_app_r _ _ _ (by rw [h.b hi]; omega), h.b hi, e2]; simp
      · rw [getD_app_l _ _ _ (by rw [h.b hi]; omega)]; exact h.z j hj t ht (by rw [h.b hi]; omega)
    · rw [pt5_ne _ _ e] at h2 ⊢; exact h.z j hj t ht h2
theorem Lg5.next {n i : Nat} {X : Nat → List Nat} (h : Lg5 n i 80 X) (hi : i < 4) : Lg5 n (i + 1) 0 X :=
  ⟨fun j h1 h2 => by by_cases e : j = i; subst e; exact h.b h2; exact h.a j (by omega) h2, fun h2 => by rw [h.c (i + 1) (by omega) h2]; rfl, fun j h1 h2 => h.c j (by omega) h2, h.w, h.z⟩
/-- a small row of numbers is few versions -/
theorem rd_few {now : Int} {bs : List Nat} (hb : ∀ c ∈ bs, c < 256) (h : rdOk now bs = true) (hl : bs.length ≤ 1048576) : (rdVs (bodyO bs)).1.length ≤ 1048576 := by
  unfold rdOk at h
  rw [Bool.and_eq_true] at h
  have e := body_read (bodyO_byt hb) h.1
  have e2 := congrArg List.length e
  have h3 := layV_le (rdVs (bodyO bs)).1
  have h4 : (bodyO bs).length ≤ bs.length := by unfold bodyO; rw [List.length_take]; omega
  unfold snBody at e2
  simp only [List.length_append] at e2
  omega
theorem five0 {w : World} {A g0 g1 g2 g3 g4 c0 c1 c2 c3 c4 : Nat} {x0 x1 x2 x3 x4 : List Nat} {n0 n1 n2 n3 n4 : Nat} (hn : n0 = x0.length ∧ n1 = x1.length ∧ n2 = x2.length ∧ n3 = x3.length ∧ n4 = x4.length)
    (hA : w.heap[A]? = some (.cells #[.slice (some ⟨g0, 0, none⟩) n0 c0, .slice (some ⟨g1, 0, none⟩) n1 c1, .slice (some ⟨g2, 0, none⟩) n2 c2, .slice (some ⟨g3, 0, none⟩) n3 c3, .slice (some ⟨g4, 0, none⟩) n4 c4] 27 (0, 0)))
    (h0 : Owns w (some ⟨g0, 0, none⟩) c0 x0) (h1 : Owns w (some ⟨g1, 0, none⟩) c1 x1) (h2 : Owns w (some ⟨g2, 0, none⟩) c2 x2) (h3 : Owns w (some ⟨g3, 0, none⟩) c3 x3) (h4 : Owns w (some ⟨g4, 0, none⟩) c4 x4)
    (d01 : g0 < g1) (d14 : g1 < g4) (d42 : g4 < g2) (d23 : g2 < g3) (d3A : g3 < A) :
    ∃ G C X, Five (fun b => b = g0 ∨ b = g1 ∨ b = g2 ∨ b = g3 ∨ b = g4 ∨ b = A) w w A G C X ∧ X 0 = x0 ∧ X 1 = x1 ∧ X 2 = x2 ∧ X 3 = x3 ∧ X 4 = x4 := by
  obtain ⟨rfl, rfl, rfl, rfl, rfl⟩ := hn
  refine ⟨fun i => match i with | 0 => g0 | 1 => g1 | 2 => g2 | 3 => g3 | _ => g4, fun i => match i with | 0 => c0 | 1 => c1 | 2 => c2 | 3 => c3 | _ => c4, fun i => match i with | 0 => x0 | 1 => x1 | 2 => x2 | 3 => x3 | _ => x4, ⟨⟨_, hA, rfl, fun i hi => ?_⟩, fun i hi => ?_, fun i j hi hj e => ?_, fun i hi => ?_, fun i hi => ?_, .inl (by simp), Keeps.refl _ _⟩, rfl, rfl, rfl, rfl, rfl⟩
  · match i, hi with
    | 0, _ => rfl
    | 1, _ => rfl
    | 2, _ => rfl
    | 3, _ => rfl
    | 4, _ => rfl
  · match i, hi with
    | 0, _ => exact h0
    | 1, _ => exact h1
    | 2, _ => exact h2
    | 3, _ => exact h3
    | 4, _ => exact h4
  · match i, hi, j, hj with
    | 0, _, 0, _ => rfl
    | 1, _, 1, _ => rfl
    | 2, _, 2, _ => rfl
    | 3, _, 3, _ => rfl
    | 4, _, 4, _ => rfl
    | 0, _, 1, _ | 0, _, 2, _ | 0, _, 3, _ | 0, _, 4, _ | 1, _, 0, _ | 1, _, 2, _ | 1, _, 3, _ | 1, _, 4, _ | 2, _, 0, _ | 2, _, 1, _ | 2, _, 3, _ | 2, _, 4, _ | 3, _, 0, _ | 3, _, 1, _ | 3, _, 2, _ | 3, _, 4, _ | 4, _, 0, _ | 4, _, 1, _ | 4, _, 2, _ | 4, _, 3, _ => simp only at e; omega
  · match i, hi with
    | 0, _ => simp only; omega
    | 1, _ => simp only; omega
    | 2, _ => simp only; omega
    | 3, _ => simp only; omega
    | 4, _ => simp only; omega
  · match i, hi with
    | 0, _ => simp
    | 1, _ => simp
    | 2, _ => simp
    | 3, _ => simp
    | 4, _ => simp
end Go.Proofs.YtbnohdgdadfjlaaGreatDoor
