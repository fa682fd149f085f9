/- Lists of bytes, each by itself: one written over, one longer. -/
import Derived.Test.YtaeajgjehfjkbaaC7
namespace Go.Proofs.Ytaeajgjehfjkbaa
open Go.RowKit
set_option linter.unusedVariables false
set_option linter.unusedSimpArgs false

structure Lots (w : World) (oA : Option Addr) (cA : Nat) (L : List (LS UInt8)) : Prop where
  own : Own XE w oA cA L
  each : ∀ j, j < L.length → Own BE w (L.getD j ls0).o (L.getD j ls0).c (L.getD j ls0).xs
  far : ∀ i j, i < L.length → j < L.length → i ≠ j → ∀ k, inO (L.getD i ls0).o k → ¬ inO (L.getD j ls0).o k
theorem Lots.keeps {S : Nat → Prop} {w w' : World} {oA : Option Addr} {cA : Nat} {L : List (LS UInt8)} (h : Lots w oA cA L) (hk : Keeps S w w') (h1 : ∀ k, inO oA k → ¬ S k) (h2 : ∀ j, j < L.length → ∀ k, inO (L.getD j ls0).o k → ¬ S k) : Lots w' oA cA L :=
  ⟨h.own.keeps hk h1, fun j hj => (h.each j hj).keeps hk (h2 j hj), h.far⟩
theorem Lots.keepsN {w w' : World} {oA : Option Addr} {cA : Nat} {L : List (LS UInt8)} (h : Lots w oA cA L) (hk : Keeps no w w') : Lots w' oA cA L := h.keeps hk (fun _ _ => id) (fun _ _ _ _ => id)
theorem Lots.keepsI {w w' : World} {oA : Option Addr} {cA : Nat} {L : List (LS UInt8)} (h : Lots w oA cA L) {on : Option Addr} {cn : Nat} {ns : List Nat} (hi : Own IE w on cn ns) (hk : Keeps (inO on) w w') : Lots w' oA cA L :=
  h.keeps hk (fun k h1 h2 => ne_own h.own hi (by decide) k h1 h2) (fun j hj k h1 h2 => ne_own (h.each j hj) hi (by decide) k h1 h2)
theorem Own.storeX {w : World} {o : Option Addr} {c : Nat} {L : List (LS UInt8)} (h : Own XE w o c L) (j : Nat) (hj : j < L.length) (s : LS UInt8) :
    ∃ g, o = some ⟨g, 0, none⟩ ∧ w.cell? ⟨g, j, none⟩ = some (.slice (L.getD j ls0).o (L.getD j ls0).xs.length (L.getD j ls0).c) ∧ w.frozen? ⟨g, j, none⟩ = false ∧ Own XE (w.setCell ⟨g, j, none⟩ (.slice s.o s.xs.length s.c)) o c (L.set j s) ∧ Keeps (inO o) w (w.setCell ⟨g, j, none⟩ (.slice s.o s.xs.length s.c)) := by
  rcases h.shape with ⟨_, _, e⟩ | ⟨g, cur, rfl, hg, hc, hm, hs, ht⟩
  · rw [e] at hj; simp at hj
  · refine ⟨g, rfl, ?_, frozen_of_blk hg j, ?_, (Keeps.refl _ _).setCell (.inl ⟨_, rfl, rfl⟩) _⟩
    · obtain ⟨b, off, e, h1⟩ := rowX_at h.row hj
      cases e
      rw [Nat.zero_add] at h1
      exact h1
    · refine own_of_shape okX (blk_set hg j _) (by simpa using hc) hm (by simp [hs]) ?_
      rw [cells_X] at ht ⊢
      simp only [Array.toList_setIfInBounds, List.length_set, List.map_set]
      rw [List.take_set, ht]
theorem getD_set {α : Type} (l : List α) (i j : Nat) (x d : α) (hi : i < l.length) : (l.set i x).getD j d = if j = i then x else l.getD j d := by
  simp only [List.getD_eq_getElem?_getD, List.getElem?_set]
  by_cases h : i = j
  · subst h; simp [hi]
  · rw [if_neg h, if_neg (Ne.symm h)]
/-- one byte of one list written over -/
theorem Lots.setB {w : World} {oA : Option Addr} {cA : Nat} {L : List (LS UInt8)} (h : Lots w oA cA L) (i k : Nat) (hi : i < L.length) (hk : k < (L.getD i ls0).xs.length) (s : UInt8) :
    ∃ g, (L.getD i ls0).o = some ⟨g, 0, none⟩ ∧ w.cell? ⟨g, k, none⟩ = some (bv ((L.getD i ls0).xs.getD k 0)) ∧ w.frozen? ⟨g, k, none⟩ = false ∧ Lots (w.setCell ⟨g, k, none⟩ (bv s)) oA cA (L.set i ⟨(L.getD i ls0).o, (L.getD i ls0).c, (L.getD i ls0).xs.set k s⟩) ∧ Keeps (inO (L.getD i ls0).o) w (w.setCell ⟨g, k, none⟩ (bv s)) := by
  obtain ⟨g, e, h1, h2, h3, h4⟩ := (h.each i hi).store k hk s
  refine ⟨g, e, h1, h2, ⟨?_, ?_, ?_⟩, h4⟩
  · have h5 : Own XE (w.setCell ⟨g, k, none⟩ (bv s)) oA cA L := h.own.keeps h4 (fun b hb1 hb2 => ne_own (h.each i hi) h.own (by decide) b hb2 hb1)
    have hc : XE.cells (L.set i ⟨(L.getD i ls0).o, (L.getD i ls0).c, (L.getD i ls0).xs.set k s⟩) = XE.cells L := by
      rw [cells_X, cells_X, List.map_set]
      apply List.ext_getElem?
      intro j
      rw [List.getElem?_set]
      by_cases e : i = j
      · subst e; simp [hi]
      · simp [e]
    unfold Own at h5 ⊢
    rw [hc, List.length_set]
    exact h5
  · intro j hj
    rw [List.length_set] at hj
    rw [getD_set L i j _ ls0 hi]
    by_cases e : j = i
    · rw [if_pos e]; exact h3
    · rw [if_neg e]; exact (h.each j hj).keeps h4 (fun b hb1 hb2 => h.far j i hj hi e b hb1 hb2)
  · intro a b ha hb hab x hx
    rw [List.length_set] at ha hb
    rw [getD_set L i a _ ls0 hi] at hx
    rw [getD_set L i b _ ls0 hi]
    have hx' : inO (L.getD a ls0).o x := by
      by_cases e : a = i
      · rw [if_pos e] at hx; subst e; exact hx
      · rw [if_neg e] at hx; exact hx
    have := h.far a b ha hb hab x hx'
    by_cases e : b = i
    · rw [if_pos e]; subst e; exact this
    · rw [if_neg e]; exact this
/-- one list longer, and laid back -/
theorem Lots.app {w w' : World} {oA : Option Addr} {cA : Nat} {L : List (LS UInt8)} (h : Lots w oA cA L) (i : Nat) (hi : i < L.length) {o' : Option Addr} {c' : Nat} {ys : Bs} (ho : Own BE w' o' c' ys) (hap : Ap w (L.getD i ls0).o o' w') :
    ∃ b, oA = some ⟨b, 0, none⟩ ∧ w'.cell? ⟨b, i, none⟩ = some (.slice (L.getD i ls0).o (L.getD i ls0).xs.length (L.getD i ls0).c) ∧ w'.frozen? ⟨b, i, none⟩ = false ∧ Lots (w'.setCell ⟨b, i, none⟩ (.slice o' ys.length c')) oA cA (L.set i ⟨o', c', ys⟩) ∧ Keeps (inO (L.getD i ls0).o) w w' := by
  have hk : Keeps (inO (L.getD i ls0).o) w w' := hap.keeps
  have hX : Own XE w' oA cA L := h.own.keeps hk (fun b hb1 hb2 => ne_own (h.each i hi) h.own (by decide) b hb2 hb1)
  obtain ⟨b, e, h1, h2, h3, h4⟩ := hX.storeX i hi ⟨o', c', ys⟩
  have hoth : ∀ j, j < L.length → j ≠ i → Own BE w' (L.getD j ls0).o (L.getD j ls0).c (L.getD j ls0).xs := fun j hj e => (h.each j hj).keeps hk (fun b hb1 hb2 => h.far j i hj hi e b hb1 hb2)
  have hnew : ∀ j, j < L.length → j ≠ i → ∀ x, inO o' x → ¬ inO (L.getD j ls0).o x := by
    intro j hj e x hx hx2
    rcases hap with ⟨e', _⟩ | ⟨⟨g, e', hg⟩, _⟩
    · subst e'; exact h.far j i hj hi e x hx2 hx
    · subst e'
      obtain ⟨y, ey, rfl⟩ := hx
      cases ey
      have := (h.each j hj).lt _ hx2
      simp at this
      omega
  refine ⟨b, e, h1, h2, ⟨h3, ?_, ?_⟩, hk⟩
  · intro j hj
    rw [List.length_set] at hj
    rw [getD_set L i j _ ls0 hi]
    by_cases e : j = i
    · rw [if_pos e]; exact ho.keeps h4 (fun b hb1 hb2 => ne_own ho hX (by decide) b hb1 hb2)
    · rw [if_neg e]; exact (hoth j hj e).keeps h4 (fun b hb1 hb2 => ne_own (hoth j hj e) hX (by decide) b hb1 hb2)
  · intro a c ha hc hac x hx
    rw [List.length_set] at ha hc
    rw [getD_set L i a _ ls0 hi] at hx
    rw [getD_set L i c _ ls0 hi]
    by_cases e1 : a = i
    · rw [if_pos e1] at hx
      rw [if_neg (fun e => hac (e1.trans e.symm))]
      exact hnew c hc (fun e => hac (e1.trans e.symm)) x hx
    · rw [if_neg e1] at hx
      by_cases e2 : c = i
      · rw [if_pos e2]
        exact fun h' => hnew a ha e1 x h' hx
      · rw [if_neg e2]; exact h.far a c ha hc hac x hx

/-! ### what the three loops hold -/
def mA (i : Nat) : UInt8 := UInt8.ofNat (1 + i)
def mB (i : Nat) : UInt8 := UInt8.ofNat (101 + i)
theorem bv_mA (i : Nat) (h : i < 100) : bv (mA i) = .int .u8 (1 + (i : Int)) := by
  simp only [bv, mA]
  congr 1
  have : (UInt8.ofNat (1 + i)).toNat = 1 + i := by simp; omega
  omega
theorem bv_mB (i : Nat) (h : i < 100) : bv (mB i) = .int .u8 (101 + (i : Int)) := by
  simp only [bv, mB]
  congr 1
  have : (UInt8.ofNat (101 + i)).toNat = 101 + i := by simp; omega
  omega
def lng (n i k : Nat) : Bs := List.replicate n (mA i) ++ List.replicate k (mB i)
theorem lng_len (n i k : Nat) : (lng n i k).length = n + k := by simp [lng]
theorem lng_next (n i k : Nat) : lng n i k ++ [mB i] = lng n i (k + 1) := by unfold lng; rw [List.append_assoc, ← List.replicate_succ']
theorem lng_at1 (n i k j : Nat) (h : j < n) : (lng n i k).getD j 0 = mA i := by
  unfold lng
  rw [List.getD_eq_getElem?_getD, List.getElem?_append_left (by simpa using h)]
  simp [h]
theorem lng_at2 (n i k j : Nat) (h : n ≤ j) (h2 : j < n + k) : (lng n i k).getD j 0 = mB i := by
  unfold lng
  rw [List.getD_eq_getElem?_getD, List.getElem?_append_right (by simpa using h)]
  have : j - n < k := by omega
  simp [this]
theorem rep_step (bs : Bs) (k : Nat) (m : UInt8) (h : k < bs.length) : (List.replicate k m ++ bs.drop k).set k m = List.replicate (k + 1) m ++ bs.drop (k + 1) := by
  rw [List.set_append_right _ _ (by simp)]
  simp only [List.length_replicate, Nat.sub_self]
  rw [List.drop_eq_getElem_cons h, List.set_cons_zero, List.replicate_succ', List.append_assoc]
  rfl
structure St (w : World) (N : Nat) (oA : Option Addr) (cA : Nat) (nsf : List Nat) (m : Nat) (on : Option Addr) (cn : Nat) (L : List (LS UInt8)) (wr : World) : Prop where
  lots : Lots wr oA cA L
  len : L.length = N
  kp : Keeps no w wr
  nA : New w oA
  nL : ∀ j, j < N → New w (L.getD j ls0).o
  ints : Own IE wr on cn (nsf.take m)
  nn : New w on
  nlen : nsf.length = N
  nle : ∀ j, j < N → nsf.getD j 0 ≤ 200000
variable {w : World} {N : Nat} {oA : Option Addr} {cA : Nat} {nsf : List Nat} {m : Nat} {on : Option Addr} {cn : Nat} {L : List (LS UInt8)} {wr w' : World}
theorem St.keepsN (h : St w N oA cA nsf m on cn L wr) (k : Keeps no wr w') : St w N oA cA nsf m on cn L w' :=
  ⟨h.lots.keepsN k, h.len, h.kp.trans k, h.nA, h.nL, h.ints.keepsN k, h.nn, h.nlen, h.nle⟩
/-- one number more -/
theorem St.int (h : St w N oA cA nsf m on cn L wr) {o' : Option Addr} {c' : Nat} (ho : Own IE w' o' c' (nsf.take (m + 1))) (hap : Ap wr on o' w') : St w N oA cA nsf (m + 1) o' c' L w' := by
  have hn := hap.new (w0 := w) h.nn h.kp
  exact ⟨h.lots.keepsI h.ints hap.keeps, h.len, hn.2, h.nA, h.nL, ho, hn.1, h.nlen, h.nle⟩
/-- one byte written over -/
theorem St.setB (h : St w N oA cA nsf m on cn L wr) (i k : Nat) (hi : i < N) (hk : k < (L.getD i ls0).xs.length) (s : UInt8) :
    ∃ g, (L.getD i ls0).o = some ⟨g, 0, none⟩ ∧ wr.cell? ⟨g, k, none⟩ = some (bv ((L.getD i ls0).xs.getD k 0)) ∧ wr.frozen? ⟨g, k, none⟩ = false ∧ St w N oA cA nsf m on cn (L.set i ⟨(L.getD i ls0).o, (L.getD i ls0).c, (L.getD i ls0).xs.set k s⟩) (wr.setCell ⟨g, k, none⟩ (bv s)) := by
  have hi' : i < L.length := by rw [h.len]; exact hi
  obtain ⟨g, e, h1, h2, h3, h4⟩ := h.lots.setB i k hi' hk s
  refine ⟨g, e, h1, h2, h3, by rw [List.length_set]; exact h.len, h.kp.then h4 (fun x hx => .inr (h.nL i hi x hx)), h.nA, ?_, h.ints.keeps h4 (fun b hb1 hb2 => ne_own h.ints (h.lots.each i hi') (by decide) b hb1 hb2), h.nn, h.nlen, h.nle⟩
  intro j hj
  rw [getD_set L i j _ ls0 hi']
  by_cases e2 : j = i
  · rw [if_pos e2]; exact h.nL i hi
  · rw [if_neg e2]; exact h.nL j hj
/-- one list longer -/
theorem St.app (h : St w N oA cA nsf m on cn L wr) (i : Nat) (hi : i < N) {o' : Option Addr} {c' : Nat} {ys : Bs} (ho : Own BE w' o' c' ys) (hap : Ap wr (L.getD i ls0).o o' w') :
    ∃ b, oA = some ⟨b, 0, none⟩ ∧ w'.cell? ⟨b, i, none⟩ = some (.slice (L.getD i ls0).o (L.getD i ls0).xs.length (L.getD i ls0).c) ∧ w'.frozen? ⟨b, i, none⟩ = false ∧ St w N oA cA nsf m on cn (L.set i ⟨o', c', ys⟩) (w'.setCell ⟨b, i, none⟩ (.slice o' ys.length c')) := by
  have hi' : i < L.length := by rw [h.len]; exact hi
  obtain ⟨b, e, h1, h2, h3, h4⟩ := h.lots.app i hi' ho hap
  have hn := hap.new (w0 := w) (h.nL i hi) h.kp
  have hX : Own XE w' oA cA L := h.lots.own.keeps h4 (fun b hb1 hb2 => ne_own (h.lots.each i hi') h.lots.own (by decide) b hb2 hb1)
  have hin : Own IE w' on cn (nsf.take m) := h.ints.keeps h4 (fun b hb1 hb2 => ne_own h.ints (h.lots.each i hi') (by decide) b hb1 hb2)
  have hk2 : Keeps (inO oA) w' (w'.setCell ⟨b, i, none⟩ (.slice o' ys.length c')) := (Keeps.refl _ _).setCell (p := ⟨b, i, none⟩) (.inl ⟨_, e, rfl⟩) _
  refine ⟨b, e, h1, h2, h3, by rw [List.length_set]; exact h.len, hn.2.then hk2 (fun x hx => .inr (h.nA x hx)), h.nA, ?_, hin.keeps hk2 (fun x h5 h6 => ne_own hin hX (by decide) x h5 h6), h.nn, h.nlen, h.nle⟩
  intro j hj
  rw [getD_set L i j _ ls0 hi']
  by_cases e2 : j = i
  · rw [if_pos e2]; exact hn.1
  · rw [if_neg e2]; exact h.nL j hj
/-- how many lie behind list j -/
def behind (i q j : Nat) : Nat := if j < i then 80 else if j = i then q else 0
theorem behind_self (i q : Nat) : behind i q i = q := by simp [behind]
theorem behind_ne (i q r j : Nat) (h : j ≠ i) : behind i q j = behind i r j := by simp [behind, h]
theorem behind_next (p j : Nat) : behind (p + 1) 0 j = behind p 80 j := by
  unfold behind
  by_cases e1 : j < p
  · rw [if_pos (by omega), if_pos e1]
  · by_cases e2 : j = p
    · rw [if_pos (by omega), if_neg e1, if_pos e2]
    · rw [if_neg (by omega), if_neg e1, if_neg e2]; split <;> rfl
end Go.Proofs.Ytaeajgjehfjkbaa
