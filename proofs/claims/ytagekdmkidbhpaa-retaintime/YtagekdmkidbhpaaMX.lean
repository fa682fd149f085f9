import Derived.Test.YtagekdmkidbhpaaB1
/- Every answer, whatever the numbers. -/
namespace Go.Proofs.Ytagekdmkidbhpaa
open Go.RowKit Go.Maps Go.Sort Orl
set_option linter.unusedVariables false
set_option linter.unusedSimpArgs false

def erZ (b : Bool) : Int := if b then 0 else 1
def gdB (nw kp : Int) : Bool := tickB nw && retB kp
structure DueX (s : St) (nw kp : Int) (ds : List Mk) : Prop where
  good : gdB nw kp = true → IsDue s (nw - kp) ds
  bad : gdB nw kp = false → ds = []
theorem DueX.same {s : St} {nw kp : Int} {a b : List Mk} (ha : DueX s nw kp a) (hb : DueX s nw kp b) : a = b := by
  cases h : gdB nw kp with
  | true => exact (ha.good h).same (hb.good h)
  | false => rw [ha.bad h, hb.bad h]
structure NextX (s : St) (kp z : Int) (is : Bool) : Prop where
  good : retB kp = true → ∃ L, z = nextZ L kp is ∧ IsNext s L is
  bad : retB kp = false → z = 0 ∧ is = false
theorem NextX.same {s : St} {kp z z' : Int} {is is' : Bool} (ha : NextX s kp z is) (hb : NextX s kp z' is') : z = z' ∧ is = is' := by
  cases h : retB kp with
  | true =>
    obtain ⟨L, h1, h2⟩ := ha.good h
    obtain ⟨L', h1', h2'⟩ := hb.good h
    obtain ⟨e1, e2⟩ := h2.same h2'
    exact ⟨by rw [h1, h1', e2 kp], e1⟩
  | false =>
    obtain ⟨h1, h2⟩ := ha.bad h
    obtain ⟨h1', h2'⟩ := hb.bad h
    exact ⟨by rw [h1, h1'], by rw [h2, h2']⟩
def collX (s : St) (nw kp : Int) : St := if gdB nw kp = true then collS s (nw - kp) else s
theorem supp_collX {s : St} (h : Supp s) (nw kp : Int) : Supp (collX s nw kp) := by
  unfold collX
  split
  · exact supp_cut h _
  · exact h
theorem gd_parts {nw kp : Int} (h : gdB nw kp = true) : tickB nw = true ∧ retB kp = true := by
  unfold gdB at h
  simpa using h
section
variable {w0 w w' : World} {p : Nat} {s : St} {P : Nat → Prop}
theorem Ow.dueX (h : Ow w0 w p s 384 P) (nw kp : Int) :
    Calls Try.prog 7 #[.pointer (some ⟨p, 0, none⟩), .int .i64 nw, .int .i64 kp] w fun e w' => ∃ o n c ds, e = .returned (.tuple #[.slice o n c, .int .i64 (erZ (gdB nw kp))]) ∧ Hid (n = ds.length ∧ ds.length ≤ 384) ∧ Hid (Own WE w' o c ds ∧ New w o ∧ Keeps no w w') ∧ Hid (DueX s nw kp ds) := by
  cases hg : gdB nw kp with
  | true =>
    obtain ⟨h1, h2⟩ := gd_parts hg
    refine (h.due nw kp h1 h2 (by omega)).mono ?_
    rintro e w' ⟨v, rfl, o, n, c, ds, rfl, hn, hd, hi⟩
    exact ⟨o, n, c, ds, rfl, ⟨hn.out, hi.out.2⟩, hd, fun _ => hi.out.1, fun hf => by rw [hg] at hf; cases hf⟩
  | false =>
    refine (due_bad w p nw kp hg).mono ?_
    rintro e w' ⟨rfl, hk⟩
    exact ⟨none, 0, 0, [], rfl, ⟨rfl, by simp⟩, ⟨own_nil _, new_none _, hk⟩, (fun hf => by rw [hg] at hf; cases hf), fun _ => rfl⟩
theorem Ow.nextX (h : Ow w0 w p s 384 P) (kp : Int) :
    Calls Try.prog 18 #[.pointer (some ⟨p, 0, none⟩), .int .i64 kp] w fun e w' => ∃ (z : Int) (is : Bool), e = .returned (.tuple #[.int .i64 z, .bool is, .int .i64 (erZ (retB kp))]) ∧ Hid (Keeps no w w') ∧ Hid (NextX s kp z is) := by
  cases hg : retB kp with
  | true =>
    refine (h.next kp hg (by omega)).mono ?_
    rintro e w' ⟨z, is, rfl, hk, hx⟩
    exact ⟨z, is, rfl, hk, fun _ => hx.out, fun hf => by rw [hg] at hf; cases hf⟩
  | false =>
    refine (next_bad w p kp hg).mono ?_
    rintro e w' ⟨rfl, hk⟩
    exact ⟨0, false, rfl, hk, (fun hf => by rw [hg] at hf; cases hf), fun _ => ⟨rfl, rfl⟩⟩
theorem Ow.collectX (h : Ow w0 w p s 384 P) (nw kp : Int) :
    Calls Try.prog 9 #[.pointer (some ⟨p, 0, none⟩), .int .i64 nw, .int .i64 kp] w fun e w' => ∃ o n c ds, e = .returned (.tuple #[.slice o n c, .int .i64 (erZ (gdB nw kp))]) ∧ Hid (n = ds.length ∧ ds.length ≤ 384) ∧ Hid (Own WE w' o c ds ∧ New w o ∧ Ow w0 w' p (collX s nw kp) 384 (fun b => P b ∨ inO o b) ∧ Keeps (fun b => ¬ P b) w w') ∧ Hid (DueX s nw kp ds) := by
  cases hg : gdB nw kp with
  | true =>
    obtain ⟨h1, h2⟩ := gd_parts hg
    refine (h.collect nw kp h1 h2 (by omega)).mono ?_
    rintro e w' ⟨v, rfl, o, n, c, ds, rfl, hn, hd, hi⟩
    have e1 : collX s nw kp = collS s (nw - kp) := by unfold collX; rw [if_pos hg]
    exact ⟨o, n, c, ds, rfl, ⟨hn.out, hi.out.2⟩, by rw [e1]; exact hd, fun _ => hi.out.1, fun hf => by rw [hg] at hf; cases hf⟩
  | false =>
    refine (collect_bad w p nw kp hg).mono ?_
    rintro e w' ⟨rfl, hk⟩
    have e1 : collX s nw kp = s := by unfold collX; rw [if_neg (by rw [hg]; simp)]
    exact ⟨none, 0, 0, [], rfl, ⟨rfl, by simp⟩, ⟨own_nil _, new_none _, by rw [e1]; exact (h.go hk).sub (fun b hb => by rcases hb with hb | ⟨x, hx, _⟩; exact hb; cases hx), hk.of_no⟩, (fun hf => by rw [hg] at hf; cases hf), fun _ => rfl⟩
end
theorem due_none {s : St} {t : Int} : IsDue (collS s t) t [] := by
  refine ⟨List.Pairwise.nil, fun m => ?_⟩
  constructor
  · intro h; cases h
  · intro h
    obtain ⟨v, hv, h1, h2⟩ := dueB_iff.1 h
    have hv' : (if dueB s t m then none else s.V m) = some v := hv
    split at hv'
    · cases hv'
    · rename_i hn
      exact absurd (dueB_iff.2 ⟨v, hv', h1, h2⟩) hn
theorem dueB_till {s : St} {now : Int} (h : Till s now) {a b : Int} (ha : now ≤ a) (hb : now ≤ b) (m : Mk) : dueB s a m = dueB s b m := by
  unfold dueB
  cases hv : s.V m with
  | none => rfl
  | some v =>
    have := h m v hv
    have e1 : decide (v.stamp ≠ -1 ∧ v.stamp ≤ a) = decide (v.stamp ≠ -1 ∧ v.stamp ≤ b) := by
      by_cases hs : v.stamp = -1
      · simp [hs]
      · simp [hs, Int.le_trans this ha, Int.le_trans this hb]
    exact e1
theorem IsDue.till {s : St} {now : Int} (h : Till s now) {a b : Int} (ha : now ≤ a) (hb : now ≤ b) {ds : List Mk} (hd : IsDue s a ds) : IsDue s b ds := ⟨hd.inc, fun m => by rw [hd.is, dueB_till h ha hb]⟩

/-! ### three lists, each by itself -/
def nm3 (i : Nat) : Tx := [(⟨#[48]⟩ : Tx), ⟨#[49]⟩, ⟨#[50]⟩].getD i ⟨#[]⟩
structure T3 (w : World) (L M : Nat) (ob : Nat → Option Addr) (cb : Nat → Nat) (n : Nat) (X : Nat → List Mk) : Prop where
  own : ∀ i, i < 3 → Own WE w (ob i) (cb i) (X i)
  len : ∀ i, i < 3 → (X i).length = n
  ap : ∀ i j, i < 3 → j < 3 → i ≠ j → ∀ b, inO (ob i) b → ¬ inO (ob j) b
  l : ∀ i, i < 3 → w.cell? ⟨L, i, none⟩ = some (.slice (ob i) n (cb i))
  m : ∀ i, i < 3 → w.cell? ⟨M, i, none⟩ = some (.string (nm3 i))
  lo : ∀ i, i < 3 → ∀ b, inO (ob i) b → b ≠ L ∧ b ≠ M
section
variable {w w' : World} {L M : Nat} {ob : Nat → Option Addr} {cb : Nat → Nat} {n : Nat} {X : Nat → List Mk}
theorem T3.keeps (h : T3 w L M ob cb n X) {S : Nat → Prop} (hk : Keeps S w w') (hL : ¬ S L) (hM : ¬ S M) (ho : ∀ i, i < 3 → ∀ b, inO (ob i) b → ¬ S b) : T3 w' L M ob cb n X :=
  ⟨fun i hi => (h.own i hi).keeps hk (ho i hi), h.len, h.ap, fun i hi => hk.cell (h.l i hi) hL, fun i hi => hk.cell (h.m i hi) hM, h.lo⟩
theorem T3.keepsN (h : T3 w L M ob cb n X) (hk : Keeps no w w') : T3 w' L M ob cb n X := h.keeps hk id id (fun _ _ _ _ => id)
def updX (X : Nat → List Mk) (i : Nat) (x : List Mk) : Nat → List Mk := fun j => if j = i then x else X j
/-- one list written over, at one place -/
theorem T3.set (h : T3 w L M ob cb n X) {i : Nat} (hi : i < 3) {x : List Mk} (hx : x.length = n) (hown : Own WE w' (ob i) (cb i) x) (hk : Keeps (inO (ob i)) w w') : T3 w' L M ob cb n (updX X i x) := by
  refine ⟨fun j hj => ?_, fun j hj => ?_, h.ap, fun j hj => hk.cell (h.l j hj) (fun hc => (h.lo i hi L hc).1 rfl), fun j hj => hk.cell (h.m j hj) (fun hc => (h.lo i hi M hc).2 rfl), h.lo⟩
  · unfold updX
    by_cases e : j = i
    · rw [if_pos e, e]; exact hown
    · rw [if_neg e]
      exact (h.own j hj).keeps hk (h.ap j i hj hi e)
  · unfold updX
    split
    · exact hx
    · exact h.len j hj
end
theorem Own.prefix {α : Type} {E : El α} (hE : E.Ok) {w : World} {o : Option Addr} {c : Nat} {xs ys : List α} (h : Own E w o c (xs ++ ys)) : Own E w o c xs := by
  rcases h.shape with ⟨e1, e2, e3⟩ | ⟨g, cur, rfl, hg, hc, hm, hs, ht⟩
  · have : xs = [] := (List.append_eq_nil_iff.1 e3).1
    rw [e1, e2, this]
    exact own_nil _
  · refine own_of_shape hE hg (by simp at hc; omega) hm hs ?_
    have e : cur.toList.take (xs.length * E.k) = (cur.toList.take ((xs ++ ys).length * E.k)).take (xs.length * E.k) := by
      rw [List.take_take, Nat.min_eq_left (Nat.mul_le_mul_right _ (by simp))]
    rw [e, ht, cells_append]
    exact List.take_left' (cells_length hE xs)
end Go.Proofs.Ytagekdmkidbhpaa
