/- Three lists of questions, each list by itself, written over and lengthened. -/
import Derived.Test.YtghnhkhhpeoheaaQ3
namespace Go.Proofs.Ytghnhkhhpeoheaa
open Go.RowKit Go.Sort Orl
set_option linter.unusedVariables false
set_option linter.unusedSimpArgs false

section
variable {α : Type} {E : El α}
theorem own_pre (hE : E.Ok) {w : World} {o : Option Addr} {c : Nat} {xs zs : List α} (h : Own E w o c (xs ++ zs)) : Own E w o c xs := by
  rcases h.shape with ⟨rfl, rfl, e⟩ | ⟨g, cur, rfl, hg, hc, hm, hs, ht⟩
  · have : xs = [] := (List.append_eq_nil_iff.1 e).1
    subst this; exact own_nil w
  · rw [List.length_append] at hc
    refine own_of_shape hE hg (by omega) hm hs ?_
    rw [cells_append, List.length_append, Nat.add_mul] at ht
    have h1 := congrArg (List.take (xs.length * E.k)) ht
    rw [List.take_take, Nat.min_eq_left (by omega), List.take_append_of_le_length (by rw [cells_length hE]; omega), List.take_of_length_le (l := E.cells xs) (by rw [cells_length hE]; omega)] at h1
    exact h1
theorem run_appC (hE : E.Ok) (w : World) (ty : TypeId) (oa : Option Addr) (c : Nat) (xs : List α) (hown : Own E w oa c xs) (ox : Option Addr) (d : Nat) (news : List α) (hd : ox = none → d = 0) (hrow : Row E w ox news)
    (hb : (xs.length + news.length) * E.nb ≤ 140737488355328) (hb2 : xs.length + news.length ≤ 140737488355328) :
    ∃ o' c' w', (Builtin.append_ #[E.t, E.t] ty #[.slice oa xs.length c, .slice ox news.length d]).run Try.prog w = .ok (.slice o' (xs.length + news.length) c') w' ∧ Own E w' o' c' (xs ++ news) ∧ Ap w oa o' w' ∧ (o' = oa → c' = c) := by
  obtain ⟨i0, z, hi, hz0, hz1, hz2, hz3⟩ := hE.inf
  have hmx : xs.length + news.length ≤ maxLen := by unfold maxLen; omega
  match ox with
  | none =>
    obtain rfl : news = [] := by rcases hrow with h | ⟨b, off, h, _⟩; exact h; cases h
    obtain rfl : d = 0 := hd rfl
    refine ⟨oa, c, w, ?_, by simpa using hown, .inl ⟨rfl, Keeps.refl _ _⟩, fun _ => rfl⟩
    exact run_append_owned_none (P := Try.prog) (w := w) 0 E.t ty E.e i0 E.k hE.und hi _ _ _ hown
  | some ad =>
    obtain ⟨v', w', hr, h2, h3, _, hat⟩ := run_append_own_at (P := Try.prog) w 0 E.t ty E.e i0 z E.k E.nb hE.und hi hz0 hz1 hz2 hz3 hE.pos _ _ _ hown ad news.length d (E.cells news) (by rw [cells_length hE]) hrow.news (cells_one hE news) hmx hb (Nat.zero_le _)
    rw [← cells_append] at h2
    obtain ⟨o', c', rfl, hlen, hown''⟩ := own_val hE h2
    refine ⟨o', c', w', hr, hown'', ?_⟩
    have hk : Keeps (inO oa) w w' := (Keeps.refl _ _).grown h3 (fun k hk => .inl ((own_blk _ _ _ _).1 hk))
    rcases hown.shape with ⟨rfl, rfl, rfl⟩ | ⟨g, cur, rfl, hg, hnc, hcm, hcs, htake⟩
    · have hk0 : Keeps no w w' := hk.mono (fun i ⟨x, h, _⟩ => by cases h)
      rcases hown''.shape with ⟨e, ec, _⟩ | ⟨g', cur', e, _⟩
      · exact ⟨.inl ⟨e, hk⟩, fun _ => ec⟩
      · subst e
        rcases hat with hat | hat
        · cases hat
        · simp [Value.ownBlock] at hat
          exact ⟨.inr ⟨⟨g', rfl, by omega⟩, hk0⟩, fun h => by cases h⟩
    · by_cases hroom : xs.length + news.length ≤ c
      · have hr2 := run_append_room (P := Try.prog) w E.t ty E.e i0 hE.und hi g xs.length c cur hg ad news.length d (E.cells news) (by rw [hz1, cells_length hE]) hrow.news (cells_one hE news) hroom (by rw [hz1, cells_length hE, hcs, ← Nat.add_mul]; exact Nat.mul_le_mul_right _ hroom)
        have := hr.symm.trans hr2
        injection this with e1 _
        injection e1 with e1 _ e3
        exact ⟨.inl ⟨e1, hk⟩, fun _ => e3⟩
      · have hr2 := run_append_grow (P := Try.prog) w E.t ty E.e i0 z hE.und hi hz0 ⟨g, 0, none⟩ xs.length c (E.cells xs) (by rw [hz1, cells_length hE]) (hown.cells (g := g) rfl) ad news.length d (E.cells news) (by rw [hz1, cells_length hE]) hrow.news (by omega) (by omega) (by rw [hz2]; exact growslice_fits (by omega) hb)
        have := hr.symm.trans hr2
        injection this with e1 e2
        injection e1 with e1 _ _
        refine ⟨.inr ⟨⟨_, e1, Nat.le_refl _⟩, ?_⟩, fun e4 => absurd (lt_of_block hg) (by rw [e4] at e1; have e5 : (some ⟨g, 0, none⟩ : Option Addr) = some ⟨w.heap.size, 0, none⟩ := e1; injection e5 with e6; injection e6 with e7; omega)⟩
        rw [e2]
        exact ((Keeps.refl _ w).drew).alloc _
end
structure Lay where
  O : Nat → Option Addr
  C : Nat → Nat
  N : Nat → Nat
  KO : Nat → Nat → Option Addr
  KC : Nat → Nat → Nat
  KN : Nat → Nat → Nat
  PO : Nat → Nat → Option Addr
  PC : Nat → Nat → Nat
  PN : Nat → Nat → Nat
structure RowIs (L : Lay) (a : Int) (i k : Nat) (r : RQ) : Prop where
  part : r.part = a
  ko : r.ko = L.KO i k
  kn : r.kn = L.KN i k
  kc : r.kc = L.KC i k
  po : r.po = L.PO i k
  pn : r.pn = L.PN i k
  pc : r.pc = L.PC i k
/-- the blocks of all the lists -/
def OB (L : Lay) (x : Nat) : Prop := ∃ i, i < 3 ∧ (inO (L.O i) x ∨ ∃ k, k < L.N i ∧ (inO (L.KO i k) x ∨ inO (L.PO i k) x))
theorem OB.o {L : Lay} {i x : Nat} (hi : i < 3) (h : inO (L.O i) x) : OB L x := ⟨i, hi, .inl h⟩
theorem OB.k {L : Lay} {i k x : Nat} (hi : i < 3) (hk : k < L.N i) (h : inO (L.KO i k) x) : OB L x := ⟨i, hi, .inr ⟨k, hk, .inl h⟩⟩
theorem OB.p {L : Lay} {i k x : Nat} (hi : i < 3) (hk : k < L.N i) (h : inO (L.PO i k) x) : OB L x := ⟨i, hi, .inr ⟨k, hk, .inr h⟩⟩
structure Sep (L : Lay) : Prop where
  n : ∀ i, i < 3 → L.N i ≤ 64
  kn : ∀ i k, i < 3 → k < L.N i → L.KN i k ≤ 2000
  pn : ∀ i k, i < 3 → k < L.N i → L.PN i k ≤ 2000
  sepO : ∀ i j, i < 3 → j < 3 → ¬ i = j → ∀ x, inO (L.O i) x → ¬ inO (L.O j) x
  sepK : ∀ i k j l, i < 3 → j < 3 → k < L.N i → l < L.N j → ¬ (i = j ∧ k = l) → ∀ x, inO (L.KO i k) x → ¬ inO (L.KO j l) x
  sepP : ∀ i k j l, i < 3 → j < 3 → k < L.N i → l < L.N j → ¬ (i = j ∧ k = l) → ∀ x, inO (L.PO i k) x → ¬ inO (L.PO j l) x
/-- what the lists hold: the parts, the keys, the pairs -/
structure Ov (w : World) (L : Lay) (A : Nat → Nat → Int) (K : Nat → Nat → List Tx) (P : Nat → Nat → List Pr) : Prop where
  row : ∀ i, i < 3 → ∃ r, Own QE w (L.O i) (L.C i) r ∧ r.length = L.N i ∧ ∀ k, k < L.N i → RowIs L (A i k) i k (r.getD k rq0)
  key : ∀ i k, i < 3 → k < L.N i → Own TE w (L.KO i k) (L.KC i k) (K i k) ∧ (K i k).length = L.KN i k
  pr : ∀ i k, i < 3 → k < L.N i → Own PE w (L.PO i k) (L.PC i k) (P i k) ∧ (P i k).length = L.PN i k
def upd2 {α : Type} (f : Nat → Nat → α) (i k : Nat) (v : α) : Nat → Nat → α := fun i' k' => if i' = i ∧ k' = k then v else f i' k'
theorem upd2_self {α : Type} (f : Nat → Nat → α) (i k : Nat) : upd2 f i k (f i k) = f := by
  funext a b
  unfold upd2
  split
  · rename_i h; rw [h.1, h.2]
  · rfl
theorem upd2_at {α : Type} (f : Nat → Nat → α) (i k : Nat) (v : α) : upd2 f i k v i k = v := by unfold upd2; rw [if_pos ⟨rfl, rfl⟩]
theorem upd2_ne {α : Type} (f : Nat → Nat → α) {i k i' k' : Nat} (v : α) (h : ¬ (i' = i ∧ k' = k)) : upd2 f i k v i' k' = f i' k' := by unfold upd2; rw [if_neg h]
section
variable {w w' : World} {L : Lay} {A : Nat → Nat → Int} {K : Nat → Nat → List Tx} {P : Nat → Nat → List Pr}
theorem Ov.keeps {S : Nat → Prop} (h : Ov w L A K P) (k : Keeps S w w') (hs : ∀ x, OB L x → ¬ S x) : Ov w' L A K P := by
  refine ⟨fun i hi => ?_, fun i j hi hj => ?_, fun i j hi hj => ?_⟩
  · obtain ⟨r, h1, h2, h3⟩ := h.row i hi
    exact ⟨r, h1.keeps k (fun x hx => hs x (.o hi hx)), h2, h3⟩
  · obtain ⟨h1, h2⟩ := h.key i j hi hj
    exact ⟨h1.keeps k (fun x hx => hs x (.k hi hj hx)), h2⟩
  · obtain ⟨h1, h2⟩ := h.pr i j hi hj
    exact ⟨h1.keeps k (fun x hx => hs x (.p hi hj hx)), h2⟩
theorem Ov.keepsN (h : Ov w L A K P) (k : Keeps no w w') : Ov w' L A K P := h.keeps k (fun _ _ => id)
theorem Ov.lt (h : Ov w L A K P) : ∀ x, OB L x → x < w.heap.size := by
  rintro x ⟨i, hi, hx | ⟨k, hk, hx | hx⟩⟩
  · obtain ⟨r, h1, _⟩ := h.row i hi; exact h1.lt x hx
  · exact (h.key i k hi hk).1.lt x hx
  · exact (h.pr i k hi hk).1.lt x hx
/-- the keys of one question are others, or longer -/
theorem Ov.touchK (s : Sep L) (h : Ov w L A K P) {i k B : Nat} (hi : i < 3) (hk : k < L.N i) (hB : ∀ x, OB L x → x < B) (kp : Keeps (fun x => inO (L.KO i k) x ∨ B ≤ x) w w') {V : List Tx} (ho : Own TE w' (L.KO i k) (L.KC i k) V) (hv : V.length = L.KN i k) : Ov w' L A (upd2 K i k V) P := by
  have hk0 := (h.key i k hi hk).1
  refine ⟨fun i' hi' => ?_, fun i' k' hi' hk' => ?_, fun i' k' hi' hk' => ?_⟩
  · obtain ⟨r, h1, h2, h3⟩ := h.row i' hi'
    refine ⟨r, h1.keeps kp ?_, h2, h3⟩
    rintro x hx (h4 | h4)
    · exact own_apart (by decide) h1 hk0 x hx h4
    · have := hB x (.o hi' hx); omega
  · by_cases e : i' = i ∧ k' = k
    · obtain ⟨rfl, rfl⟩ := e
      rw [upd2_at]; exact ⟨ho, hv⟩
    · rw [upd2_ne _ _ e]
      obtain ⟨h1, h2⟩ := h.key i' k' hi' hk'
      refine ⟨h1.keeps kp ?_, h2⟩
      rintro x hx (h4 | h4)
      · exact s.sepK i' k' i k hi' hi hk' hk e x hx h4
      · have := hB x (.k hi' hk' hx); omega
  · obtain ⟨h1, h2⟩ := h.pr i' k' hi' hk'
    refine ⟨h1.keeps kp ?_, h2⟩
    rintro x hx (h4 | h4)
    · exact own_apart (by decide) h1 hk0 x hx h4
    · have := hB x (.p hi' hk' hx); omega
theorem Ov.touchP (s : Sep L) (h : Ov w L A K P) {i k B : Nat} (hi : i < 3) (hk : k < L.N i) (hB : ∀ x, OB L x → x < B) (kp : Keeps (fun x => inO (L.PO i k) x ∨ B ≤ x) w w') {V : List Pr} (ho : Own PE w' (L.PO i k) (L.PC i k) V) (hv : V.length = L.PN i k) : Ov w' L A K (upd2 P i k V) := by
  have hk0 := (h.pr i k hi hk).1
  refine ⟨fun i' hi' => ?_, fun i' k' hi' hk' => ?_, fun i' k' hi' hk' => ?_⟩
  · obtain ⟨r, h1, h2, h3⟩ := h.row i' hi'
    refine ⟨r, h1.keeps kp ?_, h2, h3⟩
    rintro x hx (h4 | h4)
    · exact own_apart (by decide) h1 hk0 x hx h4
    · have := hB x (.o hi' hx); omega
  · obtain ⟨h1, h2⟩ := h.key i' k' hi' hk'
    refine ⟨h1.keeps kp ?_, h2⟩
    rintro x hx (h4 | h4)
    · exact own_apart (by decide) h1 hk0 x hx h4
    · have := hB x (.k hi' hk' hx); omega
  · by_cases e : i' = i ∧ k' = k
    · obtain ⟨rfl, rfl⟩ := e
      rw [upd2_at]; exact ⟨ho, hv⟩
    · rw [upd2_ne _ _ e]
      obtain ⟨h1, h2⟩ := h.pr i' k' hi' hk'
      refine ⟨h1.keeps kp ?_, h2⟩
      rintro x hx (h4 | h4)
      · exact s.sepP i' k' i k hi' hi hk' hk e x hx h4
      · have := hB x (.p hi' hk' hx); omega
/-- one list's rows are others -/
theorem Ov.touchO (s : Sep L) (h : Ov w L A K P) {i B : Nat} (hi : i < 3) (hB : ∀ x, OB L x → x < B) (kp : Keeps (fun x => inO (L.O i) x ∨ B ≤ x) w w') {r : List RQ} (ho : Own QE w' (L.O i) (L.C i) r) (hv : r.length = L.N i) {A' : Nat → Nat → Int} (hr : ∀ k, k < L.N i → RowIs L (A' i k) i k (r.getD k rq0)) (hA : ∀ i' k, ¬ i' = i → A' i' k = A i' k) : Ov w' L A' K P := by
  obtain ⟨r0, hk0, _⟩ := h.row i hi
  refine ⟨fun i' hi' => ?_, fun i' k' hi' hk' => ?_, fun i' k' hi' hk' => ?_⟩
  · by_cases e : i' = i
    · subst e; exact ⟨r, ho, hv, hr⟩
    · obtain ⟨r1, h1, h2, h3⟩ := h.row i' hi'
      refine ⟨r1, h1.keeps kp ?_, h2, fun k hk => by rw [hA i' k e]; exact h3 k hk⟩
      rintro x hx (h4 | h4)
      · exact s.sepO i' i hi' hi e x hx h4
      · have := hB x (.o hi' hx); omega
  · obtain ⟨h1, h2⟩ := h.key i' k' hi' hk'
    refine ⟨h1.keeps kp ?_, h2⟩
    rintro x hx (h4 | h4)
    · exact own_apart (by decide) h1 hk0 x hx h4
    · have := hB x (.k hi' hk' hx); omega
  · obtain ⟨h1, h2⟩ := h.pr i' k' hi' hk'
    refine ⟨h1.keeps kp ?_, h2⟩
    rintro x hx (h4 | h4)
    · exact own_apart (by decide) h1 hk0 x hx h4
    · have := hB x (.p hi' hk' hx); omega
/-- a key written over -/
theorem Ov.setK (s : Sep L) (h : Ov w L A K P) {i k x : Nat} (hi : i < 3) (hk : k < L.N i) (hx : x < L.KN i k) (t : Tx) :
    ∃ b, L.KO i k = some ⟨b, 0, none⟩ ∧ (∀ j, w.frozen? ⟨b, j, none⟩ = false) ∧ Ov (w.setCell ⟨b, x, none⟩ (.string t)) L A (upd2 K i k ((K i k).set x t)) P ∧ Keeps (OB L) w (w.setCell ⟨b, x, none⟩ (.string t)) := by
  obtain ⟨h1, h2⟩ := h.key i k hi hk
  obtain ⟨g, e, hf, ho, hkp⟩ := h1.store1 okT e0 x (by omega) 0 (by decide) t (.string t) rfl
  have ex : x * TE.k + 0 = x := by show x * 1 + 0 = x; omega
  rw [ex] at ho hkp
  exact ⟨g, e, hf, h.touchK s hi hk h.lt (hkp.mono fun _ hx => .inl hx) ho (by simpa using h2), hkp.mono fun _ hx => .k hi hk hx⟩
/-- a pair written over -/
theorem Ov.setP (s : Sep L) (h : Ov w L A K P) {i k x : Nat} (hi : i < 3) (hk : k < L.N i) (hx : x < L.PN i k) (t u : Tx) :
    ∃ b, L.PO i k = some ⟨b, 0, none⟩ ∧ (∀ j, w.frozen? ⟨b, j, none⟩ = false) ∧ Ov ((w.setCell ⟨b, x * 2, none⟩ (.string t)).setCell ⟨b, x * 2 + 1, none⟩ (.string u)) L A K (upd2 P i k ((P i k).set x (t, u))) ∧ Keeps (OB L) w ((w.setCell ⟨b, x * 2, none⟩ (.string t)).setCell ⟨b, x * 2 + 1, none⟩ (.string u)) := by
  obtain ⟨h1, h2⟩ := h.pr i k hi hk
  obtain ⟨g, e, hf, ho, hkp⟩ := h1.storeE okP x (by omega) (t, u)
  exact ⟨g, e, hf, h.touchP s hi hk h.lt (hkp.mono fun _ hx => .inl hx) ho (by simpa using h2), hkp.mono fun _ hx => .p hi hk hx⟩
/-- a part written over -/
theorem Ov.setA (s : Sep L) (h : Ov w L A K P) {i k : Nat} (hi : i < 3) (hk : k < L.N i) (a : Int) :
    ∃ b, L.O i = some ⟨b, 0, none⟩ ∧ (∀ j, w.frozen? ⟨b, j, none⟩ = false) ∧ Ov (w.setCell ⟨b, k * 9, none⟩ (.int .i64 a)) L (upd2 A i k a) K P ∧ Keeps (OB L) w (w.setCell ⟨b, k * 9, none⟩ (.int .i64 a)) := by
  obtain ⟨r, h1, h2, h3⟩ := h.row i hi
  obtain ⟨g, e, hf, ho, hkp⟩ := h1.store1 okQ rq0 k (by omega) 0 (by decide) { (r.getD k rq0) with part := a } (.int .i64 a) rfl
  have ex : k * QE.k + 0 = k * 9 := by show k * 9 + 0 = k * 9; omega
  rw [ex] at ho hkp
  refine ⟨g, e, hf, h.touchO s hi h.lt (hkp.mono fun _ hx => .inl hx) ho (by simpa using h2) (fun k' hk' => ?_) (fun i' k' hne => upd2_ne _ _ fun e => hne e.1), hkp.mono fun _ hx => .o hi hx⟩
  by_cases e2 : k' = k
  · subst e2
    have h4 := h3 k' hk'
    rw [upd2_at, List.getD_eq_getElem?_getD, List.getElem?_set_self (by omega)]
    exact ⟨rfl, h4.ko, h4.kn, h4.kc, h4.po, h4.pn, h4.pc⟩
  · rw [upd2_ne _ _ (fun e => e2 e.2), List.getD_eq_getElem?_getD, List.getElem?_set_ne (fun e => e2 e.symm), ← List.getD_eq_getElem?_getD]
    exact h3 k' hk'
theorem Ov.part (s : Sep L) (h : Ov w L A K P) {i k b : Nat} (hi : i < 3) (hk : k < L.N i) (hb : L.O i = some ⟨b, 0, none⟩) : w.cell? ⟨b, k * 9, none⟩ = some (.int .i64 (A i k)) := by
  obtain ⟨r, h1, h2, h3⟩ := h.row i hi
  obtain ⟨b2, off, e, h9⟩ := h1.sl.atQ (j := k) (by omega)
  rw [hb] at e
  injection e with e2
  injection e2 with e3 e4 _
  subst e3 e4
  have := h9.c0
  rwa [Nat.zero_add, (h3 k hk).part] at this
/-- a list is lengthened: what it was stays -/
theorem app_old {α : Type} {E : El α} (hE : E.Ok) {o oa o' : Option Addr} {c ca c' B : Nat} {xs zs : List α} (h : Own E w o c xs) (hrel : (oa = o ∧ ca = c) ∨ ∀ x, inO oa x → B ≤ x) (hB : ∀ x, inO o x → x < B) (hap : Ap w oa o' w') (hcap : o' = oa → c' = ca) (hown : Own E w' o' c' (xs ++ zs)) (hBw : B ≤ w.heap.size) :
    Own E w' o c xs ∧ ((o' = o ∧ c' = c) ∨ ∀ x, inO o' x → B ≤ x) ∧ Keeps (fun x => inO o x ∨ B ≤ x) w w' := by
  rcases hap with ⟨rfl, hk⟩ | ⟨⟨g, rfl, hg⟩, hk⟩
  · rcases hrel with ⟨rfl, rfl⟩ | hr
    · have := hcap rfl
      subst this
      exact ⟨own_pre hE hown, .inl ⟨rfl, rfl⟩, hk.mono fun _ h => .inl h⟩
    · refine ⟨h.keeps hk (fun x hx h2 => ?_), .inr hr, hk.mono fun x hx => .inr (hr x hx)⟩
      have := hB x hx; have := hr x h2; omega
  · refine ⟨h.keepsN hk, .inr ?_, hk.of_no⟩
    rintro x ⟨y, e, rfl⟩
    cases e
    exact Nat.le_trans hBw hg
theorem Ov.appK (s : Sep L) (h : Ov w L A K P) {i k B : Nat} (hi : i < 3) (hk : k < L.N i) (hB : ∀ x, OB L x → x < B) (hBw : B ≤ w.heap.size) {oa o' : Option Addr} {ca c' : Nat} {zs : List Tx} (hrel : (oa = L.KO i k ∧ ca = L.KC i k) ∨ ∀ x, inO oa x → B ≤ x) (hap : Ap w oa o' w') (hcap : o' = oa → c' = ca) (hown : Own TE w' o' c' (K i k ++ zs)) :
    Ov w' L A K P ∧ ((o' = L.KO i k ∧ c' = L.KC i k) ∨ ∀ x, inO o' x → B ≤ x) ∧ Keeps (fun x => OB L x ∨ B ≤ x) w w' := by
  obtain ⟨h1, h2⟩ := h.key i k hi hk
  obtain ⟨g1, g2, g3⟩ := app_old okT h1 hrel (fun x hx => hB x (.k hi hk hx)) hap hcap hown hBw
  have := h.touchK s hi hk hB g3 g1 h2
  rw [upd2_self] at this
  exact ⟨this, g2, g3.mono fun x hx => hx.imp (fun h => .k hi hk h) id⟩
theorem Ov.appP (s : Sep L) (h : Ov w L A K P) {i k B : Nat} (hi : i < 3) (hk : k < L.N i) (hB : ∀ x, OB L x → x < B) (hBw : B ≤ w.heap.size) {oa o' : Option Addr} {ca c' : Nat} {zs : List Pr} (hrel : (oa = L.PO i k ∧ ca = L.PC i k) ∨ ∀ x, inO oa x → B ≤ x) (hap : Ap w oa o' w') (hcap : o' = oa → c' = ca) (hown : Own PE w' o' c' (P i k ++ zs)) :
    Ov w' L A K P ∧ ((o' = L.PO i k ∧ c' = L.PC i k) ∨ ∀ x, inO o' x → B ≤ x) ∧ Keeps (fun x => OB L x ∨ B ≤ x) w w' := by
  obtain ⟨h1, h2⟩ := h.pr i k hi hk
  obtain ⟨g1, g2, g3⟩ := app_old okP h1 hrel (fun x hx => hB x (.p hi hk hx)) hap hcap hown hBw
  have := h.touchP s hi hk hB g3 g1 h2
  rw [upd2_self] at this
  exact ⟨this, g2, g3.mono fun x hx => hx.imp (fun h => .p hi hk h) id⟩
theorem Ov.appO (s : Sep L) (h : Ov w L A K P) {i B : Nat} (hi : i < 3) (hB : ∀ x, OB L x → x < B) (hBw : B ≤ w.heap.size) {r : List RQ} (hr : Own QE w (L.O i) (L.C i) r) (hn : r.length = L.N i) (hrr : ∀ k, k < L.N i → RowIs L (A i k) i k (r.getD k rq0)) {o' : Option Addr} {c' : Nat} {zs : List RQ} (hap : Ap w (L.O i) o' w') (hcap : o' = L.O i → c' = L.C i) (hown : Own QE w' o' c' (r ++ zs)) :
    Ov w' L A K P ∧ Keeps (fun x => OB L x ∨ B ≤ x) w w' := by
  obtain ⟨g1, g2, g3⟩ := app_old okQ hr (.inl ⟨rfl, rfl⟩) (fun x hx => hB x (.o hi hx)) hap hcap hown hBw
  exact ⟨h.touchO s hi hB g3 g1 hn hrr (fun _ _ _ => rfl), g3.mono fun x hx => hx.imp (fun h => .o hi h) id⟩
end
/-- append, and the room that it tells -/
theorem wpList_appC {α : Type} {E : El α} (hE : E.Ok) {w : World} {ops : Array Oper} {rest : List Oper} {o : Oper} {a : Act} {Q : Exit → Act → World → Prop} (hgd : o.guard = none) (s x : Operand)
    (ho : o.op = .call { callee := .builtin .append, args := #[s, x], argTypes := #[E.t, E.t] })
    (oa : Option Addr) (n c : Nat) (xs : List α) (hs : a.eval s = .slice oa n c) (hn : n = xs.length) (hown : Own E w oa c xs)
    (ox : Option Addr) (m d : Nat) (news : List α) (hx : a.eval x = .slice ox m d) (hm : m = news.length) (hd : ox = none → d = 0) (hrow : Row E w ox news)
    (hb : (xs.length + news.length) * E.nb ≤ 140737488355328) (hb2 : xs.length + news.length ≤ 140737488355328)
    (h : ∀ o' c' w', Own E w' o' c' (xs ++ news) → Ap w oa o' w' → (o' = oa → c' = c) → wpList Try.prog ops Q rest (a.put o.dst (.slice o' (n + m) c')) w') : wpList Try.prog ops Q (o :: rest) a w := by
  subst hn hm
  obtain ⟨o', c', w', hr, h1, h2, h3⟩ := run_appC hE w o.type oa c xs hown ox d news hd hrow hb hb2
  refine wpList_plain hgd fun K hK => ?_
  unfold Oper.wp execOp
  simp only [ho, resolve, invoke, builtin, Sem.run_bind, Sem.run_pure, Result.andThen_ok, List.map_toArray, List.map_cons, List.map_nil, hs, hx, hr]
  exact hK _ _ (h o' c' w' h1 h2 h3)
end Go.Proofs.Ytghnhkhhpeoheaa
