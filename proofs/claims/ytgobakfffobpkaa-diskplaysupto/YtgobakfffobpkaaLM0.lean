/- For DiskMemory: what is told of two files, held apart. -/
import Derived.Test.YtgobakfffobpkaaMK
import Derived.Test.YtgobakfffobpkaaL2
import Derived.Test.YtgobakfffobpkaaT1
namespace Go.Proofs.Ytgobakfffobpkaa
open Go.RowKit Dk
set_option linter.unusedVariables false
set_option linter.unusedSimpArgs false

theorem dn_list {w0 w : World} {p : Nat} {F : Nat → Prop} {s s' : St} {l : List Nm} (h : Dn w0 w p F s) (hA : tick s = s') (hL : listN s' = l) (hE : listE s' = 0) :
    Calls Try.prog 21 #[.pointer (some ⟨p, 0, none⟩)] w fun e w' => ∃ o c m, e = .returned (.tuple #[.slice o m c, .int .i64 0]) ∧ Hid (m = l.length) ∧ Own TE w' o c (l.map mkT) ∧ New w o ∧ Dn w0 w' p F s' ∧ Keeps F w w' := by
  refine (list_any w p F s h.is).mono ?_
  rintro e w' ⟨o, c, m, rfl, hm, ho, hnw, hi, hk⟩
  rw [hA] at hi hm ho ⊢
  rw [hL] at hm ho
  rw [hE]
  exact ⟨o, c, m, rfl, hm, ho, hnw, h.same hi hk, hk⟩
theorem Dn.other {w0 w w' : World} {p : Nat} {F S : Nat → Prop} {s : St} (h : Dn w0 w p F s) (hk : Keeps S w w') (hS : ∀ k, F k → ¬ S k) (hN : ∀ k, S k → w0.heap.size ≤ k) : Dn w0 w' p F s :=
  ⟨h.is.keeps hk hS, h.new, h.kept.then hk (fun i hi => .inr (hN i hi))⟩
theorem same_yes (w : World) (oa : Option Addr) (na ca : Nat) (ob : Option Addr) (nb cb : Nat) (xs : List UInt8) (hna : na = xs.length) (hnb : nb = xs.length) (ha : Row BE w oa xs) (hb : Row BE w ob xs) :
    Calls Try.prog 19 #[.slice oa na ca, .slice ob nb cb] w fun e w' => e = .returned (.bool true) ∧ w' = w := by
  refine (same_any w oa na ca ob nb cb xs xs hna hnb ha hb).mono ?_
  rintro e w' ⟨rfl, rfl⟩
  exact ⟨by simp, rfl⟩
/-- a slice with its blocks between two numbers -/
structure Hd {α : Type} (E : El α) (w : World) (F : Nat → Prop) (lo hi : Nat) (o : Option Addr) (c : Nat) (xs : List α) : Prop where
  own : Own E w o c xs
  nf : ∀ k, inO o k → ¬ F k
  iv : ∀ k, inO o k → lo ≤ k ∧ k < hi
variable {α : Type} {E : El α}
theorem Hd.step {w w' : World} {F : Nat → Prop} {lo hi : Nat} {o : Option Addr} {c : Nat} {xs : List α} (h : Hd E w F lo hi o c xs) (hk : Keeps F w w') : Hd E w' F lo hi o c xs := ⟨h.own.keeps hk h.nf, h.nf, h.iv⟩
theorem hd_new {w w' : World} {F : Nat → Prop} {o : Option Addr} {c : Nat} {xs : List α} (h : Own E w' o c xs) (hn : New w o) (hF : ∀ k, F k → k < w.heap.size) : Hd E w' F w.heap.size w'.heap.size o c xs :=
  ⟨h, fun k hk hf => by have := hn k hk; have := hF k hf; omega, fun k hk => ⟨hn k hk, h.lt k hk⟩⟩
theorem Hd.sh {w w' : World} {F S : Nat → Prop} {lo hi : Nat} {o : Option Addr} {c : Nat} {xs : List α} (h : Hd E w F lo hi o c xs) (hk : Keeps S w w') (hS : ∀ k, inO o k → ¬ S k) : Hd E w' F lo hi o c xs := ⟨h.own.keeps hk hS, h.nf, h.iv⟩

theorem own_t {w : World} {o : Option Addr} {c : Nat} {xs : List Tx} (h : Own TE w o c xs) (h0 : 0 < xs.length) : ∃ g, o = some ⟨g, 0, none⟩ ∧ ∀ j, j < xs.length → w.cell? ⟨g, j, none⟩ = some (.string (xs.getD j e0)) ∧ w.frozen? ⟨g, j, none⟩ = false := by
  rcases h.shape with ⟨_, _, e⟩ | ⟨g, cur, rfl, hg, _⟩
  · rw [e] at h0; simp at h0
  · refine ⟨g, rfl, fun j hj => ⟨?_, frozen_of_blk hg j⟩⟩
    obtain ⟨b, off, e, hc⟩ := h.sl.at hj
    cases e
    rw [Nat.zero_add] at hc
    exact hc
theorem Own.storeT {w : World} {g : Nat} {c : Nat} {xs : List Tx} (h : Own TE w (some ⟨g, 0, none⟩) c xs) (k : Nat) (hk : k < xs.length) (v : Tx) : Own TE (w.setCell ⟨g, k, none⟩ (.string v)) (some ⟨g, 0, none⟩) c (xs.set k v) := by
  rcases h.shape with ⟨e, _, _⟩ | ⟨g', cur, e, hg, h2, h3, h4, h5⟩
  · cases e
  · cases e
    refine own_of_shape okT (blk_set hg k (.string v)) (by simpa using h2) h3 (by simpa using h4) ?_
    rw [cells_T] at h5 ⊢
    simp only [List.length_set, Array.toList_setIfInBounds, List.take_set, h5, List.map_set]
theorem keeps_setO (w : World) (g i : Nat) (u : Value) : Keeps (inO (some ⟨g, 0, none⟩)) w (w.setCell ⟨g, i, none⟩ u) :=
  (Keeps.refl _ w).setCell (p := ⟨g, i, none⟩) (.inl ⟨_, rfl, rfl⟩) u
/-- an append leaves what lies apart -/
theorem Ap.keeps {w w' : World} {oa o' : Option Addr} (h : Ap w oa o' w') : Keeps (inO oa) w w' := by
  rcases h with ⟨_, h⟩ | ⟨_, h⟩
  · exact h
  · exact h.of_no
/-- .. and what the longer slice began with -/
theorem Ap.row (hE : E.Ok) {w w' : World} {oa o' : Option Addr} {c' : Nat} {xs ys : List α} (h : Ap w oa o' w') (hr : Row E w oa xs) (ho : Own E w' o' c' (xs ++ ys)) : Row E w' oa xs := by
  rcases h with ⟨rfl, _⟩ | ⟨_, h⟩
  · have := ho.row.take hE xs.length
    simpa using this
  · exact hr.keepsN h
theorem Ap.in {w w' : World} {oa o' : Option Addr} (h : Ap w oa o' w') : ∀ k, inO o' k → inO oa k ∨ w.heap.size ≤ k := by
  intro k hk
  rcases h with ⟨rfl, _⟩ | ⟨⟨g, rfl, hg⟩, _⟩
  · exact .inl hk
  · obtain ⟨x, e, rfl⟩ := hk; cases e; exact .inr hg

def tB : Tx := ⟨#[98]⟩
theorem ap5 {P Q R S T : LS UInt8} {a0 a1 a2 a3 a4 b0 b1 b2 b3 b4 : Nat} (h0 : ∀ k, inO P.o k → a0 ≤ k ∧ k < b0) (h1 : ∀ k, inO Q.o k → a1 ≤ k ∧ k < b1) (h2 : ∀ k, inO R.o k → a2 ≤ k ∧ k < b2) (h3 : ∀ k, inO S.o k → a3 ≤ k ∧ k < b3) (h4 : ∀ k, inO T.o k → a4 ≤ k ∧ k < b4) (l0 : b0 ≤ a1) (l1 : b1 ≤ a2) (l2 : b2 ≤ a3) (l3 : b3 ≤ a4) (m1 : a1 ≤ b1) (m2 : a2 ≤ b2) (m3 : a3 ≤ b3) :
    ∀ i j, i < 5 → j < 5 → i ≠ j → ∀ k, inO ([P, Q, R, S, T].getD i ls0).o k → ¬ inO ([P, Q, R, S, T].getD j ls0).o k := by
  have key : ∀ i, i < 5 → ∀ k, inO ([P, Q, R, S, T].getD i ls0).o k → [a0, a1, a2, a3, a4].getD i 0 ≤ k ∧ k < [b0, b1, b2, b3, b4].getD i 0 := by
    intro i hi k hk
    match i, hi with
    | 0, _ => exact h0 k hk
    | 1, _ => exact h1 k hk
    | 2, _ => exact h2 k hk
    | 3, _ => exact h3 k hk
    | 4, _ => exact h4 k hk
  intro i j hi hj hne k hk1 hk2
  have k1 := key i hi k hk1
  have k2 := key j hj k hk2
  have hi' : i = 0 ∨ i = 1 ∨ i = 2 ∨ i = 3 ∨ i = 4 := by omega
  have hj' : j = 0 ∨ j = 1 ∨ j = 2 ∨ j = 3 ∨ j = 4 := by omega
  clear hk1 hk2 key hi hj
  rcases hi' with rfl | rfl | rfl | rfl | rfl <;> rcases hj' with rfl | rfl | rfl | rfl | rfl <;> simp at k1 k2 hne <;> omega
/-- five lists that were told, for 'marks' -/
theorem mks5 {w : World} {P Q R S T : LS UInt8} {a0 a1 a2 a3 a4 b0 b1 b2 b3 b4 : Nat} {F : Nat → Prop} (h0 : Hd BE w F a0 b0 P.o P.c P.xs) (h1 : Hd BE w F a1 b1 Q.o Q.c Q.xs) (h2 : Hd BE w F a2 b2 R.o R.c R.xs) (h3 : Hd BE w F a3 b3 S.o S.c S.xs) (h4 : Hd BE w F a4 b4 T.o T.c T.xs) (l0 : b0 ≤ a1) (l1 : b1 ≤ a2) (l2 : b2 ≤ a3) (l3 : b3 ≤ a4) (m1 : a1 ≤ b1) (m2 : a2 ≤ b2) (m3 : a3 ≤ b3)
    (C : Array Value) (hC : C.toList = XE.cells [P, Q, R, S, T]) (s0 : P.xs.length ≤ 140737488351232) (s1 : Q.xs.length ≤ 140737488351232) (s2 : R.xs.length ≤ 140737488351232) (s3 : S.xs.length ≤ 140737488351232) (s4 : T.xs.length ≤ 140737488351232) : Mks (w.alloc (.cells C 22)) (some ⟨w.heap.size, 0, none⟩) [P, Q, R, S, T] := by
  have hk : Keeps no w (w.alloc (.cells C 22)) := keeps_alloc w _
  refine ⟨.inr ⟨_, 0, rfl, fun j u hj => ?_⟩, by simp, ?_, ?_, ap5 h0.iv h1.iv h2.iv h3.iv h4.iv l0 l1 l2 l3 m1 m2 m3, ?_⟩
  · rw [← hC] at hj
    rw [Nat.zero_add, cell_of_blk (blk_new w _)]
    simpa using hj
  · intro i hi
    match i, hi with
    | 0, _ => exact h0.own.keepsN hk
    | 1, _ => exact h1.own.keepsN hk
    | 2, _ => exact h2.own.keepsN hk
    | 3, _ => exact h3.own.keepsN hk
    | 4, _ => exact h4.own.keepsN hk
  · intro i hi
    match i, hi with
    | 0, _ => exact s0
    | 1, _ => exact s1
    | 2, _ => exact s2
    | 3, _ => exact s3
    | 4, _ => exact s4
  · rintro k hk
    rw [in_some hk]
    exact ⟨_, _, blk_new w _⟩
theorem blk5 {P Q R S T : LS UInt8} {X : Nat → Prop} (h0 : ∀ k, inO P.o k → X k) (h1 : ∀ k, inO Q.o k → X k) (h2 : ∀ k, inO R.o k → X k) (h3 : ∀ k, inO S.o k → X k) (h4 : ∀ k, inO T.o k → X k) : ∀ k, Blk [P, Q, R, S, T] k → X k := by
  rintro k ⟨i, hi, hin⟩
  match i, hi with
  | 0, _ => exact h0 k hin
  | 1, _ => exact h1 k hin
  | 2, _ => exact h2 k hin
  | 3, _ => exact h3 k hin
  | 4, _ => exact h4 k hin

theorem lit_rows {α : Type} {E : El α} (w : World) (xs : List α) (C : Array Value) (e : TypeId) (fz : Nat × Nat) (hC : C.toList = E.cells xs) : Row E (w.alloc (.cells C e fz)) (some ⟨w.heap.size, 0, none⟩) xs := by
  refine .inr ⟨_, 0, rfl, fun j u hj => ?_⟩
  rw [← hC] at hj
  rw [Nat.zero_add, cell_of_blk (blk_new w _)]
  simpa using hj
theorem rowT_at {w : World} {g : Nat} {xs : List Tx} (h : Row TE w (some ⟨g, 0, none⟩) xs) {j : Nat} (hj : j < xs.length) : w.cell? ⟨g, j, none⟩ = some (.string (xs.getD j e0)) := by
  have hs : Sl TE w (some ⟨g, 0, none⟩) xs.length xs := ⟨h, Nat.le_refl _, fun e => by cases e⟩
  obtain ⟨b, off, e, hc⟩ := hs.at hj
  cases e
  rwa [Nat.zero_add] at hc
/-- a disk and three lists of texts, all apart -/
structure Three (w wr : World) (p : Nat) (F : Nat → Prop) (s : St) (l0 l1 l2 l3 g1 c1 g2 c2 g3 c3 : Nat) (x1 x2 x3 : List Tx) : Prop where
  d : Dn w wr p F s
  a : Hd TE wr F l0 l1 (some ⟨g1, 0, none⟩) c1 x1
  b : Hd TE wr F l1 l2 (some ⟨g2, 0, none⟩) c2 x2
  c : Hd TE wr F l2 l3 (some ⟨g3, 0, none⟩) c3 x3
theorem Hd.at {w : World} {F : Nat → Prop} {lo hi g c : Nat} {xs : List α} (h : Hd E w F lo hi (some ⟨g, 0, none⟩) c xs) : lo ≤ g ∧ g < hi ∧ ¬ F g := ⟨(h.iv g ⟨_, rfl, rfl⟩).1, (h.iv g ⟨_, rfl, rfl⟩).2, h.nf g ⟨_, rfl, rfl⟩⟩
theorem not_in {g g' : Nat} (h : g ≠ g') : ∀ k, inO (some ⟨g, 0, none⟩) k → ¬ inO (some ⟨g', 0, none⟩) k := fun k h1 h2 => h ((in_some h1).symm.trans (in_some h2))
theorem f_not {F : Nat → Prop} {g : Nat} (h : ¬ F g) : ∀ k, F k → ¬ inO (some ⟨g, 0, none⟩) k := fun k h1 h2 => h (by rw [← in_some h2]; exact h1)
theorem Three.next {w wr : World} {p : Nat} {F : Nat → Prop} {s : St} {l0 l1 l2 l3 g1 c1 g2 c2 g3 c3 : Nat} {x1 x2 x3 : List Tx} (h : Three w wr p F s l0 l1 l2 l3 g1 c1 g2 c2 g3 c3 x1 x2 x3) (h0 : w.heap.size ≤ l0) (k : Nat) (h1 : k < x1.length) (h2 : k < x2.length) (h3 : k < x3.length) (u v t : Tx) :
    Three w (((wr.setCell ⟨g1, k, none⟩ (.string u)).setCell ⟨g2, k, none⟩ (.string v)).setCell ⟨g3, k, none⟩ (.string t)) p F s l0 l1 l2 l3 g1 c1 g2 c2 g3 c3 (x1.set k u) (x2.set k v) (x3.set k t) := by
  have a1 := h.a.at
  have a2 := h.b.at
  have a3 := h.c.at
  have k1 := keeps_setO wr g1 k (.string u)
  have k2 := keeps_setO (wr.setCell ⟨g1, k, none⟩ (.string u)) g2 k (.string v)
  have k3 := keeps_setO ((wr.setCell ⟨g1, k, none⟩ (.string u)).setCell ⟨g2, k, none⟩ (.string v)) g3 k (.string t)
  refine ⟨((h.d.other k1 (f_not a1.2.2) ?_).other k2 (f_not a2.2.2) ?_).other k3 (f_not a3.2.2) ?_, ?_, ?_, ?_⟩
  · intro i hi; rw [in_some hi]; omega
  · intro i hi; rw [in_some hi]; omega
  · intro i hi; rw [in_some hi]; omega
  · have q : Hd TE (wr.setCell ⟨g1, k, none⟩ (.string u)) F l0 l1 (some ⟨g1, 0, none⟩) c1 (x1.set k u) := ⟨h.a.own.storeT k h1 u, h.a.nf, h.a.iv⟩
    exact (q.sh k2 (not_in (by omega))).sh k3 (not_in (by omega))
  · have q : Hd TE ((wr.setCell ⟨g1, k, none⟩ (.string u)).setCell ⟨g2, k, none⟩ (.string v)) F l1 l2 (some ⟨g2, 0, none⟩) c2 (x2.set k v) := ⟨(h.b.sh k1 (not_in (by omega))).own.storeT k h2 v, h.b.nf, h.b.iv⟩
    exact q.sh k3 (not_in (by omega))
  · exact ⟨((h.c.sh k1 (not_in (by omega))).sh k2 (not_in (by omega))).own.storeT k h3 t, h.c.nf, h.c.iv⟩
/-- one list longer: its beginning stands, and all that lies apart -/
theorem app_one {w w1 wr w' : World} {p : Nat} {F : Nat → Prop} {s : St} {lo hi g c : Nat} {o' : Option Addr} {c' : Nat} {xs ys : List Tx} (hd : Dn w wr p F s) (hl : w.heap.size ≤ lo) (h : Hd TE wr F lo hi (some ⟨g, 0, none⟩) c xs) (hk : Keeps no wr w1) (ho : Own TE w' o' c' (xs ++ ys)) (hap : Ap w1 (some ⟨g, 0, none⟩) o' w') :
    Dn w w' p F s ∧ Row TE w' (some ⟨g, 0, none⟩) xs ∧ Keeps (inO (some ⟨g, 0, none⟩)) wr w' ∧ (∀ k, inO o' k → k = g ∨ wr.heap.size ≤ k) := by
  have a := h.at
  have k1 : Keeps (inO (some ⟨g, 0, none⟩)) wr w' := hk.of_no.trans hap.keeps
  refine ⟨hd.other k1 (f_not a.2.2) (fun i hi => by rw [in_some hi]; omega), hap.row okT (h.own.row.keepsN hk) ho, k1, fun k hk1 => ?_⟩
  rcases hap.in k hk1 with e | e
  · exact .inl (in_some e)
  · exact .inr (Nat.le_trans hk.size e)
theorem app_one' {w w1 wr w' : World} {p : Nat} {F : Nat → Prop} {s : St} {lo hi g c : Nat} {o' : Option Addr} {c' : Nat} {xs ys : List Tx} (hd : Dn w wr p F s) (hl : w.heap.size ≤ lo) (h : Hd TE wr F lo hi (some ⟨g, 0, none⟩) c xs) (hk : Keeps no wr w1) (ho : Own TE w' o' c' (xs ++ ys)) (hap : Ap w1 (some ⟨g, 0, none⟩) o' w') :
    Hid (Dn w w' p F s ∧ Row TE w' (some ⟨g, 0, none⟩) xs ∧ Keeps (inO (some ⟨g, 0, none⟩)) wr w' ∧ (∀ k, inO o' k → k = g ∨ wr.heap.size ≤ k)) := app_one hd hl h hk ho hap
theorem Hd.sh' {w w' : World} {F S : Nat → Prop} {lo hi : Nat} {o : Option Addr} {c : Nat} {xs : List α} (h : Hd E w F lo hi o c xs) (hk : Keeps S w w') (hS : ∀ k, inO o k → ¬ S k) : Hid (Hd E w' F lo hi o c xs) := h.sh hk hS
def tx (c : UInt8) : Tx := ⟨#[c]⟩
def over (k : Nat) (t : Tx) : List Tx := List.replicate k t ++ [tA, tB].drop k
theorem over_set (k : Nat) (t : Tx) (h : k < 2) : (over k t).set k t = over (k + 1) t := by
  match k, h with
  | 0, _ => rfl
  | 1, _ => rfl
theorem over_len (k : Nat) (t : Tx) (h : k ≤ 2) : (over k t).length = 2 := by
  simp [over]; omega

/-! ### the two files -/
theorem tB_max : tB.size ≤ maxLen := by unfold maxLen; decide
def mA (xs : List UInt8) : St := st [([97], ⟨xs, 0⟩)] (-1) 0
def mS (xs ys : List UInt8) : St := st [([97], ⟨xs, 0⟩), ([98], ⟨ys, 0⟩)] (-1) 0
theorem mA_app (xs : List UInt8) : counted Dk.new (appendOn tA.data.toList xs) = (mA xs, 0) := by
  rw [s_new, cnt_none, app_none xs rfl rfl (by decide)]; rfl
theorem mS_app (xs ys : List UInt8) : counted (mA xs) (appendOn tB.data.toList ys) = (mS xs ys, 0) := by
  show counted (st [([97], ⟨xs, 0⟩)] (-1) 0) _ = _
  rw [cnt_none, app_none ys rfl rfl (by show 1 < 16; omega)]; rfl
theorem mS_more (xs ys : List UInt8) : counted (mS xs ys) (appendOn tA.data.toList [33]) = (mS (xs ++ [33]) ys, 0) := by
  show counted (st [([97], ⟨xs, 0⟩), ([98], ⟨ys, 0⟩)] (-1) 0) _ = _
  rw [cnt_none, app_some (f := ⟨xs, 0⟩) [33] rfl rfl]; rfl
theorem mS_tick (xs ys : List UInt8) : tick (mS xs ys) = mS xs ys := tick_none _ _
theorem mA_tick (xs : List UInt8) : tick (mA xs) = mA xs := tick_none _ _
theorem mS_a (xs ys : List UInt8) : readB tA.data.toList (mS xs ys) = xs := rfl
theorem mS_b (xs ys : List UInt8) : readB tB.data.toList (mS xs ys) = ys := rfl
theorem mS_l (xs ys : List UInt8) : listN (mS xs ys) = [[97], [98]] := rfl
end Go.Proofs.Ytgobakfffobpkaa
