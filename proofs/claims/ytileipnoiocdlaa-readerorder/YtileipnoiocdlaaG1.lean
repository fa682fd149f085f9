import Derived.Test.YtileipnoiocdlaaH1
import Derived.Deep.RegionLaw
/- How pairs are dealt: the program's deal (ported from stage 5). -/
namespace Go.Proofs.Ytileipnoiocdlaa
open Go.RowKit Go.Sort Orl
set_option linter.unusedVariables false
set_option linter.unusedSimpArgs false

structure LS (α : Type) where
  o : Option Addr
  c : Nat
  xs : List α
structure GS (α : Type) where
  n : Nat
  o : Option Addr
  c : Nat
  xs : List α
def ls0 {α : Type} : LS α := ⟨none, 0, []⟩
def gs0 {α : Type} : GS α := ⟨0, none, 0, []⟩
def LS.enc {α : Type} (s : LS α) : List Value := [.slice s.o s.xs.length s.c]
def GS.enc {α : Type} (s : GS α) : List Value := [.int .i64 (s.n : Nat), .slice s.o s.xs.length s.c]
def YE : El (LS Tx) := ⟨23, 54, 1, 24, LS.enc⟩
def HE : El (GS Tx) := ⟨122, 118, 2, 32, GS.enc⟩
theorem infoLT : (Try.prog.info? 23).map (fun i => (i.zero, i.size, i.bytes)) = some (some (.slice none 0 0), 1, 24) := by kernel_rfl
theorem infoPP : (Try.prog.info? 122).map (fun i => (i.zero, i.size, i.bytes)) = some (some (.agg #[.int .i64 0, .slice none 0 0]), 2, 32) := by kernel_rfl
theorem okY : YE.Ok := by
  obtain ⟨i0, hi, hz0, hz1, hz2⟩ := info_parts infoLT
  exact ⟨fun _ => rfl, fun x u hu => by simp [YE, LS.enc] at hu; subst hu; rfl, by decide, Try.underlying54, i0, _, hi, hz0, hz1, hz2, rfl⟩
theorem okH : HE.Ok := by
  obtain ⟨i0, hi, hz0, hz1, hz2⟩ := info_parts infoPP
  exact ⟨fun _ => rfl, fun x u hu => by simp [HE, GS.enc] at hu; rcases hu with rfl | rfl <;> rfl, by decide, Try.underlying118, i0, _, hi, hz0, hz1, hz2, rfl⟩
section
variable {α : Type} {E : El α}
/-- the j-th of a kind of one cell, of two cells -/
theorem Sl.one {w : World} {a : Option Addr} {c : Nat} {xs : List α} (h : Sl E w a c xs) (hx : E.Ok) (hk : E.k = 1) (d : α) {j : Nat} (hj : j < xs.length) (u : Value) (hu : E.enc (xs.getD j d) = [u]) : ∃ b off, a = some ⟨b, off, none⟩ ∧ w.cell? ⟨b, off + j, none⟩ = some u := by
  rcases h.row with e | ⟨b, off, rfl, hc⟩
  · subst e; simp at hj
  · refine ⟨b, off, rfl, hc j _ ?_⟩
    have := cells_at hx d xs j 0 hj (by omega)
    rw [hk, hu] at this
    simpa using this
theorem getD_set {α : Type} (l : List α) (i j : Nat) (x d : α) (hi : i < l.length) : (l.set i x).getD j d = if j = i then x else l.getD j d := by
  simp only [List.getD_eq_getElem?_getD, List.getElem?_set]
  by_cases h : i = j
  · subst h; simp [hi]
  · rw [if_neg h, if_neg (Ne.symm h)]
theorem Own.tag {w : World} {o : Option Addr} {c : Nat} {xs : List α} (h : Own E w o c xs) : ∀ k, inO o k → ∃ cur, w.heap[k]? = some (.cells cur E.e (0, 0)) := by
  rintro k ⟨x, e, rfl⟩
  rcases h.shape with ⟨e', _⟩ | ⟨g, cur, e', hg, _⟩
  · rw [e'] at e; cases e
  · rw [e'] at e; cases e; exact ⟨cur, hg⟩
theorem tags_ne {α β : Type} {E : El α} {F : El β} (hEF : E.e ≠ F.e) {w : World} {o o' : Option Addr} {c c' : Nat} {xs : List α} {ys : List β} (h : Own E w o c xs) (h' : Own F w o' c' ys) : ∀ k, inO o k → ¬ inO o' k := by
  intro k h1 h2
  obtain ⟨a, ha⟩ := h.tag k h1
  obtain ⟨b, hb⟩ := h'.tag k h2
  rw [ha] at hb
  injection hb with hb
  injection hb with _ hb _
  exact hEF hb

theorem cells_map (hk : E.k = 1) (f : α → Value) (hf : ∀ x, E.enc x = [f x]) : ∀ l : List α, E.cells l = l.map f
  | [] => rfl
  | x :: r => by
    have := cells_map hk f hf r
    simp only [El.cells, List.flatMap_cons, List.map_cons] at this ⊢
    rw [this, hf]; rfl
theorem Own.store {w : World} {o : Option Addr} {c : Nat} {xs : List α} (hE : E.Ok) (hk : E.k = 1) (f : α → Value) (hf : ∀ x, E.enc x = [f x]) (d : α) (h : Own E w o c xs) (j : Nat) (hj : j < xs.length) (s : α) :
    ∃ g, o = some ⟨g, 0, none⟩ ∧ w.cell? ⟨g, j, none⟩ = some (f (xs.getD j d)) ∧ w.frozen? ⟨g, j, none⟩ = false ∧ Own E (w.setCell ⟨g, j, none⟩ (f s)) o c (xs.set j s) ∧ Keeps (inO o) w (w.setCell ⟨g, j, none⟩ (f s)) := by
  rcases h.shape with ⟨_, _, e⟩ | ⟨g, cur, rfl, hg, hc, hm, hs, ht⟩
  · rw [e] at hj; simp at hj
  · refine ⟨g, rfl, ?_, frozen_of_blk hg j, ?_, (Keeps.refl _ _).setCell (.inl ⟨_, rfl, rfl⟩) _⟩
    · obtain ⟨b, off, e, h1⟩ := h.sl.one hE hk d hj _ (hf _)
      cases e
      rw [Nat.zero_add] at h1
      exact h1
    · refine own_of_shape hE (blk_set hg j _) (by simpa using hc) hm (by simp [hs]) ?_
      rw [cells_map hk f hf] at ht ⊢
      rw [hk, Nat.mul_one] at ht
      simp only [Array.toList_setIfInBounds, List.length_set, List.map_set, hk, Nat.mul_one]
      rw [List.take_set, ht]

/-! ### lists of lists, each by itself -/
structure Lots {α : Type} (E : El α) (X : El (LS α)) (w : World) (oA : Option Addr) (cA : Nat) (L : List (LS α)) : Prop where
  own : Own X w oA cA L
  each : ∀ j, j < L.length → Own E w (L.getD j ls0).o (L.getD j ls0).c (L.getD j ls0).xs
  far : ∀ i j, i < L.length → j < L.length → i ≠ j → ∀ k, inO (L.getD i ls0).o k → ¬ inO (L.getD j ls0).o k
structure Kind {α : Type} (E : El α) (X : El (LS α)) : Prop where
  e : E.Ok
  x : X.Ok
  ne : E.e ≠ X.e
  k : X.k = 1
  enc : ∀ s, X.enc s = [.slice s.o s.xs.length s.c]
theorem kindT : Kind TE YE := ⟨okT, okY, by decide, rfl, fun _ => rfl⟩
variable {X : El (LS α)}
theorem Lots.keeps {S : Nat → Prop} {w w' : World} {oA : Option Addr} {cA : Nat} {L : List (LS α)} (h : Lots E X w oA cA L) (hk : Keeps S w w') (h1 : ∀ k, inO oA k → ¬ S k) (h2 : ∀ j, j < L.length → ∀ k, inO (L.getD j ls0).o k → ¬ S k) : Lots E X w' oA cA L :=
  ⟨h.own.keeps hk h1, fun j hj => (h.each j hj).keeps hk (h2 j hj), h.far⟩
theorem Lots.keepsN {w w' : World} {oA : Option Addr} {cA : Nat} {L : List (LS α)} (h : Lots E X w oA cA L) (hk : Keeps no w w') : Lots E X w' oA cA L := h.keeps hk (fun _ _ => id) (fun _ _ _ _ => id)
/-- one list longer, and laid back -/
theorem Lots.app (K : Kind E X) {w w' : World} {oA : Option Addr} {cA : Nat} {L : List (LS α)} (h : Lots E X w oA cA L) (i : Nat) (hi : i < L.length) {o' : Option Addr} {c' : Nat} {ys : List α} (ho : Own E w' o' c' ys) (hap : Ap w (L.getD i ls0).o o' w') :
    ∃ b, oA = some ⟨b, 0, none⟩ ∧ w'.cell? ⟨b, i, none⟩ = some (.slice (L.getD i ls0).o (L.getD i ls0).xs.length (L.getD i ls0).c) ∧ w'.frozen? ⟨b, i, none⟩ = false ∧ Lots E X (w'.setCell ⟨b, i, none⟩ (.slice o' ys.length c')) oA cA (L.set i ⟨o', c', ys⟩) ∧ Keeps (inO (L.getD i ls0).o) w w' := by
  have hk : Keeps (inO (L.getD i ls0).o) w w' := by
    rcases hap with ⟨_, hk⟩ | ⟨_, hk⟩
    · exact hk
    · exact hk.of_no
  have hX : Own X w' oA cA L := h.own.keeps hk (fun b hb1 hb2 => tags_ne K.ne (h.each i hi) h.own b hb2 hb1)
  obtain ⟨b, e, h1, h2, h3, h4⟩ := hX.store K.x K.k (fun s => .slice s.o s.xs.length s.c) K.enc ls0 i hi ⟨o', c', ys⟩
  have hoth : ∀ j, j < L.length → j ≠ i → Own E w' (L.getD j ls0).o (L.getD j ls0).c (L.getD j ls0).xs := fun j hj e => (h.each j hj).keeps hk (fun b hb1 hb2 => h.far j i hj hi e b hb1 hb2)
  have hnew : ∀ j, j < L.length → j ≠ i → ∀ x, inO o' x → ¬ inO (L.getD j ls0).o x := by
    intro j hj e x hx hx2
    rcases hap with ⟨e', _⟩ | ⟨⟨g, e', hg⟩, _⟩
    · subst e'; exact h.far j i hj hi e x hx2 hx
    · subst e'
      obtain ⟨y, ey, rfl⟩ := hx
      cases ey
      have := (h.each j hj).lt _ hx2
      simp at this
      omega
  refine ⟨b, e, h1, h2, ⟨h3, ?_, ?_⟩, hk⟩
  · intro j hj
    rw [List.length_set] at hj
    rw [getD_set L i j _ ls0 hi]
    by_cases e : j = i
    · rw [if_pos e]; exact ho.keeps h4 (fun b hb1 hb2 => tags_ne K.ne ho hX b hb1 hb2)
    · rw [if_neg e]; exact (hoth j hj e).keeps h4 (fun b hb1 hb2 => tags_ne K.ne (hoth j hj e) hX b hb1 hb2)
  · intro a c ha hc hac x hx
    rw [List.length_set] at ha hc
    rw [getD_set L i a _ ls0 hi] at hx
    rw [getD_set L i c _ ls0 hi]
    by_cases e1 : a = i
    · rw [if_pos e1] at hx
      rw [if_neg (fun e => hac (e1.trans e.symm))]
      exact hnew c hc (fun e => hac (e1.trans e.symm)) x hx
    · rw [if_neg e1] at hx
      by_cases e2 : c = i
      · rw [if_pos e2]
        exact fun h' => hnew a ha e1 x h' hx
      · rw [if_neg e2]; exact h.far a c ha hc hac x hx
end
theorem ownOf_snoc {α : Type} (P : Nat) (key : α → Tx) (l : List α) (x : α) (j : Nat) : ownOf P key (l ++ [x]) j = if j = pl P (key x) then ownOf P key l j ++ [x] else ownOf P key l j := by
  unfold ownOf
  rw [List.filter_append]
  by_cases h : pl P (key x) = j
  · rw [if_pos h.symm, List.filter_cons_of_pos (by simpa using h)]; rfl
  · rw [if_neg (fun e => h e.symm), List.filter_cons_of_neg (by simpa using h)]; simp
theorem ownOf_length {α : Type} (P : Nat) (key : α → Tx) (l : List α) (j : Nat) : (ownOf P key l j).length ≤ l.length := List.length_filter_le _ _

theorem lots_made {α : Type} {E : El α} {X : El (LS α)} (K : Kind E X) (w : World) (P : Nat) (hP : P ≤ 64) (cur : Array Value) (hc : cur.toList = List.replicate P (.slice none 0 0)) :
    Lots E X (w.alloc (.cells cur X.e)) (some ⟨w.heap.size, 0, none⟩) P (List.replicate P ls0) := by
  have hg : ∀ j, j < P → (List.replicate P (ls0 : LS α)).getD j ls0 = ls0 := fun j hj => by simp [hj]
  have hcs : cur.size = P := by rw [← Array.length_toList, hc, List.length_replicate]
  refine ⟨?_, ?_, ?_⟩
  · refine own_of_shape K.x (blk_new w _) (by simp) (by unfold maxLen; omega) (by rw [K.k]; omega) ?_
    rw [cells_map K.k _ K.enc, K.k, List.length_replicate, Nat.mul_one, hc, List.map_replicate]
    simp [ls0]
  · intro j hj
    rw [List.length_replicate] at hj
    rw [hg j hj]
    exact own_nil _
  · intro i j hi hj hij k hk
    rw [List.length_replicate] at hi
    rw [hg i hi] at hk
    obtain ⟨x, h, _⟩ := hk
    cases h
theorem makeY (w : World) (P : Nat) (hP : P ≤ 64) : ∃ w', (Instr.makeSlice 54 (.int .i64 (P : Int)) (.int .i64 (P : Int))).run Try.prog w = .ok (.slice (some ⟨w.heap.size, 0, none⟩) P P) w' ∧ Lots TE YE w' (some ⟨w.heap.size, 0, none⟩) P (List.replicate P ls0) ∧ Keeps no w w' :=
  ⟨_, run_make_row' (P := Try.prog) 54 23 (.slice none 0 0) 24 Try.underlying54 infoLT rfl .i64 .i64 P (by omega) (by omega) w, lots_made kindT w P hP _ (toList_madeCells_one _ _), (Keeps.refl _ _).alloc _⟩
/-- a slice that a literal of one lays -/
theorem lit_one {α : Type} {E : El α} (w : World) (x : α) (cs : Array Value) (hc : cs.toList = E.enc x) : Sl E (w.alloc (.cells cs E.e)) (some ⟨w.heap.size, 0, none⟩) 1 [x] := by
  refine ⟨.inr ⟨w.heap.size, 0, rfl, fun j u hj => ?_⟩, by simp, by simp⟩
  rw [cell_of_blk (blk_new w _), Nat.zero_add, ← Array.getElem?_toList, hc]
  simpa [El.cells] using hj
/-- what deal holds: each partition's list, all of them new -/
structure Deal {α : Type} (E : El α) (X : El (LS α)) (key : α → Tx) (w : World) (P : Nat) (l : List α) (oA : Option Addr) (cA : Nat) (L : List (LS α)) (w' : World) : Prop where
  lots : Lots E X w' oA cA L
  len : L.length = P
  xs : ∀ j, j < P → (L.getD j ls0).xs = ownOf P key l j
  new : New w oA
  news : ∀ j, j < P → New w (L.getD j ls0).o
  kp : Keeps no w w'
theorem Deal.keepsN {α : Type} {E : El α} {X : El (LS α)} {key : α → Tx} {w : World} {P : Nat} {l : List α} {oA : Option Addr} {cA : Nat} {L : List (LS α)} {w' w'' : World} (h : Deal E X key w P l oA cA L w') (hk : Keeps no w' w'') : Deal E X key w P l oA cA L w'' :=
  ⟨h.lots.keepsN hk, h.len, h.xs, h.new, h.news, h.kp.trans hk⟩
/-- one more dealt -/
theorem Deal.app {α : Type} {E : El α} {X : El (LS α)} (K : Kind E X) {key : α → Tx} {w : World} {P : Nat} {l : List α} {oA : Option Addr} {cA : Nat} {L : List (LS α)} {wr w' : World} (h : Deal E X key w P l oA cA L wr) (x : α) (hP : pl P (key x) < P)
    {o' : Option Addr} {c' : Nat} (ho : Own E w' o' c' ((L.getD (pl P (key x)) ls0).xs ++ [x])) (hap : Ap wr (L.getD (pl P (key x)) ls0).o o' w') (N : Nat) (hN : N = (L.getD (pl P (key x)) ls0).xs.length + 1) :
    ∃ b, oA = some ⟨b, 0, none⟩ ∧ (∃ v, w'.cell? ⟨b, pl P (key x), none⟩ = some v) ∧ w'.frozen? ⟨b, pl P (key x), none⟩ = false ∧ ∃ L', Deal E X key w P (l ++ [x]) oA cA L' (w'.setCell ⟨b, pl P (key x), none⟩ (.slice o' N c')) := by
  obtain ⟨b, e, h1, h2, h3, h4⟩ := h.lots.app K (pl P (key x)) (by rw [h.len]; exact hP) ho hap
  have hN' : N = ((L.getD (pl P (key x)) ls0).xs ++ [x]).length := by rw [hN]; simp
  have hs := h.news (pl P (key x)) hP
  refine ⟨b, e, ⟨_, h1⟩, h2, L.set (pl P (key x)) ⟨o', c', (L.getD (pl P (key x)) ls0).xs ++ [x]⟩, ?_, by rw [List.length_set]; exact h.len, ?_, h.new, ?_, ?_⟩
  · rw [hN']; exact h3
  · intro j hj
    rw [getD_set _ _ _ _ _ (by rw [h.len]; exact hP), ownOf_snoc]
    by_cases ej : j = pl P (key x)
    · rw [if_pos ej, if_pos ej, ej, ← h.xs _ hP]
    · rw [if_neg ej, if_neg ej]; exact h.xs j hj
  · intro j hj
    rw [getD_set _ _ _ _ _ (by rw [h.len]; exact hP)]
    by_cases ej : j = pl P (key x)
    · rw [if_pos ej]; exact (hap.new hs h.kp).1
    · rw [if_neg ej]; exact h.news j hj
  · exact (hap.new hs h.kp).2.setCell (.inr (by subst e; exact h.new b ⟨_, rfl, rfl⟩)) _

theorem keyT_any (x : Tx) (w : World) : Calls Try.prog 73 #[.string x] w fun e w' => e = .returned (.string x) ∧ Keeps no w w' := by
  go_enter Try.func73, Try.ntmps73
  go_wp2
  go_ret
  exact ⟨rfl, by first | exact Keeps.refl _ _ | exact (Keeps.refl _ _).alloc _⟩
theorem mem_getD {α : Type} (l : List α) (k : Nat) (d : α) (h : k < l.length) : l.getD k d ∈ l := by
  rw [List.getD_eq_getElem?_getD, List.getElem?_eq_getElem h]; exact List.getElem_mem h
/-- the list of the key x, as it lies -/
theorem Deal.at {α : Type} {E : El α} {X : El (LS α)} (K : Kind E X) {key : α → Tx} {w : World} {P : Nat} {l : List α} {b cA : Nat} {L : List (LS α)} {wr : World} (h : Deal E X key w P l (some ⟨b, 0, none⟩) cA L wr) (q : Nat) (hq : q < P) :
    wr.cell? ⟨b, q, none⟩ = some (.slice (L.getD q ls0).o (L.getD q ls0).xs.length (L.getD q ls0).c) ∧ Own E wr (L.getD q ls0).o (L.getD q ls0).c (L.getD q ls0).xs ∧ (L.getD q ls0).xs.length ≤ l.length := by
  have hq' : q < L.length := by rw [h.len]; exact hq
  obtain ⟨b', off, e, hc⟩ := h.lots.own.sl.one K.x K.k ls0 hq' _ (K.enc _)
  cases e
  rw [Nat.zero_add] at hc
  exact ⟨hc, h.lots.each q hq', by rw [h.xs q hq]; exact ownOf_length _ _ _ _⟩

theorem cell_al {w : World} {p : Addr} {v : Value} (h : w.cell? p = some v) (o : Obj) : (w.alloc o).cell? p = some v := ((Keeps.refl no w).alloc o).cellN h
theorem Deal.lay {α : Type} {E : El α} {X : El (LS α)} (K : Kind E X) {key : α → Tx} {w : World} {P : Nat} {l : List α} {b cA : Nat} {L : List (LS α)} {wr W w' : World} (h : Deal E X key w P l (some ⟨b, 0, none⟩) cA L wr) (x : α) (q : Nat) (hq : q = pl P (key x)) (hqP : q < P)
    {o : Option Addr} {c m : Nat} {ys : List α} (hL : L.getD q ls0 = ⟨o, c, ys⟩) (hm : m = ys.length) {o' : Option Addr} {c' : Nat} (ho : Own E w' o' c' (ys ++ [x])) (hap : Ap W o o' w') (hk : Keeps no wr W) :
    ∃ v, w'.cell? ⟨b, q, none⟩ = some v ∧ w'.frozen? ⟨b, q, none⟩ = false ∧ ∃ L', Hid (Deal E X key w P (l ++ [x]) (some ⟨b, 0, none⟩) cA L' (w'.setCell ⟨b, q, none⟩ (.slice o' (m + 1) c'))) := by
  subst hq
  obtain ⟨b5, eb5, ⟨v5, hv5⟩, hf5, L5, hD5⟩ := (h.keepsN hk).app K x hqP (by rw [hL]; exact ho) (by rw [hL]; exact hap) (m + 1) (by rw [hL, hm])
  cases eb5
  exact ⟨v5, hv5, hf5, L5, hD5⟩
/-- append as one step of a region that draws -/
theorem step_app {α : Type} {E : El α} (hE : E.Ok) {w : World} {ops : Array Oper} {o : Oper} {a : Act} {K : Act → World → Prop} {Q : Exit → Act → World → Prop} {Ep : Prop} (hgd : o.guard = none) (s x : Operand)
    (ho : o.op = .call { callee := .builtin .append, args := #[s, x], argTypes := #[E.t, E.t] })
    (oa : Option Addr) (n c : Nat) (xs : List α) (hs : a.eval s = .slice oa n c) (hn : n = xs.length) (hown : Own E w oa c xs)
    (ox : Option Addr) (m d : Nat) (news : List α) (hx : a.eval x = .slice ox m d) (hm : m = news.length) (hd : ox = none → d = 0) (hrow : Row E w ox news)
    (hb : (xs.length + news.length) * E.nb ≤ 140737488355328) (hb2 : xs.length + news.length ≤ 140737488355328)
    (h : ∀ o' c' w', Own E w' o' c' (xs ++ news) → Ap w oa o' w' → K (a.put o.dst (.slice o' (n + m) c')) w') :
    if Region.wanted o (yielded ops a.tmps) = true then Oper.wp Try.prog o a w K Q else Ep := by
  have hw : Region.wanted o (yielded ops a.tmps) = true := by simp [Region.wanted, hgd]
  rw [if_pos hw]
  subst hn hm
  obtain ⟨o', c', w', hr, h1, h2⟩ := run_app hE w o.type oa c xs hown ox d news hd hrow hb hb2
  unfold Oper.wp execOp
  simp only [ho, resolve, invoke, builtin, Sem.run_bind, Sem.run_pure, Result.andThen_ok, List.map_toArray, List.map_cons, List.map_nil, hs, hx, hr]
  exact h o' c' w' h1 h2

def idT : Tx → Tx := fun p => p
set_option maxRecDepth 10000 in
theorem dealT_any (w : World) (a : Option Addr) (n c : Nat) (xs : List Tx) (P : Nat) (hn : n = xs.length) (hfit : (xs.length : Int) * 16 ≤ 140737488351232) (hsz : ∀ x ∈ xs, x.size ≤ maxLen) (hs : Sl TE w a c xs) (h1 : 0 < P) (h2 : P ≤ 64) :
    Calls Try.prog 72 #[.slice a n c, .int .i64 (P : Int), .func (.func 73) #[] #[]] w fun e w' => ∃ b cA L, e = .returned (.slice (some ⟨b, 0, none⟩) P cA) ∧ Deal TE YE idT w P xs (some ⟨b, 0, none⟩) cA L w' := by
  have HA : Hid (n = xs.length) := hn
  have HF : Hid ((xs.length : Int) * 16 ≤ 140737488351232) := hfit
  have hA : (n : Int) ≤ 8796093021952 := by omega
  have HZ : Hid (∀ x ∈ xs, x.size ≤ maxLen) := hsz
  obtain ⟨w1, hr1, hl1, hk1⟩ := makeY w P h2
  have HM : Hid (Deal TE YE idT w P [] (some ⟨w.heap.size, 0, none⟩) P (List.replicate P ls0) w1) := ⟨hl1, by simp, fun j hj => by simp [hj, ls0, ownOf], new_fresh _ _ (Nat.le_refl _) _, fun j hj => by simp [hj, ls0]; exact new_none _, hk1⟩
  clear hn hfit hsz hl1 hk1
  go_enter Try.func72, Try.ntmps72
  go_wp2_with fail
  go_loopw [15] (fun i wr => ∃ (k : Nat) (L : List (LS Tx)), k ≤ n ∧ i = .int .i64 k ∧ Hid (Deal TE YE idT w P (xs.take k) (some ⟨w.heap.size, 0, none⟩) P L wr)) (fun i _ => n - (intOf i).toNat)
  case atStart => exact ⟨0, _, by omega, rfl, HM⟩
  case round =>
    obtain ⟨k, L, hk, rfl, HI⟩ := hrel
    clear HM
    by_cases hlt : k < n
    · have hka : k < xs.length := by have := HA.out; omega
      have hs' := hs.keepsN HI.out.kp
      obtain ⟨b1, off1, rfl, d1⟩ := hs'.at hka
      obtain ⟨x1, hx⟩ : ∃ x, x = xs.getD k e0 := ⟨_, rfl⟩
      have hxs : x1.size ≤ maxLen := HZ.out x1 (by rw [hx]; exact mem_getD _ _ _ hka)
      rw [← hx] at d1
      have HT : Hid (xs.take (k + 1) = xs.take k ++ [x1]) := by rw [take_succ_getD xs k e0 hka, ← hx]; exact rfl
      obtain ⟨q, hq⟩ : ∃ q, q = pl P x1 := ⟨_, rfl⟩
      have hqP : q < P := by rw [hq]; exact pl_lt x1 h1
      have HQ : Hid (q = pl P x1) := hq
      clear hx hka hq hs'
      go_wp2_with fail
      refine (keyT_any x1 _).mono ?_
      rintro e w2 ⟨rfl, hk2⟩
      have HD : Hid (Deal TE YE idT w P (xs.take k) (some ⟨w.heap.size, 0, none⟩) P L w2) := HI.out.keepsN hk2
      obtain ⟨d2, ho, hle⟩ := HD.out.at kindT q hqP
      obtain ⟨s, hsq⟩ : ∃ s, s = L.getD q ls0 := ⟨_, rfl⟩
      rw [← hsq] at d2 ho hle
      obtain ⟨o, cc, ys⟩ := s
      simp only at d2 ho hle
      obtain ⟨m, hm⟩ : ∃ m, m = ys.length := ⟨_, rfl⟩
      rw [← hm] at d2
      have HO : Hid (Own TE w2 o cc ys ∧ m = ys.length ∧ L.getD q ls0 = ⟨o, cc, ys⟩) := ⟨ho, hm, hsq.symm⟩
      have hmI : (m : Int) ≤ 8796093021952 := by rw [List.length_take] at hle; omega
      have HB : Hid ((ys.length + [x1].length) * TE.nb ≤ 140737488355328 ∧ ys.length + [x1].length ≤ 140737488355328) := ⟨by simp [TE]; omega, by simp; omega⟩
      clear ho hle hm hsq HI hk2 d1
      go_wp2_with fail
      refine (place_any x1 P h1 h2 _ hxs).mono ?_
      rintro e w' ⟨rfl, hw'⟩
      subst w'
      rw [← HQ.out]
      have r2 := cell_al d2 (.cells #[.string x1] 9)
      go_wp2_with (at_builtin; go_loud (refine wpList_app okT rfl _ _ rfl o m cc ys rfl HO.out.2.1 (HO.out.1.keepsN ((Keeps.refl _ _).alloc _)) (some ⟨w2.heap.size, 0, none⟩) 1 1 [x1] rfl rfl (fun h => by cases h) (lit_one (E := TE) w2 x1 _ rfl).row HB.out.1 HB.out.2 ?_); intro o5 c5 w5 ho5 hap5; obtain ⟨v5, s1, s2, L5, S3⟩ := HD.out.lay kindT x1 q HQ.out hqP HO.out.2.2 HO.out.2.1 ho5 hap5 ((Keeps.refl _ _).alloc _))
      go_roundw
      case rel =>
        refine ⟨k + 1, L5, by omega, by go_num, ?_⟩
        have := S3.out
        rw [← HT.out] at this
        exact this
      case measure => simp [intOf] <;> omega
    · go_wp2_with fail
      go_ret
      refine ⟨_, _, L, rfl, ?_⟩
      have he : xs.take k = xs := List.take_of_length_le (by have := HA.out; omega)
      have := HI.out
      rwa [he] at this
end Go.Proofs.Ytileipnoiocdlaa
/- shard.GroupPairs (ported from stage 5). -/
namespace Go.Proofs.Ytileipnoiocdlaa
open Go.RowKit Go.Sort Orl
set_option linter.unusedVariables false
set_option linter.unusedSimpArgs false

open Classical in
noncomputable def gsl {α : Type} (L : List (LS α)) : Nat → List (GS α)
  | 0 => []
  | k + 1 => gsl L k ++ (if (L.getD k ls0).xs = [] then [] else [⟨k, (L.getD k ls0).o, (L.getD k ls0).c, (L.getD k ls0).xs⟩])
section
variable {α : Type} {E : El α} {X : El (LS α)} {G : El (GS α)} {key : α → Tx}
theorem gsl_no (L : List (LS α)) (k : Nat) (h : (L.getD k ls0).xs = []) : gsl L (k + 1) = gsl L k := by
  rw [gsl, if_pos h, List.append_nil]
theorem gsl_yes (L : List (LS α)) (k : Nat) (h : (L.getD k ls0).xs ≠ []) : gsl L (k + 1) = gsl L k ++ [⟨k, (L.getD k ls0).o, (L.getD k ls0).c, (L.getD k ls0).xs⟩] := by
  rw [gsl, if_neg h]
theorem gsl_map (P : Nat) (l : List α) (L : List (LS α)) (h : ∀ j, j < P → (L.getD j ls0).xs = ownOf P key l j) : ∀ k, k ≤ P → (gsl L k).map (fun g => (g.n, g.xs)) = prt P key l k
  | 0, _ => rfl
  | k + 1, hk => by
    have ih := gsl_map P l L h k (by omega)
    have e := h k (by omega)
    rw [prt, ← ih]
    by_cases h0 : ownOf P key l k = []
    · rw [gsl_no L k (by rw [e, h0]), if_pos (by rw [h0]; rfl), List.append_nil]
    · rw [gsl_yes L k (by rw [e]; exact h0), if_neg (by simpa using h0), List.map_append, List.map_singleton, ← e]
theorem gsl_mem (L : List (LS α)) : ∀ k, ∀ g ∈ gsl L k, g.n < k ∧ g = ⟨g.n, (L.getD g.n ls0).o, (L.getD g.n ls0).c, (L.getD g.n ls0).xs⟩ ∧ g.xs ≠ []
  | 0, g, hg => by cases hg
  | k + 1, g, hg => by
    by_cases h0 : (L.getD k ls0).xs = []
    · rw [gsl_no L k h0] at hg
      obtain ⟨h1, h2⟩ := gsl_mem L k g hg
      exact ⟨by omega, h2⟩
    · rw [gsl_yes L k h0, List.mem_append, List.mem_singleton] at hg
      rcases hg with hg | rfl
      · obtain ⟨h1, h2⟩ := gsl_mem L k g hg
        exact ⟨by omega, h2⟩
      · exact ⟨by simp, rfl, h0⟩
theorem gsl_rise (L : List (LS α)) : ∀ k, (gsl L k).Pairwise (fun a b => a.n < b.n)
  | 0 => List.Pairwise.nil
  | k + 1 => by
    by_cases h0 : (L.getD k ls0).xs = []
    · rw [gsl_no L k h0]; exact gsl_rise L k
    · rw [gsl_yes L k h0, List.pairwise_append]
      refine ⟨gsl_rise L k, by simp, fun a ha b hb => ?_⟩
      rw [List.mem_singleton] at hb
      subst hb
      exact (gsl_mem L k a ha).1
theorem gsl_length (L : List (LS α)) : ∀ k, (gsl L k).length ≤ k
  | 0 => by simp [gsl]
  | k + 1 => by
    have := gsl_length L k
    by_cases h0 : (L.getD k ls0).xs = []
    · rw [gsl_no L k h0]; omega
    · rw [gsl_yes L k h0]; simp; omega

/-- what is told: numbers that rise, each with a list of its own -/
structure Told {α : Type} (E : El α) (G : El (GS α)) (key : α → Tx) (w : World) (P : Nat) (l : List α) (o : Option Addr) (c : Nat) (gs : List (GS α)) (w' : World) : Prop where
  own : Own G w' o c gs
  each : ∀ j, j < gs.length → Own E w' (gs.getD j gs0).o (gs.getD j gs0).c (gs.getD j gs0).xs
  far : ∀ i j, i < gs.length → j < gs.length → i ≠ j → ∀ k, inO (gs.getD i gs0).o k → ¬ inO (gs.getD j gs0).o k
  val : gs.map (fun g => (g.n, g.xs)) = prt P key l P
  rise : ∀ i j, i < j → j < gs.length → (gs.getD i gs0).n < (gs.getD j gs0).n
  top : ∀ j, j < gs.length → (gs.getD j gs0).n < P ∧ (gs.getD j gs0).xs = ownOf P key l (gs.getD j gs0).n ∧ (gs.getD j gs0).xs ≠ []
  len : gs.length ≤ P
  new : New w o
  news : ∀ j, j < gs.length → New w (gs.getD j gs0).o
  kp : Keeps no w w'
theorem Told.keeps {S : Nat → Prop} {w : World} {P : Nat} {l : List α} {o : Option Addr} {c : Nat} {gs : List (GS α)} {w' w'' : World} (h : Told E G key w P l o c gs w') (hk : Keeps S w' w'') (h1 : ∀ k, inO o k → ¬ S k) (h2 : ∀ j, j < gs.length → ∀ k, inO (gs.getD j gs0).o k → ¬ S k) (h3 : Keeps no w w'') : Told E G key w P l o c gs w'' :=
  ⟨h.own.keeps hk h1, fun j hj => (h.each j hj).keeps hk (h2 j hj), h.far, h.val, h.rise, h.top, h.len, h.new, h.news, h3⟩
theorem Told.keepsN {w : World} {P : Nat} {l : List α} {o : Option Addr} {c : Nat} {gs : List (GS α)} {w' w'' : World} (h : Told E G key w P l o c gs w') (hk : Keeps no w' w'') : Told E G key w P l o c gs w'' :=
  h.keeps hk (fun _ _ => id) (fun _ _ _ _ => id) (h.kp.trans hk)
theorem Told.lens {w w2 : World} {P : Nat} {l : List α} {o o2 : Option Addr} {c c2 : Nat} {gs gs2 : List (GS α)} {w' w2' : World} {E2 : El α} {G2 : El (GS α)} (h : Told E G key w P l o c gs w') (h2 : Told E2 G2 key w2 P l o2 c2 gs2 w2') : gs.length = gs2.length ∧ ∀ j, (gs.getD j gs0).n = (gs2.getD j gs0).n ∧ (gs.getD j gs0).xs = (gs2.getD j gs0).xs := by
  have e := h.val.trans h2.val.symm
  have hl : gs.length = gs2.length := by have := congrArg List.length e; simpa using this
  refine ⟨hl, fun j => ?_⟩
  have ej := congrArg (fun m => m[j]?) e
  simp only [List.getElem?_map] at ej
  rw [List.getD_eq_getElem?_getD, List.getD_eq_getElem?_getD]
  by_cases hj : j < gs.length
  · rw [List.getElem?_eq_getElem hj, List.getElem?_eq_getElem (hl ▸ hj)] at ej ⊢
    simp only [Option.map_some, Option.some.injEq, Prod.mk.injEq] at ej
    exact ej
  · rw [List.getElem?_eq_none (by omega), List.getElem?_eq_none (by omega)]
    exact ⟨rfl, rfl⟩
theorem told_of {w : World} {P : Nat} {l : List α} {oA : Option Addr} {cA : Nat} {L : List (LS α)} {w' : World} (h : Deal E X key w P l oA cA L w') {o : Option Addr} {c : Nat} (ho : Own G w' o c (gsl L P)) (hn : New w o) : Told E G key w P l o c (gsl L P) w' := by
  have hm : ∀ j, j < (gsl L P).length → ((gsl L P).getD j gs0).n < P ∧ ((gsl L P).getD j gs0) = ⟨((gsl L P).getD j gs0).n, (L.getD ((gsl L P).getD j gs0).n ls0).o, (L.getD ((gsl L P).getD j gs0).n ls0).c, (L.getD ((gsl L P).getD j gs0).n ls0).xs⟩ ∧ ((gsl L P).getD j gs0).xs ≠ [] := fun j hj => gsl_mem L P _ (mem_getD _ _ _ hj)
  have hr : ∀ i j, i < j → j < (gsl L P).length → ((gsl L P).getD i gs0).n < ((gsl L P).getD j gs0).n := by
    intro i j hij hj
    have := List.pairwise_iff_getElem.1 (gsl_rise L P) i j (by omega) hj hij
    simpa [List.getD_eq_getElem?_getD, hj, show i < (gsl L P).length by omega] using this
  refine ⟨ho, ?_, ?_, gsl_map P l L h.xs P (Nat.le_refl _), hr, ?_, gsl_length L P, hn, ?_, h.kp⟩
  · intro j hj
    obtain ⟨h1, h2, _⟩ := hm j hj
    rw [h2]
    exact h.lots.each _ (by rw [h.len]; exact h1)
  · intro i j hi hj hij
    obtain ⟨h1, h2, _⟩ := hm i hi
    obtain ⟨h3, h4, _⟩ := hm j hj
    have hne : ((gsl L P).getD i gs0).n ≠ ((gsl L P).getD j gs0).n := by
      rcases Nat.lt_or_gt_of_ne hij with h5 | h5
      · exact Nat.ne_of_lt (hr i j h5 hj)
      · exact Nat.ne_of_gt (hr j i h5 hi)
    rw [h2, h4]
    exact h.lots.far _ _ (by rw [h.len]; exact h1) (by rw [h.len]; exact h3) hne
  · intro j hj
    obtain ⟨h1, h2, h3⟩ := hm j hj
    refine ⟨h1, ?_, h3⟩
    rw [show ((gsl L P).getD j gs0).xs = (L.getD ((gsl L P).getD j gs0).n ls0).xs by rw [h2]]
    exact h.xs _ h1
  · intro j hj
    obtain ⟨h1, h2, _⟩ := hm j hj
    rw [h2]
    exact h.news _ h1
/-- one part more told -/
theorem Deal.more (hE : G.e ≠ E.e) (hX : G.e ≠ X.e) {w : World} {P : Nat} {l : List α} {oA : Option Addr} {cA : Nat} {L : List (LS α)} {wr w' : World} (h : Deal E X key w P l oA cA L wr) {o : Option Addr} {c : Nat} {gs : List (GS α)} (ho : Own G wr o c gs) (hn : New w o) {o' : Option Addr} (hap : Ap wr o o' w') : Deal E X key w P l oA cA L w' ∧ New w o' := by
  have hk : Keeps (inO o) wr w' := by
    rcases hap with ⟨_, hk⟩ | ⟨_, hk⟩
    · exact hk
    · exact hk.of_no
  have h2 := hap.new hn h.kp
  exact ⟨⟨h.lots.keeps hk (fun k h1 h2 => tags_ne hX ho h.lots.own k h2 h1) (fun j hj k h1 h2 => tags_ne hE ho (h.lots.each j hj) k h2 h1), h.len, h.xs, h.new, h.news, h2.2⟩, h2.1⟩

end
set_option maxRecDepth 10000 in
theorem groupT_yes (w : World) (a : Option Addr) (n c : Nat) (xs : List Tx) (P : Nat) (hn : n = xs.length) (hfit : (xs.length : Int) * 16 ≤ 140737488351232) (hsz : ∀ x ∈ xs, x.size ≤ maxLen) (hs : Sl TE w a c xs) (h1 : 0 < P) (h2 : P ≤ 64) :
    Calls Try.prog 59 #[.slice a n c, .int .i64 (P : Int)] w fun e w' => ∃ o m c gs, e = .returned (.tuple #[.slice o m c, .int .i64 0]) ∧ Hid (m = gs.length ∧ Told TE HE idT w P xs o c gs w') := by
  have HF : Hid (n = xs.length ∧ (xs.length : Int) * 16 ≤ 140737488351232 ∧ (∀ x ∈ xs, x.size ≤ maxLen) ∧ Sl TE w a c xs) := ⟨hn, hfit, hsz, hs⟩
  clear hn hfit hsz hs
  go_enter Try.func59, Try.ntmps59
  go_wp2_with (first | (go_at_call 71; go_must (refine (may_yes P h1 h2 _).mono ?_); rintro e w' ⟨rfl, hw'⟩; subst w') | (go_at_call 72; go_loud (refine (dealT_any _ a n c xs P HF.out.1 HF.out.2.1 HF.out.2.2.1 HF.out.2.2.2 h1 h2).mono ?_); rintro e w1 ⟨bA, cA, L, rfl, hD⟩; have HD0 : Hid _ := hD; clear hD))
  go_loopw [6, 16] (fun s6 i wr => ∃ (k m : Nat) (o : Option Addr) (cc : Nat), k ≤ P ∧ i = .int .i64 k ∧ s6 = .slice o m cc ∧ Hid (m = (gsl L k).length ∧ Deal TE YE idT w P xs (some ⟨bA, 0, none⟩) cA L wr ∧ Own HE wr o cc (gsl L k) ∧ New w o)) (fun _ i _ => P - (intOf i).toNat)
  case atStart => exact ⟨0, 0, none, 0, by omega, rfl, rfl, ⟨rfl, HD0.out, own_nil _, new_none _⟩⟩
  case round =>
    obtain ⟨k, m, o, cc, hk, rfl, rfl, HI⟩ := hrel
    by_cases hlt : k < P
    · obtain ⟨g1, g2, g3, g4⟩ := HI.out
      obtain ⟨d2, ho, hle⟩ := g2.at kindT k hlt
      obtain ⟨s, hsq⟩ : ∃ s, s = L.getD k ls0 := ⟨_, rfl⟩
      rw [← hsq] at d2 ho hle
      obtain ⟨o2, c2, ys⟩ := s
      simp only at d2 ho hle
      obtain ⟨m2, hm2⟩ : ∃ m2, m2 = ys.length := ⟨_, rfl⟩
      rw [← hm2] at d2
      have HS : Hid (m2 = ys.length ∧ L.getD k ls0 = ⟨o2, c2, ys⟩) := ⟨hm2, hsq.symm⟩
      have hmI : (m2 : Int) ≤ 8796093021952 := by have := HF.out.2.1; omega
      have hmk : m ≤ 64 := by have := gsl_length L k; omega
      have HB : Hid (((gsl L k).length + [(⟨k, o2, c2, ys⟩ : GS Tx)].length) * HE.nb ≤ 140737488355328 ∧ (gsl L k).length + [(⟨k, o2, c2, ys⟩ : GS Tx)].length ≤ 140737488355328) := ⟨by simp [HE]; omega, by simp; omega⟩
      clear g1 g2 g3 g4 ho hle hsq hm2
      by_cases h0 : m2 = 0
      · have hxs : (L.getD k ls0).xs = [] := by rw [HS.out.2]; exact List.length_eq_zero_iff.1 (by rw [← HS.out.1]; exact h0)
        have HX : Hid ((L.getD k ls0).xs = []) := hxs
        clear hxs
        subst h0
        go_wp2_with fail
        go_roundw
        case rel =>
          refine ⟨k + 1, m, o, cc, by omega, by go_num, rfl, ?_⟩
          have := HI.out
          rw [← gsl_no L k HX.out] at this
          exact this
        case measure => simp [intOf] <;> omega
      · have h0' : (0 : Int) < m2 := by omega
        have HX : Hid ((L.getD k ls0).xs ≠ []) := by
          show _ ≠ _
          rw [HS.out.2]
          intro e
          have := HS.out.1
          rw [show ys = [] from e] at this
          exact h0 this
        go_wp2_with (at_builtin; go_loud (refine wpList_app okH rfl _ _ rfl _ _ _ (gsl L k) rfl HI.out.1 (HI.out.2.2.1.keepsN ((Keeps.refl _ _).alloc _)) _ _ _ [⟨k, o2, c2, ys⟩] rfl rfl (fun h => by cases h) (lit_one (E := HE) _ _ _ (by simp [HE, GS.enc, HS.out.1])).row HB.out.1 HB.out.2 ?_); intro o5 c5 w5 ho5 hap5)
        go_roundw
        case rel =>
          obtain ⟨g1, g2, g3, g4⟩ := HI.out
          have hm := (g2.keepsN ((Keeps.refl _ _).alloc (.cells #[.int .i64 (k : Int), .slice o2 m2 c2] 122))).more (G := HE) (by decide) (by decide) (g3.keepsN ((Keeps.refl _ _).alloc _)) g4 hap5
          refine ⟨k + 1, m + 1, o5, c5, by omega, by go_num, rfl, ?_, hm.1, ?_, hm.2⟩
          · rw [gsl_yes L k HX.out]; simp; exact g1
          · rw [gsl_yes L k HX.out, HS.out.2]; exact ho5
        case measure => simp [intOf] <;> omega
    · go_wp2_with fail
      go_ret2
      obtain rfl : k = P := by omega
      obtain ⟨g1, g2, g3, g4⟩ := HI.out
      exact ⟨o, m, cc, gsl L k, rfl, g1, told_of g2 g3 g4⟩

theorem groupT_no (w : World) (a : Option Addr) (n c : Nat) (z : Int) (h : ¬ (1 ≤ z ∧ z ≤ 64)) :
    Calls Try.prog 59 #[.slice a n c, .int .i64 z] w fun e w' => e = .returned (.tuple #[.slice none 0 0, .int .i64 1]) ∧ w' = w := by
  have H : Hid (¬ (1 ≤ z ∧ z ≤ 64)) := h
  clear h
  go_enter Try.func59, Try.ntmps59
  go_wp2_with (go_at_call 71; go_must (refine (may_no z H.out _).mono ?_); rintro e w' ⟨rfl, rfl⟩)
  go_ret2
  exact ⟨rfl, rfl⟩

end Go.Proofs.Ytileipnoiocdlaa
