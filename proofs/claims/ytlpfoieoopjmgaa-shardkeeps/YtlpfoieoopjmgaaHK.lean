import Derived.Test.YtlpfoieoopjmgaaM2
namespace Go.Proofs.Ytlpfoieoopjmgaa
open Go.RowKit
set_option linter.unusedVariables false
set_option linter.unusedSimpArgs false

/-! ### cuts -/
theorem sl22 : Try.prog.underlying 22 = some (.slice (Try.prog.elem 22)) := by kernel_rfl
theorem sl36 : Try.prog.underlying 36 = some (.slice (Try.prog.elem 36)) := by kernel_rfl
theorem cutT (g n I c : Nat) (h1 : I ≤ c) : ∀ w, (Instr.slice 22 (.slice (some ⟨g, 0, none⟩) n c) none (some (.int .i64 (I : Int))) none).run Try.prog w = .ok (.slice (some ⟨g, 0, none⟩) I c) w := by
  intro w
  rw [run_slice_h w 22 (some ⟨g, 0, none⟩) n c sl22 .i64 _ (by omega) (by omega)]
  go_simp
theorem cutP (g n I c : Nat) (h1 : I ≤ c) : ∀ w, (Instr.slice 36 (.slice (some ⟨g, 0, none⟩) n c) none (some (.int .i64 (I : Int))) none).run Try.prog w = .ok (.slice (some ⟨g, 0, none⟩) I c) w := by
  intro w
  rw [run_slice_h w 36 (some ⟨g, 0, none⟩) n c sl36 .i64 _ (by omega) (by omega)]
  go_simp

/-! ### what was told, held while other blocks are written -/
variable {α : Type} {E : El α} {G : El (GS α)} {key : α → Tx}
structure Held {α : Type} (E : El α) (G : El (GS α)) (key : α → Tx) (B : Nat) (P : Nat) (l : List α) (o : Option Addr) (c : Nat) (gs : List (GS α)) (wr : World) : Prop where
  own : Own G wr o c gs
  each : ∀ j, j < gs.length → Own E wr (gs.getD j gs0).o (gs.getD j gs0).c (gs.getD j gs0).xs
  far : ∀ i j, i < gs.length → j < gs.length → i ≠ j → ∀ k, inO (gs.getD i gs0).o k → ¬ inO (gs.getD j gs0).o k
  val : gs.map (fun g => (g.n, g.xs)) = prt P key l P
  top : ∀ j, j < gs.length → (gs.getD j gs0).xs.length ≤ l.length
  new : ∀ k, inO o k → B ≤ k
  news : ∀ j, j < gs.length → ∀ k, inO (gs.getD j gs0).o k → B ≤ k
theorem Told.held {w : World} {P : Nat} {l : List α} {o : Option Addr} {c : Nat} {gs : List (GS α)} {w' : World} (h : Told E G key w P l o c gs w') {B : Nat} (hB : B ≤ w.heap.size) : Held E G key B P l o c gs w' :=
  ⟨h.own, h.each, h.far, h.val, fun j hj => by rw [(h.top j hj).2.1]; exact ownOf_length _ _ _ _, fun k hk => Nat.le_trans hB (h.new k hk), fun j hj k hk => Nat.le_trans hB (h.news j hj k hk)⟩
theorem Held.keeps {B P : Nat} {l : List α} {o : Option Addr} {c : Nat} {gs : List (GS α)} {wr w' : World} (h : Held E G key B P l o c gs wr) {S : Nat → Prop} (hk : Keeps S wr w') (h1 : ∀ k, inO o k → ¬ S k) (h2 : ∀ j, j < gs.length → ∀ k, inO (gs.getD j gs0).o k → ¬ S k) : Held E G key B P l o c gs w' :=
  ⟨h.own.keeps hk h1, fun j hj => (h.each j hj).keeps hk (h2 j hj), h.far, h.val, h.top, h.new, h.news⟩
theorem Held.keepsN {B P : Nat} {l : List α} {o : Option Addr} {c : Nat} {gs : List (GS α)} {wr w' : World} (h : Held E G key B P l o c gs wr) (hk : Keeps no wr w') : Held E G key B P l o c gs w' := h.keeps hk (fun _ _ => id) (fun _ _ _ _ => id)
/-- older blocks are written -/
theorem Held.under {B P : Nat} {l : List α} {o : Option Addr} {c : Nat} {gs : List (GS α)} {wr w' : World} (h : Held E G key B P l o c gs wr) {S : Nat → Prop} (hk : Keeps S wr w') (hS : ∀ k, S k → k < B) : Held E G key B P l o c gs w' :=
  h.keeps hk (fun k h1 h2 => by have := h.new k h1; have := hS k h2; omega) (fun j hj k h1 h2 => by have := h.news j hj k h1; have := hS k h2; omega)
/-- a block of another kind is written -/
theorem Held.apart {B P : Nat} {l : List α} {o : Option Addr} {c : Nat} {gs : List (GS α)} {wr w' : World} (h : Held E G key B P l o c gs wr) {β : Type} {F : El β} (hG : G.e ≠ F.e) (hE : E.e ≠ F.e) {p : Option Addr} {d : Nat} {ys : List β} (hp : Own F wr p d ys) (hk : Keeps (inO p) wr w') : Held E G key B P l o c gs w' :=
  h.keeps hk (fun k h1 h2 => tags_ne hG h.own hp k h1 h2) (fun j hj k h1 h2 => tags_ne hE (h.each j hj) hp k h1 h2)
theorem Held.lens {B B2 P : Nat} {l : List α} {o o2 : Option Addr} {c c2 : Nat} {gs gs2 : List (GS α)} {wr wr2 : World} (h : Held E G key B P l o c gs wr) (h2 : Held E G key B2 P l o2 c2 gs2 wr2) : gs.length = gs2.length ∧ ∀ j, (gs.getD j gs0).xs = (gs2.getD j gs0).xs := by
  have e := h.val.trans h2.val.symm
  have hl : gs.length = gs2.length := by have := congrArg List.length e; simpa using this
  refine ⟨hl, fun j => ?_⟩
  have ej := congrArg (fun m => m[j]?) e
  simp only [List.getElem?_map] at ej
  rw [List.getD_eq_getElem?_getD, List.getD_eq_getElem?_getD]
  by_cases hj : j < gs.length
  · rw [List.getElem?_eq_getElem hj, List.getElem?_eq_getElem (hl ▸ hj)] at ej ⊢
    simp only [Option.map_some, Option.some.injEq, Prod.mk.injEq] at ej
    exact ej.2
  · rw [List.getElem?_eq_none (by omega), List.getElem?_eq_none (by omega)]
/-- the i-th list, as it lies -/
theorem Held.part {B P : Nat} {l : List α} {o : Option Addr} {c : Nat} {gs : List (GS α)} {wr : World} (h : Held E G key B P l o c gs wr) (hG : G.Ok) (hk : G.k = 2) (he : G.enc = GS.enc) (i : Nat) (hi : i < gs.length) :
    ∃ b N, o = some ⟨b, 0, none⟩ ∧ wr.cell? ⟨b, i * 2, none⟩ = some (.int .i64 (N : Nat)) ∧ wr.cell? ⟨b, i * 2 + 1, none⟩ = some (.slice (gs.getD i gs0).o (gs.getD i gs0).xs.length (gs.getD i gs0).c) := by
  obtain ⟨b, off, eo, d1, d2⟩ := h.own.sl.two hG hk gs0 hi _ _ (by rw [he]; rfl)
  have ho : off = 0 := by
    rcases h.own.shape with ⟨e, _⟩ | ⟨g, cur, e, _⟩
    · rw [e] at eo; cases eo
    · rw [e] at eo; cases eo; rfl
  subst ho
  rw [Nat.zero_add] at d1 d2
  exact ⟨b, _, eo, d1, d2⟩
/-- what one round of the comparing loop reads: three lists of one contents -/
theorem three {B1 B2 B3 P : Nat} {l : List α} {oa ob oc : Option Addr} {ca cb cc : Nat} {ga gb gc : List (GS α)} {wr : World} (ha : Held E G key B1 P l oa ca ga wr) (hb : Held E G key B2 P l ob cb gb wr) (hc : Held E G key B3 P l oc cc gc wr) (hG : G.Ok) (hk : G.k = 2) (he : G.enc = GS.enc) (i : Nat) (hi : i < ga.length) :
    ∃ b1 b2 b3 M o1 c1 o2 c2 o3 c3, ∃ xs : List α, oa = some ⟨b1, 0, none⟩ ∧ ob = some ⟨b2, 0, none⟩ ∧ oc = some ⟨b3, 0, none⟩ ∧
      wr.cell? ⟨b1, i * 2 + 1, none⟩ = some (.slice o1 M c1) ∧ wr.cell? ⟨b2, i * 2 + 1, none⟩ = some (.slice o2 M c2) ∧ wr.cell? ⟨b3, i * 2 + 1, none⟩ = some (.slice o3 M c3) ∧
      Hid (M = xs.length ∧ xs.length ≤ l.length ∧ Sl E wr o1 c1 xs ∧ Sl E wr o2 c2 xs ∧ Sl E wr o3 c3 xs) := by
  obtain ⟨l1, v1⟩ := ha.lens hb
  obtain ⟨l2, v2⟩ := ha.lens hc
  obtain ⟨b1, _, e1, _, d1⟩ := ha.part hG hk he i hi
  obtain ⟨b2, _, e2, _, d2⟩ := hb.part hG hk he i (by omega)
  obtain ⟨b3, _, e3, _, d3⟩ := hc.part hG hk he i (by omega)
  rw [← v1 i] at d2
  rw [← v2 i] at d3
  have h2 := (hb.each i (by omega)).sl
  have h3 := (hc.each i (by omega)).sl
  rw [← v1 i] at h2
  rw [← v2 i] at h3
  exact ⟨b1, b2, b3, _, _, _, _, _, _, _, (ga.getD i gs0).xs, e1, e2, e3, d1, d2, d3, rfl, ha.top i hi, (ha.each i hi).sl, h2, h3⟩

/-! ### lists of two answers by turns -/
def lsOf (g : GS α) : LS α := ⟨g.o, g.c, g.xs⟩
def LLf (ga gb : List (GS α)) : Nat → List (LS α)
  | 0 => []
  | i + 1 => LLf ga gb i ++ [lsOf (ga.getD i gs0), lsOf (gb.getD i gs0)]
theorem LL_length (ga gb : List (GS α)) : ∀ i, (LLf ga gb i).length = 2 * i
  | 0 => rfl
  | i + 1 => by rw [LLf, List.length_append, LL_length ga gb i]; simp; omega
theorem LL_at (ga gb : List (GS α)) : ∀ i j, j < i → (LLf ga gb i).getD (2 * j) ls0 = lsOf (ga.getD j gs0) ∧ (LLf ga gb i).getD (2 * j + 1) ls0 = lsOf (gb.getD j gs0)
  | 0, j, h => by omega
  | i + 1, j, h => by
    rw [LLf, getD_append, getD_append, LL_length]
    by_cases e : j = i
    · subst e
      rw [if_neg (by omega), if_neg (by omega), Nat.sub_self, show 2 * j + 1 - 2 * j = 1 by omega]
      exact ⟨rfl, rfl⟩
    · rw [if_pos (by omega), if_pos (by omega)]
      exact LL_at ga gb i j (by omega)
theorem LL_any (ga gb : List (GS α)) (i t : Nat) (h : t < 2 * i) : ∃ j, j < i ∧ ((t = 2 * j ∧ (LLf ga gb i).getD t ls0 = lsOf (ga.getD j gs0)) ∨ (t = 2 * j + 1 ∧ (LLf ga gb i).getD t ls0 = lsOf (gb.getD j gs0))) := by
  refine ⟨t / 2, by omega, ?_⟩
  have ht : t % 2 = 0 ∨ t % 2 = 1 := by omega
  rcases ht with h2 | h2
  · have e : t = 2 * (t / 2) := by omega
    refine .inl ⟨e, ?_⟩
    have := (LL_at ga gb i (t / 2) (by omega)).1
    rwa [← e] at this
  · have e : t = 2 * (t / 2) + 1 := by omega
    refine .inr ⟨e, ?_⟩
    have := (LL_at ga gb i (t / 2) (by omega)).2
    rwa [← e] at this
/-- all lists of the two answers, for 'marked' -/
theorem half_of {X : El (LS α)} {B P : Nat} {l : List α} {oa ob : Option Addr} {ca cb : Nat} {ga gb : List (GS α)} {wr : World} (ha : Held E G key B P l oa ca ga wr) (hb : Held E G key B P l ob cb gb wr) (hab : ∀ i j, i < ga.length → j < gb.length → ∀ k, inO (ga.getD i gs0).o k → ¬ inO (gb.getD j gs0).o k) {oL : Option Addr} {cL : Nat} {m : Nat} (hm : m = ga.length) (ho : Own X wr oL cL (LLf ga gb m)) : Half1 E X B oL cL (LLf ga gb m) (fun j => ((LLf ga gb m).getD j ls0).xs) wr := by
  have hl := (ha.lens hb).1
  refine ⟨ho, ?_, ?_, fun j hj => rfl, ?_⟩
  · intro t ht k hk
    rw [LL_length] at ht
    obtain ⟨j, hj, ⟨_, e⟩ | ⟨_, e⟩⟩ := LL_any ga gb m t ht
    · rw [e] at hk; exact ha.news j (by omega) k hk
    · rw [e] at hk; exact hb.news j (by omega) k hk
  · intro t ht
    rw [LL_length] at ht
    obtain ⟨j, hj, ⟨_, e⟩ | ⟨_, e⟩⟩ := LL_any ga gb m t ht
    · rw [e]; exact ha.each j (by omega)
    · rw [e]; exact hb.each j (by omega)
  · intro s t hs ht hst k h1 h2
    rw [LL_length] at hs ht
    obtain ⟨i, hi, ⟨e1, f1⟩ | ⟨e1, f1⟩⟩ := LL_any ga gb m s hs <;> obtain ⟨j, hj, ⟨e2, f2⟩ | ⟨e2, f2⟩⟩ := LL_any ga gb m t ht <;> rw [f1] at h1 <;> rw [f2] at h2
    · exact ha.far i j (by omega) (by omega) (by omega) k h1 h2
    · exact hab i j (by omega) (by omega) k h1 h2
    · exact hab j i (by omega) (by omega) k h2 h1
    · exact hb.far i j (by omega) (by omega) (by omega) k h1 h2
theorem LL_fit {B P : Nat} {l : List α} {oa ob : Option Addr} {ca cb : Nat} {ga gb : List (GS α)} {wr : World} (ha : Held E G key B P l oa ca ga wr) (hb : Held E G key B P l ob cb gb wr) {m : Nat} (hm : m = ga.length) : ∀ t, t < (LLf ga gb m).length → ((LLf ga gb m).getD t ls0).xs.length ≤ l.length := by
  intro t ht
  have hl := (ha.lens hb).1
  rw [LL_length] at ht
  obtain ⟨j, hj, ⟨_, e⟩ | ⟨_, e⟩⟩ := LL_any ga gb m t ht
  · rw [e]; exact ha.top j (by omega)
  · rw [e]; exact hb.top j (by omega)
theorem lit_two {X : El (LS α)} (hX : X.enc = LS.enc) (w : World) (x y : LS α) (cs : Array Value) (hc : cs.toList = x.enc ++ y.enc) : Sl X (w.alloc (.cells cs X.e)) (some ⟨w.heap.size, 0, none⟩) 2 [x, y] :=
  ⟨.inr ⟨w.heap.size, 0, rfl, fun j u hj => by
    rw [cell_of_blk (blk_new w _), Nat.zero_add, ← Array.getElem?_toList, hc]
    simpa [El.cells, hX] using hj⟩, by simp, by simp⟩
/-! ### the two answers of each kind, together -/
structure Four (w : World) (B P : Nat) (xs : List Tx) (ps : List Pr) (oa : Option Addr) (ca : Nat) (ga : List (GS Tx)) (ob : Option Addr) (cb : Nat) (gb : List (GS Tx)) (ox : Option Addr) (cx : Nat) (gx : List (GS Pr)) (oy : Option Addr) (cy : Nat) (gy : List (GS Pr)) (wr : World) : Prop where
  a : Held TE GE idT B P xs oa ca ga wr
  b : Held TE GE idT B P xs ob cb gb wr
  x : Held PE HE fstP B P ps ox cx gx wr
  y : Held PE HE fstP B P ps oy cy gy wr
  kp : Keeps no w wr
  sz : B ≤ wr.heap.size
theorem Four.keepsN {w : World} {B P : Nat} {xs : List Tx} {ps : List Pr} {oa : Option Addr} {ca : Nat} {ga : List (GS Tx)} {ob : Option Addr} {cb : Nat} {gb : List (GS Tx)} {ox : Option Addr} {cx : Nat} {gx : List (GS Pr)} {oy : Option Addr} {cy : Nat} {gy : List (GS Pr)} {wr w' : World} (h : Four w B P xs ps oa ca ga ob cb gb ox cx gx oy cy gy wr) (k : Keeps no wr w') : Four w B P xs ps oa ca ga ob cb gb ox cx gx oy cy gy w' :=
  ⟨h.a.keepsN k, h.b.keepsN k, h.x.keepsN k, h.y.keepsN k, h.kp.trans k, Nat.le_trans h.sz k.size⟩
theorem Four.under {w : World} {B P : Nat} {xs : List Tx} {ps : List Pr} {oa : Option Addr} {ca : Nat} {ga : List (GS Tx)} {ob : Option Addr} {cb : Nat} {gb : List (GS Tx)} {ox : Option Addr} {cx : Nat} {gx : List (GS Pr)} {oy : Option Addr} {cy : Nat} {gy : List (GS Pr)} {wr w' : World} (h : Four w B P xs ps oa ca ga ob cb gb ox cx gx oy cy gy wr) {g : Nat} (k : Keeps (inO (some ⟨g, 0, none⟩)) wr w') (h1 : g < B) (h2 : w.heap.size ≤ g) : Four w B P xs ps oa ca ga ob cb gb ox cx gx oy cy gy w' := by
  have hS : ∀ k, inO (some ⟨g, 0, none⟩) k → k < B := fun k hk => by rw [inO_some hk]; exact h1
  exact ⟨h.a.under k hS, h.b.under k hS, h.x.under k hS, h.y.under k hS, h.kp.then k (fun i hi => .inr (by rw [inO_some hi]; exact h2)), Nat.le_trans h.sz k.size⟩
theorem Four.other {w : World} {B P : Nat} {xs : List Tx} {ps : List Pr} {oa : Option Addr} {ca : Nat} {ga : List (GS Tx)} {ob : Option Addr} {cb : Nat} {gb : List (GS Tx)} {ox : Option Addr} {cx : Nat} {gx : List (GS Pr)} {oy : Option Addr} {cy : Nat} {gy : List (GS Pr)} {wr w' : World} (h : Four w B P xs ps oa ca ga ob cb gb ox cx gx oy cy gy wr) {β : Type} {F : El β} (e1 : 30 ≠ F.e) (e2 : 9 ≠ F.e) (e3 : 43 ≠ F.e) (e4 : 38 ≠ F.e) {p p' : Option Addr} {d : Nat} {ys : List β} (hp : Own F wr p d ys) (hn : New w p) (hap : Ap wr p p' w') : Four w B P xs ps oa ca ga ob cb gb ox cx gx oy cy gy w' ∧ New w p' := by
  have hk : Keeps (inO p) wr w' := by
    rcases hap with ⟨_, hk⟩ | ⟨_, hk⟩
    · exact hk
    · exact hk.of_no
  have h5 := hap.new hn h.kp
  exact ⟨⟨h.a.apart e1 e2 hp hk, h.b.apart e1 e2 hp hk, h.x.apart e3 e4 hp hk, h.y.apart e3 e4 hp hk, h5.2, Nat.le_trans h.sz hk.size⟩, h5.1⟩
end Go.Proofs.Ytlpfoieoopjmgaa
