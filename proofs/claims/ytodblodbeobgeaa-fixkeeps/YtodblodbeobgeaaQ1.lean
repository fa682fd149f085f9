/- Appends in drawn regions; several versions appended; the wants are of unlike keys. -/
import Derived.Test.YtodblodbeobgeaaQ0
namespace Go.Proofs.Ytodblodbeobgeaa
open Go.RowKit Go.Sort Orl
set_option linter.unusedVariables false
set_option linter.unusedSimpArgs false

theorem step_app1 {α : Type} {E : El α} (hE : E.Ok) {w : World} {ops : Array Oper} {o : Oper} {a : Act} {K : Act → World → Prop} {Q : Exit → Act → World → Prop} {Ep : Prop} (hgd : o.guard = none) (s x : Operand)
    (ho : o.op = .call { callee := .builtin .append, args := #[s, x], argTypes := #[E.t, E.t] })
    (oa : Option Addr) (n c : Nat) (xs : List α) (hs : a.eval s = .slice oa n c) (hn : n = xs.length) (hown : Own E w oa c xs)
    (ox : Option Addr) (m d : Nat) (news : List α) (hx : a.eval x = .slice ox m d) (hm : m = news.length) (hd : ox = none → d = 0) (hrow : Row E w ox news)
    (hb : (xs.length + news.length) * E.nb ≤ 140737488355328) (hb2 : xs.length + news.length ≤ 140737488355328)
    (h : ∀ o' c' w', Own E w' o' c' (xs ++ news) → Ap w oa o' w' → K (a.put o.dst (.slice o' (n + m) c')) w') :
    if Region.wanted o (yielded ops a.tmps) = true then Oper.wp Try.prog o a w K Q else Ep := by
  have hw : Region.wanted o (yielded ops a.tmps) = true := by simp [Region.wanted, hgd]
  rw [if_pos hw]
  subst hn hm
  obtain ⟨o', c', w', hr, h1, h2⟩ := run_app hE w o.type oa c xs hown ox d news hd hrow hb hb2
  unfold Oper.wp execOp
  simp only [ho, resolve, invoke, builtin, Sem.run_bind, Sem.run_pure, Result.andThen_ok, List.map_toArray, List.map_cons, List.map_nil, hs, hx, hr]
  exact h o' c' w' h1 h2
theorem oper_app1 {α : Type} {E : El α} (hE : E.Ok) {w : World} {o : Oper} {a : Act} {K : Act → World → Prop} {Q : Exit → Act → World → Prop} (hgd : o.guard = none) (s x : Operand)
    (ho : o.op = .call { callee := .builtin .append, args := #[s, x], argTypes := #[E.t, E.t] })
    (oa : Option Addr) (n c : Nat) (xs : List α) (hs : a.eval s = .slice oa n c) (hn : n = xs.length) (hown : Own E w oa c xs)
    (ox : Option Addr) (m d : Nat) (news : List α) (hx : a.eval x = .slice ox m d) (hm : m = news.length) (hd : ox = none → d = 0) (hrow : Row E w ox news)
    (hb : (xs.length + news.length) * E.nb ≤ 140737488355328) (hb2 : xs.length + news.length ≤ 140737488355328)
    (h : ∀ o' c' w', Own E w' o' c' (xs ++ news) → Ap w oa o' w' → K (a.put o.dst (.slice o' (n + m) c')) w') : Oper.wp Try.prog o a w K Q := by
  have hw : Region.wanted o (yielded #[] a.tmps) = true := by simp [Region.wanted, hgd]
  have h1 := step_app1 (ops := #[]) (Ep := True) (Q := Q) hE hgd s x ho oa n c xs hs hn hown ox m d news hx hm hd hrow hb hb2 h
  rwa [if_pos hw] at h1

theorem getD_app {α : Type} (l m : List α) (d : α) (j : Nat) : (l ++ m).getD j d = if j < l.length then l.getD j d else m.getD (j - l.length) d := by
  simp only [List.getD_eq_getElem?_getD, List.getElem?_append]
  split <;> rfl
theorem NewVs.pushL {w wr w' : World} {o o' : Option Addr} {c c' : Nat} {rs r2 : List RV} {vs v2 : List Ver} (h : NewVs w o c rs vs wr) (hl2 : r2.length = v2.length) (hr : ∀ j, j < v2.length → VerN wr (r2.getD j r0) (v2.getD j v0) ∧ New w (r2.getD j r0).o) (ho : Own VE w' o' c' (rs ++ r2)) (ha : Ap wr o o' w') : NewVs w o' c' (rs ++ r2) (vs ++ v2) w' := by
  have hne : TE.e ≠ VE.e := by decide
  have hk : Keeps (inO o) wr w' := by rcases ha with ⟨_, k⟩ | ⟨_, k⟩; exact k; exact k.of_no
  have hnn := ha.new h.newO h.kp
  have hl := h.len
  have key : ∀ j, j < (vs ++ v2).length → VerN w' ((rs ++ r2).getD j r0) ((vs ++ v2).getD j v0) ∧ New w ((rs ++ r2).getD j r0).o := by
    intro j hj
    rw [List.length_append] at hj
    rw [getD_app, getD_app, hl]
    by_cases hlt : j < vs.length
    · rw [if_pos hlt, if_pos hlt]
      exact ⟨(h.each j hlt).keeps hk (own_apart hne (h.each j hlt).own h.own), h.newK j hlt⟩
    · rw [if_neg hlt, if_neg hlt]
      have h2 := hr (j - vs.length) (by omega)
      exact ⟨h2.1.keeps hk (own_apart hne h2.1.own h.own), h2.2⟩
  exact ⟨ho, by simp [hl, hl2], fun j hj => (key j hj).1, hnn.1, fun j hj => (key j hj).2, hnn.2⟩
theorem own_not {α : Type} {E : El α} {w : World} {o : Option Addr} {c : Nat} {xs : List α} (h : Own E w o c xs) {B : Nat} {cur : Array Value} {t : TypeId} {fz : Nat × Nat} (hB : w.heap[B]? = some (.cells cur t fz)) (hne : E.e ≠ t) : ¬ inO o B := by
  rintro ⟨x, rfl, rfl⟩
  rcases h.shape with ⟨e, _⟩ | ⟨g, cur', e, hg, _⟩
  · cases e
  · cases e
    rw [hg] at hB
    injection hB with hB
    injection hB with _ h2 _
    exact hne h2
theorem NewVs.keepB {w w7 w8 : World} {o : Option Addr} {c : Nat} {rs : List RV} {vs : List Ver} (h : NewVs w o c rs vs w7) {B : Nat} {cur : Array Value} {fz : Nat × Nat} (hB : w7.heap[B]? = some (.cells cur 32 fz)) (hBo : ¬ inO o B) (hBn : w.heap.size ≤ B) (k : Keeps (eqB B) w7 w8) : NewVs w o c rs vs w8 :=
  ⟨h.own.keeps k (fun q hq e => hBo (by unfold eqB at e; rw [← e]; exact hq)), h.len, fun j hj => (h.each j hj).keeps k (fun q hq e => by unfold eqB at e; subst e; exact own_not (h.each j hj).own hB (by decide) hq), h.newO, h.newK, h.kp.then k (fun q hq => .inr (by unfold eqB at hq; omega))⟩
theorem own_twoV (w : World) (a b : RV) : Sl VE (w.alloc (.cells #[.string a.key, .int .u64 (a.id : Nat), .string a.val, .slice a.o a.n a.c, .string b.key, .int .u64 (b.id : Nat), .string b.val, .slice b.o b.n b.c] 32)) (some ⟨w.heap.size, 0, none⟩) 2 [a, b] := by
  refine ⟨.inr ⟨_, 0, rfl, fun j u hj => ?_⟩, by simp, fun e => by cases e⟩
  rw [Nat.zero_add, cell_of_blk (blk_new w _)]
  simpa [El.cells, VE] using hj
theorem needs_pair {l : List Ver} (hf : Formed l) : (needsV l).Pairwise (fun a b => a.1 ≠ b.1) := by
  have h1 : l.Pairwise (fun a b => a.key ≠ b.key) := by
    rw [List.pairwise_iff_getElem]
    intro i j hi hj hij e
    have := ((badB_iff _ _).1 (hf.two j i hj hij)).1
    simp only [List.getD_eq_getElem?_getD, List.getElem?_eq_getElem hi, List.getElem?_eq_getElem hj, Option.getD_some] at this
    exact this e
  unfold needsV
  rw [List.pairwise_filterMap]
  refine h1.imp ?_
  intro a b hab p hp q hq
  split at hp
  · split at hq
    · cases hp; cases hq; exact hab
    · cases hq
  · cases hp
theorem needs_ne {l : List Ver} (hf : Formed l) {i j : Nat} (hi : i < (needsV l).length) (hj : j < (needsV l).length) (hij : i ≠ j) : ((needsV l).getD i w0').1 ≠ ((needsV l).getD j w0').1 := by
  have h := List.pairwise_iff_getElem.1 (needs_pair hf)
  simp only [List.getD_eq_getElem?_getD, List.getElem?_eq_getElem hi, List.getElem?_eq_getElem hj, Option.getD_some]
  rcases Nat.lt_or_gt_of_ne hij with hl | hg
  · exact h i j hi hj hl
  · exact fun e => h j i hj hi hg e.symm
end Go.Proofs.Ytodblodbeobgeaa
