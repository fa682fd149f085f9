import Derived.Test.YtkoaiibjahlnmaaGreatDZ
import Derived.Test.YtkoaiibjahlnmaaGreatKD
import Derived.Deep.RegionHeldLaw
/- The document's store, of the call's own. -/
namespace Go.Proofs.YtkoaiibjahlnmaaGreat
open Go.RowKit Go.Maps Go.Sort Orl
set_option linter.unusedVariables false
set_option linter.unusedSimpArgs false

theorem step_appW {α : Type} {E : El α} (hE : E.Ok) {w : World} {ops : Array Oper} {o : Oper} {a : Act} {K : Act → World → Prop} {Q : Exit → Act → World → Prop} {Ep : Prop} (hgd : Region.wanted o (yielded ops a.tmps) = true) (s x : Operand)
    (ho : o.op = .call { callee := .builtin .append, args := #[s, x], argTypes := #[E.t, E.t] })
    (oa : Option Addr) (n c : Nat) (xs : List α) (hs : a.eval s = .slice oa n c) (hn : n = xs.length) (hown : Own E w oa c xs)
    (ox : Option Addr) (m d : Nat) (news : List α) (hx : a.eval x = .slice ox m d) (hm : m = news.length) (hd : ox = none → d = 0) (hrow : Row E w ox news)
    (hb : (xs.length + news.length) * E.nb ≤ 140737488355328) (hb2 : xs.length + news.length ≤ 140737488355328)
    (h : ∀ o' c' w', Own E w' o' c' (xs ++ news) → Ap w oa o' w' → K (a.put o.dst (.slice o' (n + m) c')) w') :
    if Region.wanted o (yielded ops a.tmps) = true then Oper.wp Tryz.prog o a w K Q else Ep := by
  rw [if_pos hgd]
  subst hn hm
  obtain ⟨o', c', w', hr, h1, h2⟩ := run_app hE w o.type oa c xs hown ox d news hd hrow hb hb2
  unfold Oper.wp execOp
  simp only [ho, resolve, invoke, builtin, Sem.run_bind, Sem.run_pure, Result.andThen_ok, List.map_toArray, List.map_cons, List.map_nil, hs, hx, hr]
  exact h o' c' w' h1 h2
/-- the document's store, of the call's own: B its blocks -/
structure RO (B : Nat → Prop) (w : World) (p : Nat) (oK : Option Addr) (nK cK : Nat) (oL : Option Addr) (nL cL : Nat) (ks : List KV) (ls : List Mk) : Prop where
  b : w.heap[p]? = some (.cells #[.slice oK nK cK, .slice oL nL cL] 123 (0, 0))
  k : Own KE w oK cK ks
  key : ∀ x ∈ ks, Own TE w x.o x.c x.keys
  l : Own LE w oL cL ls
  nk : nK = ks.length
  nl : nL = ls.length
  lk : ks.length ≤ 1954687338211
  ll : ls.length ≤ 5864062014634
  bp : B p
  bk : ∀ b, inO oK b → B b
  bt : ∀ x ∈ ks, ∀ b, inO x.o b → B b
  bl : ∀ b, inO oL b → B b
section
variable {B : Nat → Prop} {w w' : World} {p : Nat} {oK : Option Addr} {nK cK : Nat} {oL : Option Addr} {nL cL : Nat} {ks : List KV} {ls : List Mk}
theorem RO.rd (h : RO B w p oK nK cK oL nL cL ks ls) : RD w p oK nK cK oL nL cL ks ls := ⟨h.b, h.k.sl, h.l.sl, h.nk, h.nl, h.lk, h.ll⟩
theorem RO.keeps {S : Nat → Prop} (h : RO B w p oK nK cK oL nL cL ks ls) (hk : Keeps S w w') (hS : ∀ b, B b → ¬ S b) : RO B w' p oK nK cK oL nL cL ks ls :=
  ⟨hk.at h.b (hS _ h.bp), h.k.keeps hk (fun b hb => hS b (h.bk b hb)), fun x hx => (h.key x hx).keeps hk (fun b hb => hS b (h.bt x hx b hb)), h.l.keeps hk (fun b hb => hS b (h.bl b hb)), h.nk, h.nl, h.lk, h.ll, h.bp, h.bk, h.bt, h.bl⟩
theorem RO.keepsN (h : RO B w p oK nK cK oL nL cL ks ls) (hk : Keeps no w w') : RO B w' p oK nK cK oL nL cL ks ls := h.keeps hk (fun _ _ => id)
theorem RO.mono (h : RO B w p oK nK cK oL nL cL ks ls) {B' : Nat → Prop} (hB : ∀ b, B b → B' b) : RO B' w p oK nK cK oL nL cL ks ls :=
  ⟨h.b, h.k, h.key, h.l, h.nk, h.nl, h.lk, h.ll, hB _ h.bp, fun b hb => hB b (h.bk b hb), fun x hx b hb => hB b (h.bt x hx b hb), fun b hb => hB b (h.bl b hb)⟩
end
theorem getD_app2 {α : Type} (l m : List α) (j : Nat) (d : α) : (l ++ m).getD j d = if j < l.length then l.getD j d else m.getD (j - l.length) d := by
  simp only [List.getD_eq_getElem?_getD]
  split
  · rw [List.getElem?_append_left (by assumption)]
  · rw [List.getElem?_append_right (by omega)]
theorem tw_congr (f : Mk → Bool) : ∀ (a b : List KV), a.map (·.m) = b.map (·.m) → (a.takeWhile fun x => f x.m).length = (b.takeWhile fun x => f x.m).length
  | [], [], _ => rfl
  | [], y :: b, h => by simp at h
  | x :: a, [], h => by simp at h
  | x :: a, y :: b, h => by
    simp only [List.map_cons, List.cons.injEq] at h
    rw [List.takeWhile_cons, List.takeWhile_cons, h.1]
    cases f y.m
    · rfl
    · simp [tw_congr f a b h.2]
theorem ksEq_m {a b : List KV} (h : KsEq a b) : a.map (·.m) = b.map (·.m) := by
  refine List.ext_getElem (by simp [h.1]) (fun j h1 h2 => ?_)
  have hj : j < a.length := by simpa using h1
  have hj2 : j < b.length := by simpa using h2
  have := (h.2 j hj).1
  simp only [List.getElem_map]
  simpa [List.getD_eq_getElem?_getD, hj, hj2] using this
theorem there_congr {a b : List KV} (h : KsEq a b) (m : Mk) : there a m = there b m := by
  have h1 : fpos a m = fpos b m := tw_congr (fun z => ltM z m) a b (ksEq_m h)
  unfold there
  rw [h1, h.1]
  by_cases hj : fpos b m < b.length
  · rw [(h.2 _ (by rw [h.1]; exact hj)).1]
  · rw [decide_eq_false hj]; rfl
theorem lt_all {α : Type} {f : α → Bool} {d : α} {ls : List α} {t : Nat} (h : ∀ j, j < t → f (ls.getD j d) = true) (h1 : f (ls.getD t d) = true) : ∀ j, j < t + 1 → f (ls.getD j d) = true := fun j hj => by
  by_cases e : j = t
  · rw [e]; exact h1
  · exact h j (by omega)
theorem lt_lt {α : Type} {f : α → α → Bool} {d : α} {ls : List α} {t : Nat} (h : ∀ j, j + 1 < t → f (ls.getD j d) (ls.getD (j + 1) d) = true) (h1 : t = 0 ∨ f (ls.getD (t - 1) d) (ls.getD t d) = true) : ∀ j, j + 1 < t + 1 → f (ls.getD j d) (ls.getD (j + 1) d) = true := fun j hj => by
  by_cases e : j + 1 = t
  · rcases h1 with h1 | h1
    · omega
    · rw [← e, Nat.add_sub_cancel] at h1; exact h1
  · exact h j (by omega)
end Go.Proofs.YtkoaiibjahlnmaaGreat
