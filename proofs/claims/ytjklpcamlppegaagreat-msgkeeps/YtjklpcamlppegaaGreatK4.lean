/- MsgKeeps: lent (written by wip/tools/mklent8.py). -/
import Derived.Test.YtjklpcamlppegaaGreatK2
namespace Go.Proofs.YtjklpcamlppegaaGreat
open Go.RowKit Go.Sort Orl Pk
set_option linter.unusedVariables false
set_option linter.unusedSimpArgs false

theorem slW' : Tryz.prog.underlying 26 = some (.slice (Tryz.prog.elem 26)) := by kernel_rfl
theorem slV' : Tryz.prog.underlying 27 = some (.slice (Tryz.prog.elem 27)) := by kernel_rfl
theorem cutK25 (g n I c : Nat) (h1 : I ≤ c) : ∀ w, (Instr.slice 25 (.slice (some ⟨g, 0, none⟩) n c) none (some (.int .i64 (I : Int))) none).run Tryz.prog w = .ok (.slice (some ⟨g, 0, none⟩) I c) w := by
  intro w
  rw [run_slice_h w 25 (some ⟨g, 0, none⟩) n c slT .i64 _ (by omega) (by omega)]
  go_simp
theorem cutK24 (g n I c : Nat) (h1 : I ≤ c) : ∀ w, (Instr.slice 24 (.slice (some ⟨g, 0, none⟩) n c) none (some (.int .i64 (I : Int))) none).run Tryz.prog w = .ok (.slice (some ⟨g, 0, none⟩) I c) w := by
  intro w
  rw [run_slice_h w 24 (some ⟨g, 0, none⟩) n c slP .i64 _ (by omega) (by omega)]
  go_simp
theorem cutK26 (g n I c : Nat) (h1 : I ≤ c) : ∀ w, (Instr.slice 26 (.slice (some ⟨g, 0, none⟩) n c) none (some (.int .i64 (I : Int))) none).run Tryz.prog w = .ok (.slice (some ⟨g, 0, none⟩) I c) w := by
  intro w
  rw [run_slice_h w 26 (some ⟨g, 0, none⟩) n c slW' .i64 _ (by omega) (by omega)]
  go_simp
theorem cutK27 (g n I c : Nat) (h1 : I ≤ c) : ∀ w, (Instr.slice 27 (.slice (some ⟨g, 0, none⟩) n c) none (some (.int .i64 (I : Int))) none).run Tryz.prog w = .ok (.slice (some ⟨g, 0, none⟩) I c) w := by
  intro w
  rw [run_slice_h w 27 (some ⟨g, 0, none⟩) n c slV' .i64 _ (by omega) (by omega)]
  go_simp
/-- append as one step of a region that draws -/
theorem step_appK {α : Type} {E : El α} (hE : E.Ok) {w : World} {ops : Array Oper} {o : Oper} {a : Act} {K : Act → World → Prop} {Q : Exit → Act → World → Prop} {Ep : Prop} (hgd : o.guard = none) (s x : Operand)
    (ho : o.op = .call { callee := .builtin .append, args := #[s, x], argTypes := #[E.t, E.t] })
    (oa : Option Addr) (n c : Nat) (xs : List α) (hs : a.eval s = .slice oa n c) (hn : n = xs.length) (hown : Own E w oa c xs)
    (ox : Option Addr) (m d : Nat) (news : List α) (hx : a.eval x = .slice ox m d) (hm : m = news.length) (hd : ox = none → d = 0) (hrow : Row E w ox news)
    (hb : (xs.length + news.length) * E.nb ≤ 140737488355328) (hb2 : xs.length + news.length ≤ 140737488355328)
    (h : ∀ o' c' w', Own E w' o' c' (xs ++ news) → Ap w oa o' w' → K (a.put o.dst (.slice o' (n + m) c')) w') :
    if Region.wanted o (yielded ops a.tmps) = true then Oper.wp Tryz.prog o a w K Q else Ep := by
  have hw : Region.wanted o (yielded ops a.tmps) = true := by simp [Region.wanted, hgd]
  rw [if_pos hw]
  subst hn hm
  obtain ⟨o', c', w', hr, h1, h2⟩ := run_app hE w o.type oa c xs hown ox d news hd hrow hb hb2
  unfold Oper.wp execOp
  simp only [ho, resolve, invoke, builtin, Sem.run_bind, Sem.run_pure, Result.andThen_ok, List.map_toArray, List.map_cons, List.map_nil, hs, hx, hr]
  exact h o' c' w' h1 h2
theorem apK_none {W w' : World} {o' : Option Addr} (h : Ap W none o' w') : Keeps no W w' := by
  rcases h with ⟨_, hh⟩ | ⟨_, hh⟩
  · exact hh.mono (fun i hi => by obtain ⟨x, e, _⟩ := hi; cases e)
  · exact hh
theorem apK_noneN {W w' : World} {o' : Option Addr} (h : Ap W none o' w') : New W o' := by
  rcases h with ⟨rfl, _⟩ | ⟨⟨g, rfl, hg⟩, _⟩
  · exact new_none _
  · intro j hj
    obtain ⟨x, e, rfl⟩ := hj
    cases e
    exact hg
theorem ownK_some {α : Type} {E : El α} {w : World} {o : Option Addr} {c n : Nat} {xs : List α} {x : α} (h : Own E w o c (xs ++ [x])) (hn : n = xs.length) : ∃ g, o = some ⟨g, 0, none⟩ ∧ n + 1 ≤ c := by
  rcases h.shape with ⟨_, _, e⟩ | ⟨g, cur, e, _, h1, _⟩
  · simp at e
  · exact ⟨g, e, by rw [hn]; simpa using h1⟩
/-- the copy of the message, and the result's block, while lent runs -/
structure Lq (w : World) (A B : Nat) (cs : Array Value) (wr : World) : Prop where
  kp : Keeps no w wr
  a : wr.heap[A]? = some (.cells cs 29 (0, 0))
  b : wr.heap[B]? = some (.cells #[.int .i64 0, .int .i64 0, .int .u64 0, .int .u64 0, .slice none 0 0, .slice none 0 0, .slice none 0 0, .slice none 0 0] 29 (0, 0))
  ab : A = w.heap.size ∧ B = w.heap.size + 1
theorem Lq.keepsN {w : World} {A B : Nat} {cs : Array Value} {wr w' : World} (h : Lq w A B cs wr) (k : Keeps no wr w') : Lq w A B cs w' := ⟨h.kp.trans k, k.at h.a (fun h => h), k.at h.b (fun h => h), h.ab⟩
theorem Lq.new {w : World} {A B : Nat} {cs : Array Value} {wr : World} (h : Lq w A B cs wr) {o : Option Addr} (hn : New wr o) : ∀ j, inO o j → B < j := fun j hj => by have := hn j hj; have := lt_of_block h.b; omega
theorem Lq.set {w : World} {A B : Nat} {cs : Array Value} {wr : World} (h : Lq w A B cs wr) (f : Nat) (v : Value) (cs' : Array Value) (hcs : cs.setIfInBounds f v = cs') : Lq w A B cs' (wr.setCell ⟨A, f, none⟩ v) ∧ Keeps (eqA A) wr (wr.setCell ⟨A, f, none⟩ v) := by
  have hset : Keeps (eqA A) wr (wr.setCell ⟨A, f, none⟩ v) := (Keeps.refl (eqA A) wr).setA f v
  have hab := h.ab
  refine ⟨⟨h.kp.then hset (fun j hj => .inr (by unfold eqA at hj; omega)), by rw [blk_set h.a f, hcs], hset.at h.b (by unfold eqA; omega), h.ab⟩, hset⟩
/-- a list of the copy's own, past the two blocks -/
structure Lo {α : Type} (E : El α) (B : Nat) (o : Option Addr) (c : Nat) (xs : List α) (wr : World) : Prop where
  own : Own E wr o c xs
  far : ∀ j, inO o j → B < j
theorem Lo.keepsN {α : Type} {E : El α} {B : Nat} {o : Option Addr} {c : Nat} {xs : List α} {wr w' : World} (h : Lo E B o c xs wr) (k : Keeps no wr w') : Lo E B o c xs w' := ⟨h.own.keepsN k, h.far⟩
theorem Lo.set {α : Type} {E : El α} {A B : Nat} {o : Option Addr} {c : Nat} {xs : List α} {wr w' : World} (h : Lo E B o c xs wr) (hAB : A ≤ B) (k : Keeps (eqA A) wr w') : Lo E B o c xs w' := ⟨h.own.keeps k (fun j hj e => by have := h.far j hj; unfold eqA at e; omega), h.far⟩
/-! ### one version's keys laid anew -/
theorem cells_setV (r : RV) (o : Option Addr) (n c : Nat) : ∀ (rs : List RV) (j : Nat), j < rs.length → rs.getD j r0 = r → VE.cells (rs.set j ⟨r.key, r.id, r.val, o, n, c⟩) = (VE.cells rs).set (j * 4 + 3) (.slice o n c)
  | [], j, h, _ => by simp at h
  | y :: l, 0, _, e => by
    obtain rfl : y = r := by simpa using e
    simp [El.cells, VE]
  | y :: l, j + 1, h, e => by
    have ih := cells_setV r o n c l j (by simpa using h) (by simpa using e)
    simp only [El.cells, List.set_cons_succ, List.flatMap_cons] at ih ⊢
    rw [ih, show (j + 1) * 4 + 3 = 4 + (j * 4 + 3) by omega]
    simp only [VE, List.cons_append, List.nil_append]
    rw [show 4 + (j * 4 + 3) = j * 4 + 3 + 1 + 1 + 1 + 1 by omega]
    rfl
theorem Own.storeV {w : World} {o : Option Addr} {c : Nat} {rs : List RV} (h : Own VE w o c rs) (j : Nat) (hj : j < rs.length) : ∃ g, o = some ⟨g, 0, none⟩ ∧ w.cell? ⟨g, j * 4 + 3, none⟩ = some (.slice (rs.getD j r0).o (rs.getD j r0).n (rs.getD j r0).c) ∧ w.frozen? ⟨g, j * 4 + 3, none⟩ = false ∧
    ∀ o' n' c', Own VE (w.setCell ⟨g, j * 4 + 3, none⟩ (.slice o' n' c')) o c (rs.set j ⟨(rs.getD j r0).key, (rs.getD j r0).id, (rs.getD j r0).val, o', n', c'⟩) ∧ Keeps (inO o) w (w.setCell ⟨g, j * 4 + 3, none⟩ (.slice o' n' c')) := by
  rcases h.shape with ⟨_, _, e⟩ | ⟨g, cur, rfl, hg, hc, hm, hs, ht⟩
  · rw [e] at hj; simp at hj
  · refine ⟨g, rfl, ?_, frozen_of_blk hg _, fun o' n' c' => ⟨?_, (Keeps.refl _ _).setCell (.inl ⟨_, rfl, rfl⟩) _⟩⟩
    · obtain ⟨b, off, e, _, _, _, h4⟩ := h.sl.atV hj
      cases e
      rw [Nat.zero_add] at h4
      exact h4
    · refine own_of_shape okV (blk_set hg _ _) (by simpa using hc) hm (by simp [hs]) ?_
      rw [cells_setV _ o' n' c' rs j hj rfl]
      simp only [Array.toList_setIfInBounds, List.length_set]
      rw [List.take_set, ht]
/-- what lent tells: the message, its lists with one more element behind each -/
structure Lent (w : World) (k cl : Int) (q i : Nat) (op : Option Addr) (np cp : Nat) (ok : Option Addr) (nk ck : Nat) (ow : Option Addr) (nw cw : Nat) (ov : Option Addr) (nv cv : Nat) (rs : List RV) (m : Msg) : Prop where
  is : IsM w k cl q i op np cp ok nk ck ow nw cw ov nv cv rs m
  ks : Own TE w ok ck (m.keys ++ [⟨#[115, 112, 97, 114, 101]⟩])
  ps : Own PE w op cp (m.pairs ++ [(⟨#[115, 112, 97, 114, 101]⟩, e0)])
  ws : Own WE w ow cw (m.wants ++ [(⟨#[115, 112, 97, 114, 101]⟩, 0)])
  vs : Own VE w ov cv (rs ++ [⟨⟨#[115, 112, 97, 114, 101]⟩, 0, e0, none, 0, 0⟩])
  each : ∀ j, j < rs.length → Own TE w (rs.getD j r0).o (rs.getD j r0).c ((m.vers.getD j v0).keys ++ [⟨#[115, 112, 97, 114, 101]⟩])
theorem Lent.keepsN {w w' : World} {k cl : Int} {q i : Nat} {op : Option Addr} {np cp : Nat} {ok : Option Addr} {nk ck : Nat} {ow : Option Addr} {nw cw : Nat} {ov : Option Addr} {nv cv : Nat} {rs : List RV} {m : Msg} (h : Lent w k cl q i op np cp ok nk ck ow nw cw ov nv cv rs m) (kp : Keeps no w w') : Lent w' k cl q i op np cp ok nk ck ow nw cw ov nv cv rs m :=
  ⟨h.is.keepsN kp, h.ks.keepsN kp, h.ps.keepsN kp, h.ws.keepsN kp, h.vs.keepsN kp, fun j hj => (h.each j hj).keepsN kp⟩
/-- a version of the copy -/
structure VerS (wr : World) (r : RV) (v : Ver) : Prop where
  key : r.key = v.key
  id : r.id = v.id
  val : r.val = v.val
  n : r.n = v.keys.length
  own : Own TE wr r.o r.c (v.keys ++ [⟨#[115, 112, 97, 114, 101]⟩])
theorem VerS.keeps {S : Nat → Prop} {wr w' : World} {r : RV} {v : Ver} (h : VerS wr r v) (k : Keeps S wr w') (hS : ∀ j, inO r.o j → ¬ S j) : VerS w' r v := ⟨h.key, h.id, h.val, h.n, h.own.keeps k hS⟩
theorem VerS.of {wr : World} {r : RV} {v : Ver} (h : VerS wr r v) : VerOf wr r v := ⟨h.key, h.id, h.val, h.n, by
  have h1 := h.own.row.take okT v.keys.length
  rw [List.take_left] at h1
  have h2 := h.own.cap
  exact ⟨h1, by have := h2.1; simp at this; omega, h2.2⟩⟩
theorem Lq.other {w : World} {A B : Nat} {cs : Array Value} {wr w' : World} (h : Lq w A B cs wr) {S : Nat → Prop} (k : Keeps S wr w') (hS : ∀ j, S j → B < j) : Lq w A B cs w' := by
  have hab := h.ab
  exact ⟨h.kp.then k (fun j hj => .inr (by have := hS j hj; omega)), k.at h.a (fun hj => by have := hS A hj; omega), k.at h.b (fun hj => by have := hS B hj; omega), h.ab⟩
theorem Lo.other {α β : Type} {E : El α} {F : El β} {B : Nat} {o p : Option Addr} {c d : Nat} {xs : List α} {ys : List β} {wr w' : World} (h : Lo E B o c xs wr) (hp : Own F wr p d ys) (hne : E.e ≠ F.e) (k : Keeps (inO p) wr w') : Lo E B o c xs w' := ⟨h.own.keeps k (tags_ne hne h.own hp), h.far⟩
/-- while lent lays the versions' keys anew -/
structure Lv (w : World) (A B : Nat) (cs : Array Value) (m : Msg) (rs : List RV) (ok : Option Addr) (ck : Nat) (op : Option Addr) (cp : Nat) (ow : Option Addr) (cw : Nat) (oL : Option Addr) (cL t : Nat) (rs' : List RV) (wr : World) : Prop where
  q : Lq w A B cs wr
  ks : Lo TE B ok ck (m.keys ++ [⟨#[115, 112, 97, 114, 101]⟩]) wr
  ps : Lo PE B op cp (m.pairs ++ [(⟨#[115, 112, 97, 114, 101]⟩, e0)]) wr
  ws : Lo WE B ow cw (m.wants ++ [(⟨#[115, 112, 97, 114, 101]⟩, 0)]) wr
  l : Lo VE B oL cL rs' wr
  len : rs'.length = rs.length
  done : ∀ j, j < t → VerS wr (rs'.getD j r0) (m.vers.getD j v0)
  rest : ∀ j, t ≤ j → rs'.getD j r0 = rs.getD j r0
theorem Lv.next {w : World} {A B : Nat} {cs : Array Value} {m : Msg} {rs : List RV} {ok : Option Addr} {ck : Nat} {op : Option Addr} {cp : Nat} {ow : Option Addr} {cw : Nat} {oL : Option Addr} {cL t : Nat} {rs' : List RV} {wr w2 : World} (h : Lv w A B cs m rs ok ck op cp ow cw oL cL t rs' wr) (ht : t < rs'.length) {c2 rn gL : Nat} {o2 : Option Addr} (N2 : New wr o2 ∧ Keeps no wr w2) (hr : VerOf wr (rs'.getD t r0) (m.vers.getD t v0)) (hrn : rn = (m.vers.getD t v0).keys.length) (ho : Own TE w2 o2 c2 ((m.vers.getD t v0).keys ++ [⟨#[115, 112, 97, 114, 101]⟩])) (eL : oL = some ⟨gL, 0, none⟩) :
    Lv w A B cs m rs ok ck op cp ow cw oL cL (t + 1) (rs'.set t ⟨(rs'.getD t r0).key, (rs'.getD t r0).id, (rs'.getD t r0).val, o2, rn, c2⟩) (w2.setCell ⟨gL, t * 4 + 3, none⟩ (.slice o2 rn c2)) := by
  have hl2 := h.l.keepsN N2.2
  obtain ⟨g, e, _, _, hst⟩ := hl2.own.storeV t ht
  obtain rfl : g = gL := by rw [eL] at e; cases e; rfl
  obtain ⟨s1, s2⟩ := hst o2 rn c2
  refine ⟨(h.q.keepsN N2.2).other s2 hl2.far, (h.ks.keepsN N2.2).other hl2.own (by decide) s2, (h.ps.keepsN N2.2).other hl2.own (by decide) s2, (h.ws.keepsN N2.2).other hl2.own (by decide) s2, ⟨s1, hl2.far⟩, by rw [List.length_set]; exact h.len, fun j hj => ?_, fun j hj => ?_⟩
  · rw [getD_set rs' t j _ r0 ht]
    by_cases e : j = t
    · rw [if_pos e, e]
      exact ⟨hr.key, hr.id, hr.val, hrn, ho.keeps s2 (tags_ne (by decide) ho hl2.own)⟩
    · rw [if_neg e]
      have hd := (h.done j (by omega)).keeps N2.2 (fun _ _ h => h)
      exact hd.keeps s2 (tags_ne (by decide) hd.own hl2.own)
  · rw [getD_set rs' t j _ r0 ht, if_neg (by omega)]
    exact h.rest j (by omega)
theorem Own.neB {α : Type} {E : El α} {w : World} {o : Option Addr} {c : Nat} {xs : List α} (h : Own E w o c xs) {A : Nat} {cs : Array Value} {ty : TypeId} (hA : w.heap[A]? = some (.cells cs ty (0, 0))) (hne : E.e ≠ ty) : ∀ j, inO o j → ¬ eqA A j := fun j hj e => by
  obtain ⟨cur, hc⟩ := h.tag j hj
  unfold eqA at e
  subst e
  rw [hA] at hc
  injection hc with hc
  injection hc with _ hc _
  exact hne hc.symm
theorem Sl.front {α : Type} {E : El α} (hE : E.Ok) {w : World} {o : Option Addr} {c : Nat} {xs : List α} {x : α} (h : Own E w o c (xs ++ [x])) : Sl E w o c xs := by
  have h1 := h.row.take hE xs.length
  rw [List.take_left] at h1
  have h2 := h.cap
  exact ⟨h1, by have := h2.1; simp at this; omega, h2.2⟩

end Go.Proofs.YtjklpcamlppegaaGreat
