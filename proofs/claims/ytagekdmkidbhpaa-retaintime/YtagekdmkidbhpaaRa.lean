import Derived.Test.YtagekdmkidbhpaaC7
/- A key's last raised: the pieces put together. -/
namespace Go.Proofs.Ytagekdmkidbhpaa
open Go.RowKit Go.Maps
set_option linter.unusedVariables false
set_option linter.unusedSimpArgs false
def Vr.at (v : Vr) (t : Int) : Vr := ⟨v.val, v.keys, t⟩
def MV.at (v : MV) (t : Int) : MV := ⟨v.val, v.o, v.c, v.keys, t⟩
/-- D: those of k's that have been stamped -/
def stS (s : St) (k : Tx) (i : Nat) (now : Int) (D : Nat → Bool) : St := ⟨fun m => if m.1 = k ∧ D m.2 = true then (s.V m).map (fun v => v.at now) else s.V m, fun z => if z = k then i else s.last z⟩
def raiseS (s : St) (k : Tx) (i : Nat) (now : Int) : St := ⟨fun m => if m.1 = k ∧ m.2 < i then (s.V m).map (fun v => if v.stamp = -1 then v.at now else v) else s.V m, fun z => if z = k then i else s.last z⟩
theorem st_ext {a b : St} (h1 : ∀ m, a.V m = b.V m) (h2 : ∀ k, a.last k = b.last k) : a = b := by
  obtain ⟨V, l⟩ := a
  obtain ⟨V', l'⟩ := b
  have e1 : V = V' := funext h1
  have e2 : l = l' := funext h2
  rw [e1, e2]
theorem SL.ofEq {w : World} {p : Nat} {T : Nat → Option Ro} {s s' : St} {N : Nat} {y : Lay} (h : SL w p T s N y) (h1 : ∀ m, s.V m = s'.V m) (h2 : ∀ k, s.last k = s'.last k) : SL w p T s' N y := by
  rw [← st_ext h1 h2]; exact h
/-- a line written anew, and perhaps a version of it -/
theorem SL.turn {w w' : World} {p : Nat} {T : Nat → Option Ro} {s s' : St} {N : Nat} {y : Lay} (h : SL w p T s N y) {k : Tx} {x x' : Ln} (hx : fnd k y.L = some x) (hp : x'.p = x.p) (ho : ∀ b, inO x'.o b → inO x.o b) (hh : Hp.Heap x'.fr) (hnd : x'.fr.Nodup) (hla : x'.last < 18446744073709551616) (hnf : x'.fr.length ≤ N)
    {V' : List (Mk × MV)} (mv' : IsMp KM vvV w' y.vm V') (hV' : V'.length ≤ N) (hVk : ∀ q ∈ V', ∃ q' ∈ y.V, q.2.o = q'.2.o ∧ q.2.c = q'.2.c ∧ q.2.keys = q'.2.keys) (line' : LineAt w' x') (hk : Keeps (fun b => b = y.vm ∨ b = x.p ∨ inO x.o b) w w')
    (sv : ∀ m, s'.V m = (fnd m V').map MV.vr) (sn : ∀ m, s'.V m ≠ none ↔ s.V m ≠ none) (sl : ∀ z, s'.last z = if z = k then x'.last else s.last z) (hfr : ∀ i, i ∈ x'.fr ↔ ∃ v, s'.V (k, i) = some v ∧ v.stamp = -1) (hoth : ∀ z i, z ≠ k → s'.V (z, i) = s.V (z, i)) :
    SL w' p T s' N ⟨y.vm, y.lm, y.wm, V', put k x' y.L, y.W⟩ := by
  have htx := h.tln _ (fnd_mem hx)
  have hno : ∀ {b r}, T b = some r → r ≠ .vm → r ≠ .ln k → r ≠ .fr k → ¬ (b = y.vm ∨ b = x.p ∨ inO x.o b) := by
    intro b r hb h1 h2 h3 hc
    rcases hc with e | e | e
    · exact tag_ne hb h.tv h1 e
    · exact tag_ne hb htx.1 h2 e
    · have := htx.2 b e
      rw [hb] at this
      injection this with this
      exact h3 this
  refine { blk := hk.at h.blk (hno h.tp (by simp) (by simp) (by simp)), mv := mv', ml := ?_, mw := h.mw.keeps hk (hno h.tw (by simp) (by simp) (by simp)), line := ?_, set := ?_, key := ?_, tp := h.tp, tv := h.tv, tl := h.tl, tw := h.tw, tln := ?_, tst := h.tst, lt := fun b hb => Nat.lt_of_lt_of_le (h.lt b hb) hk.size, sv := sv, sl := ?_, hv := ?_, fr := ?_, sw := ?_, wn := h.wn, la := ?_, lv := ?_, nv := hV', nl := ?_, nw := h.nw, ns := h.ns, nf := ?_ }
  · exact (h.ml.keeps hk (hno h.tl (by simp) (by simp) (by simp))).same lawT hx (by unfold vvL; rw [hp])
  · intro q hq
    rcases mem_put.1 hq with rfl | ⟨hq, hne⟩
    · exact line'
    · exact (h.line q hq).keeps hk (hno (h.tln q hq).1 (by simp) (by simp [hne]) (by simp)) (fun b hb => hno ((h.tln q hq).2 b hb) (by simp) (by simp) (by simp [hne]))
  · intro q hq
    exact (h.set q hq).keeps hk (hno (h.tst q hq) (by simp) (by simp) (by simp))
  · intro q hq
    obtain ⟨q', hq', e1, e2, e3⟩ := hVk q hq
    rw [e1, e2, e3]
    exact ⟨(h.key q' hq').1.keeps hk (fun b hb => hno ((h.key q' hq').2 b hb) (by simp) (by simp) (by simp)), (h.key q' hq').2⟩
  · intro q hq
    rcases mem_put.1 hq with rfl | ⟨hq, hne⟩
    · exact ⟨by show T x'.p = _; rw [hp]; exact htx.1, fun b hb => htx.2 b (ho b hb)⟩
    · exact h.tln q hq
  · intro z
    rw [sl z]
    show _ = lastOf (put k x' y.L) z
    unfold lastOf
    rw [fnd_put]
    by_cases e : z = k
    · rw [if_pos e, if_pos e]
    · rw [if_neg e, if_neg e, h.sl z]; rfl
  · intro z i hv
    rw [fnd_put]
    by_cases e : z = k
    · exact ⟨x', by rw [if_pos e]⟩
    · rw [if_neg e]; exact h.hv z i ((sn _).1 hv)
  · intro q hq
    rcases mem_put.1 hq with rfl | ⟨hq, hne⟩
    · exact ⟨hh, hnd, hfr⟩
    · obtain ⟨a, b, c⟩ := h.fr q hq
      exact ⟨a, b, fun i => by rw [c i, hoth _ _ hne]⟩
  · intro i z
    rw [sn]; exact h.sw i z
  · intro q hq
    rcases mem_put.1 hq with rfl | ⟨hq, hne⟩
    · exact hla
    · exact h.la q hq
  · intro q hq
    rcases mem_put.1 hq with rfl | ⟨hq, hne⟩
    · obtain ⟨j, hj⟩ := h.lv _ (fnd_mem hx)
      exact ⟨j, (sn _).2 hj⟩
    · obtain ⟨j, hj⟩ := h.lv q hq
      exact ⟨j, (sn _).2 hj⟩
  · show (put k x' y.L).length ≤ N
    rw [length_put_some h.ml.nk hx]; exact h.nl
  · intro q hq
    rcases mem_put.1 hq with rfl | ⟨hq, hne⟩
    · exact hnf
    · exact h.nf q hq
theorem SL.setLast {w : World} {p : Nat} {T : Nat → Option Ro} {s : St} {N : Nat} {y : Lay} (h : SL w p T s N y) {k : Tx} {x : Ln} (hx : fnd k y.L = some x) {i : Nat} (hi : i < 18446744073709551616) (now : Int) :
    SL (w.setCell ⟨x.p, 0, none⟩ (.int .u64 ((i : Nat) : Int))) p T (stS s k i now (fun _ => false)) N ⟨y.vm, y.lm, y.wm, y.V, put k ⟨x.p, i, x.o, x.c, x.fr⟩ y.L, y.W⟩ := by
  have hm := fnd_mem hx
  have hk := keeps_setB w x.p 0 (.int .u64 ((i : Nat) : Int))
  have hln := h.line _ hm
  have htx := h.tln _ hm
  have hV : ∀ m, (stS s k i now (fun _ => false)).V m = s.V m := fun m => by simp [stS]
  refine h.turn hx (x' := ⟨x.p, i, x.o, x.c, x.fr⟩) rfl (fun b hb => hb) (h.fr _ hm).1 (h.fr _ hm).2.1 hi (h.nf _ hm) (h.mv.keeps hk (fun e => tag_ne h.tv htx.1 (by simp) e)) h.nv (fun q hq => ⟨q, hq, rfl, rfl, rfl⟩) ⟨?_, hln.own.keeps hk (fun b hb e => hln.o_p hln b hb e)⟩ (hk.mono fun b hb => .inr (.inl hb)) (fun m => by rw [hV]; exact h.sv m) (fun m => by rw [hV]) (fun z => rfl) (fun j => by rw [hV]; exact (h.fr _ hm).2.2 j) (fun z j _ => hV _)
  refine (blk_set hln.blk 0 _).trans ?_
  simp [lcells]
theorem SL.popped {w w' : World} {p : Nat} {T : Nat → Option Ro} {s : St} {N : Nat} {y : Lay} {k : Tx} {i : Nat} {now : Int} {D : Nat → Bool} (h : SL w p T (stS s k i now D) N y) (hnow : now ≠ -1) {x : Ln} (hx : fnd k y.L = some x) {z : Nat} {l : List Nat} (hp : (z :: l).Perm x.fr) (hh : Hp.Heap l) {v : MV} (hv : fnd (k, z) y.V = some v) (mv' : IsMp KM vvV w' y.vm (put (k, z) (v.at now) y.V)) (line' : LineAt w' (x.with x.o x.c l)) (hk : Keeps (fun b => b = y.vm ∨ b = x.p ∨ inO x.o b) w w') :
    SL w' p T (stS s k i now (fun j => D j || decide (j = z))) N ⟨y.vm, y.lm, y.wm, put (k, z) (v.at now) y.V, put k (x.with x.o x.c l) y.L, y.W⟩ ∧ D z = false ∧ ∃ u, s.V (k, z) = some u ∧ u.stamp = -1 := by
  have hm := fnd_mem hx
  have hzf : z ∈ x.fr := hp.mem_iff.1 (by simp)
  obtain ⟨u, hu, hus⟩ := ((h.fr _ hm).2.2 z).1 hzf
  have hD : D z = false := by
    cases e : D z with
    | false => rfl
    | true =>
      exfalso
      simp [stS, e] at hu
      obtain ⟨a, _, rfl⟩ := hu
      exact hnow hus
  have hu0 : s.V (k, z) = some u := by simpa [stS, hD] using hu
  have hnd := (h.fr _ hm).2.1
  have hnd' : (z :: l).Nodup := hp.nodup_iff.2 hnd
  have hvu : u = v.vr := by
    have := h.sv (k, z)
    rw [hu, hv] at this
    simpa using this
  have hsl := h.sl k
  have hlast : x.last = i := by
    simp [stS, lastOf, hx] at hsl
    exact hsl.symm
  have hVm : ∀ m, m ≠ (k, z) → (stS s k i now (fun j => D j || decide (j = z))).V m = (stS s k i now D).V m := fun m hm => by
    obtain ⟨a, b⟩ := m
    simp only [stS]
    by_cases ea : a = k
    · subst ea
      have : b ≠ z := fun e => hm (by rw [e])
      simp [this]
    · simp [ea]
  have hVz : (stS s k i now (fun j => D j || decide (j = z))).V (k, z) = some (u.at now) := by simp [stS, hu0]
  refine ⟨h.turn hx (x' := x.with x.o x.c l) rfl (fun b hb => hb) hh (List.nodup_cons.1 hnd').2 (h.la _ hm) ?_ mv' ?_ ?_ line' hk ?_ ?_ ?_ ?_ ?_, hD, u, hu0, hus⟩
  · have h1 := hp.length_eq
    have h2 := h.nf _ hm
    show l.length ≤ N
    simp at h1 h2
    omega
  · rw [length_put_some h.mv.nk hv]; exact h.nv
  · intro q hq
    rcases mem_put.1 hq with rfl | ⟨hq, hne⟩
    · exact ⟨((k, z), v), fnd_mem hv, rfl, rfl, rfl⟩
    · exact ⟨q, hq, rfl, rfl, rfl⟩
  · intro m
    rw [fnd_put]
    by_cases e : m = (k, z)
    · rw [if_pos e, e, hVz, hvu]; rfl
    · rw [if_neg e, hVm m e]; exact h.sv m
  · intro m
    by_cases e : m = (k, z)
    · rw [e, hVz, hu]; simp
    · rw [hVm m e]
  · intro a
    show (if a = k then i else s.last a) = if a = k then x.last else (if a = k then i else s.last a)
    rw [hlast]
    split <;> rfl
  · intro j
    have hj := (h.fr _ hm).2.2 j
    simp only at hj
    by_cases e : j = z
    · subst e
      rw [hVz]
      have : j ∉ l := (List.nodup_cons.1 hnd').1
      constructor
      · intro hc; exact absurd hc this
      · rintro ⟨v', hv', hs'⟩
        cases hv'
        exact absurd hs' hnow
    · rw [hVm _ (fun ee => e (by injection ee))]
      rw [← hj, ← hp.mem_iff]
      simp [e, Ln.with]
  · intro a j ha
    exact hVm _ (fun ee => ha (by injection ee))
theorem raise_end {s : St} {k : Tx} {i : Nat} {now : Int} {D : Nat → Bool} (h1 : ∀ z, D z = true → z < i ∧ ∃ u, s.V (k, z) = some u ∧ u.stamp = -1) (h2 : ∀ z u, s.V (k, z) = some u → u.stamp = -1 → z < i → D z = true) : stS s k i now D = raiseS s k i now := by
  refine st_ext (fun m => ?_) (fun z => rfl)
  obtain ⟨a, z⟩ := m
  simp only [stS, raiseS]
  by_cases ea : a = k
  · subst ea
    cases hv : s.V (a, z) with
    | none => simp
    | some u =>
      by_cases hs : u.stamp = -1
      · by_cases hz : z < i
        · simp [hz, hs, h2 z u hv hs hz]
        · have : D z = false := by
            cases e : D z with
            | false => rfl
            | true => exact absurd (h1 z e).1 hz
          simp [hz, this]
      · have : D z = false := by
          cases e : D z with
          | false => rfl
          | true =>
            obtain ⟨_, u', hu', hs'⟩ := h1 z e
            rw [hv] at hu'; cases hu'
            exact absurd hs' hs
        simp [this, hs]
  · simp [ea]
end Go.Proofs.Ytagekdmkidbhpaa
