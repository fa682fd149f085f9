/- NetMemory: what Flight and Deliver told. -/
import Derived.Test.YtdbejihkliafiaaM1
import Derived.Test.YtdbejihkliafiaaL0
namespace Go.Proofs.Ytdbejihkliafiaa
open Go.RowKit Go.Sort
set_option linter.unusedVariables false
set_option linter.unusedSimpArgs false

theorem oper_app1 {α : Type} {E : El α} (hE : E.Ok) {w : World} {o : Oper} {a : Act} {K : Act → World → Prop} {Q : Exit → Act → World → Prop} (hgd : o.guard = none) (s x : Operand)
    (ho : o.op = .call { callee := .builtin .append, args := #[s, x], argTypes := #[E.t, E.t] })
    (oa : Option Addr) (n c : Nat) (xs : List α) (hs : a.eval s = .slice oa n c) (hn : n = xs.length) (hown : Own E w oa c xs)
    (ox : Option Addr) (m d : Nat) (news : List α) (hx : a.eval x = .slice ox m d) (hm : m = news.length) (hd : ox = none → d = 0) (hrow : Row E w ox news)
    (hb : (xs.length + news.length) * E.nb ≤ 140737488355328) (hb2 : xs.length + news.length ≤ 140737488355328)
    (h : ∀ o' c' w', Own E w' o' c' (xs ++ news) → Ap w oa o' w' → K (a.put o.dst (.slice o' (n + m) c')) w') : Oper.wp Try.prog o a w K Q := by
  subst hn hm
  obtain ⟨o', c', w', hr, h1, h2⟩ := run_app hE w o.type oa c xs hown ox d news hd hrow hb hb2
  unfold Oper.wp execOp
  simp only [ho, resolve, invoke, builtin, Sem.run_bind, Sem.run_pure, Result.andThen_ok, List.map_toArray, List.map_cons, List.map_nil, hs, hx, hr]
  exact h o' c' w' h1 h2

theorem getD_setI {α : Type} (l : List α) (j i : Nat) (x d : α) (hj : j < l.length) : (l.set j x).getD i d = if i = j then x else l.getD i d := by
  simp only [List.getD_eq_getElem?_getD, List.getElem?_set]
  by_cases e : i = j
  · subst e; simp [hj]
  · rw [if_neg (fun h => e h.symm), if_neg e]
theorem Fs.zin {w : World} {o : Option Addr} {c : Nat} {rs : List RF} {fs : List Fr} (h : Fs FE w o c rs fs) {j : Nat} (hj : j < fs.length) : ∀ i, zO (rs.getD j rf0).o (rs.getD j rf0).c i → ¬ inO o i := by
  intro i hi h2
  obtain ⟨ca, ha⟩ := (h.each j hj).bz.tag i hi
  obtain ⟨cb, hb⟩ := h.own.tag i h2
  rw [ha] at hb
  injection hb with hb
  injection hb with _ hb _
  exact absurd hb (by decide)
/-- a frame's sender written over -/
theorem Fs.setFrm {w : World} {o : Option Addr} {c : Nat} {rs : List RF} {fs : List Fr} (h : Fs FE w o c rs fs) {j : Nat} (hj : j < fs.length) (v : Int) {g : Nat} (hg : o = some ⟨g, 0, none⟩) :
    Fs FE (w.setCell ⟨g, j * 4 + 1, none⟩ (.int .i64 v)) o c (rs.set j { rs.getD j rf0 with frm := v }) (fs.set j { fs.getD j fr0 with frm := v }) ∧ Keeps (inO o) w (w.setCell ⟨g, j * 4 + 1, none⟩ (.int .i64 v)) := by
  have hjr : j < rs.length := by rw [h.len]; exact hj
  obtain ⟨g', e, _, h1, h2⟩ := h.own.store1 okF rf0 j hjr 1 (by decide) { rs.getD j rf0 with frm := v } (.int .i64 v) rfl
  rw [hg] at e
  cases e
  have e1 : j * FE.k + 1 = j * 4 + 1 := rfl
  rw [e1] at h1 h2
  have hlen : (fs.set j { fs.getD j fr0 with frm := v }).length = fs.length := by simp
  refine ⟨⟨h1, by simp [h.len], fun i hi => ?_, fun a b hab hb k hk1 hk2 => ?_⟩, h2⟩
  · rw [hlen] at hi
    have h0 := (h.each i hi).keeps h2 (h.zin hi)
    rw [getD_setI rs j i _ _ hjr, getD_setI fs j i _ _ hj]
    by_cases e : i = j
    · subst e
      rw [if_pos rfl, if_pos rfl]
      exact ⟨h0.num, rfl, h0.dst, h0.n, h0.bz⟩
    · rw [if_neg e, if_neg e]; exact h0
  · rw [hlen] at hb
    have key : ∀ i, ((rs.set j { rs.getD j rf0 with frm := v }).getD i rf0).o = (rs.getD i rf0).o ∧ ((rs.set j { rs.getD j rf0 with frm := v }).getD i rf0).c = (rs.getD i rf0).c := by
      intro i
      rw [getD_setI rs j i _ _ hjr]
      by_cases e : i = j
      · subst e; rw [if_pos rfl]; exact ⟨rfl, rfl⟩
      · rw [if_neg e]; exact ⟨rfl, rfl⟩
    rw [(key a).1, (key a).2] at hk1
    rw [(key b).1, (key b).2] at hk2
    exact h.sep a b hab hb k hk1 hk2

def bsAt (lb lc : List UInt8) (j : Nat) : List UInt8 := if j = 1 then lc else lb
def frmAt (j : Nat) : Int := if j = 1 then 0 else -1
def up (v : Int) (i j : Nat) : Int := if j < i then v else frmAt j
/-- four frames told, their blocks from lo to hi -/
def Tld (w : World) (o : Option Addr) (c : Nat) (X : Nat → Option Addr × Nat) (V : Nat → Int) (lb lc : List UInt8) (lo hi : Nat) : Prop :=
  ∃ rs fs, Fs FE w o c rs fs ∧ fs.length = 4 ∧ (∀ j, j < 4 → (fs.getD j fr0).bs = bsAt lb lc j ∧ (rs.getD j rf0).o = (X j).1 ∧ (rs.getD j rf0).c = (X j).2 ∧ (fs.getD j fr0).frm = V j) ∧ ∀ i, FB o rs 4 i → lo ≤ i ∧ i < hi
section
variable {w w' : World} {o : Option Addr} {c : Nat} {X : Nat → Option Addr × Nat} {V : Nat → Int} {lb lc : List UInt8} {lo hi : Nat}
theorem Tld.keeps {S : Nat → Prop} (h : Tld w o c X V lb lc lo hi) (k : Keeps S w w') (hs : ∀ i, lo ≤ i → i < hi → ¬ S i) : Tld w' o c X V lb lc lo hi := by
  obtain ⟨rs, fs, h1, h2, h3, h4⟩ := h
  exact ⟨rs, fs, h1.keeps k (fun i hi => by rw [h2] at hi; exact hs i (h4 i hi).1 (h4 i hi).2), h2, h3, h4⟩
theorem Tld.keepsN (h : Tld w o c X V lb lc lo hi) (k : Keeps no w w') : Tld w' o c X V lb lc lo hi := h.keeps k (fun _ _ _ h => h)
theorem Tld.blk (h : Tld w o c X V lb lc lo hi) : ∃ g, o = some ⟨g, 0, none⟩ ∧ lo ≤ g ∧ g < hi ∧ ∀ i, w.frozen? ⟨g, i, none⟩ = false := by
  obtain ⟨rs, fs, h1, h2, h3, h4⟩ := h
  obtain ⟨g, e, hf, A⟩ := own_at4 okF h1.own (j := 0) (by rw [h1.len]; omega)
  have := h4 g (.inl ⟨_, e, rfl⟩)
  exact ⟨g, e, this.1, this.2, hf⟩
theorem Tld.at (h : Tld w o c X V lb lc lo hi) {g : Nat} (hg : o = some ⟨g, 0, none⟩) {j : Nat} (hj : j < 4) :
    w.cell? ⟨g, j * 4 + 1, none⟩ = some (.int .i64 (V j)) ∧ w.cell? ⟨g, j * 4 + 3, none⟩ = some (.slice (X j).1 (bsAt lb lc j).length (X j).2) ∧ Oz BE w (X j).1 (X j).2 (bsAt lb lc j) ∧ ∀ i, zO (X j).1 (X j).2 i → lo ≤ i ∧ i < hi := by
  obtain ⟨rs, fs, h1, h2, h3, h4⟩ := h
  obtain ⟨g', e, _, A⟩ := own_at4 okF h1.own (j := j) (by rw [h1.len]; omega)
  rw [hg] at e
  cases e
  have c1 := A.c1
  have c3 := A.c3
  rw [Nat.zero_add] at c1 c3
  obtain ⟨q1, q2, q3, q4⟩ := h3 j hj
  have hF := h1.each j (by omega)
  rw [hF.frm, q4] at c1
  rw [hF.n, q1, q2, q3] at c3
  have hb := hF.bz
  rw [q1, q2, q3] at hb
  refine ⟨c1, c3, hb, fun i hi => h4 i (.inr ⟨j, hj, ?_⟩)⟩
  rw [q2, q3]
  exact hi
theorem Tld.ap (h : Tld w o c X V lb lc lo hi) {i j : Nat} (hi' : i < 4) (hj : j < 4) (hij : i ≠ j) : ∀ k, zO (X i).1 (X i).2 k → ¬ zO (X j).1 (X j).2 k := by
  obtain ⟨rs, fs, h1, h2, h3, h4⟩ := h
  intro k a b
  rw [← (h3 i hi').2.1, ← (h3 i hi').2.2.1] at a
  rw [← (h3 j hj).2.1, ← (h3 j hj).2.2.1] at b
  rcases Nat.lt_or_gt_of_ne hij with e | e
  · exact h1.sep i j e (by omega) k a b
  · exact h1.sep j i e (by omega) k b a
theorem Tld.set (h : Tld w o c X V lb lc lo hi) {g : Nat} (hg : o = some ⟨g, 0, none⟩) {j : Nat} (hj : j < 4) (v : Int) {V' : Nat → Int} (hV : ∀ i, V' i = if i = j then v else V i) : Tld (w.setCell ⟨g, j * 4 + 1, none⟩ (.int .i64 v)) o c X V' lb lc lo hi ∧ Keeps (fun i => i = g) w (w.setCell ⟨g, j * 4 + 1, none⟩ (.int .i64 v)) := by
  obtain ⟨rs, fs, h1, h2, h3, h4⟩ := h
  obtain ⟨k1, k2⟩ := h1.setFrm (j := j) (by omega) v hg
  have hjr : j < rs.length := by rw [h1.len]; omega
  have key : ∀ i, ((rs.set j { rs.getD j rf0 with frm := v }).getD i rf0).o = (rs.getD i rf0).o ∧ ((rs.set j { rs.getD j rf0 with frm := v }).getD i rf0).c = (rs.getD i rf0).c := by
    intro i
    rw [getD_setI rs j i _ _ hjr]
    by_cases e : i = j
    · subst e; rw [if_pos rfl]; exact ⟨rfl, rfl⟩
    · rw [if_neg e]; exact ⟨rfl, rfl⟩
  refine ⟨⟨_, _, k1, by simpa using h2, fun i hi => ?_, fun i hi => ?_⟩, k2.mono (fun i hi => by rw [hg] at hi; obtain ⟨x, e, rfl⟩ := hi; cases e; rfl)⟩
  · obtain ⟨q1, q2, q3, q4⟩ := h3 i hi
    refine ⟨?_, by rw [(key i).1]; exact q2, by rw [(key i).2]; exact q3, ?_⟩
    · rw [getD_setI fs j i _ _ (by omega)]
      by_cases e : i = j
      · subst e; rw [if_pos rfl]; exact q1
      · rw [if_neg e]; exact q1
    · rw [getD_setI fs j i _ _ (by omega), hV]
      by_cases e : i = j
      · rw [if_pos e, if_pos e]
      · rw [if_neg e, if_neg e]; exact q4
  · rcases hi with hi | ⟨a, ha, hi⟩
    · exact h4 i (.inl hi)
    · rw [(key a).1, (key a).2] at hi
      exact h4 i (.inr ⟨a, ha, hi⟩)
end
def m4 (lb lc : List UInt8) : NS := ⟨3, 2, 4, [⟨1, -1, 2, lb⟩, ⟨2, 0, -2, lc⟩, ⟨3, -1, 2, lb⟩, ⟨4, -1, 2, lb⟩]⟩
theorem m4_at (lb lc : List UInt8) (j : Nat) (hj : j < 4) : ((m4 lb lc).fl.getD j fr0).bs = bsAt lb lc j ∧ ((m4 lb lc).fl.getD j fr0).frm = frmAt j := by
  have : j = 0 ∨ j = 1 ∨ j = 2 ∨ j = 3 := by omega
  rcases this with rfl | rfl | rfl | rfl <;> exact ⟨rfl, rfl⟩
theorem tld_of {lb lc : List UInt8} {w w' : World} {e : Ending} (h : FTo FE w (m4 lb lc).fl e w') : ∃ o c X, e = .returned (.slice o 4 c) ∧ Tld w' o c X frmAt lb lc w.heap.size w'.heap.size ∧ Keeps no w w' := by
  obtain ⟨o, n, c, rs, rfl, hn, h1, h2, h3⟩ := h
  have hn4 : n = 4 := hn
  subst hn4
  rcases h1 with ⟨_, e, _⟩ | h1
  · cases e
  · have hc : 0 < c := by have := h1.own.cap.1; have := h1.len; have e : (m4 lb lc).fl.length = 4 := rfl; omega
    refine ⟨o, c, fun j => ((rs.getD j rf0).o, (rs.getD j rf0).c), rfl, ⟨rs, _, h1, rfl, fun j hj => ⟨(m4_at lb lc j hj).1, rfl, rfl, (m4_at lb lc j hj).2⟩, fun i hi => ⟨h2 i hc hi, h1.lt i hi⟩⟩, h3⟩
/-- three flights told -/
structure Thr (w : World) (A B C D : Nat) (ox : Option Addr) (cx : Nat) (X : Nat → Option Addr × Nat) (VX : Nat → Int) (oy : Option Addr) (cy : Nat) (Y : Nat → Option Addr × Nat) (VY : Nat → Int) (oz : Option Addr) (cz : Nat) (Z : Nat → Option Addr × Nat) (lb lc : List UInt8) : Prop where
  x : Tld w ox cx X VX lb lc A B
  y : Tld w oy cy Y VY lb lc B C
  z : Tld w oz cz Z frmAt lb lc C D
  ab : A ≤ B
  bc : B ≤ C
  cd : C ≤ D
section
variable {w w' : World} {A B C D : Nat} {ox oy oz : Option Addr} {cx cy cz : Nat} {X Y Z : Nat → Option Addr × Nat} {VX VY : Nat → Int} {lb lc : List UInt8}
theorem Thr.keeps {S : Nat → Prop} (h : Thr w A B C D ox cx X VX oy cy Y VY oz cz Z lb lc) (k : Keeps S w w') (hs : ∀ i, A ≤ i → i < D → ¬ S i) : Thr w' A B C D ox cx X VX oy cy Y VY oz cz Z lb lc :=
  ⟨h.x.keeps k (fun i h1 h2 => hs i h1 (by have := h.bc; have := h.cd; omega)), h.y.keeps k (fun i h1 h2 => hs i (by have := h.ab; omega) (by have := h.cd; omega)), h.z.keeps k (fun i h1 h2 => hs i (by have := h.ab; have := h.bc; omega) h2), h.ab, h.bc, h.cd⟩
theorem Thr.keepsN (h : Thr w A B C D ox cx X VX oy cy Y VY oz cz Z lb lc) (k : Keeps no w w') : Thr w' A B C D ox cx X VX oy cy Y VY oz cz Z lb lc := h.keeps k (fun _ _ _ h => h)
/-- the k-th list of bytes told -/
def P3 (X Y Z : Nat → Option Addr × Nat) (k : Nat) : Option Addr × Nat := if k % 3 = 0 then X (k / 3) else if k % 3 = 1 then Y (k / 3) else Z (k / 3)
def el3 (X Y Z : Nat → Option Addr × Nat) (lb lc : List UInt8) (k : Nat) : LS UInt8 := ⟨(P3 X Y Z k).1, (P3 X Y Z k).2, bsAt lb lc (k / 3)⟩
def LL (X Y Z : Nat → Option Addr × Nat) (lb lc : List UInt8) (n : Nat) : List (LS UInt8) := (List.range n).map (el3 X Y Z lb lc)
theorem LL_len (n : Nat) : (LL X Y Z lb lc n).length = n := by simp [LL]
theorem LL_next (i : Nat) : LL X Y Z lb lc (3 * (i + 1)) = LL X Y Z lb lc (3 * i) ++ [⟨(X i).1, (X i).2, bsAt lb lc i⟩, ⟨(Y i).1, (Y i).2, bsAt lb lc i⟩, ⟨(Z i).1, (Z i).2, bsAt lb lc i⟩] := by
  have e0 : el3 X Y Z lb lc (3 * i) = ⟨(X i).1, (X i).2, bsAt lb lc i⟩ := by
    unfold el3 P3
    rw [if_pos (by omega), show 3 * i / 3 = i by omega]
  have e1 : el3 X Y Z lb lc (3 * i + 1) = ⟨(Y i).1, (Y i).2, bsAt lb lc i⟩ := by
    unfold el3 P3
    rw [if_neg (by omega), if_pos (by omega), show (3 * i + 1) / 3 = i by omega]
  have e2 : el3 X Y Z lb lc (3 * i + 2) = ⟨(Z i).1, (Z i).2, bsAt lb lc i⟩ := by
    unfold el3 P3
    rw [if_neg (by omega), if_neg (by omega), show (3 * i + 2) / 3 = i by omega]
  unfold LL
  rw [show 3 * (i + 1) = 3 * i + 1 + 1 + 1 by omega, List.range_succ, List.range_succ, List.range_succ]
  simp [e0, e1, e2]
theorem Thr.el (h : Thr w A B C D ox cx X VX oy cy Y VY oz cz Z lb lc) {k : Nat} (hk : k < 12) : Oz BE w (P3 X Y Z k).1 (P3 X Y Z k).2 (bsAt lb lc (k / 3)) ∧ ∀ i, zO (P3 X Y Z k).1 (P3 X Y Z k).2 i → A ≤ i ∧ i < D ∧ (k % 3 = 0 → i < B) ∧ (k % 3 = 1 → B ≤ i ∧ i < C) ∧ (k % 3 = 2 → C ≤ i) := by
  have := h.ab
  have := h.bc
  have := h.cd
  have hk3 : k / 3 < 4 := by omega
  obtain ⟨gx, ex, _⟩ := h.x.blk
  obtain ⟨gy, ey, _⟩ := h.y.blk
  obtain ⟨gz, ez, _⟩ := h.z.blk
  obtain ⟨_, _, x3, x4⟩ := h.x.at ex hk3
  obtain ⟨_, _, y3, y4⟩ := h.y.at ey hk3
  obtain ⟨_, _, z3, z4⟩ := h.z.at ez hk3
  have hm : k % 3 = 0 ∨ k % 3 = 1 ∨ k % 3 = 2 := by omega
  unfold P3
  rcases hm with e | e | e
  · rw [if_pos e]
    exact ⟨x3, fun i hi => by have := x4 i hi; omega⟩
  · rw [if_neg (by omega), if_pos e]
    exact ⟨y3, fun i hi => by have := y4 i hi; omega⟩
  · rw [if_neg (by omega), if_neg (by omega)]
    exact ⟨z3, fun i hi => by have := z4 i hi; omega⟩
theorem Thr.apart (h : Thr w A B C D ox cx X VX oy cy Y VY oz cz Z lb lc) {a b : Nat} (ha : a < 12) (hb : b < 12) (hab : a ≠ b) : ∀ i, zO (P3 X Y Z a).1 (P3 X Y Z a).2 i → ¬ zO (P3 X Y Z b).1 (P3 X Y Z b).2 i := by
  intro i h1 h2
  have q1 := (h.el ha).2 i h1
  have q2 := (h.el hb).2 i h2
  by_cases e : a % 3 = b % 3
  · have ne : a / 3 ≠ b / 3 := by omega
    have hm : a % 3 = 0 ∨ a % 3 = 1 ∨ a % 3 = 2 := by omega
    unfold P3 at h1 h2
    rcases hm with e0 | e0 | e0
    · rw [if_pos e0] at h1
      rw [if_pos (by omega)] at h2
      exact h.x.ap (by omega) (by omega) ne i h1 h2
    · rw [if_neg (by omega), if_pos e0] at h1
      rw [if_neg (by omega), if_pos (by omega)] at h2
      exact h.y.ap (by omega) (by omega) ne i h1 h2
    · rw [if_neg (by omega), if_neg (by omega)] at h1
      rw [if_neg (by omega), if_neg (by omega)] at h2
      exact h.z.ap (by omega) (by omega) ne i h1 h2
  · obtain ⟨_, _, q3, q4, q5⟩ := q1
    obtain ⟨_, _, r3, r4, r5⟩ := q2
    have := h.ab
    have := h.bc
    have hma : a % 3 = 0 ∨ a % 3 = 1 ∨ a % 3 = 2 := by omega
    have hmb : b % 3 = 0 ∨ b % 3 = 1 ∨ b % 3 = 2 := by omega
    rcases hma with ea | ea | ea <;> rcases hmb with eb | eb | eb
    · omega
    · have := q3 ea; have := r4 eb; omega
    · have := q3 ea; have := r5 eb; omega
    · have := q4 ea; have := r3 eb; omega
    · omega
    · have := q4 ea; have := r5 eb; omega
    · have := q5 ea; have := r3 eb; omega
    · have := q5 ea; have := r4 eb; omega
    · omega
/-- all that the first 'marks' asks -/
theorem Thr.mks (h : Thr w A B C D ox cx X VX oy cy Y VY oz cz Z lb lc) {ol : Option Addr} {cl : Nat} {fo : Option Addr} {fc : Nat} (ho : Own XE w ol cl (LL X Y Z lb lc 12 ++ [⟨fo, fc, lb⟩])) (hf : Oz BE w fo fc lb) (hfn : ∀ i, zO fo fc i → ¬ (A ≤ i ∧ i < D)) (hb : lb.length ≤ 140737488351232) (hc : lc.length ≤ 140737488351232) : Mks w ol (LL X Y Z lb lc 12 ++ [⟨fo, fc, lb⟩]) := by
  have hl : (LL X Y Z lb lc 12 ++ [(⟨fo, fc, lb⟩ : LS UInt8)]).length = 13 := by rw [List.length_append, LL_len]; rfl
  have g1 : ∀ i, i < 12 → (LL X Y Z lb lc 12 ++ [(⟨fo, fc, lb⟩ : LS UInt8)]).getD i ls0 = el3 X Y Z lb lc i := by
    intro i hi
    rw [List.getD_eq_getElem?_getD, List.getElem?_append_left (by rw [LL_len]; exact hi)]
    simp [LL, hi]
  have g2 : (LL X Y Z lb lc 12 ++ [(⟨fo, fc, lb⟩ : LS UInt8)]).getD 12 ls0 = ⟨fo, fc, lb⟩ := getD_last _ _ _ (LL_len 12)
  have hbs : ∀ j, (bsAt lb lc j).length ≤ 140737488351232 := by
    intro j; unfold bsAt; split
    · exact hc
    · exact hb
  refine ⟨ho.row, by rw [hl]; decide, fun i hi => ?_, fun i hi => ?_, fun i j hi hj hij k => ?_, fun k hk => ?_⟩
  · rw [hl] at hi
    by_cases e : i < 12
    · rw [g1 i e]; exact (h.el e).1
    · obtain rfl : i = 12 := by omega
      rw [g2]; exact hf
  · rw [hl] at hi
    by_cases e : i < 12
    · rw [g1 i e]; exact hbs _
    · obtain rfl : i = 12 := by omega
      rw [g2]; exact hb
  · rw [hl] at hi hj
    by_cases e1 : i < 12
    · rw [g1 i e1]
      by_cases e2 : j < 12
      · rw [g1 j e2]; exact h.apart e1 e2 hij k
      · obtain rfl : j = 12 := by omega
        rw [g2]
        intro a b
        have := (h.el e1).2 k a
        exact hfn k b ⟨this.1, this.2.1⟩
    · obtain rfl : i = 12 := by omega
      rw [g2]
      by_cases e2 : j < 12
      · rw [g1 j e2]
        intro a b
        have := (h.el e2).2 k b
        exact hfn k a ⟨this.1, this.2.1⟩
      · omega
  · obtain ⟨cur, hcur⟩ := ho.tag k hk
    exact ⟨cur, _, hcur⟩
/-- which blocks 'marks' turns -/
theorem Thr.turned (h : Thr w A B C D ox cx X VX oy cy Y VY oz cz Z lb lc) {fo : Option Addr} {fc : Nat} {i : Nat} (hi : Blk (LL X Y Z lb lc 12 ++ [(⟨fo, fc, lb⟩ : LS UInt8)]) i) : (A ≤ i ∧ i < D) ∨ zO fo fc i := by
  obtain ⟨k, hk, hz⟩ := hi
  rw [List.length_append, LL_len] at hk
  by_cases e : k < 12
  · rw [List.getD_eq_getElem?_getD, List.getElem?_append_left (by rw [LL_len]; exact e)] at hz
    have e1 : ((LL X Y Z lb lc 12)[k]?.getD ls0) = el3 X Y Z lb lc k := by simp [LL, e]
    rw [e1] at hz
    have := (h.el e).2 i hz
    exact .inl ⟨this.1, this.2.1⟩
  · have hk12 : k = 12 := by simp at hk; omega
    subst hk12
    rw [getD_last _ _ _ (LL_len 12)] at hz
    exact .inr hz
end
/-- four frames' senders, as they stand -/
def Frm (w : World) (o : Option Addr) (V : Nat → Int) : Prop := ∃ c rs, Own FE w o c rs ∧ rs.length = 4 ∧ ∀ j, j < 4 → (rs.getD j rf0).frm = V j
theorem Tld.frm {w : World} {o : Option Addr} {c : Nat} {X : Nat → Option Addr × Nat} {V : Nat → Int} {lb lc : List UInt8} {lo hi : Nat} (h : Tld w o c X V lb lc lo hi) : Frm w o V := by
  obtain ⟨rs, fs, h1, h2, h3, h4⟩ := h
  exact ⟨c, rs, h1.own, by rw [h1.len, h2], fun j hj => by rw [(h1.each j (by omega)).frm]; exact (h3 j hj).2.2.2⟩
theorem Frm.keeps {S : Nat → Prop} {w w' : World} {o : Option Addr} {V : Nat → Int} (h : Frm w o V) (k : Keeps S w w') (hs : ∀ i, inO o i → ¬ S i) : Frm w' o V := by
  obtain ⟨c, rs, h1, h2, h3⟩ := h
  exact ⟨c, rs, h1.keeps k hs, h2, h3⟩
theorem Frm.blk {w : World} {o ol : Option Addr} {V : Nat → Int} {ls : List (LS UInt8)} (h : Frm w o V) (hm : Mks w ol ls) : ∀ i, inO o i → ¬ Blk ls i := by
  rintro i hi ⟨k, hk, hz⟩
  obtain ⟨c, rs, h1, _⟩ := h
  obtain ⟨ca, ha⟩ := h1.tag i hi
  obtain ⟨cb, hb⟩ := (hm.x k hk).tag i hz
  rw [ha] at hb
  injection hb with hb
  injection hb with _ hb _
  exact absurd hb (by decide)
theorem Frm.at {w : World} {o : Option Addr} {V : Nat → Int} (h : Frm w o V) {g : Nat} (hg : o = some ⟨g, 0, none⟩) {j : Nat} (hj : j < 4) : w.cell? ⟨g, j * 4 + 1, none⟩ = some (.int .i64 (V j)) := by
  obtain ⟨c, rs, h1, h2, h3⟩ := h
  obtain ⟨g', e, _, A⟩ := own_at4 okF h1 (j := j) (by omega)
  rw [hg] at e
  cases e
  have c1 := A.c1
  rw [Nat.zero_add, h3 j hj] at c1
  exact c1
end Go.Proofs.Ytdbejihkliafiaa
