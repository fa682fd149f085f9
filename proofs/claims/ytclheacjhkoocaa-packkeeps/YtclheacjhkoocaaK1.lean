import Derived.Test.YtclheacjhkoocaaB3
namespace Go.Proofs.Ytclheacjhkoocaa
open Go.RowKit
open Pk
set_option linter.unusedVariables false
set_option linter.unusedSimpArgs false

theorem info23 : (Try.prog.info? 23).map (fun i => (i.zero, i.size, i.bytes)) = some (some (.slice none 0 0), 1, 24) := by kernel_rfl

/-- a slice of bytes as a value, with what it holds -/
structure SlV where
  o : Option Addr
  c : Nat
  bs : List Nat
def SlV.val (x : SlV) : Value := .slice x.o x.bs.length x.c
def slv0 : SlV := ⟨none, 0, []⟩

/-- what a list of slices shows -/
def RowX (w : World) (a : Option Addr) (xs : List SlV) : Prop :=
  xs = [] ∨ ∃ b off, a = some ⟨b, off, none⟩ ∧ ∀ j, j < xs.length → w.cell? ⟨b, off + j, none⟩ = some (xs.getD j slv0).val
theorem RowX.keeps {S : Nat → Prop} {w w' : World} {a : Option Addr} {xs : List SlV} (h : RowX w a xs) (hk : Keeps S w w') (ha : ∀ k, inO a k → ¬ S k) : RowX w' a xs := by
  rcases h with h | ⟨b, off, rfl, hc⟩
  · exact .inl h
  · exact .inr ⟨b, off, rfl, fun j hj => hk.cell (hc j hj) (by have := ha b ⟨_, rfl, rfl⟩; exact this)⟩
/-- a list of slices of the call's own -/
def OwnsX (w : World) (o : Option Addr) (c : Nat) (xs : List SlV) : Prop := w.ownsRow 0 23 1 (.slice o xs.length c) xs.length (xs.map SlV.val)
theorem OwnsX.shape {w : World} {o : Option Addr} {c : Nat} {xs : List SlV} (h : OwnsX w o c xs) : (o = none ∧ c = 0 ∧ xs = []) ∨ ∃ g, o = some ⟨g, 0, none⟩ := by
  rcases h.2 with ⟨e, h0⟩ | ⟨g, cap, cur, e, _, h1, h2, h3, h4, h5⟩
  · injection e with e1 e2 e3
    exact .inl ⟨e1, e3, List.length_eq_zero_iff.mp h0⟩
  · injection e with e1 e2 e3
    exact .inr ⟨g, e1⟩
theorem OwnsX.keeps {S : Nat → Prop} {w w' : World} {o : Option Addr} {c : Nat} {xs : List SlV} (h : OwnsX w o c xs) (hk : Keeps S w w') (hv : ∀ k, inO o k → ¬ S k) : OwnsX w' o c xs :=
  ownsRow_keeps h hk (fun k hh => hv k ((own_blk _ _ _ _).1 hh))
theorem OwnsX.alloc {w : World} {o : Option Addr} {c : Nat} {xs : List SlV} (h : OwnsX w o c xs) (x : Obj) : OwnsX (w.alloc x) o c xs := World.ownsRow.alloc h x
theorem ownsX_nil (w : World) : OwnsX w none 0 [] := World.ownsRow_nil w 0 23 1
theorem OwnsX.row {w : World} {o : Option Addr} {c : Nat} {xs : List SlV} (h : OwnsX w o c xs) : RowX w o xs := by
  rcases h.shape with ⟨_, _, e⟩ | ⟨g, rfl⟩
  · exact .inl e
  · refine .inr ⟨g, 0, rfl, fun j hj => ?_⟩
    rw [Nat.zero_add, World.ownsRow.cellAt h j (by omega)]
    simp [hj]
theorem OwnsX.lt {w : World} {o : Option Addr} {c : Nat} {xs : List SlV} (h : OwnsX w o c xs) : ∀ k, inO o k → k < w.heap.size := by
  rintro k ⟨x, rfl, rfl⟩
  exact (World.ownsRow.lt h x.block rfl).2
theorem ownsX_val {w : World} {v : Value} {n : Nat} {xs : List SlV} (h : w.ownsRow 0 23 1 v n (xs.map SlV.val)) : ∃ o c, v = .slice o n c ∧ n = xs.length ∧ OwnsX w o c xs := by
  have hn : n = xs.length := by have := h.1; simp at this; omega
  rcases h.2 with ⟨e, h0⟩ | ⟨g, cap, cur, e, _⟩
  · refine ⟨none, 0, by rw [e, h0], hn, ?_⟩
    unfold OwnsX
    rw [← hn, h0]
    rw [e, h0] at h
    exact h
  · refine ⟨_, _, e, hn, ?_⟩
    unfold OwnsX
    rw [← hn, ← e]
    exact h
theorem RowX.news {w : World} {ad : Addr} {xs : List SlV} (h : RowX w (some ad) xs) : ∀ j u, (xs.map SlV.val)[j]? = some u → w.cell? (ad.add j) = some u := by
  intro j u hj
  have hjl : j < xs.length := by
    have := (List.getElem?_eq_some_iff.mp hj).1
    simpa using this
  rcases h with h | ⟨b, off, h, hc⟩
  · rw [h] at hjl; simp at hjl
  · cases h
    have := hc j hjl
    rw [← addr_add] at this
    have e : u = (xs.getD j slv0).val := by
      simp [hjl] at hj
      simp [hjl, hj]
    rw [e]
    exact this
/-- append(l, x..) of slices onto a list of the call's own -/
theorem wpList_appX {w : World} {ops : Array Oper} {rest : List Oper} {o : Oper} {a : Act} {Q : Exit → Act → World → Prop} (hgd : o.guard = none) (s x : Operand)
    (ho : o.op = .call { callee := .builtin .append, args := #[s, x], argTypes := #[30, 30] })
    (oa : Option Addr) (n c : Nat) (xs : List SlV) (hs : a.eval s = .slice oa n c) (hn : n = xs.length) (hown : OwnsX w oa c xs)
    (ad : Addr) (m d : Nat) (news : List SlV) (hx : a.eval x = .slice (some ad) m d) (hm : m = news.length) (hrow : RowX w (some ad) news)
    (hb : (n + m) * 24 ≤ 140737488355328)
    (h : ∀ o' c' w', OwnsX w' o' c' (xs ++ news) → Fresh w oa o' → Keeps (inO oa) w w' → wpList Try.prog ops Q rest (a.put o.dst (.slice o' (n + m) c')) w') : wpList Try.prog ops Q (o :: rest) a w := by
  obtain ⟨i0, hi, hz0, hz1, hz2⟩ := info_parts info23
  subst hn hm
  refine wpList_append_own_at _ hgd s x 30 ho 0 23 i0 (.slice none 0 0) 1 24 Try.underlying30 hi hz0 hz1 hz2 rfl (by decide) _ xs.length (xs.map SlV.val) hs hown ad _ _ (news.map SlV.val) hx (by simp) hrow.news (by intro u hu; simp at hu; obtain ⟨c, _, rfl⟩ := hu; rfl) (by unfold maxLen; omega) (by omega) (Nat.zero_le _) ?_
  intro v' w' hown' hg _ hat
  rw [← List.map_append] at hown'
  obtain ⟨o', c', rfl, hlen, hown''⟩ := ownsX_val hown'
  refine h o' c' w' hown'' ?_ ((Keeps.refl _ _).grown hg (fun k hk => .inl ((own_blk _ _ _ _).1 hk)))
  rcases hown''.shape with ⟨e, _⟩ | ⟨g, e⟩ <;> rcases hown.shape with ⟨e', _⟩ | ⟨g', e'⟩ <;> subst e <;> subst e'
  · exact .inl rfl
  · rcases hat with hat | hat <;> cases hat
  · rcases hat with hat | hat
    · cases hat
    · simp [Value.ownBlock] at hat; exact .inr ⟨g, rfl, by omega⟩
  · rcases hat with hat | hat
    · simp [Value.ownBlock] at hat; rw [hat]; exact .inl rfl
    · simp [Value.ownBlock] at hat; exact .inr ⟨g, rfl, by omega⟩

/-- append of bytes: where it grows the old block is let alone -/
theorem wpList_app3 {w : World} {ops : Array Oper} {rest : List Oper} {o : Oper} {a : Act} {Q : Exit → Act → World → Prop} (hgd : o.guard = none) (s x : Operand)
    (ho : o.op = .call { callee := .builtin .append, args := #[s, x], argTypes := #[23, 23] })
    (oa : Option Addr) (n c : Nat) (bs : List Nat) (hs : a.eval s = .slice oa n c) (hn : n = bs.length) (hown : Owns w oa c bs)
    (ad : Addr) (m d : Nat) (news : List Nat) (hx : a.eval x = .slice (some ad) m d) (hm : m = news.length) (hrow : Row w (some ad) news)
    (hb : n + m ≤ 140737488355328)
    (h : ∀ o' c' w', Owns w' o' c' (bs ++ news) → ((o' = oa ∧ Keeps (inO oa) w w') ∨ ((∃ g, o' = some ⟨g, 0, none⟩ ∧ w.heap.size ≤ g) ∧ Keeps (fun _ => False) w w')) → wpList Try.prog ops Q rest (a.put o.dst (.slice o' (n + m) c')) w') : wpList Try.prog ops Q (o :: rest) a w := by
  obtain ⟨i0, hi, hz0, hz1, hz2⟩ := info_parts info5
  subst hn hm
  have hmx : bs.length + news.length ≤ maxLen := by unfold maxLen; omega
  obtain ⟨v', w', hr, h2, h3, _, hat⟩ := run_append_own_at (P := Try.prog) w 0 23 o.type 5 i0 (.int .u8 0) 1 1 Try.underlying23 hi hz0 hz1 hz2 rfl (by decide) _ _ _ hown ad news.length d (vals news) (by simp [vals]) hrow.news vals_one hmx (by omega) (Nat.zero_le _)
  rw [← vals_append] at h2
  obtain ⟨o', c', rfl, hlen, hown''⟩ := owns_val h2
  have key : (o' = oa ∧ Keeps (inO oa) w w') ∨ ((∃ g, o' = some ⟨g, 0, none⟩ ∧ w.heap.size ≤ g) ∧ Keeps (fun _ => False) w w') := by
    have hk : Keeps (inO oa) w w' := (Keeps.refl _ _).grown h3 (fun k hk => .inl ((own_blk _ _ _ _).1 hk))
    rcases hown.shape with ⟨rfl, rfl, rfl⟩ | ⟨g, cur, rfl, hg, hnc, hcm, hcs, htake⟩
    · have hk0 : Keeps (fun _ => False) w w' := hk.mono (fun i ⟨x, h, _⟩ => by cases h)
      rcases hown''.shape with ⟨e, _⟩ | ⟨g', cur', e, _⟩
      · exact .inl ⟨e, hk⟩
      · subst e
        rcases hat with hat | hat
        · cases hat
        · simp [Value.ownBlock] at hat
          exact .inr ⟨⟨g', rfl, by omega⟩, hk0⟩
    · by_cases hroom : bs.length + news.length ≤ c
      · have hr2 := run_append_room (P := Try.prog) w 23 o.type 5 i0 Try.underlying23 hi g bs.length c cur hg ad news.length d (vals news) (by rw [hz1]; simp [vals]) hrow.news vals_one hroom (by rw [hz1, vals_length]; omega)
        have := hr.symm.trans hr2
        injection this with e1 _
        injection e1 with e1 _ _
        exact .inl ⟨e1, hk⟩
      · have hr2 := run_append_grow (P := Try.prog) w 23 o.type 5 i0 (.int .u8 0) Try.underlying23 hi hz0 ⟨g, 0, none⟩ bs.length c (vals bs) (by rw [hz1]; simp [vals]) (hown.cells (g := g) rfl) ad news.length d (vals news) (by rw [hz1]; simp [vals]) hrow.news (by omega) (by omega) (by rw [hz2]; exact growslice_fits (by omega) (by omega))
        have := hr.symm.trans hr2
        injection this with e1 e2
        injection e1 with e1 _ _
        refine .inr ⟨⟨_, e1, Nat.le_refl _⟩, ?_⟩
        rw [e2]
        exact ((Keeps.refl _ w).drew).alloc _
  refine wpList_plain hgd fun K hK => ?_
  unfold Oper.wp execOp
  simp only [ho, resolve, invoke, builtin, Sem.run_bind, Sem.run_pure, Result.andThen_ok, List.map_toArray, List.map_cons, List.map_nil, hs, hx, hr]
  exact hK _ _ (h o' c' w' hown'' key)

/-- one byte stored into a slice of the call's own -/
theorem Owns.store {w : World} {o : Option Addr} {c : Nat} {bs : List Nat} (h : Owns w o c bs) (j : Nat) (hj : j < bs.length) (m : Nat) :
    ∃ g, o = some ⟨g, 0, none⟩ ∧ w.cell? ⟨g, j, none⟩ = some (.int .u8 (bs.getD j 0 : Nat)) ∧ w.frozen? ⟨g, j, none⟩ = false ∧ Owns (w.setCell ⟨g, j, none⟩ (.int .u8 (m : Nat))) o c (bs.set j m) ∧ Keeps (inO o) w (w.setCell ⟨g, j, none⟩ (.int .u8 (m : Nat))) := by
  rcases h.shape with ⟨_, _, e⟩ | ⟨g, cur, rfl, hg, hc, hm, hs, ht⟩
  · rw [e] at hj; simp at hj
  · refine ⟨g, rfl, ?_, frozen_of_blk hg j, ?_, (Keeps.refl _ _).setCell (.inl ⟨_, rfl, rfl⟩) _⟩
    · rw [World.ownsRow.cellAt h j (by omega)]
      simp [vals, hj]
    · refine ⟨by simp [vals], .inr ⟨g, c, cur.setIfInBounds j (.int .u8 (m : Nat)), by simp, Nat.zero_le _, blk_set hg j _, by simpa using hc, hm, by simp [hs], ?_⟩⟩
      simp only [Array.toList_setIfInBounds, Nat.mul_one, List.length_set]
      rw [List.take_set, ht]
      simp [vals, List.map_set]
end Go.Proofs.Ytclheacjhkoocaa
