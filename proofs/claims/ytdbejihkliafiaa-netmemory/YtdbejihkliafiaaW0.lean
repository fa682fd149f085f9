/- A flight in memory: a window of a row of its own. -/
import Derived.Test.YtdbejihkliafiaaN1
import Derived.ArgAppend
import Derived.Deep.RegionLaw
import Derived.Deep.RegionHeld3
namespace Go.Proofs.Ytdbejihkliafiaa
open Go.RowKit Go.Sort
set_option linter.unusedVariables false
set_option linter.unusedSimpArgs false

def UE : El Fr := ⟨67, 60, 4, 40, fun f => [.int .i64 (f.num : Nat), .int .i64 f.frm, .int .i64 f.dst, .string (mkT f.bs)]⟩
theorem infoUE : (Try.prog.info? 67).map (fun i => (i.zero, i.size, i.bytes)) = some (some (.agg #[.int .i64 0, .int .i64 0, .int .i64 0, .string ⟨#[]⟩]), 4, 40) := by kernel_rfl
theorem okU : UE.Ok := by
  obtain ⟨i0, hi, hz0, hz1, hz2⟩ := info_parts infoUE
  exact ⟨fun _ => rfl, fun x u hu => by simp [UE] at hu; rcases hu with rfl | rfl | rfl | rfl <;> rfl, by decide, Try.underlying60, i0, _, hi, hz0, hz1, hz2, rfl⟩

/-- a window of a row of the call's own -/
def Win {α : Type} (E : El α) (w : World) (o : Option Addr) (c : Nat) (xs : List α) : Prop :=
  xs.length ≤ c ∧ ((o = none ∧ c = 0) ∨ ∃ (g off : Nat) (cur : Array Value), o = some ⟨g, off, none⟩ ∧ w.heap[g]? = some (.cells cur E.e (0, 0)) ∧ off + c * E.k ≤ cur.size ∧ c ≤ maxLen ∧ ∀ j u, (E.cells xs)[j]? = some u → cur[off + j]? = some u)
section
variable {α : Type} {E : El α} {w w' : World} {o : Option Addr} {c : Nat} {xs : List α}
theorem win_nil (w : World) : Win E w none 0 [] := ⟨Nat.le_refl _, .inl ⟨rfl, rfl⟩⟩
theorem Own.win (h : Own E w o c xs) : Win E w o c xs := by
  rcases h.shape with ⟨e1, e2, e3⟩ | ⟨g, cur, e1, e2, e3, e4, e5, e6⟩
  · subst e3; exact ⟨by simp, .inl ⟨e1, e2⟩⟩
  · refine ⟨e3, .inr ⟨g, 0, cur, e1, e2, by omega, e4, fun j u hj => ?_⟩⟩
    rw [Nat.zero_add, ← Array.getElem?_toList]
    rw [← e6, List.getElem?_take] at hj
    split at hj
    · exact hj
    · cases hj
theorem Win.keeps {S : Nat → Prop} (h : Win E w o c xs) (k : Keeps S w w') (hs : ∀ i, inO o i → ¬ S i) : Win E w' o c xs := by
  refine ⟨h.1, ?_⟩
  rcases h.2 with h2 | ⟨g, off, cur, e1, e2, e3⟩
  · exact .inl h2
  · exact .inr ⟨g, off, cur, e1, k.at e2 (hs g ⟨_, e1, rfl⟩), e3⟩
theorem Win.keepsN (h : Win E w o c xs) (k : Keeps no w w') : Win E w' o c xs := h.keeps k (fun _ _ h => h)
theorem Win.row (h : Win E w o c xs) : Row E w o xs := by
  rcases h.2 with ⟨_, e⟩ | ⟨g, off, cur, e1, e2, _, _, e3⟩
  · refine .inl ?_
    have := h.1
    exact List.length_eq_zero_iff.1 (by omega)
  · refine .inr ⟨g, off, e1, fun j u hj => ?_⟩
    rw [cell_of_blk e2]; exact e3 j u hj
theorem Win.sl (h : Win E w o c xs) : Sl E w o c xs := by
  refine ⟨h.row, h.1, fun e => ?_⟩
  rcases h.2 with ⟨_, e'⟩ | ⟨g, off, cur, e1, _⟩
  · exact e'
  · rw [e1] at e; cases e
theorem Win.tag (h : Win E w o c xs) : ∀ k, inO o k → ∃ cur, w.heap[k]? = some (.cells cur E.e (0, 0)) := by
  rintro k ⟨x, e, rfl⟩
  rcases h.2 with ⟨e', _⟩ | ⟨g, off, cur, e1, e2, _⟩
  · rw [e'] at e; cases e
  · rw [e1] at e; cases e; exact ⟨cur, e2⟩
theorem Win.lt (h : Win E w o c xs) : ∀ k, inO o k → k < w.heap.size := fun k hk => by
  obtain ⟨cur, h1⟩ := h.tag k hk; exact lt_of_block h1
theorem Win.max (h : Win E w o c xs) : c ≤ maxLen := by
  rcases h.2 with ⟨_, e⟩ | ⟨g, off, cur, _, _, _, e, _⟩
  · omega
  · exact e
/-- append(s, x...) -/
theorem run_winApp (hE : E.Ok) (w : World) (ty : TypeId) (oa : Option Addr) (c : Nat) (xs : List α) (hown : Win E w oa c xs) (ad : Addr) (d : Nat) (news : List α) (hrow : Row E w (some ad) news)
    (hb : (xs.length + news.length) * E.nb ≤ 140737488355328) (hb2 : xs.length + news.length ≤ 140737488355328) :
    ∃ o' c' w', (Builtin.append_ #[E.t, E.t] ty #[.slice oa xs.length c, .slice (some ad) news.length d]).run Try.prog w = .ok (.slice o' (xs.length + news.length) c') w' ∧ Win E w' o' c' (xs ++ news) ∧ Ap w oa o' w' := by
  rcases hown.2 with ⟨rfl, rfl⟩ | ⟨g, off, cur, rfl, hg, hcs, hcm, hce⟩
  · have hx : xs = [] := by have := hown.1; exact List.length_eq_zero_iff.1 (by omega)
    subst hx
    obtain ⟨o', c', w', h1, h2, h3⟩ := run_app hE w ty none 0 [] (own_nil w) (some ad) d news (fun h => by cases h) hrow hb hb2
    exact ⟨o', c', w', h1, h2.win, h3⟩
  · obtain ⟨i0, z, hi, hz0, hz1, hz2, hz3⟩ := hE.inf
    have hmx : xs.length + news.length ≤ maxLen := by unfold maxLen; omega
    have hlx : (E.cells xs).length = xs.length * E.k := cells_length hE xs
    have hln : (E.cells news).length = news.length * E.k := cells_length hE news
    by_cases hroom : xs.length + news.length ≤ c
    · have hfit : off + xs.length * E.k + news.length * E.k ≤ cur.size := by
        have := Nat.mul_le_mul_right E.k hroom
        rw [Nat.add_mul] at this; omega
      have hr := run_append_room_cells (P := Try.prog) w E.t ty E.e i0 hE.und hi g off xs.length c ad news.length d (E.cells news) (by rw [hz1, hln]) hrow.news (cells_one hE news) hroom (fun j hj => by
        rw [cell_of_blk hg, hz1]; simp; omega) (fun j hj => frozen_of_blk hg _)
      rw [hz1] at hr
      obtain ⟨cur', h1, h2, h3⟩ := blk_setCells (E.cells news) (off + xs.length * E.k) hg
      have hkk : Keeps (inO (some ⟨g, off, none⟩)) w (w.setCells g (off + xs.length * E.k) (E.cells news)) := keeps_setCells' _ _ (Keeps.refl _ w) (.inl ⟨_, rfl, rfl⟩)
      refine ⟨_, _, _, hr, ⟨by simpa using hroom, .inr ⟨g, off, cur', rfl, h1, by omega, hcm, fun j u hj => ?_⟩⟩, .inl ⟨rfl, hkk⟩⟩
      rw [cells_append] at hj
      rw [h3]
      by_cases hjl : j < xs.length * E.k
      · rw [if_neg (by omega)]
        rw [List.getElem?_append_left (by omega)] at hj
        exact hce j u hj
      · rw [List.getElem?_append_right (by omega)] at hj
        have := (List.getElem?_eq_some_iff.1 hj).1
        rw [if_pos (by omega), ← hj, hlx]
        congr 1; omega
    · obtain ⟨v', w', hr, h2, h3⟩ := run_append_arg_grows (P := Try.prog) w E.t ty E.e i0 z E.k E.nb hE.und hi hz0 hz1 hz2 hz3 hE.pos ⟨g, off, none⟩ xs.length c (E.cells xs) hlx (fun j u hj => by rw [addr_add, cell_of_blk hg]; exact hce j u hj) ad news.length d (E.cells news) hln hrow.news (by omega) hmx hb
      rw [← cells_append] at h2
      have hk : Keeps no w w' := (Keeps.refl no w).grown h3 (fun k hk => by cases hk)
      rcases h2.2 with ⟨_, h0⟩ | ⟨g', cap', cur', rfl, hbg, hh, h4, h5, h6, h7⟩
      · omega
      · refine ⟨_, _, w', hr, ⟨by simpa using h4, .inr ⟨g', 0, cur', rfl, hh, by omega, h5, fun j u hj => ?_⟩⟩, .inr ⟨⟨g', rfl, hbg⟩, hk⟩⟩
        rw [Nat.zero_add, ← Array.getElem?_toList]
        rw [← h7, List.getElem?_take] at hj
        split at hj
        · exact hj
        · cases hj
theorem step_winApp (hE : E.Ok) {ops : Array Oper} {o : Oper} {a : Act} {K : Act → World → Prop} {Q : Exit → Act → World → Prop} {Ep : Prop} (hgd : o.guard = none) (s x : Operand)
    (ho : o.op = .call { callee := .builtin .append, args := #[s, x], argTypes := #[E.t, E.t] })
    (oa : Option Addr) (n c : Nat) (xs : List α) (hs : a.eval s = .slice oa n c) (hn : n = xs.length) (hown : Win E w oa c xs)
    (ad : Addr) (m d : Nat) (news : List α) (hx : a.eval x = .slice (some ad) m d) (hm : m = news.length) (hrow : Row E w (some ad) news)
    (hb : (xs.length + news.length) * E.nb ≤ 140737488355328) (hb2 : xs.length + news.length ≤ 140737488355328)
    (h : ∀ o' c' w', Win E w' o' c' (xs ++ news) → Ap w oa o' w' → K (a.put o.dst (.slice o' (n + m) c')) w') :
    if Region.wanted o (yielded ops a.tmps) = true then Oper.wp Try.prog o a w K Q else Ep := by
  have hw : Region.wanted o (yielded ops a.tmps) = true := by simp [Region.wanted, hgd]
  rw [if_pos hw]
  subst hn hm
  obtain ⟨o', c', w', hr, h1, h2⟩ := run_winApp hE w o.type oa c xs hown ad d news hrow hb hb2
  unfold Oper.wp execOp
  simp only [ho, resolve, invoke, builtin, Sem.run_bind, Sem.run_pure, Result.andThen_ok, List.map_toArray, List.map_cons, List.map_nil, hs, hx, hr]
  exact h o' c' w' h1 h2
end

/-! ### a net in memory -/
def nC (P C : Int) (m : Nat) (v : Value) : Array Value := #[.int .i64 P, .int .i64 C, .int .i64 (m : Nat), v]
structure NuL (w : World) (p : Nat) (F : Nat → Prop) (s : NS) (o : Option Addr) (n c : Nat) : Prop where
  blk : w.heap[p]? = some (.cells (nC s.parts s.clients s.num (.slice o n c)) 62 (0, 0))
  n : n = s.fl.length
  win : Win UE w o c s.fl
  pF : F p
  fF : ∀ i, inO o i → F i
  lt : ∀ i, F i → i < w.heap.size
def IsN (w : World) (p : Nat) (F : Nat → Prop) (s : NS) : Prop := ∃ o n c, NuL w p F s o n c
section
variable {w w' w1 w2 w3 w4 : World} {p : Nat} {F : Nat → Prop} {s : NS} {o : Option Addr} {n c : Nat}
theorem IsN.keeps {S : Nat → Prop} (h : IsN w p F s) (k : Keeps S w w') (hs : ∀ i, F i → ¬ S i) : IsN w' p F s := by
  obtain ⟨o, n, c, h⟩ := h
  exact ⟨o, n, c, k.at h.blk (hs p h.pF), h.n, h.win.keeps k (fun i hi => hs i (h.fF i hi)), h.pF, h.fF, fun i hi => Nat.lt_of_lt_of_le (h.lt i hi) k.size⟩
theorem IsN.keepsN (h : IsN w p F s) (k : Keeps no w w') : IsN w' p F s := h.keeps k (fun _ _ h => h)
theorem IsN.lt (h : IsN w p F s) : ∀ i, F i → i < w.heap.size := by
  obtain ⟨o, n, c, h⟩ := h; exact h.lt
theorem NuL.ne (h : NuL w p F s o n c) : ∀ i, inO o i → ¬ i = p := by
  intro i hi
  obtain ⟨cur, hc⟩ := h.win.tag i hi
  exact tag_ne h.blk hc (by decide)
theorem NuL.cells (h : NuL w p F s o n c) : w.cell? ⟨p, 0, none⟩ = some (.int .i64 s.parts) ∧ w.cell? ⟨p, 1, none⟩ = some (.int .i64 s.clients) ∧ w.cell? ⟨p, 2, none⟩ = some (.int .i64 (s.num : Nat)) ∧ w.cell? ⟨p, 3, none⟩ = some (.slice o n c) :=
  ⟨by rw [cell_of_blk h.blk]; rfl, by rw [cell_of_blk h.blk]; rfl, by rw [cell_of_blk h.blk]; rfl, by rw [cell_of_blk h.blk]; rfl⟩
/-- one more frame -/
theorem NuL.put (h : NuL w p F s o n c) {a b : Int} {bs : List UInt8} (k1 : Keeps (fun i => i = p) w w1) (k2 : Keeps no w1 w2) {o' : Option Addr} {c' : Nat} (ho : Win UE w3 o' c' (s.fl ++ [⟨s.num + 1, a, b, bs⟩])) (hap : Ap w2 o o' w3) (k4 : Keeps (fun i => i = p) w3 w4) (hblk : w4.heap[p]? = some (.cells (nC s.parts s.clients (s.num + 1) (.slice o' (n + 1) c')) 62 (0, 0))) (hp : ∃ cur, w3.heap[p]? = some (.cells cur 62 (0, 0))) :
    ∃ G, IsN w4 p G (putS s a b bs) ∧ (∀ i, G i → F i ∨ w.heap.size ≤ i) ∧ Keeps F w w4 := by
  have k12 : Keeps (fun i => i = p) w w2 := k1.trans k2.of_no
  have ne3 : ∀ i, inO o' i → ¬ i = p := by
    intro i hi
    obtain ⟨cur, hc⟩ := hp
    obtain ⟨cu, hu⟩ := ho.tag i hi
    exact tag_ne hc hu (by decide)
  have w4' := ho.keeps k4 ne3
  have hs12 := k12.size
  have hs3 := hap.keeps.size
  have hs4 := k4.size
  refine ⟨fun i => F i ∨ (w.heap.size ≤ i ∧ i < w4.heap.size), ⟨o', n + 1, c', hblk, by show n + 1 = (s.fl ++ [_]).length; simp [h.n], w4', .inl h.pF, fun i hi => ?_, fun i hi => ?_⟩, fun i hi => hi.imp (fun h => h) (fun h => h.1), ((k12.mono (fun i hi => by subst hi; exact h.pF)).then hap.keeps (fun i hi => .inl (h.fF i hi))).then k4 (fun i hi => by subst hi; exact .inl h.pF)⟩
  · rcases hap.inn i hi with e | e
    · exact .inl (h.fF i e)
    · exact .inr ⟨by omega, w4'.lt i hi⟩
  · rcases hi with hi | hi
    · exact Nat.lt_of_lt_of_le (h.lt i hi) (by omega)
    · exact hi.2
/-- one frame out -/
theorem NuL.del (h : NuL w p F s o n c) {k : Nat} (hk : k < s.fl.length) {S : Nat → Prop} (k1 : Keeps S w w1) (hS : ∀ i, S i → F i) {o' : Option Addr} {n' c' : Nat} (ho : Win UE w1 o' c' (s.fl.eraseIdx k)) (hn' : n' = s.fl.length - 1) (hin : ∀ i, inO o' i → inO o i) (hblk : w1.heap[p]? = some (.cells (nC s.parts s.clients s.num (.slice o' n' c')) 62 (0, 0))) :
    IsN w1 p F (delS s (k : Int)) ∧ Keeps F w w1 := by
  have hh : hasS s (k : Int) = true := (has_iff s k).2 ⟨k, rfl, hk⟩
  have e1 : delS s (k : Int) = { s with fl := s.fl.eraseIdx k } := by unfold delS; rw [if_pos hh]; rfl
  rw [e1]
  exact ⟨⟨o', n', c', hblk, by show n' = (s.fl.eraseIdx k).length; rw [hn', len_erase _ _ hk], ho, h.pF, fun i hi => h.fF i (hin i hi), fun i hi => Nat.lt_of_lt_of_le (h.lt i hi) k1.size⟩, k1.mono hS⟩
end
end Go.Proofs.Ytdbejihkliafiaa
