/- Bytes that were told: written over, lengthened; lists of them. -/
import Derived.Test.YtdbejihkliafiaaW0
namespace Go.Proofs.Ytdbejihkliafiaa
open Go.RowKit Go.Sort
set_option linter.unusedVariables false
set_option linter.unusedSimpArgs false

/-- a list as a value -/
structure LS (α : Type) where
  o : Option Addr
  c : Nat
  xs : List α
def LS.enc {α : Type} (s : LS α) : List Value := [.slice s.o s.xs.length s.c]
def XE : El (LS UInt8) := ⟨22, 47, 1, 24, LS.enc⟩
theorem infoXE : (Try.prog.info? 22).map (fun i => (i.zero, i.size, i.bytes)) = some (some (.slice none 0 0), 1, 24) := by kernel_rfl
theorem okX : XE.Ok := by
  obtain ⟨i0, hi, hz0, hz1, hz2⟩ := info_parts infoXE
  exact ⟨fun _ => rfl, fun x u hu => by simp [XE, LS.enc] at hu; subst hu; rfl, by decide, Try.underlying47, i0, _, hi, hz0, hz1, hz2, rfl⟩
theorem frozenM {w : World} {g : Nat} {cur : Array Value} {t : TypeId} {fz : Nat × Nat} (h : w.heap[g]? = some (.cells cur t fz)) (hz : fz = (0, 0) ∨ cur.size ≤ fz.1) {k : Nat} (hk : k < cur.size) : w.frozen? ⟨g, k, none⟩ = false := by
  obtain ⟨lo, hi⟩ := fz
  simp only [World.frozen?, h]
  rcases hz with e | e
  · cases e; simp
  · simp only at e
    rw [Bool.and_eq_false_iff]
    exact .inl (by simp; omega)
theorem Oz.store {w : World} {o : Option Addr} {c : Nat} {xs : List UInt8} (h : Oz BE w o c xs) (k : Nat) (hk : k < xs.length) (v : UInt8) :
    ∃ g, o = some ⟨g, 0, none⟩ ∧ w.cell? ⟨g, k, none⟩ = some (bv (xs.getD k 0)) ∧ w.frozen? ⟨g, k, none⟩ = false ∧ Oz BE (w.setCell ⟨g, k, none⟩ (bv v)) o c (xs.set k v) ∧ Keeps (zO o c) w (w.setCell ⟨g, k, none⟩ (bv v)) := by
  have hrow := h.row
  rcases h with ⟨_, e⟩ | ⟨hc, g, cur, fz, rfl, hg, hz, h2, h3, h4, h5⟩
  · rw [e] at hk; simp at hk
  · obtain ⟨b, off, e, hcl⟩ := rowB_at hrow hk
    cases e
    rw [Nat.zero_add] at hcl
    have h4' : cur.size = c := by rw [h4]; simp [BE]
    refine ⟨g, rfl, hcl, frozenM hg hz (by omega), .inr ⟨hc, g, _, fz, rfl, blk_set hg k (bv v), by simpa using hz, by simpa using h2, h3, by simpa using h4, ?_⟩, (Keeps.refl _ w).setCell (p := ⟨g, k, none⟩) (.inl ⟨hc, _, rfl, rfl⟩) _⟩
    rw [cells_B] at h5 ⊢
    have hk1 : BE.k = 1 := rfl
    rw [hk1, Nat.mul_one] at h5 ⊢
    simp only [List.length_set, Array.toList_setIfInBounds, List.take_set, h5, List.map_set]
theorem Row.one {α : Type} {E : El α} {w : World} {a : Option Addr} {xs : List α} (h : Row E w a xs) (hx : E.Ok) (hk : E.k = 1) (d : α) {j : Nat} (hj : j < xs.length) (u : Value) (hu : E.enc (xs.getD j d) = [u]) : ∃ b off, a = some ⟨b, off, none⟩ ∧ w.cell? ⟨b, off + j, none⟩ = some u := by
  have hs : Sl E w a xs.length xs := ⟨h, Nat.le_refl _, fun e => by rcases h with h | ⟨b, off, h, _⟩; rw [h]; rfl; rw [h] at e; cases e⟩
  exact hs.one hx hk d hj u hu
def ls0 : LS UInt8 := ⟨none, 0, []⟩
theorem rowX_at {w : World} {a : Option Addr} {ls : List (LS UInt8)} (h : Row XE w a ls) {j : Nat} (hj : j < ls.length) : ∃ b off, a = some ⟨b, off, none⟩ ∧ w.cell? ⟨b, off + j, none⟩ = some (.slice (ls.getD j ls0).o (ls.getD j ls0).xs.length (ls.getD j ls0).c) := h.one okX rfl ls0 hj _ rfl
/-- behind an append: in the old block, or in a new one -/
def ApZ (w : World) (oa : Option Addr) (c : Nat) (o' : Option Addr) (c' : Nat) (w' : World) : Prop := (o' = oa ∧ c' = c ∧ 0 < c ∧ Keeps (zO oa c) w w') ∨ ((∃ g, o' = some ⟨g, 0, none⟩ ∧ w.heap.size ≤ g) ∧ Keeps no w w')
theorem run_ozApp {α : Type} {E : El α} (hE : E.Ok) (w : World) (ty : TypeId) (oa : Option Addr) (c : Nat) (xs : List α) (hown : Oz E w oa c xs) (ad : Addr) (d : Nat) (news : List α) (hne : 0 < news.length) (hrow : Row E w (some ad) news)
    (hb : (xs.length + news.length) * E.nb ≤ 140737488355328) (hb2 : xs.length + news.length ≤ 140737488355328) :
    ∃ o' c' w', (Builtin.append_ #[E.t, E.t] ty #[.slice oa xs.length c, .slice (some ad) news.length d]).run Try.prog w = .ok (.slice o' (xs.length + news.length) c') w' ∧ Oz E w' o' c' (xs ++ news) ∧ ApZ w oa c o' c' w' := by
  obtain ⟨i0, z, hi, hz0, hz1, hz2, hz3⟩ := hE.inf
  have hmx : xs.length + news.length ≤ maxLen := by unfold maxLen; omega
  have hlx : (E.cells xs).length = xs.length * E.k := cells_length hE xs
  have hln : (E.cells news).length = news.length * E.k := cells_length hE news
  have grow : ∀ (x : Addr), oa = some x → c < xs.length + news.length → (∀ j u, (E.cells xs)[j]? = some u → w.cell? (x.add j) = some u) → ∃ o' c' w', (Builtin.append_ #[E.t, E.t] ty #[.slice oa xs.length c, .slice (some ad) news.length d]).run Try.prog w = .ok (.slice o' (xs.length + news.length) c') w' ∧ Oz E w' o' c' (xs ++ news) ∧ ApZ w oa c o' c' w' := by
    intro x hx hlt hold
    subst hx
    obtain ⟨v', w', hr, h2, h3⟩ := run_append_arg_grows (P := Try.prog) w E.t ty E.e i0 z E.k E.nb hE.und hi hz0 hz1 hz2 hz3 hE.pos x xs.length c (E.cells xs) hlx hold ad news.length d (E.cells news) hln hrow.news hlt hmx hb
    rw [← cells_append] at h2
    have hk : Keeps no w w' := (Keeps.refl no w).grown h3 (fun k hk => by cases hk)
    rcases h2.2 with ⟨_, h0⟩ | ⟨g', cap', cur', rfl, hbg, hh, h4, h5, h6, h7⟩
    · omega
    · exact ⟨_, _, w', hr, .inr ⟨by omega, g', cur', (0, 0), rfl, hh, .inl rfl, by simpa using h4, h5, h6, by simpa using h7⟩, .inr ⟨⟨g', rfl, hbg⟩, hk⟩⟩
  rcases hown with ⟨rfl, rfl⟩ | ⟨hc, g, cur, fz, rfl, hg, hz, h2, h3, h4, h5⟩
  · match oa with
    | none =>
      obtain ⟨o', c', w', h1, h2, h3⟩ := run_app hE w ty none 0 [] (own_nil w) (some ad) d news (fun h => by cases h) hrow hb hb2
      refine ⟨o', c', w', h1, h2.oz, .inr ?_⟩
      rcases h3 with ⟨rfl, hk⟩ | h3
      · rcases h2.shape with ⟨_, _, e⟩ | ⟨g, cur, e, _⟩
        · simp at e; rw [e] at hne; simp at hne
        · cases e
      · exact h3
    | some x => exact grow x rfl (by simpa using hne) (fun j u hj => by simp [El.cells] at hj)
  · by_cases hroom : xs.length + news.length ≤ c
    · have hfit : xs.length * E.k + news.length * E.k ≤ cur.size := by
        rw [h4, ← Nat.add_mul]; exact Nat.mul_le_mul_right _ hroom
      have hr := run_append_room_cells (P := Try.prog) w E.t ty E.e i0 hE.und hi g 0 xs.length c ad news.length d (E.cells news) (by rw [hz1, hln]) hrow.news (cells_one hE news) hroom (fun j hj => by
        rw [cell_of_blk hg, hz1]; simp; omega) (fun j hj => frozenM hg hz (by rw [hz1]; omega))
      rw [hz1] at hr
      obtain ⟨cur', q1, q2, q3⟩ := blk_setCells (E.cells news) (0 + xs.length * E.k) hg
      have hkk : Keeps (zO (some ⟨g, 0, none⟩) c) w (w.setCells g (0 + xs.length * E.k) (E.cells news)) := keeps_setCells' _ _ (Keeps.refl _ w) (.inl ⟨hc, _, rfl, rfl⟩)
      refine ⟨_, _, _, hr, .inr ⟨hc, g, cur', fz, rfl, q1, by rw [q2]; exact hz, by simpa using hroom, h3, by rw [q2]; exact h4, ?_⟩, .inl ⟨rfl, rfl, hc, hkk⟩⟩
      refine List.ext_getElem? fun j => ?_
      rw [cells_append, List.getElem?_take]
      have hj0 : (xs ++ news).length * E.k = xs.length * E.k + news.length * E.k := by rw [List.length_append, Nat.add_mul]
      rw [hj0, Array.getElem?_toList, q3]
      by_cases hj1 : j < xs.length * E.k
      · rw [if_pos (by omega), if_neg (by omega), List.getElem?_append_left (by omega), ← h5, List.getElem?_take, if_pos hj1, Array.getElem?_toList]
      · by_cases hj2 : j < xs.length * E.k + news.length * E.k
        · rw [if_pos hj2, if_pos (by omega), List.getElem?_append_right (by omega), hlx]
          congr 1; omega
        · rw [if_neg hj2, List.getElem?_eq_none]
          rw [List.length_append]; omega
    · refine grow ⟨g, 0, none⟩ rfl (by omega) (fun j u hj => ?_)
      rw [addr_add, cell_of_blk hg, Nat.zero_add, ← Array.getElem?_toList]
      rw [← h5, List.getElem?_take] at hj
      split at hj
      · exact hj
      · cases hj
theorem wpList_ozApp {α : Type} {E : El α} (hE : E.Ok) {w : World} {ops : Array Oper} {rest : List Oper} {o : Oper} {a : Act} {Q : Exit → Act → World → Prop} (hgd : o.guard = none) (s x : Operand)
    (ho : o.op = .call { callee := .builtin .append, args := #[s, x], argTypes := #[E.t, E.t] })
    (oa : Option Addr) (n c : Nat) (xs : List α) (hs : a.eval s = .slice oa n c) (hn : n = xs.length) (hown : Oz E w oa c xs)
    (ad : Addr) (m d : Nat) (news : List α) (hx : a.eval x = .slice (some ad) m d) (hm : m = news.length) (hne : 0 < news.length) (hrow : Row E w (some ad) news)
    (hb : (xs.length + news.length) * E.nb ≤ 140737488355328) (hb2 : xs.length + news.length ≤ 140737488355328)
    (h : ∀ o' c' w', Oz E w' o' c' (xs ++ news) → ApZ w oa c o' c' w' → wpList Try.prog ops Q rest (a.put o.dst (.slice o' (n + m) c')) w') : wpList Try.prog ops Q (o :: rest) a w := by
  subst hn hm
  obtain ⟨o', c', w', hr, h1, h2⟩ := run_ozApp hE w o.type oa c xs hown ad d news hne hrow hb hb2
  refine wpList_plain hgd fun K hK => ?_
  unfold Oper.wp execOp
  simp only [ho, resolve, invoke, builtin, Sem.run_bind, Sem.run_pure, Result.andThen_ok, List.map_toArray, List.map_cons, List.map_nil, hs, hx, hr]
  exact hK _ _ (h o' c' w' h1 h2)
end Go.Proofs.Ytdbejihkliafiaa
