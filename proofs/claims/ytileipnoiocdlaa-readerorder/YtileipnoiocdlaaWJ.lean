import Derived.Test.YtileipnoiocdlaaWH
import Derived.Deep.AppendSrc
/- A list of which the front was cut off. -/
namespace Go.Proofs.Ytileipnoiocdlaa
open Go.RowKit Go.Sort Orl
set_option linter.unusedVariables false
set_option linter.unusedSimpArgs false

structure OwnT {α : Type} (E : El α) (w : World) (o : Option Addr) (c : Nat) (xs : List α) : Prop where
  ex : (o = none ∧ c = 0 ∧ xs = []) ∨ ∃ g off cur, o = some ⟨g, off * E.k, none⟩ ∧ w.heap[g]? = some (.cells cur E.e (0, 0)) ∧ xs.length ≤ c ∧ c ≤ maxLen ∧ (off + c) * E.k ≤ cur.size ∧ ∀ j u, (E.cells xs)[j]? = some u → cur[off * E.k + j]? = some u
theorem Own.t {α : Type} {E : El α} {w : World} {o : Option Addr} {c : Nat} {xs : List α} (h : Own E w o c xs) : OwnT E w o c xs := by
  rcases h.shape with ⟨h1, h2, h3⟩ | ⟨g, cur, rfl, hg, h1, h2, h3, h4⟩
  · exact ⟨.inl ⟨h1, h2, h3⟩⟩
  · refine ⟨.inr ⟨g, 0, cur, by rw [Nat.zero_mul], hg, h1, h2, by rw [Nat.zero_add]; exact Nat.le_of_eq h3.symm, fun j u hj => ?_⟩⟩
    rw [Nat.zero_mul, Nat.zero_add]
    rw [← h4] at hj
    have := List.getElem?_take (l := cur.toList) (i := xs.length * E.k) (j := j)
    rw [this] at hj
    split at hj
    · simpa using hj
    · cases hj
theorem OwnT.keeps {α : Type} {E : El α} {S : Nat → Prop} {w w' : World} {o : Option Addr} {c : Nat} {xs : List α} (h : OwnT E w o c xs) (k : Keeps S w w') (hs : ∀ i, inO o i → ¬ S i) : OwnT E w' o c xs := by
  rcases h.ex with h1 | ⟨g, off, cur, rfl, hg, h2⟩
  · exact ⟨.inl h1⟩
  · exact ⟨.inr ⟨g, off, cur, rfl, k.at hg (hs g ⟨_, rfl, rfl⟩), h2⟩⟩
theorem OwnT.keepsN {α : Type} {E : El α} {w w' : World} {o : Option Addr} {c : Nat} {xs : List α} (h : OwnT E w o c xs) (k : Keeps no w w') : OwnT E w' o c xs := h.keeps k fun _ _ => id
theorem OwnT.lt {α : Type} {E : El α} {w : World} {o : Option Addr} {c : Nat} {xs : List α} (h : OwnT E w o c xs) : ∀ i, inO o i → i < w.heap.size := by
  rintro i ⟨x, e, rfl⟩
  rcases h.ex with ⟨h1, _⟩ | ⟨g, off, cur, rfl, hg, _⟩
  · rw [h1] at e; cases e
  · cases e; exact lt_of_block hg
theorem OwnT.sl {α : Type} {E : El α} {w : World} {o : Option Addr} {c : Nat} {xs : List α} (h : OwnT E w o c xs) : Sl E w o c xs := by
  rcases h.ex with ⟨rfl, rfl, rfl⟩ | ⟨g, off, cur, rfl, hg, h1, h2, h3, h4⟩
  · exact (own_nil w).sl
  · refine ⟨.inr ⟨g, off * E.k, rfl, fun j u hj => ?_⟩, h1, fun e => by cases e⟩
    rw [cell_of_blk hg]
    exact h4 j u hj
theorem OwnT.tail {α : Type} {E : El α} (hE : E.Ok) {w : World} {g o2 : Nat} {c : Nat} {x : α} {xs : List α} (h : OwnT E w (some ⟨g, o2, none⟩) c (x :: xs)) : OwnT E w (some ⟨g, o2 + E.k, none⟩) (c - 1) xs ∧ 1 ≤ c := by
  rcases h.ex with ⟨h1, _⟩ | ⟨g', off, cur, e, hg, h1, h2, h3, h4⟩
  · cases h1
  · cases e
    have h5 : xs.length + 1 ≤ c := h1
    refine ⟨⟨.inr ⟨g, off + 1, cur, by rw [Nat.succ_mul], hg, by omega, by omega, by rw [show off + 1 + (c - 1) = off + c by omega]; exact h3, fun j u hj => ?_⟩⟩, by omega⟩
    have h6 := h4 (E.k + j) u (by
      rw [show E.cells (x :: xs) = E.enc x ++ E.cells xs from rfl, List.getElem?_append_right (by rw [hE.len]; omega), hE.len, Nat.add_sub_cancel_left]
      exact hj)
    rw [show (off + 1) * E.k + j = off * E.k + (E.k + j) by rw [Nat.succ_mul]; omega]
    exact h6
theorem OwnT.cut0 {α : Type} {E : El α} {w : World} {o : Option Addr} {c : Nat} {xs : List α} (h : OwnT E w o c xs) (hc : 0 < c) : OwnT E w o 0 [] := by
  rcases h.ex with ⟨_, h1, _⟩ | ⟨g, off, cur, e, hg, h1, h2, h3, h4⟩
  · omega
  · exact ⟨.inr ⟨g, off, cur, e, hg, by simp, by unfold maxLen; omega, Nat.le_trans (Nat.mul_le_mul_right _ (by omega)) h3, fun j u hj => by simp [El.cells] at hj⟩⟩
theorem run_appT {α : Type} {E : El α} (hE : E.Ok) (w : World) (ty : TypeId) (oa : Option Addr) (c : Nat) (xs : List α) (hown : OwnT E w oa c xs) (ad : Addr) (d : Nat) (news : List α) (hrow : Row E w (some ad) news)
    (hb : (xs.length + news.length) * E.nb ≤ 140737488355328) (hb2 : xs.length + news.length ≤ 140737488355328) :
    ∃ o' c' w', (Builtin.append_ #[E.t, E.t] ty #[.slice oa xs.length c, .slice (some ad) news.length d]).run Try.prog w = .ok (.slice o' (xs.length + news.length) c') w' ∧ OwnT E w' o' c' (xs ++ news) ∧ Ap w oa o' w' := by
  rcases hown.ex with ⟨rfl, rfl, rfl⟩ | ⟨g, off, cur, rfl, hg, h1, h2, h3, h4⟩
  · obtain ⟨o', c', w', hr, ho, ha⟩ := run_app hE w ty none 0 [] (own_nil w) (some ad) d news (fun e => by cases e) hrow hb hb2
    exact ⟨o', c', w', hr, ho.t, ha⟩
  · obtain ⟨i0, z, hi, hz0, hz1, hz2, hz3⟩ := hE.inf
    have hsrc : Src Try.prog i0.size E.t (.slice (some ad) news.length d) news.length (E.cells news) w := Src.ofSlice (P := Try.prog) w hE.und ad news.length d (E.cells news) (by rw [hz1, cells_length hE]) hrow.news (cells_one hE news)
    have hcl : (E.cells xs).length = xs.length * E.k := cells_length hE xs
    have hnl : (E.cells news).length = news.length * E.k := cells_length hE news
    by_cases hroom : xs.length + news.length ≤ c
    · have hsz : (off + (xs.length + news.length)) * E.k ≤ cur.size := Nat.le_trans (Nat.mul_le_mul_right _ (by omega)) h3
      rw [Nat.add_mul, Nat.add_mul] at hsz
      have hr := run_append_room_src (P := Try.prog) w E.t E.t ty E.e i0 hE.und hi g (off * E.k) xs.length c _ news.length (E.cells news) hsrc hroom (fun j hj => by
        rw [cell_of_blk hg, hz1]
        have : off * E.k + xs.length * E.k + j < cur.size := by omega
        simp [this]) (fun j hj => frozen_of_blk hg _)
      obtain ⟨cur', hc1, hc2, hc3⟩ := blk_setCells (E.cells news) (off * E.k + xs.length * i0.size) hg
      rw [hz1] at hr hc1 hc3
      refine ⟨_, _, _, hr, ⟨.inr ⟨g, off, cur', rfl, hc1, by rw [List.length_append]; exact hroom, h2, by rw [hc2]; exact h3, fun j u hj => ?_⟩⟩, .inl ⟨rfl, (keeps_setCells _ _ _).mono (fun i e => ⟨_, rfl, e.symm⟩)⟩⟩
      rw [cells_append] at hj
      rw [hc3]
      by_cases hjl : j < (E.cells xs).length
      · rw [List.getElem?_append_left hjl] at hj
        rw [if_neg (by omega)]
        exact h4 j u hj
      · rw [List.getElem?_append_right (by omega)] at hj
        have hjn := List.getElem?_eq_some_iff.1 hj
        obtain ⟨hjn, _⟩ := hjn
        rw [if_pos (by omega), show off * E.k + j - (off * E.k + xs.length * E.k) = j - (E.cells xs).length by omega]
        exact hj
    · have hold : (Builtin.firstCells i0.size xs.length (.slice (some ⟨g, off * E.k, none⟩) xs.length c)).run Try.prog w.drew = .ok (E.cells xs).toArray w.drew :=
        run_firstCells_some (P := Try.prog) w.drew i0.size xs.length ⟨g, off * E.k, none⟩ xs.length c (E.cells xs) (by rw [hz1, hcl]) (fun j u hj => by
          rw [addr_add]
          have : w.drew.heap[g]? = some (.cells cur E.e (0, 0)) := hg
          rw [cell_of_blk this]
          exact h4 j u hj)
      have hr := run_append_grow_src (P := Try.prog) w E.t E.t ty E.e i0 z hE.und hi hz0 (some ⟨g, off * E.k, none⟩) xs.length c (E.cells xs) hold _ news.length (E.cells news) hsrc (by omega) (by omega) (by rw [hz2]; exact growslice_fits (by omega) hb)
      have hge := grownCap_ge w (xs.length + news.length) c E.e
      have hcm := grownCap_le_maxLen w (xs.length + news.length) c E.e (by unfold maxLen; omega)
      refine ⟨_, _, _, hr, ⟨.inr ⟨w.heap.size, 0, _, by rw [Nat.zero_mul], blk_new w.drew _, by rw [List.length_append]; exact hge, hcm, ?_, fun j u hj => ?_⟩⟩, .inr ⟨⟨_, rfl, Nat.le_refl _⟩, ((Keeps.refl _ w).drew).alloc _⟩⟩
      · generalize grownCap w (xs.length + news.length) c E.e = G at hge
        rw [Array.size_append, List.size_toArray, size_zeroCells, hz3, List.length_append, hcl, hnl, ← Nat.add_mul, ← Nat.add_mul, Nat.zero_add]
        have e : xs.length + news.length + (G - (xs.length + news.length)) = G := by omega
        rw [e]
        exact Nat.le_refl _
      · rw [cells_append] at hj
        have hjl := (List.getElem?_eq_some_iff.1 hj).1
        rw [Nat.zero_mul, Nat.zero_add, Array.getElem?_append_left (by simpa using hjl)]
        simpa using hj
theorem oper_appT {α : Type} {E : El α} (hE : E.Ok) {w : World} {ops : Array Oper} {o : Oper} {a : Act} {K : Act → World → Prop} {Q : Exit → Act → World → Prop} {Ep : Prop} (hgd : o.guard = none) (s x : Operand)
    (ho : o.op = .call { callee := .builtin .append, args := #[s, x], argTypes := #[E.t, E.t] })
    (oa : Option Addr) (n c : Nat) (xs : List α) (hs : a.eval s = .slice oa n c) (hn : n = xs.length) (hown : OwnT E w oa c xs)
    (ad : Addr) (m d : Nat) (news : List α) (hx : a.eval x = .slice (some ad) m d) (hm : m = news.length) (hrow : Row E w (some ad) news)
    (hb : (xs.length + news.length) * E.nb ≤ 140737488355328) (hb2 : xs.length + news.length ≤ 140737488355328)
    (h : ∀ o' c' w', OwnT E w' o' c' (xs ++ news) → Ap w oa o' w' → K (a.put o.dst (.slice o' (n + m) c')) w') :
    if Region.wanted o (yielded ops a.tmps) = true then Oper.wp Try.prog o a w K Q else Ep := by
  have hw : Region.wanted o (yielded ops a.tmps) = true := by simp [Region.wanted, hgd]
  rw [if_pos hw]
  subst hn hm
  obtain ⟨o', c', w', hr, h1, h2⟩ := run_appT hE w o.type oa c xs hown ad d news hrow hb hb2
  unfold Oper.wp execOp
  simp only [ho, resolve, invoke, builtin, Sem.run_bind, Sem.run_pure, Result.andThen_ok, List.map_toArray, List.map_cons, List.map_nil, hs, hx, hr]
  exact h o' c' w' h1 h2
end Go.Proofs.Ytileipnoiocdlaa
/- Answers on their way; questions gathered. -/
namespace Go.Proofs.Ytileipnoiocdlaa
open Go.RowKit Go.Sort Orl
set_option linter.unusedVariables false
set_option linter.unusedSimpArgs false

structure RT where
  part : Int
  req : Nat
  B : Nat
def rt0 : RT := ⟨0, 0, 0⟩
def LE : El RT := ⟨67, 63, 9, 136, fun r => [.int .i64 r.part, .int .i64 7, .int .i64 3, .int .u64 (r.req : Nat), .int .u64 0, .slice none 0 0, .slice none 0 0, .slice none 0 0, .slice (some ⟨r.B, 0, none⟩) 1 1]⟩
theorem infoLE : (Try.prog.info? 67).map (fun i => (i.zero, i.size, i.bytes)) = some (some (.agg #[.int .i64 0, .int .i64 0, .int .i64 0, .int .u64 0, .int .u64 0, .slice none 0 0, .slice none 0 0, .slice none 0 0, .slice none 0 0]), 9, 136) := by kernel_rfl
theorem okLE : LE.Ok := by
  obtain ⟨i0, hi, hz0, hz1, hz2⟩ := info_parts infoLE
  exact ⟨fun _ => rfl, fun x u hu => by simp [LE] at hu; rcases hu with rfl | rfl | rfl | rfl | rfl | rfl | rfl | rfl | rfl <;> rfl, by decide, Try.underlying63, i0, _, hi, hz0, hz1, hz2, rfl⟩
structure Tl where
  part : Int
  req : Nat
  v : Ver
def tl0 : Tl := ⟨0, 0, v0⟩
/-- answers on their way -/
structure Tls (w : World) (Z : Nat → Prop) (o : Option Addr) (c : Nat) (rs : List RT) (ts : List Tl) : Prop where
  own : OwnT LE w o c rs
  len : rs.length = ts.length
  each : ∀ j, j < ts.length → (rs.getD j rt0).part = (ts.getD j tl0).part ∧ (rs.getD j rt0).req = (ts.getD j tl0).req ∧ MsgAt w (fun i => Z i ∧ ¬ inO o i) (rs.getD j rt0).B (ts.getD j tl0).v ∧ FitV (ts.getD j tl0).v
  blk : ∀ i, inO o i → Z i
theorem tls_nil (w : World) (Z : Nat → Prop) : Tls w Z none 0 [] [] := ⟨⟨.inl ⟨rfl, rfl, rfl⟩⟩, rfl, fun j hj => by simp at hj, fun i hi => by obtain ⟨x, e, _⟩ := hi; cases e⟩
theorem Tls.keeps {S : Nat → Prop} {w w' : World} {Z : Nat → Prop} {o : Option Addr} {c : Nat} {rs : List RT} {ts : List Tl} (h : Tls w Z o c rs ts) (k : Keeps S w w') (hs : ∀ i, Z i → i < w.heap.size → ¬ S i) : Tls w' Z o c rs ts :=
  ⟨h.own.keeps k (fun i hi => hs i (h.blk i hi) (h.own.lt i hi)), h.len, fun j hj => ⟨(h.each j hj).1, (h.each j hj).2.1, (h.each j hj).2.2.1.keeps k (fun i h1 h2 => hs i h1.1 h2), (h.each j hj).2.2.2⟩, h.blk⟩
theorem Tls.keepsN {w w' : World} {Z : Nat → Prop} {o : Option Addr} {c : Nat} {rs : List RT} {ts : List Tl} (h : Tls w Z o c rs ts) (k : Keeps no w w') : Tls w' Z o c rs ts := h.keeps k (fun _ _ _ => id)
theorem Tls.mono {w : World} {Z Y : Nat → Prop} {o : Option Addr} {c : Nat} {rs : List RT} {ts : List Tl} (h : Tls w Z o c rs ts) (hy : ∀ i, Z i → i < w.heap.size → Y i) : Tls w Y o c rs ts :=
  ⟨h.own, h.len, fun j hj => ⟨(h.each j hj).1, (h.each j hj).2.1, (h.each j hj).2.2.1.mono (fun i h1 h2 => ⟨hy i h1.1 h2, h1.2⟩), (h.each j hj).2.2.2⟩, fun i hi => hy i (h.blk i hi) (h.own.lt i hi)⟩
theorem Tls.tail {w : World} {Z : Nat → Prop} {g o2 : Nat} {c : Nat} {rs : List RT} {ts : List Tl} (h : Tls w Z (some ⟨g, o2, none⟩) c rs ts) (hl : 0 < ts.length) : Tls w Z (some ⟨g, o2 + 9, none⟩) (c - 1) rs.tail ts.tail ∧ 1 ≤ c := by
  obtain ⟨r, rs', rfl⟩ : ∃ r rs', rs = r :: rs' := by
    cases rs with
    | nil => have := h.len; simp at this; omega
    | cons r rs' => exact ⟨r, rs', rfl⟩
  obtain ⟨t, ts', rfl⟩ : ∃ t ts', ts = t :: ts' := by
    cases ts with
    | nil => simp at hl
    | cons r rs' => exact ⟨r, rs', rfl⟩
  have ht := h.own.tail okLE
  have ei : ∀ i, inO (some (⟨g, o2 + 9, none⟩ : Addr)) i ↔ inO (some (⟨g, o2, none⟩ : Addr)) i := fun i => by
    constructor <;> rintro ⟨x, e, rfl⟩ <;> cases e <;> exact ⟨_, rfl, rfl⟩
  refine ⟨⟨ht.1, by have := h.len; simpa using this, fun j hj => ?_, fun i hi => h.blk i ((ei i).1 hi)⟩, ht.2⟩
  have := h.each (j + 1) (by simp at hj ⊢; omega)
  simp only [List.getD_cons_succ] at this
  exact ⟨this.1, this.2.1, this.2.2.1.mono (fun i h1 _ => ⟨h1.1, fun h2 => h1.2 ((ei i).1 h2)⟩), this.2.2.2⟩
/-- one more on its way -/
theorem Tls.push {w w2 w' : World} {Z : Nat → Prop} {o o' : Option Addr} {c c' : Nat} {rs : List RT} {ts : List Tl} {r : RT} {t : Tl} (h : Tls w Z o c rs ts) (k : Keeps no w w2) (hZ : ∀ i, w2.heap.size ≤ i → Z i) (h1 : r.part = t.part) (h2 : r.req = t.req) (hm : MsgAt w2 (fun i => Z i ∧ ¬ inO o i) r.B t.v) (hf : FitV t.v) (ho : OwnT LE w' o' c' (rs ++ [r])) (ha : Ap w2 o o' w') : Tls w' Z o' c' (rs ++ [r]) (ts ++ [t]) := by
  have key : ∀ {B : Nat} {u : Ver}, MsgAt w2 (fun i => Z i ∧ ¬ inO o i) B u → MsgAt w' (fun i => Z i ∧ ¬ inO o' i) B u := by
    intro B u hu
    rcases ha with ⟨rfl, k1⟩ | ⟨⟨g, rfl, hg⟩, k1⟩
    · exact hu.keeps k1 (fun i h1 _ => h1.2)
    · exact (hu.mono (fun i h1 h2 => ⟨h1.1, by rintro ⟨x, e, rfl⟩; cases e; simp only at h2; omega⟩)).keepsN k1
  refine ⟨ho, by rw [List.length_append, List.length_append, h.len]; rfl, fun j hj => ?_, fun i hi => ?_⟩
  · have hj' : j ≤ ts.length := by rw [List.length_append] at hj; have : [t].length = 1 := rfl; omega
    rw [getD_snocL rs r rt0 j (by rw [h.len]; exact hj'), getD_snocL ts t tl0 j hj', h.len]
    by_cases e : j < ts.length
    · rw [if_pos e, if_pos e]
      have h5 := h.each j e
      exact ⟨h5.1, h5.2.1, key (h5.2.2.1.keepsN k), h5.2.2.2⟩
    · rw [if_neg e, if_neg e]
      exact ⟨h1, h2, key hm, hf⟩
  · rcases ha with ⟨rfl, _⟩ | ⟨⟨g, rfl, hg⟩, _⟩
    · exact h.blk i hi
    · obtain ⟨x, e, rfl⟩ := hi; cases e; exact hZ _ hg
/-- the first answer's cells -/
structure At9t (w : World) (b off : Nat) (r : RT) : Prop where
  c0 : w.cell? ⟨b, off, none⟩ = some (.int .i64 r.part)
  c1 : w.cell? ⟨b, off + 1, none⟩ = some (.int .i64 7)
  c2 : w.cell? ⟨b, off + 1 + 1, none⟩ = some (.int .i64 3)
  c3 : w.cell? ⟨b, off + 1 + 2, none⟩ = some (.int .u64 (r.req : Nat))
  c4 : w.cell? ⟨b, off + 1 + 3, none⟩ = some (.int .u64 0)
  c5 : w.cell? ⟨b, off + 1 + 4, none⟩ = some (.slice none 0 0)
  c6 : w.cell? ⟨b, off + 1 + 5, none⟩ = some (.slice none 0 0)
  c7 : w.cell? ⟨b, off + 1 + 6, none⟩ = some (.slice none 0 0)
  c8 : w.cell? ⟨b, off + 1 + 7, none⟩ = some (.slice (some ⟨r.B, 0, none⟩) 1 1)
theorem At9t.keepsN {w w' : World} {b off : Nat} {r : RT} (h : At9t w b off r) (k : Keeps no w w') : At9t w' b off r := ⟨k.cellN h.c0, k.cellN h.c1, k.cellN h.c2, k.cellN h.c3, k.cellN h.c4, k.cellN h.c5, k.cellN h.c6, k.cellN h.c7, k.cellN h.c8⟩
theorem Tls.at {w : World} {Z : Nat → Prop} {o : Option Addr} {c : Nat} {rs : List RT} {ts : List Tl} (h : Tls w Z o c rs ts) {j : Nat} (hj : j < ts.length) : ∃ b off, o = some ⟨b, off, none⟩ ∧ At9t w b (off + j * 9) (rs.getD j rt0) := by
  have hjr : j < rs.length := by rw [h.len]; exact hj
  rcases h.own.sl.row with e | ⟨b, off, e, hc⟩
  · rw [e] at hjr; simp at hjr
  · have key : ∀ i, i < 9 → ∀ u, (LE.enc (rs.getD j rt0))[i]? = some u → w.cell? ⟨b, off + j * 9 + i, none⟩ = some u := by
      intro i hi u hu
      rw [Nat.add_assoc]
      refine hc (j * 9 + i) _ ?_
      have := cells_at okLE rt0 rs j i hjr hi
      rw [show j * 9 + i = j * LE.k + i from rfl, this]
      exact hu
    exact ⟨b, off, e, key 0 (by decide) _ rfl, key 1 (by decide) _ rfl, key 2 (by decide) _ rfl, key 3 (by decide) _ rfl, key 4 (by decide) _ rfl, key 5 (by decide) _ rfl, key 6 (by decide) _ rfl, key 7 (by decide) _ rfl, key 8 (by decide) _ rfl⟩
/-! ### questions gathered -/
structure OutS (w : World) (Z : Nat → Prop) (o : Option Addr) (c : Nat) (rs : List RQ) (qs : List Qn) : Prop where
  own : Own QE w o c rs
  len : rs.length = qs.length
  each : ∀ j, j < qs.length → QNw w (rs.getD j rq0) (qs.getD j q0)
  fit : ∀ j, j < qs.length → FitA (qs.getD j q0)
  blk : ∀ i, TB o rs qs.length i → Z i
theorem outS_nil (w : World) (Z : Nat → Prop) : OutS w Z none 0 [] [] := ⟨own_nil w, rfl, fun j hj => by simp at hj, fun j hj => by simp at hj, fun i hi => by rcases hi with ⟨x, e, _⟩ | ⟨j, hj, _⟩; cases e; simp at hj⟩
theorem OutS.lt {w : World} {Z : Nat → Prop} {o : Option Addr} {c : Nat} {rs : List RQ} {qs : List Qn} (h : OutS w Z o c rs qs) : ∀ i, TB o rs qs.length i → i < w.heap.size := by
  rintro i (hi | ⟨j, hj, hi⟩)
  · exact h.own.lt i hi
  · exact (h.each j hj).lt i hi
theorem OutS.keeps {S : Nat → Prop} {w w' : World} {Z : Nat → Prop} {o : Option Addr} {c : Nat} {rs : List RQ} {qs : List Qn} (h : OutS w Z o c rs qs) (k : Keeps S w w') (hs : ∀ i, Z i → i < w.heap.size → ¬ S i) : OutS w' Z o c rs qs :=
  ⟨h.own.keeps k (fun i hi => hs i (h.blk i (.inl hi)) (h.own.lt i hi)), h.len, fun j hj => (h.each j hj).keeps k (fun i hi => hs i (h.blk i (.inr ⟨j, hj, hi⟩)) ((h.each j hj).lt i hi)), h.fit, h.blk⟩
theorem OutS.keepsN {w w' : World} {Z : Nat → Prop} {o : Option Addr} {c : Nat} {rs : List RQ} {qs : List Qn} (h : OutS w Z o c rs qs) (k : Keeps no w w') : OutS w' Z o c rs qs := h.keeps k (fun _ _ _ => id)
theorem OutS.mono {w : World} {Z Y : Nat → Prop} {o : Option Addr} {c : Nat} {rs : List RQ} {qs : List Qn} (h : OutS w Z o c rs qs) (hy : ∀ i, Z i → i < w.heap.size → Y i) : OutS w Y o c rs qs := ⟨h.own, h.len, h.each, h.fit, fun i hi => hy i (h.blk i hi) (h.lt i hi)⟩
/-- what is written is none of its kinds -/
theorem OutS.keepsT {S : Nat → Prop} {w w' : World} {Z : Nat → Prop} {o : Option Addr} {c : Nat} {rs : List RQ} {qs : List Qn} (h : OutS w Z o c rs qs) (k : Keeps S w w') (hs : ∀ b, S b → ∃ cur t fz, w.heap[b]? = some (.cells cur t fz) ∧ t ≠ QE.e ∧ t ≠ TE.e ∧ t ≠ WE.e) : OutS w' Z o c rs qs := by
  have key : ∀ {α : Type} {E : El α} {o : Option Addr} {c : Nat} {xs : List α}, Own E w o c xs → (∀ b, S b → ∃ cur t fz, w.heap[b]? = some (.cells cur t fz) ∧ t ≠ E.e) → ∀ i, inO o i → ¬ S i := by
    intro α E o c xs ho hS i hi hs
    obtain ⟨cur, t, fz, h1, h2⟩ := hS i hs
    obtain ⟨cur2, h3⟩ := ho.tag i hi
    rw [h1] at h3; injection h3 with e; injection e with _ e _; exact h2 e
  refine ⟨h.own.keeps k (key h.own (fun b hb => by obtain ⟨a, t, f, h1, h2, _⟩ := hs b hb; exact ⟨a, t, f, h1, h2⟩)), h.len, fun j hj => ?_, h.fit, h.blk⟩
  have hq := h.each j hj
  refine hq.keeps k (fun i hi => ?_)
  rcases hi with hi | hi
  · exact key hq.ks (fun b hb => by obtain ⟨a, t, f, h1, _, h2, _⟩ := hs b hb; exact ⟨a, t, f, h1, h2⟩) i hi
  · exact key hq.ws (fun b hb => by obtain ⟨a, t, f, h1, _, _, h2⟩ := hs b hb; exact ⟨a, t, f, h1, h2⟩) i hi
theorem Tq.outS {w : World} {o : Option Addr} {c : Nat} {rs : List RQ} {qs : List Qn} (h : Tq w o c rs qs) (hf : ∀ j, j < qs.length → FitA (qs.getD j q0)) (Z : Nat → Prop) (hZ : ∀ i, TB o rs qs.length i → Z i) : OutS w Z o c rs qs := ⟨h.own, h.len, h.each, hf, hZ⟩
/-- what was told, behind what was gathered -/
theorem OutS.app {w w' : World} {Z : Nat → Prop} {o o' o2 : Option Addr} {c c' c2 : Nat} {rs r2 : List RQ} {qs q2 : List Qn} (h : OutS w Z o c rs qs) (h2 : OutS w Z o2 c2 r2 q2) (hZ : ∀ i, w.heap.size ≤ i → Z i) (ho : Own QE w' o' c' (rs ++ r2)) (ha : Ap w o o' w') : OutS w' Z o' c' (rs ++ r2) (qs ++ q2) := by
  have hS : ∀ b, inO o b → ∃ cur t fz, w.heap[b]? = some (.cells cur t fz) ∧ t = QE.e := fun b hb => by obtain ⟨cur, hc⟩ := h.own.tag b hb; exact ⟨cur, _, _, hc, rfl⟩
  have kq : ∀ {r : RQ} {q : Qn}, QNw w r q → QNw w' r q := by
    intro r q hq
    rcases ha with ⟨_, k⟩ | ⟨_, k⟩
    · refine hq.keeps k (fun i hi hb => ?_)
      obtain ⟨cur, t, fz, h3, h4⟩ := hS i hb
      rcases hi with hi | hi
      · obtain ⟨cur2, h5⟩ := hq.ks.tag i hi
        rw [h3] at h5; injection h5 with e; injection e with _ e _; rw [h4] at e; exact absurd e (by decide)
      · obtain ⟨cur2, h5⟩ := hq.ws.tag i hi
        rw [h3] at h5; injection h5 with e; injection e with _ e _; rw [h4] at e; exact absurd e (by decide)
    · exact hq.keeps k (fun i _ h => h)
  have eq1 : ∀ j, j < (qs ++ q2).length → (rs ++ r2).getD j rq0 = (if j < qs.length then rs.getD j rq0 else r2.getD (j - qs.length) rq0) ∧ (qs ++ q2).getD j q0 = (if j < qs.length then qs.getD j q0 else q2.getD (j - qs.length) q0) := fun j _ => ⟨by rw [getD_app, h.len], by rw [getD_app]⟩
  refine ⟨ho, by rw [List.length_append, List.length_append, h.len, h2.len], fun j hj => ?_, fun j hj => ?_, fun i hi => ?_⟩
  · rw [(eq1 j hj).1, (eq1 j hj).2]
    rw [List.length_append] at hj
    by_cases e : j < qs.length
    · rw [if_pos e, if_pos e]; exact kq (h.each j e)
    · rw [if_neg e, if_neg e]; exact kq (h2.each _ (by omega))
  · rw [(eq1 j hj).2]
    rw [List.length_append] at hj
    by_cases e : j < qs.length
    · rw [if_pos e]; exact h.fit j e
    · rw [if_neg e]; exact h2.fit _ (by omega)
  · rcases hi with hi | ⟨j, hj, hi⟩
    · rcases ha with ⟨rfl, _⟩ | ⟨⟨g, rfl, hg⟩, _⟩
      · exact h.blk i (.inl hi)
      · obtain ⟨x, e, rfl⟩ := hi; cases e; exact hZ _ hg
    · rw [(eq1 j hj).1] at hi
      rw [List.length_append] at hj
      by_cases e : j < qs.length
      · rw [if_pos e] at hi; exact h.blk i (.inr ⟨j, e, hi⟩)
      · rw [if_neg e] at hi; exact h2.blk i (.inr ⟨_, by omega, hi⟩)
/-! ### bounds -/
theorem asked_fitA {s : RS} (h : WfR s) : ∀ j, j < (askedR s).length → FitA ((askedR s).getD j q0) := by
  intro j hj
  rw [askedR_len] at hj
  rw [askedR_at hj]
  have hi := undone_lt hj
  have h1 := qAt_fit h hi
  have hk := (ps_keys hi).2.1
  refine ⟨by omega, by omega, fun k hk2 => ?_, fun x hx => ?_⟩
  · unfold qAt at hk2
    simp only at hk2
    split at hk2
    · exact h.nmz k (hk k hk2)
    · cases hk2
  · unfold qAt at hx
    simp only at hx
    split at hx
    · cases hx
    · obtain ⟨k, hk2, rfl⟩ := List.mem_map.1 hx
      refine ⟨h.nmz k (hk k hk2), ?_⟩
      show ((s.ws.find? fun p => decide (p.1 = k)).map Prod.snd).getD 0 < _
      cases e : s.ws.find? (fun p => decide (p.1 = k)) with
      | none => simp
      | some p => exact h.wz p (List.mem_of_find?_eq_some e)
theorem ps_64 {s : RS} (h : WfR s) : (psR s).length ≤ 64 := Nat.le_trans (ps_le s) h.p2
structure TB2 (out : Out) (t : Nat) : Prop where
  t : out.t ≤ t + 64
  n : out.told.length ≤ 64
  f : ∀ j, j < out.told.length → FitA (out.told.getD j q0)
theorem tb2_none (s : RS) (t : Nat) : TB2 ⟨s, [], t⟩ t := ⟨Nat.le_add_right _ _, by simp, fun j hj => by simp at hj⟩
theorem tb2_asked {s : RS} (h : WfR s) (t : Nat) : TB2 ⟨s, askedR s, t + (psR s).length⟩ t := by
  have h1 := ps_64 h
  refine ⟨by show t + _ ≤ _; omega, ?_, asked_fitA h⟩
  show (askedR s).length ≤ 64
  rw [askedR_len]; have := undone_le s; omega
theorem begin_tb {s : RS} (h : WfR s) (fr st t : Nat) : TB2 (beginO s fr st t) t := by
  unfold beginO
  split
  · exact tb2_asked (h.beg fr st t) t
  · exact tb2_none _ _
theorem endF_tb {s : RS} (h : WfR s) (fr st t : Nat) : TB2 (endFO s fr st t) t := by
  have hw := h.endF fr st t
  unfold endFO at hw ⊢
  split
  · exact tb2_none _ _
  · split
    · exact tb2_none _ _
    · rename_i h1 h2
      rw [if_neg h1, if_neg h2] at hw
      exact tb2_asked hw t
theorem recv_tb {s : RS} (h : WfR s) {part kind : Int} {req : Nat} {l : List Ver} {fr st t : Nat} (hf : FitL l) : TB2 (recvO s part kind req l fr st t) t := by
  unfold recvO
  split
  · rename_i h1
    split
    · exact tb2_none _ _
    · rename_i j e
      split
      · rename_i h2
        have hwt : WfR (tookS s (l.getD 0 v0)) := by
          have hi : j < (undone s).length := by
            have := (idxQ_some e).1
            rwa [askedR_len] at this
          exact h.took ((ps_keys (undone_lt hi)).2.1 _ ((inn_iff _ _).1 h2.1)) (hf.at (by omega))
        unfold behindO
        split
        · split
          · exact endF_tb hwt fr st t
          · exact tb2_none _ _
        · exact tb2_none _ _
      · exact tb2_none _ _
  · exact tb2_none _ _
theorem recv_ended {s : RS} (h : ¬ s.ended = 0) (part kind : Int) (req : Nat) (l : List Ver) (fr st t : Nat) : recvO s part kind req l fr st t = ⟨s, [], t⟩ := recvO_kind (fun e => h e.1)
theorem begin_ended {s : RS} (h : ¬ s.ended = 0) (fr st t : Nat) : beginO s fr st t = ⟨s, [], t⟩ := by
  unfold beginO
  rw [if_neg (fun e => h e.1)]
end Go.Proofs.Ytileipnoiocdlaa
