/- FixKeeps: lists with a spare element behind them; one cell of an element written over. -/
import Derived.Test.YtodblodbeobgeaaLI
import Derived.Test.YtodblodbeobgeaaMK
import Derived.Test.YtodblodbeobgeaaP3
namespace Go.Proofs.Ytodblodbeobgeaa
open Go.RowKit Go.Sort Orl
set_option linter.unusedVariables false
set_option linter.unusedSimpArgs false

theorem Own.storeF {α : Type} {E : El α} (hE : E.Ok) {w : World} {o : Option Addr} {c : Nat} {xs : List α} (h : Own E w o c xs) (d : α) (j : Nat) (hj : j < xs.length) (f : Nat) (hf : f < E.k) (x : α) (v : Value) (hx : E.enc x = (E.enc (xs.getD j d)).set f v) :
    ∃ g, o = some ⟨g, 0, none⟩ ∧ (∀ i, w.frozen? ⟨g, i, none⟩ = false) ∧ Own E (w.setCell ⟨g, j * E.k + f, none⟩ v) o c (xs.set j x) ∧ Keeps (inO o) w (w.setCell ⟨g, j * E.k + f, none⟩ v) := by
  rcases h.shape with ⟨_, _, e⟩ | ⟨g, cur, rfl, hg, hc, hm, hs, ht⟩
  · rw [e] at hj; simp at hj
  · refine ⟨g, rfl, fun i => frozen_of_blk hg i, ?_, (Keeps.refl _ _).setCell (.inl ⟨_, rfl, rfl⟩) v⟩
    refine own_of_shape hE (blk_set hg _ _) (by simpa using hc) hm (by simp [hs]) ?_
    have hjk : j * E.k + E.k ≤ xs.length * E.k := by rw [← Nat.succ_mul]; exact Nat.mul_le_mul_right _ hj
    have hck : xs.length * E.k ≤ c * E.k := Nat.mul_le_mul_right _ hc
    apply List.ext_getElem?
    intro i
    rw [cells_setE hE x xs j i hj, List.getElem?_take, List.length_set, Array.getElem?_toList]
    by_cases hi : i < xs.length * E.k
    · rw [if_pos hi]
      by_cases e : i = j * E.k + f
      · subst e
        have hl : f < (E.enc (xs.getD j d)).length := by rw [hE.len]; exact hf
        rw [if_pos (by omega), hx, show j * E.k + f - j * E.k = f by omega, Array.getElem?_setIfInBounds_self_of_lt (by rw [hs]; omega)]
        rw [List.getElem?_set_self hl]
      · rw [Array.getElem?_setIfInBounds_ne (by omega), ← Array.getElem?_toList, take_eq ht i hi]
        split
        · rename_i hcs
          rw [hx, List.getElem?_set_ne (by omega)]
          have := cells_at hE d xs j (i - j * E.k) hj (by omega)
          rw [← this]
          congr 1
          omega
        · rfl
    · rw [if_neg hi, if_neg (by omega)]
      have := cells_length hE xs
      rw [List.getElem?_eq_none (by omega)]

/-- a shorter one -/
theorem Own.pre {α : Type} {E : El α} (hE : E.Ok) {w : World} {o : Option Addr} {c : Nat} {xs ys : List α} (h : Own E w o c (xs ++ ys)) : Own E w o c xs := by
  rcases h.shape with ⟨rfl, rfl, e⟩ | ⟨g, cur, rfl, hg, hc, hm, hs, ht⟩
  · have : xs = [] := (List.append_eq_nil_iff.1 e).1
    subst this
    exact own_nil _
  · refine own_of_shape hE hg (by rw [List.length_append] at hc; omega) hm hs ?_
    have h1 : xs.length * E.k ≤ (xs ++ ys).length * E.k := Nat.mul_le_mul_right _ (by rw [List.length_append]; omega)
    have h2 : (cur.toList.take ((xs ++ ys).length * E.k)).take (xs.length * E.k) = cur.toList.take (xs.length * E.k) := by rw [List.take_take, Nat.min_eq_left h1]
    rw [← h2, ht, cells_append, ← cells_length hE xs, List.take_left']
    rfl
theorem slT : Try.prog.underlying 30 = some (.slice (Try.prog.elem 30)) := by kernel_rfl
/-- s[:I], within the room -/
theorem cutV {w0 : World} {o : Option Addr} {c : Nat} {xs : List RV} (h : Own VE w0 o c xs) (n I : Nat) (hI : I ≤ c) (hb : (I : Int) ≤ 9223372036854775807) (w : World) : (Instr.slice 23 (.slice o n c) none (some (.int .i64 (I : Int))) none).run Try.prog w = .ok (.slice o I c) w := by
  match o, h with
  | none, h =>
    obtain rfl : c = 0 := h.cap.2 rfl
    obtain rfl : I = 0 := by omega
    rw [run_slice_h w 23 none _ 0 slV .i64 _ (by omega) (by omega)]
    go_simp
  | some ad, h =>
    rw [run_slice_h w 23 (some ad) _ c slV .i64 _ (by omega) (by omega)]
    go_simp
theorem cutT {w0 : World} {o : Option Addr} {c : Nat} {xs : List Tx} (h : Own TE w0 o c xs) (n I : Nat) (hI : I ≤ c) (hb : (I : Int) ≤ 9223372036854775807) (w : World) : (Instr.slice 30 (.slice o n c) none (some (.int .i64 (I : Int))) none).run Try.prog w = .ok (.slice o I c) w := by
  match o, h with
  | none, h =>
    obtain rfl : c = 0 := h.cap.2 rfl
    obtain rfl : I = 0 := by omega
    rw [run_slice_h w 30 none _ 0 slT .i64 _ (by omega) (by omega)]
    go_simp
  | some ad, h =>
    rw [run_slice_h w 30 (some ad) _ c slT .i64 _ (by omega) (by omega)]
    go_simp
theorem Ap.none {w w' : World} {o' : Option Addr} (h : Ap w none o' w') : Keeps no w w' := by
  rcases h with ⟨_, k⟩ | ⟨_, k⟩
  · exact k.mono fun i ⟨x, e, _⟩ => by cases e
  · exact k
def sp : Tx := ⟨#[115, 112, 97, 114, 101]⟩
/-- the versions that were read; behind the keys of the first i stands a spare text -/
structure Lk (w wG : World) (o : Option Addr) (c : Nat) (vs : List Ver) (i : Nat) (rs : List RV) (wr : World) : Prop where
  own : Own VE wr o c rs
  len : rs.length = vs.length
  each : ∀ j, j < vs.length → VerN wr (rs.getD j r0) (vs.getD j v0)
  newO : New w o
  newK : ∀ j, j < vs.length → New w (rs.getD j r0).o
  sp : ∀ j, j < i → Own TE wr (rs.getD j r0).o (rs.getD j r0).c ((vs.getD j v0).keys ++ [sp])
  kp : Keeps (inO o) wG wr
theorem Lk.set {w wG wr w9 : World} {o : Option Addr} {c : Nat} {vs : List Ver} {i : Nat} {rs : List RV} (h : Lk w wG o c vs i rs wr) (hi : i < vs.length) {o9 : Option Addr} {c9 : Nat} (ho9 : Own TE w9 o9 c9 ((vs.getD i v0).keys ++ [Go.Proofs.Ytodblodbeobgeaa.sp])) (hn9 : New w o9) (k : Keeps no wr w9) :
    ∃ g, o = some ⟨g, 0, none⟩ ∧ (∀ q, w9.frozen? ⟨g, q, none⟩ = false) ∧ Lk w wG o c vs (i + 1) (rs.set i ⟨(rs.getD i r0).key, (rs.getD i r0).id, (rs.getD i r0).val, o9, (rs.getD i r0).n, c9⟩) (w9.setCell ⟨g, i * 4 + 3, none⟩ (.slice o9 (rs.getD i r0).n c9)) := by
  have hne : TE.e ≠ VE.e := by decide
  have hl := h.len
  have h5 := h.own.keepsN k
  obtain ⟨g, e, hf, ho, hkp⟩ := h5.storeF okV r0 i (by omega) 3 (by decide) ⟨(rs.getD i r0).key, (rs.getD i r0).id, (rs.getD i r0).val, o9, (rs.getD i r0).n, c9⟩ (.slice o9 (rs.getD i r0).n c9) rfl
  refine ⟨g, e, hf, ?_⟩
  have hkp' : Keeps (inO o) w9 (w9.setCell ⟨g, i * 4 + 3, none⟩ (.slice o9 (rs.getD i r0).n c9)) := hkp
  have hv := (h.each i hi).keepsN k
  generalize hre : (⟨(rs.getD i r0).key, (rs.getD i r0).id, (rs.getD i r0).val, o9, (rs.getD i r0).n, c9⟩ : RV) = r at ho ⊢
  have hr : VerN w9 r (vs.getD i v0) := by subst hre; exact ⟨hv.key, hv.id, hv.val, hv.n, ho9.pre okT⟩
  have hro : r.o = o9 ∧ r.c = c9 := by subst hre; exact ⟨rfl, rfl⟩
  have key : ∀ j, j < vs.length → VerN (w9.setCell ⟨g, i * 4 + 3, none⟩ (.slice o9 (rs.getD i r0).n c9)) ((rs.set i r).getD j r0) (vs.getD j v0) ∧ New w ((rs.set i r).getD j r0).o := by
    intro j hj
    rw [getD_setZ rs i r r0 j (by omega)]
    by_cases e : i = j
    · subst e
      rw [if_pos rfl]
      exact ⟨hr.keeps hkp' (own_apart hne hr.own h5), by rw [hro.1]; exact hn9⟩
    · rw [if_neg e]
      exact ⟨((h.each j hj).keepsN k).keeps hkp' (own_apart hne ((h.each j hj).keepsN k).own h5), h.newK j hj⟩
  refine ⟨ho, by simp [hl], fun j hj => (key j hj).1, h.newO, fun j hj => (key j hj).2, ?_, (h.kp.trans k.of_no).trans hkp'⟩
  intro j hj
  rw [getD_setZ rs i r r0 j (by omega)]
  by_cases e : i = j
  · subst e
    rw [if_pos rfl, hro.1, hro.2]
    exact ho9.keeps hkp' (own_apart hne ho9 h5)
  · rw [if_neg e]
    exact ((h.sp j (by omega)).keepsN k).keeps hkp' (own_apart hne ((h.sp j (by omega)).keepsN k) h5)
/-- the two lists of lists side by side -/
def LY (rx ry : List RV) (m : List Ver) (i : Nat) : List (LS Tx) := (List.range i).flatMap fun j => [⟨(rx.getD j r0).o, (rx.getD j r0).c, (m.getD j v0).keys⟩, ⟨(ry.getD j r0).o, (ry.getD j r0).c, (m.getD j v0).keys⟩]
theorem LY_succ (rx ry : List RV) (m : List Ver) (i : Nat) : LY rx ry m (i + 1) = LY rx ry m i ++ [⟨(rx.getD i r0).o, (rx.getD i r0).c, (m.getD i v0).keys⟩, ⟨(ry.getD i r0).o, (ry.getD i r0).c, (m.getD i v0).keys⟩] := by
  unfold LY; rw [List.range_succ, List.flatMap_append]; simp
theorem LY_len (rx ry : List RV) (m : List Ver) : ∀ i, (LY rx ry m i).length = 2 * i
  | 0 => rfl
  | i + 1 => by rw [LY_succ, List.length_append, LY_len rx ry m i]; simp; omega
theorem LY_at (rx ry : List RV) (m : List Ver) : ∀ (i k : Nat), k < 2 * i → (LY rx ry m i).getD k ls0 = if k % 2 = 0 then ⟨(rx.getD (k / 2) r0).o, (rx.getD (k / 2) r0).c, (m.getD (k / 2) v0).keys⟩ else ⟨(ry.getD (k / 2) r0).o, (ry.getD (k / 2) r0).c, (m.getD (k / 2) v0).keys⟩
  | 0, k, hk => by omega
  | i + 1, k, hk => by
    rw [LY_succ, getD_app, LY_len]
    by_cases h : k < 2 * i
    · rw [if_pos h]; exact LY_at rx ry m i k h
    · rw [if_neg h]
      have : k = 2 * i ∨ k = 2 * i + 1 := by omega
      rcases this with rfl | rfl
      · rw [if_pos (by omega), show 2 * i / 2 = i by omega, Nat.sub_self]; rfl
      · rw [if_neg (by omega), show (2 * i + 1) / 2 = i by omega, show 2 * i + 1 - 2 * i = 1 by omega]; rfl
/-- versions whose list and keys are some call's own -/
structure Vo (w : World) (o : Option Addr) (c : Nat) (rs : List RV) (vs : List Ver) : Prop where
  own : Own VE w o c rs
  len : rs.length = vs.length
  each : ∀ j, j < vs.length → VerN w (rs.getD j r0) (vs.getD j v0)
theorem Vo.vers {w : World} {o : Option Addr} {c : Nat} {rs : List RV} {vs : List Ver} (h : Vo w o c rs vs) : Vers w o c rs vs := ⟨h.own.sl, h.len, fun j hj => (h.each j hj).of⟩
theorem Vo.keepsN {w w' : World} {o : Option Addr} {c : Nat} {rs : List RV} {vs : List Ver} (h : Vo w o c rs vs) (k : Keeps no w w') : Vo w' o c rs vs := ⟨h.own.keepsN k, h.len, fun j hj => (h.each j hj).keepsN k⟩
/-- all its blocks are as P says -/
def Vin (P : Nat → Prop) (o : Option Addr) (rs : List RV) (vs : List Ver) : Prop := (∀ k, inO o k → P k) ∧ ∀ j, j < vs.length → ∀ k, inO (rs.getD j r0).o k → P k
theorem Vo.keeps {S : Nat → Prop} {w w' : World} {o : Option Addr} {c : Nat} {rs : List RV} {vs : List Ver} (h : Vo w o c rs vs) (k : Keeps S w w') (hs : Vin (fun i => ¬ S i) o rs vs) : Vo w' o c rs vs :=
  ⟨h.own.keeps k hs.1, h.len, fun j hj => (h.each j hj).keeps k (hs.2 j hj)⟩
theorem NewVs.vo {w w' : World} {o : Option Addr} {c : Nat} {rs : List RV} {vs : List Ver} (h : NewVs w o c rs vs w') : Vo w' o c rs vs := ⟨h.own, h.len, h.each⟩
theorem Vo.lt {w : World} {o : Option Addr} {c : Nat} {rs : List RV} {vs : List Ver} (h : Vo w o c rs vs) : Vin (fun i => i < w.heap.size) o rs vs := ⟨h.own.lt, fun j hj => (h.each j hj).own.lt⟩
theorem Vin.mono {P Q : Nat → Prop} {o : Option Addr} {rs : List RV} {vs : List Ver} (h : Vin P o rs vs) (hq : ∀ i, P i → Q i) : Vin Q o rs vs := ⟨fun k hk => hq k (h.1 k hk), fun j hj k hk => hq k (h.2 j hj k hk)⟩
theorem NewVs.ge {w w' : World} {o : Option Addr} {c : Nat} {rs : List RV} {vs : List Ver} (h : NewVs w o c rs vs w') : Vin (fun i => w.heap.size ≤ i) o rs vs := ⟨h.newO, h.newK⟩
theorem Lk.vo {w wG wr : World} {o : Option Addr} {c : Nat} {vs : List Ver} {i : Nat} {rs : List RV} (h : Lk w wG o c vs i rs wr) : Vo wr o c rs vs := ⟨h.own, h.len, h.each⟩
/-- what is copied, with a spare version behind it -/
def rsp : RV := ⟨⟨#[115, 112, 97, 114, 101]⟩, 0, ⟨#[]⟩, none, 0, 0⟩
theorem Vo.spare {w w' : World} {o o' : Option Addr} {c c' : Nat} {rs : List RV} {vs : List Ver} (h : Vo w o c rs vs) (k : Keeps no w w') (ho : Own VE w' o' c' (rs ++ [rsp])) : Vo w' o' c' rs vs := ⟨ho.pre okV, h.len, fun j hj => (h.each j hj).keepsN k⟩
/-- the spare version's key -/
theorem own_spare {w : World} {g c : Nat} {rs : List RV} (h : Own VE w (some ⟨g, 0, none⟩) c (rs ++ [rsp])) : w.cell? ⟨g, rs.length * 4, none⟩ = some (.string ⟨#[115, 112, 97, 114, 101]⟩) := by
  obtain ⟨b, off, e, c0, _⟩ := h.sl.atV (j := rs.length) (by simp)
  have : b = g ∧ off = 0 := by cases e; exact ⟨rfl, rfl⟩
  obtain ⟨rfl, rfl⟩ := this
  rw [Nat.zero_add] at c0
  rw [c0, getD_app, if_neg (by omega), Nat.sub_self]
  rfl
theorem spare_some {w : World} {o : Option Addr} {c : Nat} {rs : List RV} (h : Own VE w o c (rs ++ [rsp])) : ∃ g, o = some ⟨g, 0, none⟩ := by
  rcases h.shape with ⟨_, _, e⟩ | ⟨g, _, e, _⟩
  · simp at e
  · exact ⟨g, e⟩
/-- what may be written at the end: x, y, u, and what is newer than keep -/
def Bk (A0 A1 A2 : Nat) (k : Nat) : Prop := (A0 ≤ k ∧ k < A1) ∨ A2 ≤ k
theorem own_twoX (w : World) (a b : LS Tx) : Sl XE (w.alloc (.cells #[.slice a.o a.xs.length a.c, .slice b.o b.xs.length b.c] 30)) (some ⟨w.heap.size, 0, none⟩) 2 [a, b] := by
  refine ⟨.inr ⟨_, 0, rfl, fun j u hj => ?_⟩, by simp, fun e => by cases e⟩
  rw [Nat.zero_add, cell_of_blk (blk_new w _)]
  simpa [El.cells, XE, LS.enc] using hj
theorem half_of {wF wx wk wq : World} {ox oy oL : Option Addr} {cx cy cL : Nat} {rx ry : List RV} {m : List Ver} {B : Nat → Prop} (hx : NewVo wF ox cx rx m wk) (hy : NewVo wx oy cy ry m wk) (hxl : ∀ j, j < m.length → ∀ k, inO (rx.getD j r0).o k → k < wx.heap.size) (hB : ∀ j, j < m.length → ∀ k, inO (rx.getD j r0).o k ∨ inO (ry.getD j r0).o k → B k) (ho : Own XE wq oL cL (LY rx ry m m.length)) (kp : Keeps no wk wq) :
    Half1 TE XE B oL cL (LY rx ry m m.length) (fun j => ((LY rx ry m m.length).getD j ls0).xs) wq := by
  have hl := LY_len rx ry m m.length
  refine ⟨ho, ?_, ?_, fun j _ => rfl, ?_⟩
  · intro j hj k hk
    rw [hl] at hj
    rw [LY_at rx ry m m.length j hj] at hk
    by_cases h : j % 2 = 0
    · rw [if_pos h] at hk; exact hB (j / 2) (by omega) k (.inl hk)
    · rw [if_neg h] at hk; exact hB (j / 2) (by omega) k (.inr hk)
  · intro j hj
    rw [hl] at hj
    rw [LY_at rx ry m m.length j hj]
    by_cases h : j % 2 = 0
    · rw [if_pos h]; exact (hx.each (j / 2) (by omega)).own.keepsN kp
    · rw [if_neg h]; exact (hy.each (j / 2) (by omega)).own.keepsN kp
  · intro i j hi hj hij k
    rw [hl] at hi hj
    rw [LY_at rx ry m m.length i hi, LY_at rx ry m m.length j hj]
    by_cases h1 : i % 2 = 0 <;> by_cases h2 : j % 2 = 0
    · rw [if_pos h1, if_pos h2]
      intro ha hb
      rcases Nat.lt_trichotomy (i / 2) (j / 2) with h | h | h
      · exact hx.sep _ _ h (by omega) k ha hb
      · omega
      · exact hx.sep _ _ h (by omega) k hb ha
    · rw [if_pos h1, if_neg h2]
      intro ha hb
      have := hxl _ (by omega) k ha
      have := hy.newK _ (show j / 2 < m.length by omega) k hb
      omega
    · rw [if_neg h1, if_pos h2]
      intro ha hb
      have := hxl _ (by omega) k hb
      have := hy.newK _ (show i / 2 < m.length by omega) k ha
      omega
    · rw [if_neg h1, if_neg h2]
      intro ha hb
      rcases Nat.lt_trichotomy (i / 2) (j / 2) with h | h | h
      · exact hy.sep _ _ h (by omega) k ha hb
      · omega
      · exact hy.sep _ _ h (by omega) k hb ha
end Go.Proofs.Ytodblodbeobgeaa
