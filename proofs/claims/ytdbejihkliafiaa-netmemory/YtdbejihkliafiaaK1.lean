/- NetBooks: the book in memory. -/
import Derived.Test.YtdbejihkliafiaaK0
import Derived.Test.YtdbejihkliafiaaL0
namespace Go.Proofs.Ytdbejihkliafiaa
open Go.RowKit Go.Sort
set_option linter.unusedVariables false
set_option linter.unusedSimpArgs false

/-- a call of a script, as it lies in memory -/
structure RO where
  kind : Int
  who : Int
  a : Int
  b : Int
  o : Option Addr
  n : Nat
  c : Nat
def ro0 : RO := ⟨0, 0, 0, 0, none, 0, 0⟩
def OE : El RO := ⟨42, 39, 5, 56, fun r => [.int .i64 r.kind, .int .i64 r.who, .int .i64 r.a, .int .i64 r.b, .slice r.o r.n r.c]⟩
theorem infoOE : (Try.prog.info? 42).map (fun i => (i.zero, i.size, i.bytes)) = some (some (.agg #[.int .i64 0, .int .i64 0, .int .i64 0, .int .i64 0, .slice none 0 0]), 5, 56) := by kernel_rfl
theorem okO : OE.Ok := by
  obtain ⟨i0, hi, hz0, hz1, hz2⟩ := info_parts infoOE
  exact ⟨fun _ => rfl, fun x u hu => by simp [OE] at hu; rcases hu with rfl | rfl | rfl | rfl | rfl <;> rfl, by decide, Try.underlying39, i0, _, hi, hz0, hz1, hz2, rfl⟩
structure At5 (w : World) (b off j : Nat) (r : RO) : Prop where
  c0 : w.cell? ⟨b, off + j * 5, none⟩ = some (.int .i64 r.kind)
  c1 : w.cell? ⟨b, off + j * 5 + 1, none⟩ = some (.int .i64 r.who)
  c2 : w.cell? ⟨b, off + j * 5 + 2, none⟩ = some (.int .i64 r.a)
  c3 : w.cell? ⟨b, off + j * 5 + 3, none⟩ = some (.int .i64 r.b)
  c4 : w.cell? ⟨b, off + j * 5 + 4, none⟩ = some (.slice r.o r.n r.c)
theorem row_at5 {w : World} {a : Option Addr} {xs : List RO} (h : Row OE w a xs) {j : Nat} (hj : j < xs.length) : ∃ b off, a = some ⟨b, off, none⟩ ∧ At5 w b off j (xs.getD j ro0) := by
  rcases h with e | ⟨b, off, rfl, hc⟩
  · subst e; simp at hj
  · have key : ∀ i, i < 5 → ∀ u, (OE.enc (xs.getD j ro0))[i]? = some u → w.cell? ⟨b, off + j * 5 + i, none⟩ = some u := by
      intro i hi u hu
      rw [Nat.add_assoc]
      refine hc (j * 5 + i) _ ?_
      have := cells_at okO ro0 xs j i hj hi
      rw [show j * 5 + i = j * OE.k + i from rfl, this]
      exact hu
    exact ⟨b, off, rfl, key 0 (by decide) _ rfl, key 1 (by decide) _ rfl, key 2 (by decide) _ rfl, key 3 (by decide) _ rfl, key 4 (by decide) _ rfl⟩
def LE : El Bool := ⟨4, 40, 1, 1, fun b => [.bool b]⟩
theorem infoLE : (Try.prog.info? 4).map (fun i => (i.zero, i.size, i.bytes)) = some (some (.bool false), 1, 1) := by kernel_rfl
theorem okL : LE.Ok := by
  obtain ⟨i0, hi, hz0, hz1, hz2⟩ := info_parts infoLE
  exact ⟨fun _ => rfl, fun x u hu => by simp [LE] at hu; rcases hu with rfl; rfl, by decide, Try.underlying40, i0, _, hi, hz0, hz1, hz2, rfl⟩
theorem Own.atL {w : World} {a : Option Addr} {c : Nat} {xs : List Bool} (h : Own LE w a c xs) {j : Nat} (hj : j < xs.length) : ∃ b, a = some ⟨b, 0, none⟩ ∧ (∀ i, w.frozen? ⟨b, i, none⟩ = false) ∧ w.cell? ⟨b, j, none⟩ = some (.bool (xs.getD j true)) ∧ Own LE (w.setCell ⟨b, j, none⟩ (.bool true)) a c (xs.set j true) ∧ Keeps (inO a) w (w.setCell ⟨b, j, none⟩ (.bool true)) := by
  obtain ⟨g, e, hf, h1, h2⟩ := h.store1 okL true j hj 0 (by decide) true (.bool true) rfl
  have e1 : j * LE.k + 0 = j := by show j * 1 + 0 = j; omega
  rw [e1] at h1 h2
  refine ⟨g, e, hf, ?_, h1, h2⟩
  rcases h.row with e2 | ⟨b, off, e2, hc⟩
  · rw [e2] at hj; simp at hj
  · rw [e] at e2; cases e2
    have := hc j _ (by
      have := cells_at okL true xs j 0 hj (by decide)
      rw [e1] at this
      rw [this]; rfl)
    rwa [Nat.zero_add] at this
structure BkOf (w : World) (r : RO) (b : Bk) : Prop where
  frm : r.a = b.frm
  dst : r.b = b.dst
  n : r.n = b.bs.length
  own : Own BE w r.o r.c b.bs
theorem BkOf.keeps {S : Nat → Prop} {w w' : World} {r : RO} {b : Bk} (h : BkOf w r b) (k : Keeps S w w') (hs : ∀ i, inO r.o i → ¬ S i) : BkOf w' r b := ⟨h.frm, h.dst, h.n, h.own.keeps k hs⟩
def MB (o5 o6 : Option Addr) (rb : List RO) (n : Nat) (i : Nat) : Prop := inO o5 i ∨ inO o6 i ∨ ∃ j, j < n ∧ inO (rb.getD j ro0).o i
/-- the net and the book -/
structure Bs (w0 w : World) (p : Nat) (s : NS) (o5 : Option Addr) (c5 : Nat) (rb : List RO) (o6 : Option Addr) (c6 : Nat) (bk : List Bk) (g : List Bool) : Prop where
  nx : Nx IsN w0 w p s (MB o5 o6 rb bk.length)
  book : Own OE w o5 c5 rb
  len : rb.length = bk.length
  rows : ∀ j, j < bk.length → BkOf w (rb.getD j ro0) (bk.getD j bk0)
  gn : Own LE w o6 c6 g
  new : ∀ i, MB o5 o6 rb bk.length i → w0.heap.size ≤ i
/-- marked blocks written, new ones marked -/
theorem Nx.step {w0 w w' : World} {p : Nat} {s : NS} {M : Nat → Prop} (h : Nx IsN w0 w p s M) (k : Keeps M w w') (hm : ∀ i, M i → w0.heap.size ≤ i) : Nx IsN w0 w' p s (fun i => M i ∨ (w.heap.size ≤ i ∧ i < w'.heap.size)) := by
  obtain ⟨F, h1, h2, h3, h4⟩ := h
  refine ⟨F, h1.keeps k (fun i hi hm => (h4 i hm).1 hi), h2, h3.then k (fun i hi => .inr (hm i hi)), fun i hi => ?_⟩
  rcases hi with hi | hi
  · exact ⟨(h4 i hi).1, Nat.lt_of_lt_of_le (h4 i hi).2 k.size⟩
  · exact ⟨fun hF => by have := h1.lt i hF; omega, hi.2⟩
section
variable {w0 w w1 w' : World} {p : Nat} {s s' : NS} {o5 : Option Addr} {c5 : Nat} {rb : List RO} {o6 : Option Addr} {c6 : Nat} {bk : List Bk} {g : List Bool}
theorem Bs.keepsN (h : Bs w0 w p s o5 c5 rb o6 c6 bk g) (k : Keeps no w w') : Bs w0 w' p s o5 c5 rb o6 c6 bk g :=
  ⟨h.nx.keepsN k, h.book.keepsN k, h.len, fun j hj => (h.rows j hj).keeps k (fun _ _ h => h), h.gn.keepsN k, h.new⟩
theorem Bs.net (h : Bs w0 w p s o5 c5 rb o6 c6 bk g) {M : Nat → Prop} (nx : Nx IsN w0 w' p s' M) (hM : ∀ i, MB o5 o6 rb bk.length i → M i) (k : Keeps (Mo (MB o5 o6 rb bk.length)) w w') : Bs w0 w' p s' o5 c5 rb o6 c6 bk g :=
  ⟨nx.fewer hM, h.book.keeps k (fun i hi hn => hn (.inl hi)), h.len, fun j hj => (h.rows j hj).keeps k (fun i hi hn => hn (.inr (.inr ⟨j, hj, hi⟩))), h.gn.keeps k (fun i hi hn => hn (.inr (.inl hi))), h.new⟩
/-- one more in the book -/
theorem Bs.push (h : Bs w0 w p s o5 c5 rb o6 c6 bk g) (k1 : Keeps no w w1) {r : RO} {b : Bk} (hr : BkOf w1 r b) (hn : ∀ i, inO r.o i → MB o5 o6 rb bk.length i ∨ w.heap.size ≤ i) {o5' : Option Addr} {c5' : Nat} (ho : Own OE w' o5' c5' (rb ++ [r])) (ha : Ap w1 o5 o5' w') : Bs w0 w' p s o5' c5' (rb ++ [r]) o6 c6 (bk ++ [b]) g := by
  have kk : Keeps (inO o5) w w' := (k1.of_no).trans ha.keeps
  have hin : ∀ i, inO o5' i → inO o5 i ∨ w.heap.size ≤ i := by
    intro i hi
    rcases ha with ⟨e, _⟩ | ⟨⟨g, e, hg⟩, _⟩
    · rw [e] at hi; exact .inl hi
    · rw [e] at hi
      obtain ⟨x, ex, rfl⟩ := hi
      cases ex
      exact .inr (Nat.le_trans k1.size hg)
  have hnx := h.nx.step (kk.mono (fun i hi => .inl hi)) h.new
  have hlt5 := ho.lt
  have hr' : BkOf w' r b := hr.keeps ha.keeps (fun i hi h2 => ne_own hr.own (h.book.keepsN k1) (by decide) i hi h2)
  have cov : ∀ i, MB o5' o6 (rb ++ [r]) (bk ++ [b]).length i → MB o5 o6 rb bk.length i ∨ (w.heap.size ≤ i ∧ i < w'.heap.size) := by
    rintro i (hi | hi | ⟨j, hj, hi⟩)
    · rcases hin i hi with e | e
      · exact .inl (.inl e)
      · exact .inr ⟨e, hlt5 i hi⟩
    · exact .inl (.inr (.inl hi))
    · rw [getD_app1, h.len] at hi
      by_cases e : j < bk.length
      · rw [if_pos e] at hi; exact .inl (.inr (.inr ⟨j, e, hi⟩))
      · have e2 : j = bk.length := by simp at hj; omega
        rw [if_neg e, if_pos e2] at hi
        rcases hn i hi with e3 | e3
        · exact .inl e3
        · exact .inr ⟨e3, hr'.own.lt i hi⟩
  refine ⟨hnx.fewer cov, ho, by simp [h.len], fun j hj => ?_, h.gn.keeps kk (fun i hi h2 => ne_own h.gn h.book (by decide) i hi h2), fun i hi => ?_⟩
  · rw [getD_app1, getD_app1, h.len]
    by_cases e : j < bk.length
    · rw [if_pos e, if_pos e]; exact (h.rows j e).keeps kk (fun i hi h2 => ne_own (h.rows j e).own h.book (by decide) i hi h2)
    · have e2 : j = bk.length := by simp at hj; omega
      rw [if_neg e, if_neg e, if_pos e2, if_pos e2]; exact hr'
  · rcases cov i hi with e | e
    · exact h.new i e
    · exact Nat.le_trans h.nx.kp.size e.1
/-- the marks turn -/
theorem Bs.marks (h : Bs w0 w p s o5 c5 rb o6 c6 bk g) (k1 : Keeps no w w1) {o6' : Option Addr} {c6' : Nat} {g' : List Bool} (ho : Own LE w' o6' c6' g') (ha : Ap w1 o6 o6' w') : Bs w0 w' p s o5 c5 rb o6' c6' bk g' := by
  have kk : Keeps (inO o6) w w' := (k1.of_no).trans ha.keeps
  have hin : ∀ i, inO o6' i → inO o6 i ∨ w.heap.size ≤ i := by
    intro i hi
    rcases ha with ⟨e, _⟩ | ⟨⟨g, e, hg⟩, _⟩
    · rw [e] at hi; exact .inl hi
    · rw [e] at hi
      obtain ⟨x, ex, rfl⟩ := hi
      cases ex
      exact .inr (Nat.le_trans k1.size hg)
  have hnx := h.nx.step (kk.mono (fun i hi => .inr (.inl hi))) h.new
  have hlt6 := ho.lt
  have cov : ∀ i, MB o5 o6' rb bk.length i → MB o5 o6 rb bk.length i ∨ (w.heap.size ≤ i ∧ i < w'.heap.size) := by
    rintro i (hi | hi | hi)
    · exact .inl (.inl hi)
    · rcases hin i hi with e | e
      · exact .inl (.inr (.inl e))
      · exact .inr ⟨e, hlt6 i hi⟩
    · exact .inl (.inr (.inr hi))
  refine ⟨hnx.fewer cov, h.book.keeps kk (fun i hi h2 => ne_own h.book h.gn (by decide) i hi h2), h.len, fun j hj => (h.rows j hj).keeps kk (fun i hi h2 => ne_own (h.rows j hj).own h.gn (by decide) i hi h2), ho, fun i hi => ?_⟩
  rcases cov i hi with e | e
  · exact h.new i e
  · exact Nat.le_trans h.nx.kp.size e.1
end
theorem i64_andp (n : Int) (k : Nat) (hk : k < 63) : bits .and .i64 n ((2 ^ k - 1 : Nat) : Int) = n % ((2 ^ k : Nat) : Int) := by
  have hp : 2 ^ k < 2 ^ 63 := Nat.pow_lt_pow_right (by decide) hk
  have hp0 : 0 < 2 ^ k := Nat.pow_pos (by decide)
  have h1 : (BitVec.ofInt 64 ((2 ^ k - 1 : Nat) : Int)).toNat = 2 ^ k - 1 := by
    rw [BitVec.toNat_ofInt]; omega
  have key : (BitVec.ofInt 64 n &&& BitVec.ofInt 64 ((2 ^ k - 1 : Nat) : Int)).toNat = (n % ((2 ^ 64 : Nat) : Int)).toNat % 2 ^ k := by
    rw [BitVec.toNat_and, BitVec.toNat_ofInt, h1, Nat.and_two_pow_sub_one_eq_mod]
  show IntKind.i64.wrap ((BitVec.ofInt 64 n &&& BitVec.ofInt 64 ((2 ^ k - 1 : Nat) : Int)).toNat : Nat) = _
  rw [key, IntKind.wrap_i64]
  have hm : ((n % ((2 ^ 64 : Nat) : Int)).toNat % 2 ^ k : Nat) < 2 ^ k := Nat.mod_lt _ hp0
  have e1 : (((n % ((2 ^ 64 : Nat) : Int)).toNat % 2 ^ k : Nat) : Int) = n % ((2 ^ k : Nat) : Int) := by
    rw [Int.natCast_emod, Int.toNat_of_nonneg (Int.emod_nonneg _ (by decide))]
    refine Int.emod_emod_of_dvd n ?_
    exact Int.natCast_dvd_natCast.2 (Nat.pow_dvd_pow 2 (by omega))
  rw [e1]
  have h0 := Int.emod_nonneg n (b := ((2 ^ k : Nat) : Int)) (by omega)
  have h2 := Int.emod_lt_of_pos n (b := ((2 ^ k : Nat) : Int)) (by omega)
  omega
theorem i64_and16 (n : Int) : bits .and .i64 n 65535 = n % 65536 := i64_andp n 16 (by decide)
theorem i64_and1 (n : Int) : bits .and .i64 n 1 = n % 2 := i64_andp n 1 (by decide)
end Go.Proofs.Ytdbejihkliafiaa
