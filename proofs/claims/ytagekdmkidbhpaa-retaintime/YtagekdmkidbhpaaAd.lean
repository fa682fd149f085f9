import Derived.Test.YtagekdmkidbhpaaH3
import Derived.Test.YtagekdmkidbhpaaC5
/- A version more: the pieces put together. -/
namespace Go.Proofs.Ytagekdmkidbhpaa
open Go.RowKit Go.Maps
set_option linter.unusedVariables false
set_option linter.unusedSimpArgs false

theorem SL.retag {w : World} {p : Nat} {T T' : Nat → Option Ro} {s : St} {N : Nat} {y : Lay} (h : SL w p T s N y) (hT : ∀ b, T b ≠ none → T' b = T b) (hl : ∀ b, T' b ≠ none → b < w.heap.size) : SL w p T' s N y := by
  have ht : ∀ {b r}, T b = some r → T' b = some r := fun {b r} e => by rw [hT b (by rw [e]; simp), e]
  exact { h with
    key := fun q hq => ⟨(h.key q hq).1, fun b hb => ht ((h.key q hq).2 b hb)⟩
    tp := ht h.tp
    tv := ht h.tv
    tl := ht h.tl
    tw := ht h.tw
    tln := fun q hq => ⟨ht (h.tln q hq).1, fun b hb => ht ((h.tln q hq).2 b hb)⟩
    tst := fun q hq => ht (h.tst q hq)
    lt := hl }
/-- the blocks of a store that are written -/
def Mut (T : Nat → Option Ro) (b : Nat) : Prop := T b ≠ none ∧ T b ≠ some .ky
/-- the blocks that a version more may touch -/
def addS (y : Lay) (k : Tx) (i : Nat) (b : Nat) : Prop := b = y.vm ∨ b = y.wm ∨ b = y.lm ∨ (∃ q, fnd i y.W = some q ∧ b = q.1) ∨ (∃ x, fnd k y.L = some x ∧ (b = x.p ∨ inO x.o b))
theorem addS_tag {w : World} {p : Nat} {T : Nat → Option Ro} {s : St} {N : Nat} {y : Lay} (h : SL w p T s N y) {k : Tx} {i b : Nat} (hb : addS y k i b) : T b = some .vm ∨ T b = some .wm ∨ T b = some .lm ∨ T b = some (.st i) ∨ T b = some (.ln k) ∨ T b = some (.fr k) := by
  rcases hb with rfl | rfl | rfl | ⟨q, hq, rfl⟩ | ⟨x, hx, rfl | hb⟩
  · exact .inl h.tv
  · exact .inr (.inl h.tw)
  · exact .inr (.inr (.inl h.tl))
  · exact .inr (.inr (.inr (.inl (h.tst _ (fnd_mem hq)))))
  · exact .inr (.inr (.inr (.inr (.inl (h.tln _ (fnd_mem hx)).1))))
  · exact .inr (.inr (.inr (.inr (.inr ((h.tln _ (fnd_mem hx)).2 b hb)))))
theorem addS_not {w : World} {p : Nat} {T : Nat → Option Ro} {s : St} {N : Nat} {y : Lay} (h : SL w p T s N y) {k : Tx} {i b : Nat} {r : Ro} (hr : T b = some r) (h1 : r ≠ .vm) (h2 : r ≠ .wm) (h3 : r ≠ .lm) (h4 : r ≠ .st i) (h5 : r ≠ .ln k) (h6 : r ≠ .fr k) : ¬ addS y k i b := by
  intro hb
  rcases addS_tag h hb with e | e | e | e | e | e <;> rw [hr] at e <;> injection e with e
  · exact h1 e
  · exact h2 e
  · exact h3 e
  · exact h4 e
  · exact h5 e
  · exact h6 e
theorem SL.line_facts {w : World} {p : Nat} {T : Nat → Option Ro} {s : St} {N : Nat} {y : Lay} (h : SL w p T s N y) {k : Tx} {x : Ln} (hL : fnd k y.L = some x ∨ (fnd k y.L = none ∧ x.fr = [] ∧ x.last = 0)) :
    Hp.Heap x.fr ∧ x.fr.Nodup ∧ (∀ i, i ∈ x.fr ↔ ∃ v, s.V (k, i) = some v ∧ v.stamp = -1) ∧ x.last = lastOf y.L k ∧ x.last < 18446744073709551616 ∧ x.fr.length ≤ N := by
  rcases hL with hf | ⟨hf, e1, e2⟩
  · have hm := fnd_mem hf
    obtain ⟨a, b, c⟩ := h.fr _ hm
    exact ⟨a, b, c, by simp [lastOf, hf], h.la _ hm, h.nf _ hm⟩
  · rw [e1, e2]
    refine ⟨Hp.heap_nil, List.nodup_nil, fun i => ?_, by simp [lastOf, hf], by omega, Nat.zero_le _⟩
    constructor
    · intro h; cases h
    · rintro ⟨v, hv, _⟩
      obtain ⟨x, hx⟩ := h.hv k i (by rw [hv]; simp)
      rw [hf] at hx; cases hx
theorem SL.add {w w' : World} {p : Nat} {T : Nat → Option Ro} {s : St} {N : Nat} {y : Lay} (h : SL w p T s N y) {k : Tx} {i : Nat} {v : MV} (hnew : s.V (k, i) = none)
    {sb : Nat} {l : List Tx} (hW : fnd i y.W = some (sb, l) ∨ (fnd i y.W = none ∧ l = [] ∧ w.heap.size ≤ sb))
    {x x' : Ln} (hL : fnd k y.L = some x ∨ (fnd k y.L = none ∧ x.fr = [] ∧ x.last = 0)) (hLn : fnd k y.L = none → w.heap.size ≤ x'.p ∧ ∀ b, inO x'.o b → w.heap.size ≤ b)
    (hx1 : x'.p = x.p) (hx2 : x'.last = x.last) (hx3 : ∀ b, inO x'.o b → inO x.o b ∨ w.heap.size ≤ b) (hh : Hp.Heap x'.fr) (hp : x'.fr.Perm (if v.stamp = -1 then x.fr ++ [i] else x.fr))
    (mv' : IsMp KM vvV w' y.vm (put (k, i) v y.V)) (mw' : IsMp KI vvW w' y.wm (put i (sb, k :: l) y.W)) (set' : IsMp KT vvU w' sb (setL (k :: l))) (ml' : IsMp KT vvL w' y.lm (put k x' y.L)) (line' : LineAt w' x')
    (key' : Sl TE w' v.o v.c v.keys ∧ ∀ b, inO v.o b → T b = some .ky) (hk : Keeps (addS y k i) w w') :
    ∃ T', SL w' p T' (s.add (k, i) v.vr) (N + 1) ⟨y.vm, y.lm, y.wm, put (k, i) v y.V, put k x' y.L, put i (sb, k :: l) y.W⟩ ∧ ∀ b, b < w.heap.size → T' b = T b := by
  classical
  obtain ⟨xf1, xf2, xf3, xf4, xf5, xf6⟩ := h.line_facts hL
  obtain ⟨ses, sclk, hsb⟩ := set'.obj
  have hpsb : x'.p ≠ sb := fun e => by have := line'.blk; rw [e, hsb] at this; cases this
  have hosb : ∀ b, inO x'.o b → b ≠ sb := fun b hb e => by obtain ⟨cur, hc⟩ := line'.own.tag b hb; rw [e, hsb] at hc; cases hc
  have hop : ∀ b, inO x'.o b → b ≠ x'.p := line'.o_p line'
  have hnV : fnd (k, i) y.V = none := by
    have := h.sv (k, i); rw [hnew] at this
    cases e : fnd (k, i) y.V with
    | none => rfl
    | some u => rw [e] at this; cases this
  let T' : Nat → Option Ro := fun b => if b < w.heap.size then T b else if b = sb then some (.st i) else if b = x'.p then some (.ln k) else if inO x'.o b then some (.fr k) else none
  have hold : ∀ b, b < w.heap.size → T' b = T b := fun b hb => if_pos hb
  have ht : ∀ {b r}, T b = some r → T' b = some r := fun {b r} e => by rw [hold b (h.lt b (by rw [e]; simp)), e]
  have tsb : T' sb = some (.st i) := by
    by_cases e : sb < w.heap.size
    · rcases hW with hf | ⟨_, _, hs⟩
      · exact ht (h.tst _ (fnd_mem hf))
      · omega
    · simp [T', e]
  have tp' : T' x'.p = some (.ln k) := by
    by_cases e : x'.p < w.heap.size
    · rcases hL with hf | ⟨hf, _, _⟩
      · rw [hx1]; exact ht (h.tln _ (fnd_mem hf)).1
      · have := (hLn hf).1; omega
    · simp [T', e, hpsb]
  have to' : ∀ b, inO x'.o b → T' b = some (.fr k) := fun b hb => by
    by_cases e : b < w.heap.size
    · rcases hL with hf | ⟨hf, _, _⟩
      · rcases hx3 b hb with h1 | h1
        · exact ht ((h.tln _ (fnd_mem hf)).2 b h1)
        · omega
      · have := (hLn hf).2 b hb; omega
    · simp [T', e, hosb b hb, hop b hb, hb]
  refine ⟨T', ?_, hold⟩
  have hiV : ∀ m, (s.add (k, i) v.vr).V m = if m = (k, i) then some v.vr else s.V m := fun m => rfl
  have mem_fr : ∀ i', i' ∈ x'.fr ↔ ∃ u, (s.add (k, i) v.vr).V (k, i') = some u ∧ u.stamp = -1 := by
    intro i'
    rw [hp.mem_iff, hiV]
    by_cases e : i' = i
    · subst e
      rw [if_pos rfl]
      have hno : i' ∉ x.fr := fun hc => by obtain ⟨u, hu, _⟩ := (xf3 i').1 hc; rw [hnew] at hu; cases hu
      by_cases es : v.stamp = -1
      · rw [if_pos es]
        exact ⟨fun _ => ⟨_, rfl, es⟩, fun _ => by simp⟩
      · rw [if_neg es]
        exact ⟨fun hc => absurd hc hno, fun ⟨u, hu, hs⟩ => by cases hu; exact absurd hs es⟩
    · have e2 : ¬ ((k, i') = (k, i)) := fun ee => e (by injection ee)
      rw [if_neg e2, ← xf3 i']
      split
      · simp [e]
      · rfl
  have nd : x'.fr.Nodup := by
    rw [hp.nodup_iff]
    split
    · have hno : i ∉ x.fr := fun hc => by obtain ⟨u, hu, _⟩ := (xf3 i).1 hc; rw [hnew] at hu; cases hu
      exact List.nodup_append.2 ⟨xf2, by simp, fun a ha b hb => by simp at hb; subst hb; rintro rfl; exact hno ha⟩
    · exact xf2
  have hl' : k ∉ l := by
    have := nk_setL.1 set'.nk
    exact (List.nodup_cons.1 this).1
  refine { blk := ?_, mv := mv', ml := ml', mw := mw', line := ?_, set := ?_, key := ?_, tp := ht h.tp, tv := ht h.tv, tl := ht h.tl, tw := ht h.tw, tln := ?_, tst := ?_, lt := ?_, sv := ?_, sl := ?_, hv := ?_, fr := ?_, sw := ?_, wn := ?_, la := ?_, lv := ?_, nv := ?_, nl := ?_, nw := ?_, ns := ?_, nf := ?_ }
  · exact hk.at h.blk (addS_not h h.tp (by simp) (by simp) (by simp) (by simp) (by simp) (by simp))
  · intro q hq
    rcases mem_put.1 hq with rfl | ⟨hq, hne⟩
    · exact line'
    · refine (h.line q hq).keeps hk (addS_not h (h.tln q hq).1 (by simp) (by simp) (by simp) (by simp) (by simp [hne]) (by simp)) (fun b hb => addS_not h ((h.tln q hq).2 b hb) (by simp) (by simp) (by simp) (by simp) (by simp) (by simp [hne]))
  · intro q hq
    rcases mem_put.1 hq with rfl | ⟨hq, hne⟩
    · exact set'
    · exact (h.set q hq).keeps hk (addS_not h (h.tst q hq) (by simp) (by simp) (by simp) (by simp [hne]) (by simp) (by simp))
  · intro q hq
    rcases mem_put.1 hq with rfl | ⟨hq, hne⟩
    · exact ⟨key'.1, fun b hb => ht (key'.2 b hb)⟩
    · exact ⟨(h.key q hq).1.keeps hk (fun b hb => addS_not h ((h.key q hq).2 b hb) (by simp) (by simp) (by simp) (by simp) (by simp) (by simp)), fun b hb => ht ((h.key q hq).2 b hb)⟩
  · intro q hq
    rcases mem_put.1 hq with rfl | ⟨hq, hne⟩
    · exact ⟨tp', to'⟩
    · exact ⟨ht (h.tln q hq).1, fun b hb => ht ((h.tln q hq).2 b hb)⟩
  · intro q hq
    rcases mem_put.1 hq with rfl | ⟨hq, hne⟩
    · exact tsb
    · exact ht (h.tst q hq)
  · intro b hb
    by_cases e : b < w.heap.size
    · exact Nat.lt_of_lt_of_le e hk.size
    · by_cases e1 : b = sb
      · subst e1; exact set'.lt
      · by_cases e2 : b = x'.p
        · subst e2; exact lt_of_block line'.blk
        · by_cases e3 : inO x'.o b
          · exact line'.own.lt b e3
          · simp [T', e, e1, e2, e3] at hb
  · intro m
    rw [hiV, fnd_put]
    split
    · rfl
    · exact h.sv m
  · intro k'
    show s.last k' = lastOf (put k x' y.L) k'
    rw [h.sl k']
    unfold lastOf
    rw [fnd_put]
    by_cases e : k' = k
    · subst e
      rw [if_pos rfl]
      have := xf4
      unfold lastOf at this
      rw [← this]
      exact hx2.symm
    · rw [if_neg e]
  · intro k' i' hv'
    rw [fnd_put]
    by_cases e : k' = k
    · exact ⟨x', by rw [if_pos e]⟩
    · rw [if_neg e]
      rw [hiV, if_neg (fun ee => e (by injection ee))] at hv'
      exact h.hv k' i' hv'
  · intro q hq
    rcases mem_put.1 hq with rfl | ⟨hq, hne⟩
    · exact ⟨hh, nd, mem_fr⟩
    · obtain ⟨a, b, c⟩ := h.fr q hq
      refine ⟨a, b, fun i' => ?_⟩
      rw [c i', hiV, if_neg (fun ee => hne (by injection ee))]
  · intro i' k'
    rw [hiV, fnd_put]
    by_cases e : i' = i
    · subst e
      rw [if_pos rfl]
      by_cases e2 : k' = k
      · subst e2
        rw [if_pos rfl]
        exact ⟨fun _ => ⟨_, rfl, by simp⟩, fun _ => by simp⟩
      · rw [if_neg (fun ee => e2 (by injection ee)), h.sw i' k']
        rcases hW with hf | ⟨hf, rfl, _⟩
        · rw [hf]; simp [e2]
        · rw [hf]; simp [e2]
    · rw [if_neg e, if_neg (fun ee => e (by injection ee)), h.sw i' k']
  · intro q hq
    rcases mem_put.1 hq with rfl | ⟨hq, hne⟩
    · simp
    · exact h.wn q hq
  · intro q hq
    rcases mem_put.1 hq with rfl | ⟨hq, hne⟩
    · show x'.last < _; rw [hx2]; exact xf5
    · exact h.la q hq
  · intro q hq
    rcases mem_put.1 hq with rfl | ⟨hq, hne⟩
    · exact ⟨i, by rw [hiV, if_pos rfl]; simp⟩
    · obtain ⟨j, hj⟩ := h.lv q hq
      refine ⟨j, ?_⟩
      rw [hiV]
      split
      · simp
      · exact hj
  · exact Nat.le_trans (length_put_le _ _ _) (by have := h.nv; omega)
  · exact Nat.le_trans (length_put_le _ _ _) (by have := h.nl; omega)
  · exact Nat.le_trans (length_put_le _ _ _) (by have := h.nw; omega)
  · intro q hq
    rcases mem_put.1 hq with rfl | ⟨hq, hne⟩
    · show (k :: l).length ≤ N + 1
      rcases hW with hf | ⟨_, rfl, _⟩
      · have := h.ns _ (fnd_mem hf)
        simp at this ⊢; omega
      · simp
    · have := h.ns q hq; omega
  · intro q hq
    rcases mem_put.1 hq with rfl | ⟨hq, hne⟩
    · show x'.fr.length ≤ N + 1
      rw [hp.length_eq]
      split
      · simp; omega
      · omega
    · have := h.nf q hq; omega
end Go.Proofs.Ytagekdmkidbhpaa
