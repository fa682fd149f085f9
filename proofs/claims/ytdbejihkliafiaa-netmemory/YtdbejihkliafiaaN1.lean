/- What puts a frame at the end, what takes one out. -/
import Derived.Test.YtdbejihkliafiaaN0
namespace Go.Proofs.Ytdbejihkliafiaa
open Go.RowKit Go.Sort
set_option linter.unusedVariables false
set_option linter.unusedSimpArgs false

section
variable {E : El RF} {T : TypeId} {C : Int → Int → Nat → Value → Array Value} {w w1 w2 w3 w4 : World} {p : Nat} {F : Nat → Prop} {s : NS} {o : Option Addr} {n c : Nat} {rs : List RF}
theorem tag_ne {w : World} {p i : Nat} {T T' : TypeId} {cur cur' : Array Value} {fz fz' : Nat × Nat} (h : w.heap[p]? = some (.cells cur T fz)) (h' : w.heap[i]? = some (.cells cur' T' fz')) (hne : T ≠ T') : ¬ i = p := by
  rintro rfl
  rw [h] at h'
  injection h' with h'
  injection h' with _ h' _
  exact hne h'
theorem NtL.ne (h : NtL E T C w p F s o n c rs) (hT : T ≠ E.e) (hT5 : T ≠ BE.e) : ∀ i, FB o rs s.fl.length i → ¬ i = p := by
  rintro i (hi | ⟨j, hj, hi⟩)
  · obtain ⟨cur, hc⟩ := h.fs.own.tag i hi
    exact tag_ne h.blk hc hT
  · obtain ⟨cur, hc⟩ := (h.fs.each j hj).bz.tag i hi
    exact tag_ne h.blk hc hT5
theorem Ap.inn {oa o' : Option Addr} {w w' : World} (h : Ap w oa o' w') : ∀ i, inO o' i → inO oa i ∨ w.heap.size ≤ i := by
  intro i hi
  rcases h with ⟨e, _⟩ | ⟨⟨g, e, hg⟩, _⟩
  · rw [e] at hi; exact .inl hi
  · rw [e] at hi
    obtain ⟨x, ex, rfl⟩ := hi
    cases ex
    exact .inr hg
/-- one more frame -/
theorem NtL.put (h : NtL E T C w p F s o n c rs) (hT : T ≠ E.e) (hT5 : T ≠ BE.e) (hE : E.e ≠ BE.e) {a b : Int} {bs : List UInt8} (k1 : Keeps (fun i => i = p) w w1) (k2 : Keeps no w1 w2) {bo : Option Addr} {bn bc : Nat} (hb : Oz BE w2 bo bc bs) (hbn : bn = bs.length) (hnew : ∀ i, zO bo bc i → w.heap.size ≤ i) {o' : Option Addr} {c' : Nat} (ho : Own E w3 o' c' (rs ++ [⟨s.num + 1, a, b, bo, bn, bc⟩])) (hap : Ap w2 o o' w3) (hp : ∃ cur, w3.heap[p]? = some (.cells cur T (0, 0))) (k4 : Keeps (fun i => i = p) w3 w4) (hblk : w4.heap[p]? = some (.cells (C s.parts s.clients (s.num + 1) (.slice o' (n + 1) c')) T (0, 0))) :
    ∃ G, Nt E T C w4 p G (putS s a b bs) ∧ (∀ i, G i → F i ∨ w.heap.size ≤ i) ∧ Keeps F w w4 := by
  have hne := h.ne hT hT5
  have k12 : Keeps (fun i => i = p) w w2 := k1.trans k2.of_no
  have f2 : Fs E w2 o c rs s.fl := h.fs.keeps k12 hne
  have hs12 := k12.size
  have hr3 : FOf w3 ⟨s.num + 1, a, b, bo, bn, bc⟩ ⟨s.num + 1, a, b, bs⟩ := ⟨rfl, rfl, rfl, hbn, hb.keeps hap.keeps (fun i hi h2 => by
    obtain ⟨ca, ha⟩ := hb.tag i hi
    obtain ⟨cb, hc⟩ := f2.own.tag i h2
    rw [ha] at hc
    injection hc with hc
    injection hc with _ hc _
    exact hE hc.symm)⟩
  have f3 : Fs E w3 o' c' (rs ++ [⟨s.num + 1, a, b, bo, bn, bc⟩]) (s.fl ++ [⟨s.num + 1, a, b, bs⟩]) := by
    refine ⟨ho, by simp [h.fs.len], fun j hj => ?_, fun i j hij hj k hi hk2 => ?_⟩
    · rw [getD_app1, getD_app1, h.fs.len]
      by_cases e : j < s.fl.length
      · rw [if_pos e, if_pos e]
        refine (f2.each j e).keeps hap.keeps (fun i hi h2 => ?_)
        obtain ⟨ca, ha⟩ := (f2.each j e).bz.tag i hi
        obtain ⟨cb, hc⟩ := f2.own.tag i h2
        rw [ha] at hc
        injection hc with hc
        injection hc with _ hc _
        exact hE hc.symm
      · have e2 : j = s.fl.length := by simp at hj; omega
        rw [if_neg e, if_neg e, if_pos e2, if_pos e2]; exact hr3
    · rw [getD_app1, h.fs.len] at hi hk2
      have hj' : j ≤ s.fl.length := by simp at hj; omega
      rw [if_pos (by omega)] at hi
      by_cases e : j < s.fl.length
      · rw [if_pos e] at hk2; exact h.fs.sep i j hij e k hi hk2
      · rw [if_neg e, if_pos (by omega)] at hk2
        have h1 := hnew k hk2
        have h2 := (h.fs.each i (by omega)).bz.lt k hi
        omega
  have hp3 : ∃ cur, w3.heap[p]? = some (.cells cur T (0, 0)) := hp
  have ne3 : ∀ i, FB o' (rs ++ [⟨s.num + 1, a, b, bo, bn, bc⟩]) (s.fl ++ [(⟨s.num + 1, a, b, bs⟩ : Fr)]).length i → ¬ i = p := by
    obtain ⟨cur, hc⟩ := hp3
    rintro i (hi | ⟨j, hj, hi⟩)
    · obtain ⟨cu, hu⟩ := f3.own.tag i hi
      exact tag_ne hc hu hT
    · obtain ⟨cu, hu⟩ := (f3.each j hj).bz.tag i hi
      exact tag_ne hc hu hT5
  have f4 := f3.keeps k4 ne3
  have hsz3 := hap.keeps.size
  have hsz4 := k4.size
  refine ⟨fun i => F i ∨ (w.heap.size ≤ i ∧ i < w4.heap.size), ⟨o', n + 1, c', _, hblk, by show n + 1 = (s.fl ++ [_]).length; simp [h.n], f4, .inl h.pF, fun i hi => ?_, fun i hi => ?_⟩, fun i hi => hi.imp (fun h => h) (fun h => h.1), ((k12.mono (fun i hi => by subst hi; exact h.pF)).then hap.keeps (fun i hi => .inl (h.fF i (.inl hi)))).then k4 (fun i hi => by subst hi; exact .inl h.pF)⟩
  · have hlt := f4.lt i hi
    by_cases hw : i < w.heap.size
    · refine .inl (h.fF i ?_)
      rcases hi with hi | ⟨j, hj, hi⟩
      · rcases hap.inn i hi with e | e
        · exact .inl e
        · omega
      · rw [getD_app1, h.fs.len] at hi
        by_cases e : j < s.fl.length
        · rw [if_pos e] at hi; exact .inr ⟨j, e, hi⟩
        · have hj2 : j < s.fl.length + 1 := by
            have : (putS s a b bs).fl.length = s.fl.length + 1 := by show (s.fl ++ [_]).length = _; simp
            omega
          rw [if_neg e, if_pos (by omega)] at hi
          have := hnew i hi
          omega
    · exact .inr ⟨by omega, hlt⟩
  · rcases hi with hi | hi
    · exact Nat.lt_of_lt_of_le (h.lt i hi) (by omega)
    · exact hi.2
/-- one frame out -/
theorem NtL.del (h : NtL E T C w p F s o n c rs) (hT : T ≠ E.e) (hT5 : T ≠ BE.e) (hE : E.e ≠ BE.e) {k : Nat} (hk : k < s.fl.length) {S : Nat → Prop} (k1 : Keeps S w w1) (hS : ∀ i, S i → i = p ∨ inO o i) {o' : Option Addr} {n' c' : Nat} (ho : Own E w1 o' c' (rs.eraseIdx k)) (hn' : n' = (rs.eraseIdx k).length) (hin : ∀ i, inO o' i → inO o i ∨ w.heap.size ≤ i) (hblk : w1.heap[p]? = some (.cells (C s.parts s.clients s.num (.slice o' n' c')) T (0, 0))) :
    ∃ G, Nt E T C w1 p G (delS s (k : Int)) ∧ (∀ i, G i → F i ∨ w.heap.size ≤ i) ∧ Keeps F w w1 ∧ FOf w1 (rs.getD k rf0) (delF s (k : Int)) ∧ ∀ i, zO (rs.getD k rf0).o (rs.getD k rf0).c i → F i ∧ ¬ G i := by
  have hh : hasS s (k : Int) = true := (has_iff s k).2 ⟨k, rfl, hk⟩
  have e1 : delS s (k : Int) = { s with fl := s.fl.eraseIdx k } := by unfold delS; rw [if_pos hh]; rfl
  have e2 : delF s (k : Int) = s.fl.getD k fr0 := by unfold delF; rw [if_pos hh]; rfl
  have hne := h.ne hT hT5
  have bz : ∀ j, j < s.fl.length → ∀ i, zO (rs.getD j rf0).o (rs.getD j rf0).c i → ¬ S i := by
    intro j hj i hi hs
    rcases hS i hs with e | e
    · exact hne i (.inr ⟨j, hj, hi⟩) e
    · obtain ⟨ca, ha⟩ := (h.fs.each j hj).bz.tag i hi
      obtain ⟨cb, hc⟩ := h.fs.own.tag i e
      rw [ha] at hc
      injection hc with hc
      injection hc with _ hc _
      exact hE hc.symm
  have f1 := h.fs.erase hk ho k1 bz
  have hl : (s.fl.eraseIdx k).length = s.fl.length - 1 := len_erase _ _ hk
  have hout := h.fs.out hk hE
  have hsz := k1.size
  rw [e1, e2]
  refine ⟨fun i => (F i ∨ (w.heap.size ≤ i ∧ i < w1.heap.size)) ∧ ¬ zO (rs.getD k rf0).o (rs.getD k rf0).c i, ⟨o', n', c', _, hblk, by show n' = (s.fl.eraseIdx k).length; rw [hn', hl, len_erase _ _ (by rw [h.fs.len]; exact hk), h.fs.len], f1, ⟨.inl h.pF, fun hz => hne p (.inr ⟨k, hk, hz⟩) rfl⟩, fun i hi => ⟨?_, fun hz => ?_⟩, fun i hi => ?_⟩, fun i hi => hi.1.imp (fun h => h) (fun h => h.1), k1.mono (fun i hi => (hS i hi).elim (fun e => by subst e; exact h.pF) (fun e => h.fF i (.inl e))), (h.fs.each k hk).keeps k1 (bz k hk), fun i hi => ⟨h.fF i (.inr ⟨k, hk, hi⟩), fun hg => hg.2 hi⟩⟩
  · have hlt := f1.lt i hi
    by_cases hw : i < w.heap.size
    · refine .inl (h.fF i ?_)
      rcases hi with hi | ⟨j, hj, hi⟩
      · rcases hin i hi with e | e
        · exact .inl e
        · omega
      · have hj' : j < s.fl.length - 1 := by rw [← hl]; exact hj
        rw [getD_erase] at hi
        split at hi
        · exact .inr ⟨j, by omega, hi⟩
        · exact .inr ⟨j + 1, by omega, hi⟩
    · exact .inr ⟨by omega, hlt⟩
  · have hz' := hout i hz
    rcases hi with hi | ⟨j, hj, hi⟩
    · rcases hin i hi with e | e
      · exact hz'.1 e
      · have := (h.fs.each k hk).bz.lt i hz; omega
    · exact hz'.2 j (by rw [← hl]; exact hj) hi
  · rcases hi.1 with e | e
    · exact Nat.lt_of_lt_of_le (h.lt i e) hsz
    · exact e.2
end
end Go.Proofs.Ytdbejihkliafiaa
