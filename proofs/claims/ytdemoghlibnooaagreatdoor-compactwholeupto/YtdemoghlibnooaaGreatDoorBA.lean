import Derived.Test.YtdemoghlibnooaaGreatDoorB6
import Derived.Test.YtdemoghlibnooaaGreatDoorB8
import Derived.Test.YtdemoghlibnooaaGreatDoorB9
import Derived.Deep.RegionHeldLaw
/- A store of the call's own, beside blocks that are not its own. -/
namespace Go.Proofs.YtdemoghlibnooaaGreatDoor
open Go.RowKit Go.Maps Go.Sort Orl
set_option linter.unusedVariables false
set_option linter.unusedSimpArgs false

/-- P: blocks that are not the store's -/
def Ow (w0 w : World) (p : Nat) (s : St) (N : Nat) (P : Nat → Prop) : Prop := ∃ T, Ows w0 w p T s N ∧ ∀ b, P b → T b = none ∧ w0.heap.size ≤ b ∧ b < w.heap.size
section
variable {w0 w w' : World} {p : Nat} {s : St} {N : Nat} {P : Nat → Prop}
theorem Ow.ok (h : Ow w0 w p s N P) : Ok s := by obtain ⟨T, h, _⟩ := h; exact h.ok
theorem Ow.keep (h : Ow w0 w p s N P) : Keeps no w0 w := by obtain ⟨T, h, _⟩ := h; exact h.keep
theorem Ow.go (h : Ow w0 w p s N P) (hk : Keeps no w w') : Ow w0 w' p s N P := by
  obtain ⟨T, h, hP⟩ := h
  exact ⟨T, h.go hk, fun b hb => ⟨(hP b hb).1, (hP b hb).2.1, Nat.lt_of_lt_of_le (hP b hb).2.2 hk.size⟩⟩
theorem Ow.sub (h : Ow w0 w p s N P) {Q : Nat → Prop} (hQ : ∀ b, Q b → P b) : Ow w0 w p s N Q := by
  obtain ⟨T, h, hP⟩ := h
  exact ⟨T, h, fun b hb => hP b (hQ b hb)⟩
theorem Ow.more (h : Ow w0 w p s N P) {M : Nat} (hM : N ≤ M) : Ow w0 w p s M P := by
  obtain ⟨T, h, hP⟩ := h
  exact ⟨T, ⟨h.is.more hM, h.ok, h.new, h.keep⟩, hP⟩
/-- what others have made since is not the store's -/
theorem Ow.grow (h : Ow w0 w p s N P) (hk : Keeps no w w') : Ow w0 w' p s N (fun b => P b ∨ (w.heap.size ≤ b ∧ b < w'.heap.size)) := by
  obtain ⟨T, h, hP⟩ := h
  refine ⟨T, h.go hk, fun b hb => ?_⟩
  rcases hb with hb | ⟨h1, h2⟩
  · exact ⟨(hP b hb).1, (hP b hb).2.1, Nat.lt_of_lt_of_le (hP b hb).2.2 hk.size⟩
  · refine ⟨?_, Nat.le_trans h.keep.size h1, h2⟩
    cases e : T b with
    | none => rfl
    | some r => have := h.is.lt b (by rw [e]; simp); omega
/-- others write their own -/
theorem Ow.other (h : Ow w0 w p s N P) (hk : Keeps P w w') : Ow w0 w' p s N P := by
  obtain ⟨T, h, hP⟩ := h
  refine ⟨T, ⟨h.is.keeps hk (fun b hb hc => hb (hP b hc).1), h.ok, h.new, h.keep.then hk (fun b hb => .inr (hP b hb).2.1)⟩, fun b hb => ⟨(hP b hb).1, (hP b hb).2.1, Nat.lt_of_lt_of_le (hP b hb).2.2 hk.size⟩⟩
theorem Ow.lt (h : Ow w0 w p s N P) {b : Nat} (hb : P b) : b < w.heap.size := by obtain ⟨T, _, hP⟩ := h; exact (hP b hb).2.2
theorem ow_new (w : World) : Calls Tryz.prog 8 #[] w fun e w' => ∃ p, e = .returned (.pointer (some ⟨p, 0, none⟩)) ∧ Hid (Ow w w' p St.new 0 no) := by
  refine (own_new w).mono ?_
  rintro e w' ⟨p, he, hT⟩
  obtain ⟨T, h⟩ := hT.out
  exact ⟨p, he, T, h, fun b hb => hb.elim⟩
theorem Ow.put (h : Ow w0 w p s N P) (i : Nat) (ps : List Pr) (keys : List Tx) (now : Int) (ap : Option Addr) (np cp : Nat) (ak : Option Addr) (nk ck : Nat) (hi : i < 18446744073709551616) (hnp : np = ps.length) (hnk : nk = keys.length) (hsp : Sl PE w ap cp ps) (hsk : Sl TE w ak ck keys) (hlp : ps.length ≤ 100000) (hok : okPut i ps keys now = true) (hN : N ≤ 900000000) :
    Calls Tryz.prog 42 #[.pointer (some ⟨p, 0, none⟩), .int .u64 ((i : Nat) : Int), .slice ap np cp, .slice ak nk ck, .int .i64 now] w fun e w' => e = .returned (.tuple #[.bool (decide (0 < (miss s i ps).length)), .int .i64 0]) ∧ Hid (Ow w0 w' p (putAll i keys now s (miss s i ps)) (N + (miss s i ps).length) P ∧ Keeps (fun b => ¬ P b) w w') := by
  obtain ⟨T, h, hP⟩ := h
  refine (h.put i ps keys now ap np cp ak nk ck hi hnp hnk hsp hsk hlp hok hN).mono ?_
  rintro e w' ⟨he, hT⟩
  obtain ⟨T', h1, h2, h3⟩ := hT.out
  exact ⟨he, ⟨T', h1, fun b hb => ⟨by rw [h2 b (hP b hb).2.2]; exact (hP b hb).1, (hP b hb).2.1, Nat.lt_of_lt_of_le (hP b hb).2.2 h3.size⟩⟩, h3.mono fun b hb hc => hb.1 (hP b hc).1⟩
theorem Ow.commit (h : Ow w0 w p s N P) (i : Nat) (now : Int) (hi : i < 18446744073709551616) (hi2 : 65536 ≤ i) (ht : tickB now = true) (hN : N ≤ 2000000000000) :
    Calls Tryz.prog 43 #[.pointer (some ⟨p, 0, none⟩), .int .u64 ((i : Nat) : Int), .int .i64 now] w fun e w' => ∃ n : Nat, e = .returned (.tuple #[.int .i64 ((n : Nat) : Int), .int .i64 0]) ∧ Hid (CountOf s i n) ∧ Hid (Ow w0 w' p (commitS s i now) N P ∧ Keeps (fun b => ¬ P b) w w') := by
  obtain ⟨T, h, hP⟩ := h
  refine (h.commit i now hi hi2 ht hN).mono ?_
  rintro e w' ⟨n, he, hc, hO⟩
  obtain ⟨h1, h3⟩ := hO.out
  exact ⟨n, he, hc, ⟨T, h1, fun b hb => ⟨(hP b hb).1, (hP b hb).2.1, Nat.lt_of_lt_of_le (hP b hb).2.2 h3.size⟩⟩, h3.mono fun b hb hc => hb.1 (hP b hc).1⟩
theorem Ow.last (h : Ow w0 w p s N P) (k : Tx) (hk : k.size ≤ 65535) :
    Calls Tryz.prog 44 #[.pointer (some ⟨p, 0, none⟩), .string k] w fun e w' => e = .returned (.int .u64 ((s.last k : Nat) : Int)) ∧ w' = w := by
  obtain ⟨T, h, _⟩ := h
  exact h.last k hk
theorem Ow.kept (h : Ow w0 w p s N P) (hN : N ≤ 1954687338211) :
    Calls Tryz.prog 33 #[.pointer (some ⟨p, 0, none⟩)] w fun e w' => ∃ v, e = .returned v ∧ ∃ o n c ks, v = .slice o n c ∧ Hid (n = ks.length) ∧ Hid (Kl w ks o c w' ∧ IsKs s ks ∧ Inc ltM (ks.map (·.m)) ∧ ∀ m, s.V m ≠ none → m ∈ ks.map (·.m)) ∧ Hid (ks.length ≤ N) := by
  obtain ⟨T, h, _⟩ := h
  exact kept_any w p T s N h.is h.ok.v hN
end
end Go.Proofs.YtdemoghlibnooaaGreatDoor
/- Load. -/
namespace Go.Proofs.YtdemoghlibnooaaGreatDoor
open Go.RowKit Go.Maps Go.Sort Orl
set_option linter.unusedVariables false
set_option linter.unusedSimpArgs false

def vvI (n : Nat) : Value := .int .u64 ((n : Nat) : Int)
/-- a list of keys in memory -/
structure SV where
  o : Option Addr
  c : Nat
  keys : List Tx
def vvS (v : SV) : Value := .slice v.o v.keys.length v.c
theorem fnd_snoc {κ β : Type} [DecidableEq κ] (k : κ) (p : κ × β) : ∀ L : List (κ × β), fnd k (L ++ [p]) = match fnd k L with | some v => some v | none => if p.1 = k then some p.2 else none
  | [] => rfl
  | q :: r => by
    simp only [List.cons_append, fnd]
    by_cases e : q.1 = k
    · simp [e]
    · simp only [e, if_false]
      exact fnd_snoc k p r
/-- the map of the lasts, the first j of them in it -/
structure LM (w : World) (M : Nat) (ls : List Mk) (j : Nat) (wr : World) (ms : List (Tx × Nat)) : Prop where
  mp : IsMp KT vvI wr M ms
  eq : ∀ k, fnd k ms = fnd k (ls.take j)
  le : ms.length ≤ j
  kp : Keeps no w wr
  new : w.heap.size ≤ M
theorem LM.step {w : World} {M : Nat} {ls : List Mk} {j : Nat} {wr wr' : World} {ms : List (Tx × Nat)} (h : LM w M ls j wr ms) (hn : Nk ls) (hj : j < ls.length) (hm : IsMp KT vvI wr' M (put (ls.getD j (e0, 0)).1 (ls.getD j (e0, 0)).2 ms)) (hk : Keeps (fun b => b = M) wr wr') : LM w M ls (j + 1) wr' (put (ls.getD j (e0, 0)).1 (ls.getD j (e0, 0)).2 ms) := by
  refine ⟨hm, fun k => ?_, Nat.le_trans (length_put_le _ _ _) (by have := h.le; omega), h.kp.then hk (fun b hb => .inr (by rw [hb]; exact h.new)), h.new⟩
  rw [fnd_put, h.eq, take_succ_getD ls j (e0, 0) hj, fnd_snoc]
  have hg : ls.getD j (e0, 0) = ls[j] := by simp [List.getD_eq_getElem?_getD, hj]
  rw [hg]
  by_cases e : k = ls[j].1
  · subst e
    have : fnd ls[j].1 (ls.take j) = none := by
      rw [fnd_none]
      intro q hq e
      obtain ⟨i, hi, rfl⟩ := List.getElem_of_mem hq
      rw [List.length_take] at hi
      rw [List.getElem_take] at e
      exact (List.pairwise_iff_getElem.1 hn) i j (by omega) hj (by omega) e
    simp [this]
  · rw [if_neg e]
    cases fnd k (ls.take j) with
    | some v => rfl
    | none => simp [Ne.symm e]
theorem updLI {w : World} {b : Nat} {L : List (Tx × Nat)} (h : IsMp KT vvI w b L) (hl : L.length < maxLen) {k : Tx} (hk : k.size ≤ maxLen) (y : Nat) :
    ∃ w', (Instr.mapUpdate 279 (.map (some b)) (.string k) (.int .u64 ((y : Nat) : Int))).run Tryz.prog w = .ok () w' ∧ IsMp KT vvI w' b (put k y L) ∧ Keeps (fun i => i = b) w w' ∧ w'.heap.size = w.heap.size :=
  h.upd lawT Tryz.underlying279 hl hk y
/-- where the loop over the versions stands: T whose a block is, M the map of the lasts, B that of the lists -/
structure LK (w wr : World) (p M B : Nat) (T : Nat → Option Ro) (ms : List (Tx × Nat)) (Ls : List (Nat × SV)) (ks : List KV) (j q : Nat) : Prop where
  st : IsS wr p T (loadKs (ks.take j)) j
  new : ∀ b, T b ≠ none → w.heap.size ≤ b
  kp : Keeps no w wr
  mm : IsMp KT vvI wr M ms
  tM : T M = none ∧ w.heap.size ≤ M
  ml : IsMp KI vvS wr B Ls
  tB : T B = none ∧ w.heap.size ≤ B ∧ B ≠ M
  ll : Ls.length ≤ q
  lk : ∀ e ∈ Ls, Sl TE wr e.2.o e.2.c e.2.keys ∧ (∀ b, inO e.2.o b → T b = some .ky) ∧ e.2.keys.length ≤ 1024
theorem LK.go {w wr wr' : World} {p M B : Nat} {T : Nat → Option Ro} {ms : List (Tx × Nat)} {Ls : List (Nat × SV)} {ks : List KV} {j q : Nat} (h : LK w wr p M B T ms Ls ks j q) (hk : Keeps no wr wr') : LK w wr' p M B T ms Ls ks j q :=
  ⟨h.st.keepsN hk, h.new, h.kp.trans hk, h.mm.keepsN hk, h.tM, h.ml.keepsN hk, h.tB, h.ll, fun e he => ⟨(h.lk e he).1.keepsN hk, (h.lk e he).2⟩⟩
theorem LK.list {w wr wc wd : World} {p M B : Nat} {T : Nat → Option Ro} {ms : List (Tx × Nat)} {Ls : List (Nat × SV)} {ks : List KV} {j q : Nat} (h : LK w wr p M B T ms Ls ks j q) {i : Nat} {o : Option Addr} {c : Nat} {keys : List Tx} (ho : Own TE wc o c keys) (hn : New wr o) (hl : keys.length ≤ 1024) (hk : Keeps no wr wc) (hm : IsMp KI vvS wd B (put i ⟨o, c, keys⟩ Ls)) (hkd : Keeps (fun b => b = B) wc wd) : ∃ T', LK w wd p M B T' ms (put i ⟨o, c, keys⟩ Ls) ks j (q + 1) ∧ ∀ b, b < wr.heap.size → T' b = T b := by
  classical
  have hlt : ∀ b, T b ≠ none → b < wr.heap.size := h.st.lt
  have hT : ∀ b, b < wr.heap.size → (if inO o b then some Ro.ky else T b) = T b := fun b hb => by
    rw [if_neg (fun hc => by have := hn b hc; omega)]
  have h2 := h.go hk
  have hoB : ∀ b, inO o b → b ≠ B := fun b hb e => by
    have h1 := hn b hb
    have h3 := h.ml.lt
    omega
  refine ⟨fun b => if inO o b then some .ky else T b, ⟨?_, ?_, ?_, ?_, ?_, hm, ?_, Nat.le_trans (length_put_le _ _ _) (by have := h.ll; omega), fun e he => ?_⟩, hT⟩
  · obtain ⟨y, hy⟩ := h2.st
    have hy2 := hy.keeps hkd (fun b hb e => hb (by rw [e]; exact h.tB.1))
    refine ⟨y, hy2.retag (fun b hb => hT b (hlt b hb)) (fun b hb => ?_)⟩
    by_cases hc : inO o b
    · exact Nat.lt_of_lt_of_le (ho.lt b hc) hkd.size
    · simp only [hc, if_false] at hb
      exact Nat.lt_of_lt_of_le (hlt b hb) (Nat.le_trans hk.size hkd.size)
  · intro b hb
    by_cases hc : inO o b
    · exact Nat.le_trans h.kp.size (hn b hc)
    · simp only [hc, if_false] at hb
      exact h.new b hb
  · exact h2.kp.then hkd (fun b hb => .inr (by rw [hb]; exact h.tB.2.1))
  · exact h2.mm.keeps hkd (fun e => h.tB.2.2 e.symm)
  · exact ⟨by rw [hT M h.mm.lt]; exact h.tM.1, h.tM.2⟩
  · exact ⟨by rw [hT B h.ml.lt]; exact h.tB.1, h.tB.2⟩
  · rcases mem_put.1 he with rfl | ⟨he, _⟩
    · exact ⟨(ho.keeps hkd (fun b hb e => hoB b hb e)).sl, fun b hb => by simp only at hb ⊢; rw [if_pos hb], hl⟩
    · have h3 := h2.lk e he
      have h4 := h.lk e he
      refine ⟨h3.1.keeps hkd (fun b hb e' => ?_), fun b hb => ?_, h3.2.2⟩
      · have := h4.2.1 b hb
        rw [e', h.tB.1] at this
        cases this
      · have := h4.2.1 b hb
        rw [hT b (hlt b (by rw [this]; simp))]
        exact this
theorem LK.add {w wr wd : World} {p M B : Nat} {T T' : Nat → Option Ro} {ms : List (Tx × Nat)} {Ls : List (Nat × SV)} {ks : List KV} {j q : Nat} (h : LK w wr p M B T ms Ls ks j q) (hj : j < ks.length) (hs : IsS wd p T' ((loadKs (ks.take j)).add (ks.getD j kv0).m (ks.getD j kv0).vr) (j + 1)) (hT : ∀ b, b < wr.heap.size → T' b = T b) (hk : Keeps (Mut T) wr wd) : LK w wd p M B T' ms Ls ks (j + 1) q := by
  have hnm : ∀ {b}, T b = none → ¬ Mut T b := fun {b} e hm => hm.1 e
  refine ⟨by rw [take_succ_getD ks j kv0 hj, loadKs_snoc]; exact hs, fun b hb => ?_, h.kp.then hk (fun b hb => .inr (h.new b hb.1)), h.mm.keeps hk (hnm h.tM.1), ⟨by rw [hT M h.mm.lt]; exact h.tM.1, h.tM.2⟩, h.ml.keeps hk (hnm h.tB.1), ⟨by rw [hT B h.ml.lt]; exact h.tB.1, h.tB.2⟩, h.ll, fun e he => ?_⟩
  · rcases Nat.lt_or_ge b wr.heap.size with hl | hl
    · rw [hT b hl] at hb; exact h.new b hb
    · exact Nat.le_trans h.kp.size hl
  · have h3 := h.lk e he
    refine ⟨h3.1.keeps hk (fun b hb hm => hm.2 (h3.2.1 b hb)), fun b hb => ?_, h3.2.2⟩
    rw [hT b (h.st.lt b (by rw [h3.2.1 b hb]; simp))]
    exact h3.2.1 b hb
theorem lookLI {w : World} {b : Nat} {L : List (Tx × Nat)} (h : IsMp KT vvI w b L) {k : Tx} (hk : k.size ≤ maxLen) : (Instr.lookup 279 (.map (some b)) (.string k) false).run Tryz.prog w = .ok (.int .u64 (((fnd k L).getD 0 : Nat) : Int)) w := by
  cases hf : fnd k L with
  | some x => exact h.look_some lawT (t := 279) (e := 43) Tryz.underlying279 (z := .int .u64 0) (Tryz.zeroValue43 w) (k := k) hk hf
  | none => exact h.look_none lawT (t := 279) (e := 43) Tryz.underlying279 (z := .int .u64 0) (Tryz.zeroValue43 w) (k := k) hk hf
theorem lookSL_some {w : World} {b : Nat} {L : List (Nat × SV)} (h : IsMp KI vvS w b L) {i : Nat} (hi : i < 18446744073709551616) {x : SV} (hf : fnd i L = some x) : (Instr.lookup 284 (.map (some b)) (.int .u64 ((i : Nat) : Int)) false).run Tryz.prog w = .ok (.slice x.o x.keys.length x.c) w :=
  h.look_some lawI (t := 284) (e := 45) Tryz.underlying284 (z := .slice none 0 0) (Tryz.zeroValue45 w) (k := i) hi hf
theorem lookSL_none {w : World} {b : Nat} {L : List (Nat × SV)} (h : IsMp KI vvS w b L) {i : Nat} (hi : i < 18446744073709551616) (hf : fnd i L = none) : (Instr.lookup 284 (.map (some b)) (.int .u64 ((i : Nat) : Int)) false).run Tryz.prog w = .ok (.slice none 0 0) w :=
  h.look_none lawI (t := 284) (e := 45) Tryz.underlying284 (z := .slice none 0 0) (Tryz.zeroValue45 w) (k := i) hi hf
theorem updSL {w : World} {b : Nat} {L : List (Nat × SV)} (h : IsMp KI vvS w b L) (hl : L.length < maxLen) {i : Nat} (hi : i < 18446744073709551616) (y : SV) :
    ∃ w', (Instr.mapUpdate 284 (.map (some b)) (.int .u64 ((i : Nat) : Int)) (.slice y.o y.keys.length y.c)).run Tryz.prog w = .ok () w' ∧ IsMp KI vvS w' b (put i y L) ∧ Keeps (fun k => k = b) w w' ∧ w'.heap.size = w.heap.size :=
  h.upd lawI Tryz.underlying284 hl hi y
/-- the list of a write, or none -/
theorem LK.look {w wr : World} {p M B : Nat} {T : Nat → Option Ro} {ms : List (Tx × Nat)} {Ls : List (Nat × SV)} {ks : List KV} {j q : Nat} (h : LK w wr p M B T ms Ls ks j q) {i : Nat} (hi : i < 18446744073709551616) : ∃ eo en ec ek, (Instr.lookup 284 (.map (some B)) (.int .u64 ((i : Nat) : Int)) false).run Tryz.prog wr = .ok (.slice eo en ec) wr ∧ en = ek.length ∧ Sl TE wr eo ec ek ∧ ek.length ≤ 1024 ∧ ∀ keys, keys ≠ [] → ek = keys → ∃ sv, fnd i Ls = some sv ∧ sv.keys = keys := by
  cases hf : fnd i Ls with
  | none => exact ⟨none, 0, 0, [], lookSL_none h.ml hi hf, rfl, (own_nil wr).sl, by simp, fun keys hk e => absurd e.symm hk⟩
  | some sv => exact ⟨sv.o, _, sv.c, sv.keys, lookSL_some h.ml hi hf, rfl, (h.lk _ (fnd_mem hf)).1, (h.lk _ (fnd_mem hf)).2.2, fun keys hk e => ⟨sv, rfl, e⟩⟩
/-- behind the list -/
structure LN (w wr : World) (p M B : Nat) (T : Nat → Option Ro) (ms : List (Tx × Nat)) (Ls : List (Nat × SV)) (ks : List KV) (j : Nat) (Kb : Nat) (xk : Tx) (xi : Nat) (xv : Tx) (xo : Option Addr) (nx xc : Nat) (xst : Int) (xks : List Tx) (sv : SV) : Prop where
  lk : LK w wr p M B T ms Ls ks j (j + 1)
  k : wr.heap[Kb]? = some (.cells #[.string xk, .int .u64 ((xi : Nat) : Int), .string xv, .slice xo nx xc, .int .i64 xst] 114 (0, 0))
  v : wr.heap[Kb + 1]? = some (.cells #[.string xk, .int .u64 ((xi : Nat) : Int), .string xv, .slice xo nx xc] 112 (0, 0))
  tk : T Kb = none
  tv : T (Kb + 1) = none
  f : fnd xi Ls = some sv
  e : sv.keys = xks
/-- where the loop over the lasts stands -/
structure LZ (w wr : World) (p : Nat) (ks : List KV) (ls : List Mk) (t : Nat) : Prop where
  st : ∃ T, IsS wr p T (loadS ks (ls.take t)) ks.length ∧ ∀ b, T b ≠ none → w.heap.size ≤ b
  kp : Keeps no w wr
theorem makeLI (w : World) (n : Int) : (Instr.makeMap 279 (some (.int .i64 n))).run Tryz.prog w = .ok (.map (some w.heap.size)) (w.alloc (.map #[] 0)) := by kernel_rfl
/-- what Load answers -/
def LoadTo (w : World) (ks : List KV) (ls : List Mk) (e : Ending) (w' : World) : Prop :=
  ((fitsAll ks ls = true ∧ hasAll ks ls = true) → ∃ p, e = .returned (.tuple #[.pointer (some ⟨p, 0, none⟩), .int .i64 0]) ∧ Ow w w' p (loadS ks ls) ks.length no) ∧ (¬ (fitsAll ks ls = true ∧ hasAll ks ls = true) → e = .returned (.tuple #[.pointer none, .int .i64 1]) ∧ Keeps no w w')
set_option maxRecDepth 10000 in
set_option maxHeartbeats 4000000 in
theorem load_good (w : World) (ok : Option Addr) (nk ck : Nat) (ks : List KV) (ol : Option Addr) (nl cl : Nat) (ls : List Mk) (hnk : nk = ks.length) (hnl : nl = ls.length) (hlk : ks.length ≤ 1954687338211) (hll : ls.length ≤ 5864062014634) (hsk : Sl KE w ok ck ks) (hsl : Sl LE w ol cl ls) (hik : InK w ks) (hil : ∀ l ∈ ls, KM.ok l) (hok : okKept ks = true) (hrl : rising ltl ls = true) :
    Calls Tryz.prog 159 #[.slice ok nk ck, .slice ol nl cl] w fun e w' => LoadTo w ks ls e w' := by
  have h1 := areKept_any w ok nk ck ks hnk (by omega) hsk hik
  rw [hok] at h1
  have h2 := fun X (hX : Keeps no w X) => risingL_any X ol nl cl ls hnl (by omega) (hsl.keepsN hX)
  rw [hrl] at h2
  have HA : Hid (nk = ks.length ∧ nl = ls.length ∧ ks.length ≤ 1954687338211 ∧ ls.length ≤ 5864062014634 ∧ Sl KE w ok ck ks ∧ Sl LE w ol cl ls ∧ InK w ks ∧ (∀ l ∈ ls, KM.ok l) ∧ okKept ks = true ∧ rising ltl ls = true) := ⟨hnk, hnl, hlk, hll, hsk, hsl, hik, hil, hok, hrl⟩
  have hnkb : (nk : Int) ≤ 1954687338211 := by omega
  have hnlb : (nl : Int) ≤ 5864062014634 := by omega
  have H2 : Hid (∀ X, Keeps no w X → Calls Tryz.prog 201 #[.slice ol nl cl, .func (.func 202) #[] #[]] X fun e w' => e = .returned (.bool true) ∧ Keeps no X w') := h2
  clear hnk hnl hlk hll hsk hsl hik hil hok hrl h2
  go_enter Tryz.func159, Tryz.ntmps159
  go_wp2_with fail
  refine h1.mono ?_
  rintro e w1 ⟨rfl, hk1⟩
  have K1 : Hid (Keeps no w w1) := hk1
  clear hk1 h1
  go_wp2_with fail
  refine (H2.out _ K1.out).mono ?_
  rintro e w2 ⟨rfl, hk2⟩
  have K2 : Hid (Keeps no w w2) := K1.out.trans hk2
  clear hk2 K1 H2
  have hmk := fun W n => makeLI W n
  obtain ⟨M, hM⟩ : ∃ M, M = w2.heap.size := ⟨_, rfl⟩
  have H3 : Hid (LM w M ls 0 (w2.alloc (.map #[] 0)) []) := ⟨by rw [hM]; exact isMp_made w2, fun k => rfl, Nat.le_refl _, K2.out.alloc _, by rw [hM]; exact K2.out.size⟩
  have HM : Hid (M = w2.heap.size) := hM
  clear hM
  go_wp2_with fail
  rw [← HM.out]
  generalize w2.alloc (.map #[] 0) = w3 at H3 ⊢
  clear HM K2 hmk
  go_loopw [29] (fun i wr => ∃ j : Nat, j ≤ nl ∧ i = .int .i64 j ∧ Hid (∃ ms, LM w M ls j wr ms)) (fun i _ => nl - (intOf i).toNat)
  case atStart => exact ⟨0, by omega, rfl, _, H3.out⟩
  case round =>
    obtain ⟨j, hj, rfl, HJ⟩ := hrel
    clear H3
    obtain ⟨ms, HJ⟩ := HJ.out
    have HL : Hid (LM w M ls j wr ms) := HJ
    clear HJ
    by_cases hlt : j < nl
    · have hlt' : (j : Int) < nl := by omega
      have hja : j < ls.length := by have := HA.out.2.1; omega
      obtain ⟨b1, off1, e1, d0, d1⟩ := (HA.out.2.2.2.2.2.1.keepsN HL.out.kp).atL hja
      obtain ⟨x, hx⟩ : ∃ x, x = ls.getD j (e0, 0) := ⟨_, rfl⟩
      rw [← hx] at d0 d1
      have hkm := HA.out.2.2.2.2.2.2.2.1 x (by rw [hx]; exact getD_mem_lt _ hja)
      obtain ⟨xk, xi⟩ := x
      simp only at d0 d1
      have hkA : Keeps no wr (wr.alloc (.cells #[.string xk, .int .u64 ((xi : Nat) : Int)] 116)) := (Keeps.refl no wr).alloc _
      obtain ⟨w4, hr4, hm4, hk4, hs4⟩ := updLI (HL.out.mp.keepsN hkA) (Nat.lt_of_le_of_lt HL.out.le (by have := HA.out.2.2.2.1; unfold maxLen; omega)) hkm.1 xi
      have H4 : Hid (LM w M ls (j + 1) w4 (put xk xi ms)) := by
        have h' : LM w M ls j (wr.alloc (.cells #[.string xk, .int .u64 ((xi : Nat) : Int)] 116)) ms := ⟨HL.out.mp.keepsN hkA, HL.out.eq, HL.out.le, HL.out.kp.trans hkA, HL.out.new⟩
        have := h'.step (wr' := w4) (nk_inc ((rising_iff swoL ls).1 HA.out.2.2.2.2.2.2.2.2.2)) hja (by rw [← hx]; exact hm4) hk4
        rw [← hx] at this
        exact this
      clear hja hx hkm hkA hm4 hk4 hs4
      subst e1
      go_wp2_with fail
      go_roundw
      case rel => exact ⟨j + 1, by omega, by go_num, _, H4.out⟩
      case measure => simp [intOf]; omega
    · have hlt' : ¬ (j : Int) < nl := by omega
      have hjn : j = nl := by omega
      have HE : Hid (∀ k, fnd k ms = fnd k ls) := fun k => by
        rw [HL.out.eq, List.take_of_length_le (by have := HA.out.2.1; omega)]
      clear hjn
      go_wp2_with fail
      refine (ow_new _).mono ?_
      rintro e w4 ⟨p, rfl, h4⟩
      have hmm := @run_makeMap Tryz.prog
      obtain ⟨B, hB⟩ : ∃ B, B = w4.heap.size := ⟨_, rfl⟩
      have H5 : Hid (∃ T, LK w (w4.alloc (.map #[] 0)) p M B T ms [] ks 0 0) := by
        obtain ⟨T, hT, _⟩ := h4.out
        have hkk : Keeps no wr (w4.alloc (.map #[] 0)) := hT.keep.alloc _
        have hMl := HL.out.mp.lt
        have hMl2 := hT.keep.size
        refine ⟨T, hT.is.keepsN ((Keeps.refl no w4).alloc _), fun b hb => Nat.le_trans HL.out.kp.size (hT.new b hb), HL.out.kp.trans hkk, HL.out.mp.keepsN hkk, ⟨?_, HL.out.new⟩, by rw [hB]; exact isMp_made w4, ⟨?_, by rw [hB]; exact Nat.le_trans HL.out.kp.size hT.keep.size, by omega⟩, Nat.le_refl _, (fun e he => by cases he)⟩
        · cases e : T M with
          | none => rfl
          | some r => have := hT.new M (by rw [e]; simp); omega
        · cases e : T B with
          | none => rfl
          | some r => have := hT.is.lt B (by rw [e]; simp); omega
      have HB : Hid (B = w4.heap.size) := hB
      have HLI : Hid (∀ k, (fnd k ms).getD 0 = lastIn ls k) := fun k => by rw [HE.out]; rfl
      clear hB h4 HL
      go_wp2_with fail
      rw [← HB.out]
      generalize w4.alloc (.map #[] 0) = w5 at H5 ⊢
      clear HB HE
      go_loopw [43] (fun i wq => ∃ j : Nat, j ≤ nk ∧ i = .int .i64 j ∧ Hid (∃ T Ls, LK w wq p M B T ms Ls ks j j) ∧ Hid (∀ t, t < j → fitsB (ks.getD t kv0).stamp (decide ((ks.getD t kv0).m.2 < lastIn ls (ks.getD t kv0).m.1)) = true)) (fun i _ => nk - (intOf i).toNat)
      case atStart =>
        obtain ⟨T, h5⟩ := H5.out
        exact ⟨0, by omega, rfl, ⟨T, [], h5⟩, fun t ht => absurd ht (Nat.not_lt_zero _)⟩
      case round =>
        obtain ⟨j, hj, rfl, HJ, HF⟩ := hrel
        rename World => wq
        clear H5
        obtain ⟨T, Ls, HJ⟩ := HJ.out
        have HK : Hid (LK w wq p M B T ms Ls ks j j) := HJ
        clear HJ
        by_cases hlt2 : j < nk
        · have hlt2' : (j : Int) < nk := by omega
          have hja : j < ks.length := by have := HA.out.1; omega
          obtain ⟨b1, off1, e1, d0, d1, d2, d3, d4⟩ := (HA.out.2.2.2.2.1.keepsN HK.out.kp).atK hja
          have hin := (HA.out.2.2.2.2.2.2.1.keepsN HK.out.kp).key _ (getD_mem_lt kv0 hja)
          obtain ⟨x, hx⟩ : ∃ x, x = ks.getD j kv0 := ⟨_, rfl⟩
          rw [← hx] at d0 d1 d2 d3 d4 hin
          have hokv : okKv x = true := by
            have h1 := HA.out.2.2.2.2.2.2.2.2.1
            unfold okKept at h1
            rw [Bool.and_eq_true] at h1
            exact List.all_eq_true.1 h1.1 x (by rw [hx]; exact getD_mem_lt _ hja)
          have hnone : (loadKs (ks.take j)).V x.m = none := by
            have h1 := HA.out.2.2.2.2.2.2.2.2.1
            unfold okKept at h1
            rw [Bool.and_eq_true] at h1
            have hne := inck_ne ((rising_iff swoK ks).1 h1.2)
            refine loadKs_none (fun z hz e => ?_)
            obtain ⟨i, hi, rfl⟩ := List.getElem_of_mem hz
            rw [List.length_take] at hi
            rw [List.getElem_take] at e
            have hg : ks.getD j kv0 = ks[j] := by simp [List.getD_eq_getElem?_getD, hja]
            rw [hx, hg] at e
            exact (List.pairwise_iff_getElem.1 hne) i j (by omega) hja (by omega) e
          simp only [okKv, Bool.and_eq_true, decide_eq_true_eq] at hokv
          have HX : Hid (x = ks.getD j kv0 ∧ j < ks.length ∧ (loadKs (ks.take j)).V x.m = none ∧ 65536 ≤ x.m.2 ∧ x.val.size ≤ 65535 ∧ okKeys x.keys = true ∧ x.m.1 ∈ x.keys ∧ x.m.2 < 18446744073709551616 ∧ Sl TE wq x.o x.c x.keys) := ⟨hx, hja, hnone, hokv.1, hokv.2.1, hokv.2.2.1, (inn_iff _ _).1 hokv.2.2.2, hin.2.2.1, hin.1⟩
          have hksz : x.m.1.size ≤ maxLen := by have := (okKeys_iff.1 hokv.2.2.1).2.1 _ ((inn_iff _ _).1 hokv.2.2.2); unfold maxLen; omega
          obtain ⟨⟨xk, xi⟩, xv, xo, xc, xks, xst⟩ := x
          obtain ⟨nx, hnx⟩ : ∃ nx, nx = xks.length := ⟨_, rfl⟩
          simp only at d0 d1 d2 d3 d4 hksz
          rw [← hnx] at d3
          have HNX : Hid (nx = xks.length) := hnx
          obtain ⟨Kb, hKb⟩ : ∃ Kb, Kb = wq.heap.size := ⟨_, rfl⟩
          obtain ⟨w6, hw6⟩ : ∃ w6, w6 = (wq.alloc (.cells #[.string xk, .int .u64 ((xi : Nat) : Int), .string xv, .slice xo nx xc, .int .i64 xst] 114)).alloc (.cells #[.string xk, .int .u64 ((xi : Nat) : Int), .string xv, .slice xo nx xc] 112) := ⟨_, rfl⟩
          have hk6 : Keeps no wq w6 := by rw [hw6]; exact ((Keeps.refl no wq).alloc _).alloc _
          have hbK : w6.heap[Kb]? = some (.cells #[.string xk, .int .u64 ((xi : Nat) : Int), .string xv, .slice xo nx xc, .int .i64 xst] 114 (0, 0)) := by rw [hw6, hKb]; exact blk_alloc (blk_new wq _) _
          have hbV : w6.heap[Kb + 1]? = some (.cells #[.string xk, .int .u64 ((xi : Nat) : Int), .string xv, .slice xo nx xc] 112 (0, 0)) := by
            rw [hw6, hKb]
            have := blk_new (wq.alloc (.cells #[.string xk, .int .u64 ((xi : Nat) : Int), .string xv, .slice xo nx xc, .int .i64 xst] 114)) (.cells #[.string xk, .int .u64 ((xi : Nat) : Int), .string xv, .slice xo nx xc] 112)
            rwa [show (wq.alloc (.cells #[.string xk, .int .u64 ((xi : Nat) : Int), .string xv, .slice xo nx xc, .int .i64 xst] 114)).heap.size = wq.heap.size + 1 by simp] at this
          have hlook := lookLI (HK.out.go hk6).mm hksz
          rw [HLI.out] at hlook
          rw [hw6] at hlook
          obtain ⟨la, hla⟩ : ∃ la, la = lastIn ls xk := ⟨_, rfl⟩
          rw [← hla] at hlook
          have HLA : Hid (la = lastIn ls xk) := hla
          have hTK : T Kb = none ∧ T (Kb + 1) = none := by
            have hlt : ∀ b, T b ≠ none → b < wq.heap.size := HK.out.st.lt
            constructor
            · cases e : T Kb with
              | none => rfl
              | some r => have := hlt Kb (by rw [e]; simp); omega
            · cases e : T (Kb + 1) with
              | none => rfl
              | some r => have := hlt (Kb + 1) (by rw [e]; simp); omega
          have H6 : Hid (LK w w6 p M B T ms Ls ks j j ∧ w6.heap[Kb]? = some (.cells #[.string xk, .int .u64 ((xi : Nat) : Int), .string xv, .slice xo nx xc, .int .i64 xst] 114 (0, 0)) ∧ w6.heap[Kb + 1]? = some (.cells #[.string xk, .int .u64 ((xi : Nat) : Int), .string xv, .slice xo nx xc] 112 (0, 0)) ∧ T Kb = none ∧ T (Kb + 1) = none ∧ Sl TE w6 xo xc xks ∧ Kb + 1 < w6.heap.size ∧ Kb + 1 ≠ B ∧ Kb ≠ B) := ⟨HK.out.go hk6, hbK, hbV, hTK.1, hTK.2, HX.out.2.2.2.2.2.2.2.2.keepsN hk6, by rw [hw6, hKb]; simp, by have := HK.out.ml.lt; omega, by have := HK.out.ml.lt; omega⟩
          have HKb : Hid (Kb = wq.heap.size ∧ w6 = (wq.alloc (.cells #[.string xk, .int .u64 ((xi : Nat) : Int), .string xv, .slice xo nx xc, .int .i64 xst] 114)).alloc (.cells #[.string xk, .int .u64 ((xi : Nat) : Int), .string xv, .slice xo nx xc] 112)) := ⟨hKb, hw6⟩
          have hfit := fun b W => fits_any xst b W
          clear hja hin hx hokv hnone hksz hnx hKb hw6 hk6 hbK hbV hla hTK
          subst e1
          cases hft : fitsB xst (decide (xi < la)) with
          | false =>
            have HBAD : Hid (¬ (fitsAll ks ls = true ∧ hasAll ks ls = true)) := fun h => by
              have := List.all_eq_true.1 h.1 (ks.getD j kv0) (getD_mem_lt _ HX.out.2.1)
              rw [← HX.out.1] at this
              simp only at this
              rw [← HLA.out, hft] at this
              cases this
            have hf1 := fun W => hfit (decide (xi < la)) W
            rw [hft] at hf1
            have HF1 : Hid (∀ W, Calls Tryz.prog 203 #[.int .i64 xst, .bool (decide (xi < la))] W fun e w' => e = .returned (.bool false) ∧ w' = W) := hf1
            clear hfit hf1 hft
            go_wp2_with fail
            refine (HF1.out _).mono ?_
            rintro e w7 ⟨rfl, hw7⟩
            subst w7
            go_wp2_with fail
            go_ret2
            refine ⟨fun h => absurd h HBAD.out, fun _ => ⟨rfl, ?_⟩⟩
            have := H6.out.1.kp
            rw [HKb.out.2] at this
            exact this
          | true =>
            have HFT : Hid (fitsB xst (decide (xi < la)) = true) := hft
            have hf1 := fun W => hfit (decide (xi < la)) W
            rw [hft] at hf1
            have HF1 : Hid (∀ W, Calls Tryz.prog 203 #[.int .i64 xst, .bool (decide (xi < la))] W fun e w' => e = .returned (.bool true) ∧ w' = W) := hf1
            clear hfit hf1 hft
            go_wp2_with fail
            refine (HF1.out _).mono ?_
            rintro e w7 ⟨rfl, hw7⟩
            subst w7
            rw [← HKb.out.2, ← HKb.out.1]
            clear hlook HF1 d0 d1 d2 d3 d4 HKb
            obtain ⟨eo, en, ec, ek, hlk, hen, hesl, hel, hecase⟩ := H6.out.1.look HX.out.2.2.2.2.2.2.2.1
            have g1 : w6.cell? ⟨Kb + 1, 1, none⟩ = some (.int .u64 ((xi : Nat) : Int)) := cell_of_blk H6.out.2.2.1 1
            have g3 : w6.cell? ⟨Kb + 1, 3, none⟩ = some (.slice xo nx xc) := cell_of_blk H6.out.2.2.1 3
            have hx6 := okKeys_iff.1 HX.out.2.2.2.2.2.1
            have HEQ : Hid (Calls Tryz.prog 204 #[.slice eo en ec, .slice xo nx xc] w6 fun e w' => (∃ B : Bool, e = .returned (.bool B) ∧ Hid (B = true ↔ ek = xks)) ∧ Keeps no w6 w') := equalT_any w6 eo en ec xo nx xc ek xks hen HNX.out (by omega) (by have := hx6.1; omega) hesl H6.out.2.2.2.2.2.1
            have HEC : Hid (ek = xks → ∃ sv, fnd xi Ls = some sv ∧ sv.keys = xks) := hecase xks (by intro e; have := hx6.1.1; rw [e] at this; simp at this)
            clear hen hesl hel hecase hx6
            go_wp2_with fail
            refine Calls.mono HEQ.out ?_
            rintro e w7 ⟨⟨Bq, rfl, hBq⟩, hk7⟩
            have H7 : Hid (LK w w7 p M B T ms Ls ks j j ∧ w7.heap[Kb]? = some (.cells #[.string xk, .int .u64 ((xi : Nat) : Int), .string xv, .slice xo nx xc, .int .i64 xst] 114 (0, 0)) ∧ w7.heap[Kb + 1]? = some (.cells #[.string xk, .int .u64 ((xi : Nat) : Int), .string xv, .slice xo nx xc] 112 (0, 0)) ∧ T Kb = none ∧ T (Kb + 1) = none ∧ Sl TE w7 xo xc xks ∧ Kb + 1 < w7.heap.size ∧ Kb + 1 ≠ B ∧ Kb ≠ B) := by
              obtain ⟨q1, q2, q3, q4, q5, q6, q7, q8, q9⟩ := H6.out
              exact ⟨q1.go hk7, hk7.at q2 id, hk7.at q3 id, q4, q5, q6.keepsN hk7, Nat.lt_of_lt_of_le q7 hk7.size, q8, q9⟩
            have HBQ : Hid (Bq = true → ∃ sv, fnd xi Ls = some sv ∧ sv.keys = xks) := fun h => HEC.out (hBq.out.1 h)
            clear hk7 hBq HEQ HEC H6 g1 g3 hlk
            go_upto_if 67 with fail
            go_cut [] from 68 to 73 (fun X => ∃ sv : SV, Hid (∃ T' Ls', LN w X p M B T' ms Ls' ks j Kb xk xi xv xo nx xc xst xks sv))
            case first =>
              cases Bq with
              | true =>
                obtain ⟨sv, hs1, hs2⟩ := HBQ.out rfl
                have HSV : Hid (fnd xi Ls = some sv ∧ sv.keys = xks) := ⟨hs1, hs2⟩
                clear HBQ hs1 hs2
                go_wp2_with fail
                go_meet
                obtain ⟨hs1, hs2⟩ := HSV.out
                obtain ⟨q1, q2, q3, q4, q5, q6, q7, q8, q9⟩ := H7.out
                exact ⟨sv, T, Ls, ⟨⟨q1.st, q1.new, q1.kp, q1.mm, q1.tM, q1.ml, q1.tB, Nat.le_succ_of_le q1.ll, q1.lk⟩, q2, q3, q4, q5, hs1, hs2⟩⟩
              | false =>
                have HST : Hid (∀ X, Keeps (fun b => b = B) w7 X → X.cell? ⟨Kb + 1, 1, none⟩ = some (.int .u64 ((xi : Nat) : Int)) ∧ X.cell? ⟨Kb + 1, 3, none⟩ = some (.slice xo nx xc)) := fun X hX => ⟨cell_of_blk (hX.at H7.out.2.2.1 H7.out.2.2.2.2.2.2.2.1) 1, cell_of_blk (hX.at H7.out.2.2.1 H7.out.2.2.2.2.2.2.2.1) 3⟩
                have HCP : Hid (∀ X, Keeps no w7 X → Calls Tryz.prog 93 #[.slice xo nx xc] X fun e w' => ∃ v, e = .returned v ∧ Gives TE X xks v w') := fun X hX => copied_any X xo nx xc xks HNX.out (by have := (okKeys_iff.1 HX.out.2.2.2.2.2.1).1.2; omega) (fun z hz => by have := (okKeys_iff.1 HX.out.2.2.2.2.2.1).2.1 z hz; omega) (H7.out.2.2.2.2.2.1.keepsN hX)
                have HUP : Hid (∀ X o c, Keeps no w7 X → ∃ w', (Instr.mapUpdate 284 (.map (some B)) (.int .u64 ((xi : Nat) : Int)) (.slice o nx c)).run Tryz.prog X = .ok () w' ∧ IsMp KI vvS w' B (put xi ⟨o, c, xks⟩ Ls) ∧ Keeps (fun k => k = B) X w') := fun X o c hX => by
                  obtain ⟨w', h1, h2, h3, _⟩ := updSL (H7.out.1.ml.keepsN hX) (Nat.lt_of_le_of_lt H7.out.1.ll (by unfold maxLen; omega)) HX.out.2.2.2.2.2.2.2.1 ⟨o, c, xks⟩
                  simp only at h1 h2
                  rw [← HNX.out] at h1
                  exact ⟨w', h1, h2, h3⟩
                go_upto_region 18 with fail
                go_region_held3 (fun X => X.cell? ⟨Kb + 1, 1, none⟩ = some (.int .u64 ((xi : Nat) : Int)) ∧ X.cell? ⟨Kb + 1, 3, none⟩ = some (.slice xo nx xc)) (first | exact HST.out _ (Keeps.refl _ _) | exact HST.out _ ((Keeps.refl _ _).drew) | exact HST.out _ KC.out.of_no | exact HST.out _ KD.out) ((go_at_call 93; refine (HCP.out _ ((Keeps.refl no _).drew)).mono ?_; rintro e wc ⟨u, rfl, co, cn, cc, rfl, hcn, hco, hcnw, hck⟩; have ecn : cn = nx := hcn.out.trans HNX.out.symm; clear hcn; subst cn; have KC : Hid (Keeps no w7 wc) := (Keeps.refl no w7).drew.trans hck; obtain ⟨wd, hrd, hmd, hkd⟩ := HUP.out wc co cc KC.out; have KD : Hid (Keeps (fun b => b = B) w7 wd) := KC.out.of_no.trans hkd; have HD : Hid (Own TE wc co cc xks ∧ New w7 co ∧ IsMp KI vvS wd B (put xi ⟨co, cc, xks⟩ Ls) ∧ Keeps (fun b => b = B) wc wd) := ⟨hco, hcnw.of_le (Nat.le_refl _), hmd, hkd⟩; clear hco hcnw hck hmd hkd))
                all_goals (rename _ ∧ _ => hh; clear hh)
                go_wp2_with fail
                go_meet
                obtain ⟨q1, q2, q3, q4, q5, q6, q7, q8, q9⟩ := H7.out
                obtain ⟨T', hL, hTT⟩ := q1.list (i := xi) HD.out.1 HD.out.2.1 (okKeys_iff.1 HX.out.2.2.2.2.2.1).1.2 KC.out HD.out.2.2.1 HD.out.2.2.2
                exact ⟨⟨co, cc, xks⟩, T', _, ⟨hL, KD.out.at q2 q9, KD.out.at q3 q8, by rw [hTT Kb (by omega)]; exact q4, by rw [hTT (Kb + 1) q7]; exact q5, by rw [fnd_put, if_pos rfl], rfl⟩⟩
            case rest =>
            obtain ⟨sv, HN⟩ := hcut
            rename World => w8
            clear H7 HBQ
            obtain ⟨T', Ls', HN⟩ := HN.out
            have H8 : Hid (LN w w8 p M B T' ms Ls' ks j Kb xk xi xv xo nx xc xst xks sv) := HN
            clear HN
            have hnl : sv.keys.length = nx := by rw [H8.out.e, HNX.out]
            have HST : Hid (∀ X, Keeps (Mut T') w8 X → X.cell? ⟨Kb, 0, none⟩ = some (.string xk) ∧ X.cell? ⟨Kb, 1, none⟩ = some (.int .u64 ((xi : Nat) : Int)) ∧ X.cell? ⟨Kb, 2, none⟩ = some (.string xv) ∧ X.cell? ⟨Kb, 3, none⟩ = some (.slice xo nx xc) ∧ X.cell? ⟨Kb, 4, none⟩ = some (.int .i64 xst) ∧ X.cell? ⟨Kb + 1, 1, none⟩ = some (.int .u64 ((xi : Nat) : Int)) ∧ X.cell? ⟨Kb + 1, 2, none⟩ = some (.string xv) ∧ (Instr.lookup 284 (.map (some B)) (.int .u64 ((xi : Nat) : Int)) false).run Tryz.prog X = .ok (.slice sv.o nx sv.c) X) := fun X hX => by
              have hk := hX.at H8.out.k (fun hm => hm.1 H8.out.tk)
              have hv := hX.at H8.out.v (fun hm => hm.1 H8.out.tv)
              have hl := lookSL_some (H8.out.lk.ml.keeps hX (fun hm => hm.1 H8.out.lk.tB.1)) HX.out.2.2.2.2.2.2.2.1 H8.out.f
              rw [hnl] at hl
              exact ⟨cell_of_blk hk 0, cell_of_blk hk 1, cell_of_blk hk 2, cell_of_blk hk 3, cell_of_blk hk 4, cell_of_blk hv 1, cell_of_blk hv 2, hl⟩
            have HADD : Hid (∀ X, Keeps no w8 X → Calls Tryz.prog 94 #[.pointer (some ⟨p, 0, none⟩), .agg #[.string xk, .int .u64 ((xi : Nat) : Int)], .agg #[.string xv, .slice sv.o nx sv.c, .int .i64 xst]] X fun e w' => e = .returned (.tuple #[]) ∧ ∃ T'', IsS w' p T'' ((loadKs (ks.take j)).add (xk, xi) ⟨xv, xks, xst⟩) (j + 1) ∧ (∀ b, b < X.heap.size → T'' b = T' b) ∧ Keeps (Mut T') X w') := fun X hX => by
              obtain ⟨y, hy⟩ := H8.out.lk.st.keepsN hX
              have hx := HX.out
              have hlks := H8.out.lk.lk _ (fnd_mem H8.out.f)
              have := add_any X p T' (loadKs (ks.take j)) j y xk xi ⟨xv, sv.o, sv.c, xks, xst⟩ hy ⟨by have := (okKeys_iff.1 hx.2.2.2.2.2.1).2.1 _ hx.2.2.2.2.2.2.1; show xk.size ≤ maxLen; unfold maxLen; omega, hx.2.2.2.2.2.2.2.1⟩ hx.2.2.1 hx.2.2.2.2.2.1 hx.2.2.2.2.2.2.1 (by rw [← H8.out.e]; exact hlks.1.keepsN hX) hlks.2.1 (by omega)
              simp only at this
              rw [← HNX.out] at this
              exact this
            have HMK : Hid (∀ X, Calls Tryz.prog 205 #[.agg #[.string xk, .int .u64 ((xi : Nat) : Int), .string xv, .slice xo nx xc, .int .i64 xst]] X fun e w' => e = .returned (.agg #[.string xk, .int .u64 ((xi : Nat) : Int)]) ∧ Keeps no X w') := fun X => markOf_any xk xi xv xo nx xc xst X
            have HCL : Hid (∀ X, Calls Tryz.prog 95 #[.string xv] X fun e w' => e = .returned (.string xv) ∧ Keeps no X w') := fun X => sclone_any X xv (by have := HX.out.2.2.2.2.1; omega)
            clear hnl
            go_upto_region 19 with fail
            go_region_held3 (fun X => X.cell? ⟨Kb, 0, none⟩ = some (.string xk) ∧ X.cell? ⟨Kb, 1, none⟩ = some (.int .u64 ((xi : Nat) : Int)) ∧ X.cell? ⟨Kb, 2, none⟩ = some (.string xv) ∧ X.cell? ⟨Kb, 3, none⟩ = some (.slice xo nx xc) ∧ X.cell? ⟨Kb, 4, none⟩ = some (.int .i64 xst) ∧ X.cell? ⟨Kb + 1, 1, none⟩ = some (.int .u64 ((xi : Nat) : Int)) ∧ X.cell? ⟨Kb + 1, 2, none⟩ = some (.string xv) ∧ (Instr.lookup 284 (.map (some B)) (.int .u64 ((xi : Nat) : Int)) false).run Tryz.prog X = .ok (.slice sv.o nx sv.c) X) (first | exact HST.out _ (Keeps.refl _ _) | exact HST.out _ ((Keeps.refl _ _).drew) | exact HST.out _ KA.out.1 | exact HST.out _ KC.out.of_no | exact HST.out _ KM.out.of_no) ((first | (go_at_call 94; refine (HADD.out _ KC.out).mono ?_; rintro e wa ⟨rfl, Ta, hIa, hTa, hka⟩; have KA : Hid (Keeps (Mut T') w8 wa ∧ IsS wa p Ta ((loadKs (ks.take j)).add (xk, xi) ⟨xv, xks, xst⟩) (j + 1) ∧ (∀ b, b < w8.heap.size → Ta b = T' b)) := ⟨KC.out.of_no.trans hka, hIa, fun b hb => hTa b (Nat.lt_of_lt_of_le hb KC.out.size)⟩; clear hIa hTa hka) | (go_at_call 95; refine (HCL.out _).mono ?_; rintro e wc ⟨rfl, hkc⟩; have KC : Hid (Keeps no w8 wc) := KM.out.trans hkc; clear hkc) | (go_at_call 205; refine (HMK.out _).mono ?_; rintro e wm ⟨rfl, hkm⟩; have KM : Hid (Keeps no w8 wm) := (Keeps.refl no w8).drew.trans hkm; clear hkm)))
            all_goals (rename _ ∧ _ => hh; clear hh)
            all_goals
              have H9 : Hid (LK w wa p M B Ta ms Ls' ks (j + 1) (j + 1)) := by
                have hx := HX.out
                exact H8.out.lk.add hx.2.1 (by rw [← hx.1]; exact KA.out.2.1) KA.out.2.2 KA.out.1
              clear HST HADD HMK HCL KA
              go_wp2_with fail
              go_roundw
              case rel =>
                refine ⟨j + 1, by omega, by go_num, ⟨Ta, Ls', H9.out⟩, fun t ht => ?_⟩
                by_cases e : t = j
                · subst e
                  rw [← HX.out.1]
                  simp only
                  rw [← HLA.out]
                  exact HFT.out
                · exact HF.out t (by omega)
              case measure => simp [intOf]; omega
        · have hlt2' : ¬ (j : Int) < nk := by omega
          have HFA : Hid (fitsAll ks ls = true) := List.all_eq_true.2 (fun x hx => by
            obtain ⟨i, hi, rfl⟩ := List.getElem_of_mem hx
            have := HF.out i (by have := HA.out.1; omega)
            have e : ks.getD i kv0 = ks[i] := by simp [List.getD_eq_getElem?_getD, hi]
            rw [e] at this
            exact this)
          have HTK : Hid (ks.take j = ks ∧ j = ks.length) := ⟨List.take_of_length_le (by have := HA.out.1; omega), by have := HA.out.1; omega⟩
          have H9 : Hid (LZ w wq p ks ls 0) := ⟨⟨T, by have := HK.out.st; rw [HTK.out.1, HTK.out.2] at this; exact this, HK.out.new⟩, HK.out.kp⟩
          clear HK HF HTK
          go_wp2_with fail
          go_loopw [91] (fun i wz => ∃ t : Nat, t ≤ nl ∧ i = .int .i64 t ∧ Hid (LZ w wz p ks ls t) ∧ Hid (∀ u, u < t → ((loadKs ks).V (ls.getD u (e0, 0))).isSome = true)) (fun i _ => nl - (intOf i).toNat)
          case atStart => exact ⟨0, by omega, rfl, H9, fun u hu => absurd hu (Nat.not_lt_zero _)⟩
          case round =>
            obtain ⟨t, ht, rfl, HZ, HU⟩ := hrel
            rename World => wz
            clear H9
            by_cases htl : t < nl
            · have htl' : (t : Int) < nl := by omega
              have hta : t < ls.length := by have := HA.out.2.1; omega
              obtain ⟨b1, off1, e1, d0, d1⟩ := (HA.out.2.2.2.2.2.1.keepsN HZ.out.kp).atL hta
              obtain ⟨x, hx⟩ : ∃ x, x = ls.getD t (e0, 0) := ⟨_, rfl⟩
              rw [← hx] at d0 d1
              have hkm := HA.out.2.2.2.2.2.2.2.1 x (by rw [hx]; exact getD_mem_lt _ hta)
              have HX : Hid (x = ls.getD t (e0, 0) ∧ t < ls.length ∧ KM.ok x) := ⟨hx, hta, hkm⟩
              obtain ⟨xk, xi⟩ := x
              simp only at d0 d1
              obtain ⟨Lb, hLb⟩ : ∃ Lb, Lb = wz.heap.size := ⟨_, rfl⟩
              obtain ⟨w6, hw6⟩ : ∃ w6, w6 = wz.alloc (.cells #[.string xk, .int .u64 ((xi : Nat) : Int)] 116) := ⟨_, rfl⟩
              have hk6 : Keeps no wz w6 := by rw [hw6]; exact (Keeps.refl no wz).alloc _
              have hb6 : w6.heap[Lb]? = some (.cells #[.string xk, .int .u64 ((xi : Nat) : Int)] 116 (0, 0)) := by rw [hw6, hLb]; exact blk_new wz _
              obtain ⟨T2, hS2, hN2⟩ := HZ.out.st
              have hhas := has_any w6 p T2 _ _ (xk, xi) (hS2.keepsN hk6) hkm
              rw [loadS_V] at hhas
              rw [hw6] at hhas
              have HLB : Hid (Lb = wz.heap.size ∧ w6 = wz.alloc (.cells #[.string xk, .int .u64 ((xi : Nat) : Int)] 116)) := ⟨hLb, hw6⟩
              have H6 : Hid (Keeps no w w6 ∧ IsS w6 p T2 (loadS ks (ls.take t)) ks.length ∧ (∀ b, T2 b ≠ none → w.heap.size ≤ b) ∧ w6.heap[Lb]? = some (.cells #[.string xk, .int .u64 ((xi : Nat) : Int)] 116 (0, 0)) ∧ T2 Lb = none) := ⟨HZ.out.kp.trans hk6, hS2.keepsN hk6, hN2, hb6, by
                cases e : T2 Lb with
                | none => rfl
                | some r => have := hS2.lt Lb (by rw [e]; simp); omega⟩
              clear hta hx hkm hk6 hb6 hLb hw6 hS2 hN2
              subst e1
              cases hv : (loadKs ks).V (xk, xi) with
              | none =>
                rw [hv] at hhas
                have HBAD : Hid (¬ (fitsAll ks ls = true ∧ hasAll ks ls = true)) := fun h => by
                  have := List.all_eq_true.1 h.2 (ls.getD t (e0, 0)) (getD_mem_lt _ HX.out.2.1)
                  rw [← HX.out.1, hv] at this
                  cases this
                clear hv
                go_wp2_with fail
                refine hhas.mono ?_
                rintro e w7 ⟨rfl, hk7⟩
                have H7 : Hid (Keeps no w w7) := by
                  have := H6.out.1
                  rw [HLB.out.2] at this
                  exact this.trans hk7
                clear hk7 hhas
                go_wp2_with fail
                go_ret2
                exact ⟨fun h => absurd h HBAD.out, fun _ => ⟨rfl, H7.out⟩⟩
              | some v =>
                rw [hv] at hhas
                have HV : Hid ((loadKs ks).V (xk, xi) = some v) := hv
                clear hv
                go_wp2_with fail
                refine hhas.mono ?_
                rintro e w7 ⟨rfl, hk7⟩
                rw [← HLB.out.1]
                have hk7' : Keeps no w6 w7 := by rw [HLB.out.2]; exact hk7
                obtain ⟨y, hy⟩ := H6.out.2.1.keepsN hk7'
                obtain ⟨lx, hlx⟩ := hy.hv xk xi (by rw [loadS_V, HV.out]; simp)
                have hln := hy.line _ (fnd_mem hlx)
                have hbl := hk7'.at H6.out.2.2.2.1 id
                have htl2 := (hy.tln _ (fnd_mem hlx)).1
                have hset := hy.setLast hlx HX.out.2.2.2 0
                obtain ⟨P, hP⟩ : ∃ P, P = lx.p := ⟨_, rfl⟩
                have HST : Hid (∀ X, Keeps (fun b => b = P) w7 X → X.cell? ⟨p, 1, none⟩ = some (.map (some y.lm)) ∧ X.cell? ⟨Lb, 0, none⟩ = some (.string xk) ∧ X.cell? ⟨Lb, 1, none⟩ = some (.int .u64 ((xi : Nat) : Int)) ∧ (Instr.lookup 91 (.map (some y.lm)) (.string xk) false).run Tryz.prog X = .ok (.pointer (some ⟨P, 0, none⟩)) X) := fun X hX => by
                  have hpp : ¬ p = P := fun e => tag_ne hy.tp htl2 (by simp) (by rw [e, hP])
                  have hll : ¬ Lb = P := fun e => by
                    have := H6.out.2.2.2.2
                    rw [e, hP, htl2] at this
                    cases this
                  have hlmP : ¬ y.lm = P := fun e => tag_ne hy.tl htl2 (by simp) (by rw [e, hP])
                  refine ⟨hX.cell hy.c1 hpp, cell_of_blk (hX.at hbl hll) 0, cell_of_blk (hX.at hbl hll) 1, ?_⟩
                  rw [hP]
                  exact lookL_some (hy.ml.keeps hX hlmP) HX.out.2.2.1 hlx
                have q0 : w7.cell? ⟨P, 0, none⟩ = some (.int .u64 ((lx.last : Nat) : Int)) := by rw [hP]; exact cell_of_blk hln.blk 0
                have f0 : w7.frozen? ⟨P, 0, none⟩ = false := by rw [hP]; exact frozen_of_blk hln.blk 0
                rw [← hP] at hset
                have HSET : Hid (LZ w (w7.setCell ⟨P, 0, none⟩ (.int .u64 ((xi : Nat) : Int))).drew p ks ls (t + 1)) := by
                  refine ⟨⟨T2, ⟨_, (hset.keeps ((Keeps.refl no _).drew) (fun _ _ => id)).ofEq (fun m => ?_) (fun z => ?_)⟩, H6.out.2.2.1⟩, ?_⟩
                  · rw [take_succ_getD ls t (e0, 0) HX.out.2.1, loadS_snoc, ← HX.out.1]
                    simp [stS, setLast]
                  · rw [take_succ_getD ls t (e0, 0) HX.out.2.1, loadS_snoc, ← HX.out.1]
                    simp [stS, setLast]
                  · exact ((H6.out.1.trans hk7').setCell (.inr (by rw [hP]; exact H6.out.2.2.1 lx.p (by rw [htl2]; simp))) _).drew
                clear hk7 hk7' hhas hy hlx hln hbl htl2 hset hP d0 d1
                go_upto_region 26 with fail
                go_region_held3 (fun X => X.cell? ⟨p, 1, none⟩ = some (.map (some y.lm)) ∧ X.cell? ⟨Lb, 0, none⟩ = some (.string xk) ∧ X.cell? ⟨Lb, 1, none⟩ = some (.int .u64 ((xi : Nat) : Int)) ∧ (Instr.lookup 91 (.map (some y.lm)) (.string xk) false).run Tryz.prog X = .ok (.pointer (some ⟨P, 0, none⟩)) X) (first | exact HST.out _ (Keeps.refl _ _) | exact HST.out _ ((Keeps.refl _ _).drew) | exact HST.out _ ((keeps_setB w7 P 0 _).drew) | exact HST.out _ (keeps_setB w7 P 0 _)) (fail)
                all_goals (rename _ ∧ _ => hh; clear hh)
                all_goals go_wp2_with fail
                all_goals go_roundw
                case rel =>
                  refine ⟨t + 1, by omega, by go_num, HSET, fun u hu => ?_⟩
                  by_cases e : u = t
                  · subst e
                    rw [← HX.out.1, HV.out]; rfl
                  · exact HU.out u (by omega)
                case measure => simp [intOf]; omega
            · have htl' : ¬ (t : Int) < nl := by omega
              have HHA : Hid (hasAll ks ls = true) := List.all_eq_true.2 (fun x hx => by
                obtain ⟨i, hi, rfl⟩ := List.getElem_of_mem hx
                have := HU.out i (by have := HA.out.2.1; omega)
                have e : ls.getD i (e0, 0) = ls[i] := by simp [List.getD_eq_getElem?_getD, hi]
                rw [e] at this
                exact this)
              have HTK : Hid (ls.take t = ls) := List.take_of_length_le (by have := HA.out.2.1; omega)
              go_wp2_with fail
              go_ret2
              refine ⟨fun _ => ⟨p, rfl, ?_⟩, fun h => absurd ⟨HFA.out, HHA.out⟩ h⟩
              obtain ⟨T2, hS2, hN2⟩ := HZ.out.st
              rw [HTK.out] at hS2
              refine ⟨T2, ⟨hS2, okLoad_ok ?_ (fun x hx => (HA.out.2.2.2.2.2.2.1.key x hx).2.2.1), hN2, HZ.out.kp⟩, fun b hb => hb.elim⟩
              unfold okLoad
              rw [HFA.out, HHA.out, HA.out.2.2.2.2.2.2.2.2.1, HA.out.2.2.2.2.2.2.2.2.2]
              rfl
end Go.Proofs.YtdemoghlibnooaaGreatDoor
/- Load, whatever comes. -/
namespace Go.Proofs.YtdemoghlibnooaaGreatDoor
open Go.RowKit Go.Maps Go.Sort Orl
set_option linter.unusedVariables false
set_option linter.unusedSimpArgs false

set_option maxRecDepth 10000 in
theorem load_bad (w : World) (ok : Option Addr) (nk ck : Nat) (ks : List KV) (ol : Option Addr) (nl cl : Nat) (ls : List Mk) (hnk : nk = ks.length) (hnl : nl = ls.length) (hlk : ks.length ≤ 1954687338211) (hll : ls.length ≤ 5864062014634) (hsk : Sl KE w ok ck ks) (hsl : Sl LE w ol cl ls) (hik : InK w ks) (hbad : okKept ks = false ∨ rising ltl ls = false) :
    Calls Tryz.prog 159 #[.slice ok nk ck, .slice ol nl cl] w fun e w' => e = .returned (.tuple #[.pointer none, .int .i64 1]) ∧ Keeps no w w' := by
  have h1 := areKept_any w ok nk ck ks hnk (by omega) hsk hik
  have h2 := fun X (hX : Keeps no w X) => risingL_any X ol nl cl ls hnl (by omega) (hsl.keepsN hX)
  have H2 : Hid (∀ X, Keeps no w X → Calls Tryz.prog 201 #[.slice ol nl cl, .func (.func 202) #[] #[]] X fun e w' => e = .returned (.bool (rising ltl ls)) ∧ Keeps no X w') := h2
  have HB : Hid (okKept ks = true → rising ltl ls = false) := fun h => by
    rcases hbad with hb | hb
    · rw [hb] at h; cases h
    · exact hb
  clear hbad h2 hnk hnl hlk hll hsk hsl hik
  cases e1 : okKept ks with
  | false =>
    rw [e1] at h1
    clear e1
    go_enter Tryz.func159, Tryz.ntmps159
    go_wp2_with fail
    refine h1.mono ?_
    rintro e w1 ⟨rfl, hk1⟩
    go_wp2_with fail
    go_ret2
    exact ⟨rfl, hk1⟩
  | true =>
    rw [HB.out e1] at H2
    rw [e1] at h1
    clear e1
    go_enter Tryz.func159, Tryz.ntmps159
    go_wp2_with fail
    refine h1.mono ?_
    rintro e w1 ⟨rfl, hk1⟩
    have K1 : Hid (Keeps no w w1) := hk1
    clear hk1
    go_wp2_with fail
    refine (H2.out _ K1.out).mono ?_
    rintro e w2 ⟨rfl, hk2⟩
    go_wp2_with fail
    go_ret2
    exact ⟨rfl, K1.out.trans hk2⟩
theorem load_any (w : World) (ok : Option Addr) (nk ck : Nat) (ks : List KV) (ol : Option Addr) (nl cl : Nat) (ls : List Mk) (hnk : nk = ks.length) (hnl : nl = ls.length) (hlk : ks.length ≤ 1954687338211) (hll : ls.length ≤ 5864062014634) (hsk : Sl KE w ok ck ks) (hsl : Sl LE w ol cl ls) (hik : InK w ks) (hil : ∀ l ∈ ls, KM.ok l) :
    Calls Tryz.prog 159 #[.slice ok nk ck, .slice ol nl cl] w fun e w' => (okLoad ks ls = true → ∃ p, e = .returned (.tuple #[.pointer (some ⟨p, 0, none⟩), .int .i64 0]) ∧ Ow w w' p (loadS ks ls) ks.length no) ∧ (okLoad ks ls = false → e = .returned (.tuple #[.pointer none, .int .i64 1]) ∧ Keeps no w w') := by
  by_cases hg : okKept ks = true ∧ rising ltl ls = true
  · refine (load_good w ok nk ck ks ol nl cl ls hnk hnl hlk hll hsk hsl hik hil hg.1 hg.2).mono ?_
    rintro e w' ⟨h1, h2⟩
    have e1 : okLoad ks ls = (fitsAll ks ls && hasAll ks ls) := by unfold okLoad; rw [hg.1, hg.2]; rfl
    rw [e1]
    refine ⟨fun h => h1 (by simpa using h), fun h => h2 (fun hc => ?_)⟩
    rw [hc.1, hc.2] at h
    cases h
  · have hb : okKept ks = false ∨ rising ltl ls = false := by
      cases h1 : okKept ks with
      | false => exact .inl rfl
      | true =>
        cases h2 : rising ltl ls with
        | false => exact .inr rfl
        | true => exact absurd ⟨h1, h2⟩ hg
    refine (load_bad w ok nk ck ks ol nl cl ls hnk hnl hlk hll hsk hsl hik hb).mono ?_
    rintro e w' ⟨he, hk⟩
    have e1 : okLoad ks ls = false := by
      unfold okLoad
      rcases hb with h | h <;> rw [h] <;> simp
    exact ⟨(fun h => by rw [e1] at h; cases h), fun _ => ⟨he, hk⟩⟩

/-! ### two stores -/
def Tw (w0 w : World) (p : Nat) (s : St) (N : Nat) (p' : Nat) (s' : St) (N' : Nat) (P : Nat → Prop) : Prop := ∃ T T', Ows w0 w p T s N ∧ Ows w0 w p' T' s' N' ∧ (∀ b, T b ≠ none → T' b = none) ∧ ∀ b, P b → T b = none ∧ T' b = none ∧ w0.heap.size ≤ b ∧ b < w.heap.size
section
variable {w0 w w' : World} {p : Nat} {s : St} {N : Nat} {p' : Nat} {s' : St} {N' : Nat} {P : Nat → Prop}
theorem Tw.swap (h : Tw w0 w p s N p' s' N' P) : Tw w0 w p' s' N' p s N P := by
  obtain ⟨T, T', h1, h2, h3, h4⟩ := h
  refine ⟨T', T, h2, h1, fun b hb => ?_, fun b hb => ⟨(h4 b hb).2.1, (h4 b hb).1, (h4 b hb).2.2⟩⟩
  cases e : T b with
  | none => rfl
  | some r => exact absurd (h3 b (by rw [e]; simp)) hb
theorem Tw.left (h : Tw w0 w p s N p' s' N' P) : ∃ P1, Ow w0 w p s N P1 ∧ (∀ b, P b → P1 b) ∧ ∀ w2 s2 N2, Ow w0 w2 p s2 N2 P1 → Keeps (fun b => ¬ P1 b) w w2 → Tw w0 w2 p s2 N2 p' s' N' P := by
  obtain ⟨T, T', h1, h2, h3, h4⟩ := h
  have hT' : ∀ b, T' b ≠ none → T b = none := fun b hb => by
    cases e : T b with
    | none => rfl
    | some r => exact absurd (h3 b (by rw [e]; simp)) hb
  refine ⟨fun b => P b ∨ T' b ≠ none, ⟨T, h1, fun b hb => ?_⟩, fun b hb => .inl hb, fun w2 s2 N2 ho hk => ?_⟩
  · rcases hb with hb | hb
    · exact ⟨(h4 b hb).1, (h4 b hb).2.2⟩
    · exact ⟨hT' b hb, h2.new b hb, h2.is.lt b hb⟩
  · obtain ⟨T2, o1, o2⟩ := ho
    refine ⟨T2, T', o1, ⟨h2.is.keeps hk (fun b hb hc => hc (.inr hb)), h2.ok, h2.new, o1.keep⟩, fun b hb => ?_, fun b hb => ⟨(o2 b (.inl hb)).1, (h4 b hb).2.1, (o2 b (.inl hb)).2⟩⟩
    cases e : T' b with
    | none => rfl
    | some r => exact absurd (o2 b (.inr (by rw [e]; simp))).1 hb
theorem Tw.go (h : Tw w0 w p s N p' s' N' P) (hk : Keeps no w w') : Tw w0 w' p s N p' s' N' P := by
  obtain ⟨T, T', h1, h2, h3, h4⟩ := h
  exact ⟨T, T', h1.go hk, h2.go hk, h3, fun b hb => ⟨(h4 b hb).1, (h4 b hb).2.1, (h4 b hb).2.2.1, Nat.lt_of_lt_of_le (h4 b hb).2.2.2 hk.size⟩⟩
theorem Tw.first (h : Tw w0 w p s N p' s' N' P) : Ow w0 w p s N P := by
  obtain ⟨T, T', h1, h2, h3, h4⟩ := h
  exact ⟨T, h1, fun b hb => ⟨(h4 b hb).1, (h4 b hb).2.2⟩⟩
/-- a second store, made behind the first -/
theorem Tw.made (h : Ow w0 w p s N P) (h' : Ow w w' p' s' N' no) : Tw w0 w' p s N p' s' N' P := by
  obtain ⟨T, h1, h2⟩ := h
  obtain ⟨T', h3, _⟩ := h'
  have hd : ∀ b, T' b ≠ none → T b = none := fun b hb => by
    cases e : T b with
    | none => rfl
    | some r =>
      have := h1.is.lt b (by rw [e]; simp)
      have := h3.new b hb
      omega
  refine ⟨T, T', h1.go h3.keep, ⟨h3.is, h3.ok, fun b hb => Nat.le_trans h1.keep.size (h3.new b hb), h1.keep.trans h3.keep⟩, fun b hb => ?_, fun b hb => ⟨(h2 b hb).1, ?_, (h2 b hb).2.1, Nat.lt_of_lt_of_le (h2 b hb).2.2 h3.keep.size⟩⟩
  · cases e : T' b with
    | none => rfl
    | some r => exact absurd (hd b (by rw [e]; simp)) hb
  · cases e : T' b with
    | none => rfl
    | some r =>
      have := h3.new b (by rw [e]; simp)
      have := (h2 b hb).2.2
      omega
theorem Tw.sub (h : Tw w0 w p s N p' s' N' P) {Q : Nat → Prop} (hQ : ∀ b, Q b → P b) : Tw w0 w p s N p' s' N' Q := by
  obtain ⟨T, T', h1, h2, h3, h4⟩ := h
  exact ⟨T, T', h1, h2, h3, fun b hb => h4 b (hQ b hb)⟩
theorem Tw.grow (h : Tw w0 w p s N p' s' N' P) (hk : Keeps no w w') : Tw w0 w' p s N p' s' N' (fun b => P b ∨ (w.heap.size ≤ b ∧ b < w'.heap.size)) := by
  obtain ⟨T, T', h1, h2, h3, h4⟩ := h
  refine ⟨T, T', h1.go hk, h2.go hk, h3, fun b hb => ?_⟩
  rcases hb with hb | ⟨hb1, hb2⟩
  · exact ⟨(h4 b hb).1, (h4 b hb).2.1, (h4 b hb).2.2.1, Nat.lt_of_lt_of_le (h4 b hb).2.2.2 hk.size⟩
  · refine ⟨?_, ?_, Nat.le_trans h1.keep.size hb1, hb2⟩
    · cases e : T b with
      | none => rfl
      | some r => have := h1.is.lt b (by rw [e]; simp); omega
    · cases e : T' b with
      | none => rfl
      | some r => have := h2.is.lt b (by rw [e]; simp); omega
theorem Tw.other (h : Tw w0 w p s N p' s' N' P) (hk : Keeps P w w') : Tw w0 w' p s N p' s' N' P := by
  obtain ⟨T, T', h1, h2, h3, h4⟩ := h
  refine ⟨T, T', ⟨h1.is.keeps hk (fun b hb hc => hb (h4 b hc).1), h1.ok, h1.new, h1.keep.then hk (fun b hb => .inr (h4 b hb).2.2.1)⟩, ⟨h2.is.keeps hk (fun b hb hc => hb (h4 b hc).2.1), h2.ok, h2.new, h2.keep.then hk (fun b hb => .inr (h4 b hb).2.2.1)⟩, h3, fun b hb => ⟨(h4 b hb).1, (h4 b hb).2.1, (h4 b hb).2.2.1, Nat.lt_of_lt_of_le (h4 b hb).2.2.2 hk.size⟩⟩
end
theorem Ow.lasts {w0 w : World} {p : Nat} {s : St} {N : Nat} {P : Nat → Prop} (h : Ow w0 w p s N P) (hN : N ≤ 1954687338211) :
    Calls Tryz.prog 55 #[.pointer (some ⟨p, 0, none⟩)] w fun e w' => ∃ v, e = .returned v ∧ ∃ ls, Gives LE w ls v w' ∧ Hid (IsLs s ls) ∧ Hid (ls.length ≤ N) := by
  obtain ⟨T, h, _⟩ := h
  exact lasts_any w p T s N h.is hN
end Go.Proofs.YtdemoghlibnooaaGreatDoor
