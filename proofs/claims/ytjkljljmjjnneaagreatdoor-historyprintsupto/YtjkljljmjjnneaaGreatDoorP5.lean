/- readRead, readWrite, readAnswer. -/
import Derived.Test.YtjkljljmjjnneaaGreatDoorP4
namespace Go.Proofs.YtjkljljmjjnneaaGreatDoor
open Go.RowKit Go.Sort Orl
set_option linter.unusedVariables false
set_option linter.unusedSimpArgs false

/-- an event as it is read -/
structure Eb where
  kind : Nat
  client : Nat
  txn : Nat
  id : Nat
  pairs : List (List UInt8 × List UInt8)
  keys : List (List UInt8)
  ares : Nat
  aid : Nat
  vers : List Vr
deriving DecidableEq
def vrB (v : Ver) : Vr := ⟨v.key.data.toList, v.id, v.val.data.toList, bts v.keys⟩
/-- versions whose keys are the call's own -/
structure Vl (N : Nat) (w : World) (rv : List RV) (vs : List Ver) : Prop where
  len : rv.length = vs.length
  new : ∀ j, j < vs.length → ∀ k, inO (rv.getD j r0).o k → N ≤ k
  each : ∀ j, j < vs.length → (rv.getD j r0).key = (vs.getD j v0).key ∧ (rv.getD j r0).id = (vs.getD j v0).id ∧ (rv.getD j r0).val = (vs.getD j v0).val ∧ (rv.getD j r0).n = (vs.getD j v0).keys.length ∧ Own TE w (rv.getD j r0).o (rv.getD j r0).c (vs.getD j v0).keys
theorem Vl.keepsT {N : Nat} {S : Nat → Prop} {w w' : World} {rv : List RV} {vs : List Ver} (h : Vl N w rv vs) (k : Keeps S w w') (hS : ∀ b, S b → ∃ cur t fz, w.heap[b]? = some (.cells cur t fz) ∧ t ≠ 9) : Vl N w' rv vs := by
  refine ⟨h.len, h.new, fun j hj => ?_⟩
  obtain ⟨h1, h2, h3, h4, h5⟩ := h.each j hj
  refine ⟨h1, h2, h3, h4, h5.keeps k (fun q hq hs => ?_)⟩
  obtain ⟨cur, t, fz, e1, e2⟩ := hS q hs
  obtain ⟨c2, e3⟩ := h5.tag q hq
  rw [e1] at e3
  injection e3 with e3
  injection e3 with _ e3 _
  exact e2 e3
theorem Vl.keepsN {N : Nat} {w w' : World} {rv : List RV} {vs : List Ver} (h : Vl N w rv vs) (k : Keeps no w w') : Vl N w' rv vs := h.keepsT k (fun b hb => hb.elim)
theorem Vl.ap {N : Nat} {w w' : World} {o o' : Option Addr} {c : Nat} {xs : List RV} {rv : List RV} {vs : List Ver} (h : Vl N w rv vs) (ho : Own VE w o c xs) (ha : Ap w o o' w') : Vl N w' rv vs := by
  rcases ha with ⟨_, k⟩ | ⟨_, k⟩
  · exact h.keepsT k (fun b hb => by obtain ⟨cur, hc⟩ := ho.tag b hb; exact ⟨cur, _, _, hc, by decide⟩)
  · exact h.keepsN k
theorem getD_app1 {α : Type} (l : List α) (x d : α) (j : Nat) : (l ++ [x]).getD j d = if j < l.length then l.getD j d else if j = l.length then x else d := by
  simp only [List.getD_eq_getElem?_getD, List.getElem?_append]
  split
  · rfl
  · split
    · rename_i h1 h2; subst h2; simp
    · rename_i h1 h2
      rw [List.getElem?_eq_none (by simp; omega)]
      rfl
theorem Vl.push {N : Nat} {w : World} {rv : List RV} {vs : List Ver} (h : Vl N w rv vs) {r : RV} {v : Ver} (h1 : r.key = v.key) (h2 : r.id = v.id) (h3 : r.val = v.val) (h4 : r.n = v.keys.length) (h5 : Own TE w r.o r.c v.keys) (h6 : ∀ k, inO r.o k → N ≤ k) : Vl N w (rv ++ [r]) (vs ++ [v]) := by
  refine ⟨by simp [h.len], fun j hj k hk => ?_, fun j hj => ?_⟩
  · rw [List.length_append, List.length_singleton] at hj
    rw [getD_app1, h.len] at hk
    by_cases e : j < vs.length
    · rw [if_pos e] at hk; exact h.new j e k hk
    · rw [if_neg e, if_pos (by omega)] at hk; exact h6 k hk
  rw [List.length_append, List.length_singleton] at hj
  rw [getD_app1, getD_app1, h.len]
  by_cases e : j < vs.length
  · rw [if_pos e, if_pos e]; exact h.each j e
  · rw [if_neg e, if_neg e, if_pos (by omega), if_pos (by omega)]; exact ⟨h1, h2, h3, h4, h5⟩
theorem Vl.vers {N : Nat} {w : World} {rv : List RV} {vs : List Ver} (h : Vl N w rv vs) {o : Option Addr} {c : Nat} (hs : Sl VE w o c rv) : Vers w o c rv vs :=
  ⟨hs, h.len, fun j hj => by obtain ⟨h1, h2, h3, h4, h5⟩ := h.each j hj; exact ⟨h1, h2, h3, h4, h5.sl⟩⟩
theorem Vl.keepsL {N : Nat} {S : Nat → Prop} {w w' : World} {rv : List RV} {vs : List Ver} (h : Vl N w rv vs) (k : Keeps S w w') (hS : ∀ i, S i → i < N) : Vl N w' rv vs := by
  refine ⟨h.len, h.new, fun j hj => ?_⟩
  obtain ⟨h1, h2, h3, h4, h5⟩ := h.each j hj
  exact ⟨h1, h2, h3, h4, h5.keeps k (fun q hq hs => by have := h.new j hj q hq; have := hS q hs; omega)⟩
theorem Vl.le {N M : Nat} {w : World} {rv : List RV} {vs : List Ver} (h : Vl N w rv vs) (hm : M ≤ N) : Vl M w rv vs := ⟨h.len, fun j hj k hk => Nat.le_trans hm (h.new j hj k hk), h.each⟩
theorem Vl.nil (N : Nat) (w : World) : Vl N w [] [] := ⟨rfl, fun j hj => by simp at hj, fun j hj => by simp at hj⟩
/-- an event in memory is what was read -/
structure EbOf (N : Nat) (w : World) (r : RE) (x : Eb) : Prop where
  kind : r.kind = (x.kind : Nat)
  client : r.client = (x.client : Nat)
  txn : r.txn = (x.txn : Nat)
  id : r.id = x.id
  pairs : ∃ ps : List Pr, r.pn = ps.length ∧ Own PE w r.po r.pc ps ∧ ps.map (fun p => (p.1.data.toList, p.2.data.toList)) = x.pairs
  pnew : ∀ k, inO r.po k → N ≤ k
  keys : ∃ ks : List Tx, r.kn = ks.length ∧ Own TE w r.ko r.kc ks ∧ bts ks = x.keys
  knew : ∀ k, inO r.ko k → N ≤ k
  atxn : r.atxn = if x.kind = 3 then ((x.txn : Nat) : Int) else 0
  ares : r.ares = (x.ares : Nat)
  aid : r.aid = x.aid
  vers : ∃ (rv : List RV) (vs : List Ver), r.vn = vs.length ∧ Own VE w r.vo r.vc rv ∧ Vl N w rv vs ∧ vs.map vrB = x.vers ∧ ∀ k, inO r.vo k → N ≤ k
/-- what the reader of an event's rest tells -/
def EbTo (w : World) (x : Option Eb) (e : Ending) (w' : World) : Prop := ∃ r : RE, e = .returned (.tuple #[aggE r, .bool x.isSome]) ∧ Keeps no w w' ∧ ∀ y, x = some y → EbOf w.heap.size w' r y
theorem inO_none {N : Nat} : ∀ k, inO (none : Option Addr) k → N ≤ k := fun k h => by obtain ⟨x, e, _⟩ := h; cases e
theorem EbOf.keeps {N : Nat} {S : Nat → Prop} {w w' : World} {r : RE} {x : Eb} (h : EbOf N w r x) (k : Keeps S w w') (hS : ∀ i, S i → i < N) : EbOf N w' r x := by
  obtain ⟨h1, h2, h3, h4, ⟨ps, a1, a2, a3⟩, hp, ⟨ks, b1, b2, b3⟩, hk, h5, h6, h7, ⟨rv, vs, c1, c2, c3, c4, c5⟩⟩ := h
  exact ⟨h1, h2, h3, h4, ⟨ps, a1, a2.keeps k (fun i hi hs => by have := hp i hi; have := hS i hs; omega), a3⟩, hp, ⟨ks, b1, b2.keeps k (fun i hi hs => by have := hk i hi; have := hS i hs; omega), b3⟩, hk, h5, h6, h7, ⟨rv, vs, c1, c2.keeps k (fun i hi hs => by have := c5 i hi; have := hS i hs; omega), c3.keepsL k hS, c4, c5⟩⟩
theorem EbOf.keepsN {N : Nat} {w w' : World} {r : RE} {x : Eb} (h : EbOf N w r x) (k : Keeps no w w') : EbOf N w' r x := h.keeps k (fun i hi => hi.elim)
theorem Own.untag {α : Type} {E : El α} {S : Nat → Prop} {w w' : World} {o : Option Addr} {c : Nat} {xs : List α} (h : Own E w o c xs) (k : Keeps S w w') (T : Nat) (hS : ∀ b, S b → ∃ cur fz, w.heap[b]? = some (.cells cur T fz)) (ht : E.e ≠ T) : Own E w' o c xs :=
  h.keeps k (fun q hq hs => by
    obtain ⟨cur, fz, e1⟩ := hS q hs
    obtain ⟨c2, e3⟩ := h.tag q hq
    rw [e1] at e3
    injection e3 with e3
    injection e3 with _ e3 _
    exact ht e3.symm)
theorem EbOf.keepsT {N : Nat} {S : Nat → Prop} {w w' : World} {r : RE} {x : Eb} (h : EbOf N w r x) (k : Keeps S w w') (hS : ∀ b, S b → ∃ cur fz, w.heap[b]? = some (.cells cur 36 fz)) : EbOf N w' r x := by
  obtain ⟨h1, h2, h3, h4, ⟨ps, a1, a2, a3⟩, hp, ⟨ks, b1, b2, b3⟩, hk, h5, h6, h7, ⟨rv, vs, c1, c2, c3, c4, c5⟩⟩ := h
  exact ⟨h1, h2, h3, h4, ⟨ps, a1, a2.untag k 36 hS (by decide), a3⟩, hp, ⟨ks, b1, b2.untag k 36 hS (by decide), b3⟩, hk, h5, h6, h7, ⟨rv, vs, c1, c2.untag k 36 hS (by decide), c3.keepsT k (fun b hb => by obtain ⟨cur, fz, e⟩ := hS b hb; exact ⟨cur, _, fz, e, by decide⟩), c4, c5⟩⟩
theorem EbOf.le {N M : Nat} {w : World} {r : RE} {x : Eb} (h : EbOf N w r x) (hm : M ≤ N) : EbOf M w r x := by
  obtain ⟨h1, h2, h3, h4, a, hp, b, hk, h5, h6, h7, ⟨rv, vs, c1, c2, c3, c4, c5⟩⟩ := h
  exact ⟨h1, h2, h3, h4, a, fun k hi => Nat.le_trans hm (hp k hi), b, fun k hi => Nat.le_trans hm (hk k hi), h5, h6, h7, ⟨rv, vs, c1, c2, c3.le hm, c4, fun k hi => Nat.le_trans hm (c5 k hi)⟩⟩
abbrev c0E : Array Value := #[.int .i64 0, .int .i64 0, .int .i64 0, .int .u64 0, .slice none 0 0, .slice none 0 0, .int .i64 0, .int .i64 0, .int .u64 0, .slice none 0 0]
def set10 (W : World) (B : Nat) (r : RE) : World := (((((((((W.setCell ⟨B, 0, none⟩ (.int .i64 r.kind)).setCell ⟨B, 1, none⟩ (.int .i64 r.client)).setCell ⟨B, 2, none⟩ (.int .i64 r.txn)).setCell ⟨B, 3, none⟩ (.int .u64 (r.id : Nat))).setCell ⟨B, 4, none⟩ (.slice r.po r.pn r.pc)).setCell ⟨B, 5, none⟩ (.slice r.ko r.kn r.kc)).setCell ⟨B, 6, none⟩ (.int .i64 r.atxn)).setCell ⟨B, 7, none⟩ (.int .i64 r.ares)).setCell ⟨B, 8, none⟩ (.int .u64 (r.aid : Nat))).setCell ⟨B, 9, none⟩ (.slice r.vo r.vn r.vc)
/-- the event that was handed in, boxed, and the cell of the result -/
structure E2 (w W : World) (B : Nat) (cs : Array Value) : Prop where
  b1 : W.heap[B]? = some (.cells cs 36 (0, 0))
  b2 : W.heap[B + 1]? = some (.cells c0E 36 (0, 0))
  kp : Keeps no w W
  ge : w.heap.size ≤ B
theorem E2.keepsN {w W W' : World} {B : Nat} {cs : Array Value} (h : E2 w W B cs) (k : Keeps no W W') : E2 w W' B cs := ⟨k.at h.b1 id, k.at h.b2 id, h.kp.trans k, h.ge⟩
theorem E2.ap {w W W' : World} {B : Nat} {cs : Array Value} (h : E2 w W B cs) {o o' : Option Addr} (ha : Ap W o o' W') (hn : New w o) (ht : ∀ k, inO o k → ∃ cur t, W.heap[k]? = some (.cells cur t (0, 0)) ∧ t ≠ 36) : E2 w W' B cs := by
  have hne : ∀ k c, W.heap[k]? = some (.cells c 36 (0, 0)) → ¬ inO o k := fun k c hk hi => by
    obtain ⟨cur, t, h1, h2⟩ := ht k hi
    rw [h1] at hk; injection hk with e; injection e with _ e _; exact h2 e
  have hk := (ha.new (w0 := w) hn h.kp).2
  rcases ha with ⟨_, k⟩ | ⟨_, k⟩
  · exact ⟨k.at h.b1 (hne _ _ h.b1), k.at h.b2 (hne _ _ h.b2), hk, h.ge⟩
  · exact ⟨k.at h.b1 id, k.at h.b2 id, hk, h.ge⟩
theorem E2.set {w W : World} {B : Nat} {cs : Array Value} (h : E2 w W B cs) (j : Nat) (v : Value) : E2 w (W.setCell ⟨B, j, none⟩ v) B (cs.setIfInBounds j v) :=
  ⟨blk_set h.b1 j v, blk_set_ne h.b2 (show B + 1 ≠ B by omega) v, h.kp.setCell (p := ⟨B, j, none⟩) (.inr h.ge) v, h.ge⟩
theorem E2.fin {w W : World} {B : Nat} {cs : Array Value} (h : E2 w W B cs) (r : RE) : (set10 W (B + 1) r).heap[B + 1]? = some (.cells (cellsE r).toArray 36 (0, 0)) ∧ Keeps no w (set10 W (B + 1) r) ∧ Keeps (fun k => k = B + 1) W (set10 W (B + 1) r) := by
  have hg : w.heap.size ≤ B + 1 := Nat.le_succ_of_le h.ge
  refine ⟨?_, ?_, ?_⟩
  · have h9 := blk_set (blk_set (blk_set (blk_set (blk_set (blk_set (blk_set (blk_set (blk_set (blk_set h.b2 0 (.int .i64 r.kind)) 1 (.int .i64 r.client)) 2 (.int .i64 r.txn)) 3 (.int .u64 (r.id : Nat))) 4 (.slice r.po r.pn r.pc)) 5 (.slice r.ko r.kn r.kc)) 6 (.int .i64 r.atxn)) 7 (.int .i64 r.ares)) 8 (.int .u64 (r.aid : Nat))) 9 (.slice r.vo r.vn r.vc)
    simp only [List.setIfInBounds_toArray, List.set_cons_zero, List.set_cons_succ] at h9
    exact h9
  · have s : ∀ {X : World} (k : Keeps no w X) (j : Nat) (v : Value), Keeps no w (X.setCell ⟨B + 1, j, none⟩ v) := fun k j v => k.setCell (p := ⟨B + 1, j, none⟩) (.inr hg) v
    exact s (s (s (s (s (s (s (s (s (s h.kp 0 _) 1 _) 2 _) 3 _) 4 _) 5 _) 6 _) 7 _) 8 _) 9 _
  · have s : ∀ {X : World} (k : Keeps (fun k => k = B + 1) W X) (j : Nat) (v : Value), Keeps (fun k => k = B + 1) W (X.setCell ⟨B + 1, j, none⟩ v) := fun k j v => k.trans (keeps_one _ (B + 1) j v)
    exact s (s (s (s (s (s (s (s (s (s (Keeps.refl _ _) 0 _) 1 _) 2 _) 3 _) 4 _) 5 _) 6 _) 7 _) 8 _) 9 _
theorem ev_size (a b c d e f g h i j : Value) : (Tryz.prog.info? 36).map (·.size) = some (#[a, b, c, d, e, f, g, h, i, j] : Array Value).size := by
  show _ = some 10
  kernel_rfl
/-! ### reads -/
def readE (c t : Nat) (p : List (List UInt8)) : Option Eb := (textsR p).map fun ks => ⟨2, c, t, 0, [], ks, 0, 0, []⟩
set_option maxRecDepth 10000 in
set_option maxHeartbeats 4000000 in
theorem readRead_any (w : World) (c t : Nat) (hc : (c : Int) < 9223372036854775808) (ht : (t : Int) < 9223372036854775808) (o : Option Addr) (n k : Nat) (xs : List Tx) (hn : n = xs.length) (hs : Sl TE w o k xs) (hz : ∀ x ∈ xs, x.size ≤ 140737488355) (hb : xs.length ≤ 1099511627000) :
    Calls Tryz.prog 47 #[.agg #[.int .i64 0, .int .i64 (c : Nat), .int .i64 (t : Nat), .int .u64 0, .slice none 0 0, .slice none 0 0, .int .i64 0, .int .i64 0, .int .u64 0, .slice none 0 0], .slice o n k] w (EbTo w (readE c t (bts xs))) := by
  obtain ⟨B, hB⟩ : ∃ B, B = w.heap.size := ⟨_, rfl⟩
  have HA : Hid (∀ W, W = (w.alloc (.cells #[.int .i64 0, .int .i64 (c : Nat), .int .i64 (t : Nat), .int .u64 0, .slice none 0 0, .slice none 0 0, .int .i64 0, .int .i64 0, .int .u64 0, .slice none 0 0] 36)).alloc (.cells c0E 36) → E2 w W B #[.int .i64 0, .int .i64 (c : Nat), .int .i64 (t : Nat), .int .u64 0, .slice none 0 0, .slice none 0 0, .int .i64 0, .int .i64 0, .int .u64 0, .slice none 0 0]) := by
    rintro W rfl
    refine ⟨?_, ?_, ((Keeps.refl _ _).alloc _).alloc _, Nat.le_of_eq hB.symm⟩
    · rw [hB]; exact blk_alloc (blk_new w _) _
    · have e : (w.alloc (.cells #[.int .i64 0, .int .i64 (c : Nat), .int .i64 (t : Nat), .int .u64 0, .slice none 0 0, .slice none 0 0, .int .i64 0, .int .i64 0, .int .u64 0, .slice none 0 0] 36)).heap.size = B + 1 := by rw [hB]; exact Array.size_push _
      rw [← e]; exact blk_new _ _
  have HR : Hid (∀ W, Keeps no w W → Calls Tryz.prog 68 #[.slice o n k] W (TxTo W (textsR (bts xs)))) := fun W hW => readTexts_any W o n k xs hn (hs.keepsN hW) hz hb
  clear hn hs hz hb
  go_enter Tryz.func47, Tryz.ntmps47
  go_upto_region 1 with fail
  have h1 := HA.out _ rfl
  generalize (w.alloc (.cells #[.int .i64 0, .int .i64 (c : Nat), .int .i64 (t : Nat), .int .u64 0, .slice none 0 0, .slice none 0 0, .int .i64 0, .int .i64 0, .int .u64 0, .slice none 0 0] 36)).alloc (.cells c0E 36) = w1 at h1 ⊢
  rw [← hB]
  have H1 : Hid (E2 w w1 B #[.int .i64 0, .int .i64 (c : Nat), .int .i64 (t : Nat), .int .u64 0, .slice none 0 0, .slice none 0 0, .int .i64 0, .int .i64 0, .int .u64 0, .slice none 0 0]) := h1
  clear HA hB h1
  go_wp2_with fail
  refine (HR.out _ H1.out.kp).mono ?_
  rintro e w2 ⟨o2, n2, c2, ys, rfl, hn2, ho2, hnw, hk2, hy, -⟩
  have H2 := H1.out.keepsN hk2
  have HY : Hid (n2 = ys.length ∧ Own TE w2 o2 c2 ys ∧ (∀ k, inO o2 k → w1.heap.size ≤ k) ∧ ∀ ts, textsR (bts xs) = some ts → bts ys = ts) := ⟨hn2, ho2, hnw, hy⟩
  have HS1 : Hid (E2 w w2 B #[.int .i64 0, .int .i64 (c : Nat), .int .i64 (t : Nat), .int .u64 0, .slice none 0 0, .slice none 0 0, .int .i64 0, .int .i64 0, .int .u64 0, .slice none 0 0]) := H2
  clear hn2 ho2 hnw hk2 hy
  have z := fun j => cell_of_blk H2.b1 j
  have z0 := z 0
  have z5 := z 5
  have f0 := frozen_of_blk H2.b1 0
  have f5 := frozen_of_blk H2.b1 5
  simp only [List.getElem?_toArray, List.getElem?_cons_succ, List.getElem?_cons_zero] at z0 z5
  clear z H2
  go_upto_region 3 with fail
  have H3 : Hid (E2 w ((w2.setCell ⟨B, 0, none⟩ (.int .i64 2)).setCell ⟨B, 5, none⟩ (.slice o2 n2 c2)) B #[.int .i64 2, .int .i64 (c : Nat), .int .i64 (t : Nat), .int .u64 0, .slice none 0 0, .slice o2 n2 c2, .int .i64 0, .int .i64 0, .int .u64 0, .slice none 0 0]) := (HS1.out.set 0 (.int .i64 2)).set 5 (.slice o2 n2 c2)
  have H3K : Hid (Keeps (fun k => k = B) w2 ((w2.setCell ⟨B, 0, none⟩ (.int .i64 2)).setCell ⟨B, 5, none⟩ (.slice o2 n2 c2))) := (keeps_one w2 B 0 _).trans (keeps_one _ B 5 _)
  have HL1 := H1
  clear z0 z5 f0 f5 H1 HS1
  generalize (w2.setCell ⟨B, 0, none⟩ (.int .i64 2)).setCell ⟨B, 5, none⟩ (.slice o2 n2 c2) = WW at H3 H3K ⊢
  have z0 := cell_of_blk H3.out.b1 0
  have z1 := cell_of_blk H3.out.b1 1
  have z2 := cell_of_blk H3.out.b1 2
  have z3 := cell_of_blk H3.out.b1 3
  have z4 := cell_of_blk H3.out.b1 4
  have z5 := cell_of_blk H3.out.b1 5
  have z6 := cell_of_blk H3.out.b1 6
  have z7 := cell_of_blk H3.out.b1 7
  have z8 := cell_of_blk H3.out.b1 8
  have z9 := cell_of_blk H3.out.b1 9
  simp only [List.getElem?_toArray, List.getElem?_cons_succ, List.getElem?_cons_zero] at z0 z1 z2 z3 z4 z5 z6 z7 z8 z9
  have y0 := cell_of_blk H3.out.b2 0
  have y1 := cell_of_blk H3.out.b2 1
  have y2 := cell_of_blk H3.out.b2 2
  have y3 := cell_of_blk H3.out.b2 3
  have y4 := cell_of_blk H3.out.b2 4
  have y5 := cell_of_blk H3.out.b2 5
  have y6 := cell_of_blk H3.out.b2 6
  have y7 := cell_of_blk H3.out.b2 7
  have y8 := cell_of_blk H3.out.b2 8
  have y9 := cell_of_blk H3.out.b2 9
  simp only [List.getElem?_toArray, List.getElem?_cons_succ, List.getElem?_cons_zero] at y0 y1 y2 y3 y4 y5 y6 y7 y8 y9
  have fy0 := frozen_of_blk H3.out.b2 0
  have fy1 := frozen_of_blk H3.out.b2 1
  have fy2 := frozen_of_blk H3.out.b2 2
  have fy3 := frozen_of_blk H3.out.b2 3
  have fy4 := frozen_of_blk H3.out.b2 4
  have fy5 := frozen_of_blk H3.out.b2 5
  have fy6 := frozen_of_blk H3.out.b2 6
  have fy7 := frozen_of_blk H3.out.b2 7
  have fy8 := frozen_of_blk H3.out.b2 8
  have fy9 := frozen_of_blk H3.out.b2 9
  have HF : Hid (∀ W', W' = set10 WW (B + 1) (⟨2, c, t, 0, none, 0, 0, o2, n2, c2, 0, 0, 0, none, 0, 0⟩ : RE) → W'.heap[B + 1]? = some (.cells (cellsE (⟨2, c, t, 0, none, 0, 0, o2, n2, c2, 0, 0, 0, none, 0, 0⟩ : RE)).toArray 36 (0, 0)) ∧ Keeps no w W' ∧ Keeps (fun k => k = B + 1) WW W') := by
    rintro W' rfl
    exact H3.out.fin (⟨2, c, t, 0, none, 0, 0, o2, n2, c2, 0, 0, 0, none, 0, 0⟩ : RE)
  unfold set10 at HF
  simp only at HF
  go_wp2_with fail
  refine bodyPost_ret (results_row2 rfl _ _ (B + 1) _ rfl (run_loadVar_row _ _ _ _ _ _ _ (HF.out _ rfl).1 Tryz.underlying36 rfl (ev_size _ _ _ _ _ _ _ _ _ _))) rfl ?_
  refine ⟨⟨2, c, t, 0, none, 0, 0, o2, n2, c2, 0, 0, 0, none, 0, 0⟩, ?_, (HF.out _ rfl).2.1, fun y e => ?_⟩
  · show _ = Ending.returned (.tuple #[.agg #[_, _, _, _, _, _, _, _, _, _], .bool (readE c t (bts xs)).isSome])
    unfold readE
    rw [Option.isSome_map]
    rfl
  · unfold readE at e
    obtain ⟨ts, h1, rfl⟩ := Option.map_eq_some_iff.1 e
    have hys := HY.out.2.2.2 ts h1
    refine ⟨rfl, rfl, rfl, rfl, ⟨[], rfl, own_nil _, rfl⟩, inO_none, ⟨ys, HY.out.1, ?_, hys⟩, fun k hk => Nat.le_trans HL1.out.kp.size (HY.out.2.2.1 k hk), rfl, rfl, rfl, ⟨[], [], rfl, own_nil _, Vl.nil _ _, rfl, inO_none⟩⟩
    refine (HY.out.2.1.keeps H3K.out (fun k hk e => ?_)).keeps (HF.out _ rfl).2.2 (fun k hk e => ?_)
    · have := HY.out.2.2.1 k hk; have := lt_of_block HL1.out.b1; omega
    · have := HY.out.2.2.1 k hk; have := lt_of_block HL1.out.b2; omega
/-! ### lists of what is read one by one -/
def mapR {α : Type} (f : List UInt8 → Option α) : List (List UInt8) → Option (List α)
  | [] => some []
  | x :: l => match f x with
    | none => none
    | some t => (mapR f l).map (t :: ·)
theorem mapR_take {α : Type} {f : List UInt8 → Option α} {l : List (List UInt8)} {k : Nat} (hk : k < l.length) {ts : List α} (h : mapR f (l.take k) = some ts) : (f (l.getD k []) = none → mapR f l = none) ∧ (∀ t, f (l.getD k []) = some t → mapR f (l.take (k + 1)) = some (ts ++ [t])) := by
  induction l generalizing k ts with
  | nil => simp at hk
  | cons x l ih =>
    cases k with
    | zero =>
      simp only [List.take_zero, mapR, Option.some.injEq] at h
      subst h
      refine ⟨fun h => ?_, fun t h => ?_⟩
      · have h' : f x = none := h
        rw [mapR, h']
      · have h' : f x = some t := h
        simp only [List.take_succ_cons, List.take_zero, mapR, h']
        rfl
    | succ k =>
      rw [List.take_succ_cons, mapR] at h
      cases hx : f x with
      | none => rw [hx] at h; cases h
      | some t0 =>
        rw [hx] at h
        simp only at h
        cases hl : mapR f (l.take k) with
        | none => rw [hl] at h; cases h
        | some ts0 =>
          rw [hl] at h
          simp only [Option.map_some, Option.some.injEq] at h
          subst h
          have ih2 := ih (k := k) (by simpa using hk) hl
          refine ⟨fun h => ?_, fun t h => ?_⟩
          · rw [mapR, hx]
            simp only
            rw [ih2.1 (by simpa using h)]
            rfl
          · rw [List.take_succ_cons, mapR, hx]
            simp only
            rw [ih2.2 t (by simpa using h)]
            rfl
def prB (p : Pr) : List UInt8 × List UInt8 := (p.1.data.toList, p.2.data.toList)
def writeE (c t : Nat) (p : List (List UInt8)) : Option Eb := match p with
  | [] => none
  | x :: rest => match numR x, mapR pairR rest with
    | some i, some ps => some ⟨1, c, t, i, ps, [], 0, 0, []⟩
    | _, _ => none
set_option maxRecDepth 10000 in
set_option maxHeartbeats 8000000 in
theorem readWrite_any (w : World) (hv : Vs w) (c t : Nat) (o : Option Addr) (n : Nat) (xs : List Tx) (hn : n = xs.length) (hs : Sl TE w o n xs) (hz : ∀ x ∈ xs, x.size ≤ 4294967000) (hb : xs.length ≤ 4294967001) :
    Calls Tryz.prog 46 #[.agg #[.int .i64 0, .int .i64 (c : Nat), .int .i64 (t : Nat), .int .u64 0, .slice none 0 0, .slice none 0 0, .int .i64 0, .int .i64 0, .int .u64 0, .slice none 0 0], .slice o n n] w (EbTo w (writeE c t (bts xs))) := by
  obtain ⟨B, hB⟩ : ∃ B, B = w.heap.size := ⟨_, rfl⟩
  have HA : Hid (∀ W, W = (w.alloc (.cells #[.int .i64 0, .int .i64 (c : Nat), .int .i64 (t : Nat), .int .u64 0, .slice none 0 0, .slice none 0 0, .int .i64 0, .int .i64 0, .int .u64 0, .slice none 0 0] 36)).alloc (.cells c0E 36) → E2 w W B #[.int .i64 0, .int .i64 (c : Nat), .int .i64 (t : Nat), .int .u64 0, .slice none 0 0, .slice none 0 0, .int .i64 0, .int .i64 0, .int .u64 0, .slice none 0 0]) := by
    rintro W rfl
    refine ⟨?_, ?_, ((Keeps.refl _ _).alloc _).alloc _, Nat.le_of_eq hB.symm⟩
    · rw [hB]; exact blk_alloc (blk_new w _) _
    · have e : (w.alloc (.cells #[.int .i64 0, .int .i64 (c : Nat), .int .i64 (t : Nat), .int .u64 0, .slice none 0 0, .slice none 0 0, .int .i64 0, .int .i64 0, .int .u64 0, .slice none 0 0] 36)).heap.size = B + 1 := by rw [hB]; exact Array.size_push _
      rw [← e]; exact blk_new _ _
  have HX : Hid (Vs w ∧ n = xs.length ∧ Sl TE w o n xs ∧ (∀ x ∈ xs, x.size ≤ 4294967000) ∧ xs.length ≤ 4294967001) := ⟨hv, hn, hs, hz, hb⟩
  have hnb : (n : Int) ≤ 4294967001 := by omega
  clear hv hn hs hz hb
  go_enter Tryz.func46, Tryz.ntmps46
  go_upto_region 1 with fail
  have h1 := HA.out _ rfl
  generalize (w.alloc (.cells #[.int .i64 0, .int .i64 (c : Nat), .int .i64 (t : Nat), .int .u64 0, .slice none 0 0, .slice none 0 0, .int .i64 0, .int .i64 0, .int .u64 0, .slice none 0 0] 36)).alloc (.cells c0E 36) = w1 at h1 ⊢
  rw [← hB]
  have H1 : Hid (E2 w w1 B #[.int .i64 0, .int .i64 (c : Nat), .int .i64 (t : Nat), .int .u64 0, .slice none 0 0, .slice none 0 0, .int .i64 0, .int .i64 0, .int .u64 0, .slice none 0 0]) := h1
  clear HA hB h1
  by_cases h0 : n = 0
  · have h0' : (n : Int) = 0 := by omega
    have HE : Hid (writeE c t (bts xs) = none) := by
      show _ = _
      have e : xs = [] := List.length_eq_zero_iff.1 (by rw [← HX.out.2.1]; exact h0)
      rw [e]; rfl
    generalize hWW : w1 = WW at H1 ⊢
    have z0 := cell_of_blk H1.out.b1 0
    have z1 := cell_of_blk H1.out.b1 1
    have z2 := cell_of_blk H1.out.b1 2
    have z3 := cell_of_blk H1.out.b1 3
    have z4 := cell_of_blk H1.out.b1 4
    have z5 := cell_of_blk H1.out.b1 5
    have z6 := cell_of_blk H1.out.b1 6
    have z7 := cell_of_blk H1.out.b1 7
    have z8 := cell_of_blk H1.out.b1 8
    have z9 := cell_of_blk H1.out.b1 9
    simp only [List.getElem?_toArray, List.getElem?_cons_succ, List.getElem?_cons_zero] at z0 z1 z2 z3 z4 z5 z6 z7 z8 z9
    have y0 := cell_of_blk H1.out.b2 0
    have y1 := cell_of_blk H1.out.b2 1
    have y2 := cell_of_blk H1.out.b2 2
    have y3 := cell_of_blk H1.out.b2 3
    have y4 := cell_of_blk H1.out.b2 4
    have y5 := cell_of_blk H1.out.b2 5
    have y6 := cell_of_blk H1.out.b2 6
    have y7 := cell_of_blk H1.out.b2 7
    have y8 := cell_of_blk H1.out.b2 8
    have y9 := cell_of_blk H1.out.b2 9
    simp only [List.getElem?_toArray, List.getElem?_cons_succ, List.getElem?_cons_zero] at y0 y1 y2 y3 y4 y5 y6 y7 y8 y9
    have fy0 := frozen_of_blk H1.out.b2 0
    have fy1 := frozen_of_blk H1.out.b2 1
    have fy2 := frozen_of_blk H1.out.b2 2
    have fy3 := frozen_of_blk H1.out.b2 3
    have fy4 := frozen_of_blk H1.out.b2 4
    have fy5 := frozen_of_blk H1.out.b2 5
    have fy6 := frozen_of_blk H1.out.b2 6
    have fy7 := frozen_of_blk H1.out.b2 7
    have fy8 := frozen_of_blk H1.out.b2 8
    have fy9 := frozen_of_blk H1.out.b2 9
    have HF : Hid (∀ W', W' = set10 WW (B + 1) (⟨0, c, t, 0, none, 0, 0, none, 0, 0, 0, 0, 0, none, 0, 0⟩ : RE) → W'.heap[B + 1]? = some (.cells (cellsE (⟨0, c, t, 0, none, 0, 0, none, 0, 0, 0, 0, 0, none, 0, 0⟩ : RE)).toArray 36 (0, 0)) ∧ Keeps no w W' ∧ Keeps (fun k => k = B + 1) WW W') := by
      rintro W' rfl
      exact H1.out.fin (⟨0, c, t, 0, none, 0, 0, none, 0, 0, 0, 0, 0, none, 0, 0⟩ : RE)
    unfold set10 at HF
    simp only at HF
    go_wp2_with fail
    refine bodyPost_ret (results_row2 rfl _ _ (B + 1) _ rfl (run_loadVar_row _ _ _ _ _ _ _ (HF.out _ rfl).1 Tryz.underlying36 rfl (ev_size _ _ _ _ _ _ _ _ _ _))) rfl ?_
    exact ⟨(⟨0, c, t, 0, none, 0, 0, none, 0, 0, 0, 0, 0, none, 0, 0⟩ : RE), by rw [HE.out]; rfl, (HF.out _ rfl).2.1, fun y e => by rw [HE.out] at e; cases e⟩
  · have h0' : ¬ (n : Int) = 0 := by omega
    have hx0 : 0 < xs.length := by have := HX.out.2.1; omega
    obtain ⟨g, off, rfl, d0⟩ := tx_at (HX.out.2.2.1.keepsN H1.out.kp) (j := 0) hx0
    simp only [Nat.add_zero] at d0
    have hP0 : (bts xs) = (xs.getD 0 e0).data.toList :: bts (xs.drop 1) := by
      cases hxs : xs with
      | nil => rw [hxs] at hx0; simp at hx0
      | cons a l => rfl
    have hz0 := HX.out.2.2.2.1 _ (getD_mem_lt e0 hx0)
    generalize xs.getD 0 e0 = x0 at d0 hP0 hz0
    have HN := readNumber_any w1 (HX.out.1.keepsN H1.out.kp) x0 (by omega)
    have HPV : Hid (writeE c t (bts xs) = match numR x0.data.toList, mapR pairR (bts (xs.drop 1)) with
      | some i, some ps => some ⟨1, c, t, i, ps, [], 0, 0, []⟩
      | _, _ => none) := by show _ = _; rw [hP0]; rfl
    clear hP0 hz0 hx0
    go_wp2_with fail
    refine HN.mono ?_
    rintro e w2 ⟨i, rfl, hi, hk2⟩
    have H2 : Hid (E2 w w2 B #[.int .i64 0, .int .i64 (c : Nat), .int .i64 (t : Nat), .int .u64 0, .slice none 0 0, .slice none 0 0, .int .i64 0, .int .i64 0, .int .u64 0, .slice none 0 0]) := H1.out.keepsN hk2
    clear hk2 d0 HN H1
    cases hr : numR x0.data.toList with
    | none =>
      have HE : Hid (writeE c t (bts xs) = none) := by show _ = _; rw [HPV.out, hr]
      clear hi
      generalize hWW : w2 = WW at H2 ⊢
      have z0 := cell_of_blk H2.out.b1 0
      have z1 := cell_of_blk H2.out.b1 1
      have z2 := cell_of_blk H2.out.b1 2
      have z3 := cell_of_blk H2.out.b1 3
      have z4 := cell_of_blk H2.out.b1 4
      have z5 := cell_of_blk H2.out.b1 5
      have z6 := cell_of_blk H2.out.b1 6
      have z7 := cell_of_blk H2.out.b1 7
      have z8 := cell_of_blk H2.out.b1 8
      have z9 := cell_of_blk H2.out.b1 9
      simp only [List.getElem?_toArray, List.getElem?_cons_succ, List.getElem?_cons_zero] at z0 z1 z2 z3 z4 z5 z6 z7 z8 z9
      have y0 := cell_of_blk H2.out.b2 0
      have y1 := cell_of_blk H2.out.b2 1
      have y2 := cell_of_blk H2.out.b2 2
      have y3 := cell_of_blk H2.out.b2 3
      have y4 := cell_of_blk H2.out.b2 4
      have y5 := cell_of_blk H2.out.b2 5
      have y6 := cell_of_blk H2.out.b2 6
      have y7 := cell_of_blk H2.out.b2 7
      have y8 := cell_of_blk H2.out.b2 8
      have y9 := cell_of_blk H2.out.b2 9
      simp only [List.getElem?_toArray, List.getElem?_cons_succ, List.getElem?_cons_zero] at y0 y1 y2 y3 y4 y5 y6 y7 y8 y9
      have fy0 := frozen_of_blk H2.out.b2 0
      have fy1 := frozen_of_blk H2.out.b2 1
      have fy2 := frozen_of_blk H2.out.b2 2
      have fy3 := frozen_of_blk H2.out.b2 3
      have fy4 := frozen_of_blk H2.out.b2 4
      have fy5 := frozen_of_blk H2.out.b2 5
      have fy6 := frozen_of_blk H2.out.b2 6
      have fy7 := frozen_of_blk H2.out.b2 7
      have fy8 := frozen_of_blk H2.out.b2 8
      have fy9 := frozen_of_blk H2.out.b2 9
      have HF : Hid (∀ W', W' = set10 WW (B + 1) (⟨0, c, t, 0, none, 0, 0, none, 0, 0, 0, 0, 0, none, 0, 0⟩ : RE) → W'.heap[B + 1]? = some (.cells (cellsE (⟨0, c, t, 0, none, 0, 0, none, 0, 0, 0, 0, 0, none, 0, 0⟩ : RE)).toArray 36 (0, 0)) ∧ Keeps no w W' ∧ Keeps (fun k => k = B + 1) WW W') := by
        rintro W' rfl
        exact H2.out.fin (⟨0, c, t, 0, none, 0, 0, none, 0, 0, 0, 0, 0, none, 0, 0⟩ : RE)
      unfold set10 at HF
      simp only at HF
      go_wp2_with fail
      refine bodyPost_ret (results_row2 rfl _ _ (B + 1) _ rfl (run_loadVar_row _ _ _ _ _ _ _ (HF.out _ rfl).1 Tryz.underlying36 rfl (ev_size _ _ _ _ _ _ _ _ _ _))) rfl ?_
      exact ⟨(⟨0, c, t, 0, none, 0, 0, none, 0, 0, 0, 0, 0, none, 0, 0⟩ : RE), by rw [HE.out]; rfl, (HF.out _ rfl).2.1, fun y e => by rw [HE.out] at e; cases e⟩
    | some ti =>
      have hii : i = ti := hi ti hr
      subst hii
      have HPV2 : Hid (writeE c t (bts xs) = match mapR pairR (bts (xs.drop 1)) with
        | some ps => some ⟨1, c, t, i, ps, [], 0, 0, []⟩
        | _ => none) := by
        show _ = _
        rw [HPV.out, hr]
        cases mapR pairR (bts (xs.drop 1)) <;> rfl
      clear hi hr HPV
      have z0 := cell_of_blk H2.out.b1 0
      have z3 := cell_of_blk H2.out.b1 3
      simp only [List.getElem?_toArray, List.getElem?_cons_succ, List.getElem?_cons_zero] at z0 z3
      have fz0 := frozen_of_blk H2.out.b1 0
      have fz3 := frozen_of_blk H2.out.b1 3
      go_upto_region 7 with fail
      have H3 : Hid (E2 w ((w2.setCell ⟨B, 0, none⟩ (.int .i64 1)).setCell ⟨B, 3, none⟩ (.int .u64 (i : Nat))) B #[.int .i64 1, .int .i64 (c : Nat), .int .i64 (t : Nat), .int .u64 (i : Nat), .slice none 0 0, .slice none 0 0, .int .i64 0, .int .i64 0, .int .u64 0, .slice none 0 0]) := (H2.out.set 0 (.int .i64 1)).set 3 (.int .u64 (i : Nat))
      clear z0 z3 fz0 fz3 H2
      generalize (w2.setCell ⟨B, 0, none⟩ (.int .i64 1)).setCell ⟨B, 3, none⟩ (.int .u64 (i : Nat)) = w3 at H3 ⊢
      by_cases hn1 : n = 1
      · subst hn1
        have HE : Hid (writeE c t (bts xs) = some ⟨1, c, t, i, [], [], 0, 0, []⟩) := by
          show _ = _
          have e : xs.drop 1 = [] := List.length_eq_zero_iff.1 (by rw [List.length_drop, ← HX.out.2.1])
          rw [HPV2.out, e]; rfl
        go_wp2_with fail
        go_loopw [32] (fun s32 wr => s32 = .int .i64 0 ∧ wr = w3) (fun _ _ => 0)
        case atStart => exact ⟨rfl, rfl⟩
        case round =>
          obtain ⟨rfl, rfl⟩ := hrel
          rename World => WW
          have z0 := cell_of_blk H3.out.b1 0
          have z1 := cell_of_blk H3.out.b1 1
          have z2 := cell_of_blk H3.out.b1 2
          have z3 := cell_of_blk H3.out.b1 3
          have z4 := cell_of_blk H3.out.b1 4
          have z5 := cell_of_blk H3.out.b1 5
          have z6 := cell_of_blk H3.out.b1 6
          have z7 := cell_of_blk H3.out.b1 7
          have z8 := cell_of_blk H3.out.b1 8
          have z9 := cell_of_blk H3.out.b1 9
          simp only [List.getElem?_toArray, List.getElem?_cons_succ, List.getElem?_cons_zero] at z0 z1 z2 z3 z4 z5 z6 z7 z8 z9
          have y0 := cell_of_blk H3.out.b2 0
          have y1 := cell_of_blk H3.out.b2 1
          have y2 := cell_of_blk H3.out.b2 2
          have y3 := cell_of_blk H3.out.b2 3
          have y4 := cell_of_blk H3.out.b2 4
          have y5 := cell_of_blk H3.out.b2 5
          have y6 := cell_of_blk H3.out.b2 6
          have y7 := cell_of_blk H3.out.b2 7
          have y8 := cell_of_blk H3.out.b2 8
          have y9 := cell_of_blk H3.out.b2 9
          simp only [List.getElem?_toArray, List.getElem?_cons_succ, List.getElem?_cons_zero] at y0 y1 y2 y3 y4 y5 y6 y7 y8 y9
          have fy0 := frozen_of_blk H3.out.b2 0
          have fy1 := frozen_of_blk H3.out.b2 1
          have fy2 := frozen_of_blk H3.out.b2 2
          have fy3 := frozen_of_blk H3.out.b2 3
          have fy4 := frozen_of_blk H3.out.b2 4
          have fy5 := frozen_of_blk H3.out.b2 5
          have fy6 := frozen_of_blk H3.out.b2 6
          have fy7 := frozen_of_blk H3.out.b2 7
          have fy8 := frozen_of_blk H3.out.b2 8
          have fy9 := frozen_of_blk H3.out.b2 9
          have HF : Hid (∀ W', W' = set10 WW (B + 1) (⟨1, c, t, i, none, 0, 0, none, 0, 0, 0, 0, 0, none, 0, 0⟩ : RE) → W'.heap[B + 1]? = some (.cells (cellsE (⟨1, c, t, i, none, 0, 0, none, 0, 0, 0, 0, 0, none, 0, 0⟩ : RE)).toArray 36 (0, 0)) ∧ Keeps no w W' ∧ Keeps (fun k => k = B + 1) WW W') := by
            rintro W' rfl
            exact H3.out.fin (⟨1, c, t, i, none, 0, 0, none, 0, 0, 0, 0, 0, none, 0, 0⟩ : RE)
          unfold set10 at HF
          simp only at HF
          go_wp2_with fail
          refine bodyPost_ret (results_row2 rfl _ _ (B + 1) _ rfl (run_loadVar_row _ _ _ _ _ _ _ (HF.out _ rfl).1 Tryz.underlying36 rfl (ev_size _ _ _ _ _ _ _ _ _ _))) rfl ?_
          refine ⟨(⟨1, c, t, i, none, 0, 0, none, 0, 0, 0, 0, 0, none, 0, 0⟩ : RE), by rw [HE.out]; rfl, (HF.out _ rfl).2.1, fun y e => ?_⟩
          rw [HE.out] at e
          injection e with e
          subst e
          exact ⟨rfl, rfl, rfl, rfl, ⟨[], rfl, own_nil _, rfl⟩, inO_none, ⟨[], rfl, own_nil _, rfl⟩, inO_none, rfl, rfl, rfl, ⟨[], [], rfl, own_nil _, Vl.nil _ _, rfl, inO_none⟩⟩
      · have hn2 : 1 < n := by omega
        obtain ⟨m, rfl⟩ : ∃ m, n = m + 1 := ⟨n - 1, by omega⟩
        have hm0 : (1 : Int) ≤ (m : Int) := by omega
        have HDR : Hid (∀ W, Keeps no w W → Sl TE W (some ⟨g, off + 1, none⟩) m (xs.drop 1)) := fun W hW => by
          have hW' := HX.out.2.2.1.keepsN hW
          exact ⟨hW'.row.drop okT 1 (fun _ b o e => by cases e; rfl), by rw [List.length_drop, ← HX.out.2.1]; exact Nat.le_refl _, fun h => by cases h⟩
        have HXL : Hid (m = (xs.drop 1).length ∧ (∀ x ∈ xs.drop 1, x.size ≤ 4294967000) ∧ m ≤ 4294967001) := ⟨by rw [List.length_drop, ← HX.out.2.1]; rfl, fun x hx => HX.out.2.2.2.1 x (List.mem_of_mem_drop hx), by have := HX.out.2.2.2.2; have := HX.out.2.1; omega⟩
        generalize xs.drop 1 = zs at HDR HXL HPV2
        have hmi : (((m + 1 : Nat) : Int)) = (m : Int) + 1 := by omega
        go_wp2_with fail
        have HMZ : Hid (m = zs.length) := HXL.out.1
        clear hmi hn1 hn2 hnb h0 h0'
        generalize ((m + 1 : Nat) : Int) = N13
        have hmb : (m : Int) ≤ 4294967001 := by have := HXL.out.2.2; omega
        go_loopw [32] (fun s32 wr => ∃ (j : Nat) (po : Option Addr) (pc : Nat) (ps : List Pr), j ≤ m ∧ s32 = .int .i64 (j : Nat) ∧ Hid (E2 w wr B #[.int .i64 1, .int .i64 (c : Nat), .int .i64 (t : Nat), .int .u64 (i : Nat), .slice po j pc, .slice none 0 0, .int .i64 0, .int .i64 0, .int .u64 0, .slice none 0 0] ∧ Own PE wr po pc ps ∧ New w po ∧ mapR pairR ((bts zs).take j) = some (ps.map prB) ∧ j = ps.length)) (fun s32 _ => m - (intOf s32).toNat)
        case atStart => exact ⟨0, none, 0, [], by omega, rfl, H3.out, own_nil _, new_none _, rfl, rfl⟩
        case round =>
          rename World => wr
          clear H3
          obtain ⟨j, po, pc, ps, hjm, rfl, HO⟩ := hrel
          by_cases hlt : j < m
          · have hlt' : (j : Int) < m := by omega
            have hjl : j < zs.length := by have := HMZ.out; omega
            have hjb : j < (bts zs).length := by rw [bts_len]; exact hjl
            obtain ⟨g', off', e2, d1⟩ := tx_at (HDR.out wr HO.out.1.kp) hjl
            cases e2
            have htk := mapR_take hjb HO.out.2.2.2.1
            rw [bts_getD _ _ hjl] at htk
            have hxz := HXL.out.2.1 _ (getD_mem_lt e0 hjl)
            generalize zs.getD j e0 = x at d1 htk hxz
            have HTK : Hid ((pairR x.data.toList = none → mapR pairR (bts zs) = none) ∧ ∀ t, pairR x.data.toList = some t → mapR pairR (List.take (j + 1) (bts zs)) = some (ps.map prB ++ [t])) := htk
            have HRP := readPair_any wr x hxz
            clear htk hjl hjb hxz
            go_wp2_with fail
            refine HRP.mono ?_
            rintro e w4 ⟨y1, y2, rfl, hy, hk4⟩
            have H4 : Hid (E2 w w4 B #[.int .i64 1, .int .i64 (c : Nat), .int .i64 (t : Nat), .int .u64 (i : Nat), .slice po j pc, .slice none 0 0, .int .i64 0, .int .i64 0, .int .u64 0, .slice none 0 0] ∧ Own PE w4 po pc ps) := ⟨HO.out.1.keepsN hk4, HO.out.2.1.keepsN hk4⟩
            have HY : Hid (∀ p, pairR x.data.toList = some p → y1.data.toList = p.1 ∧ y2.data.toList = p.2) := hy
            clear hy hk4 d1 HRP
            cases hr : pairR x.data.toList with
            | none =>
              have HE : Hid (writeE c t (bts xs) = none) := by show _ = _; rw [HPV2.out, HTK.out.1 hr]
              have HAK : Hid (E2 w (w4.alloc (.cells #[.string y1, .string y2] 49)) B #[.int .i64 1, .int .i64 (c : Nat), .int .i64 (t : Nat), .int .u64 (i : Nat), .slice po j pc, .slice none 0 0, .int .i64 0, .int .i64 0, .int .u64 0, .slice none 0 0]) := H4.out.1.keepsN ((Keeps.refl _ _).alloc _)
              clear HTK HY hr
              go_upto_region 11 with fail
              generalize w4.alloc (.cells #[.string y1, .string y2] 49) = WW at HAK ⊢
              have z0 := cell_of_blk HAK.out.b1 0
              have z1 := cell_of_blk HAK.out.b1 1
              have z2 := cell_of_blk HAK.out.b1 2
              have z3 := cell_of_blk HAK.out.b1 3
              have z4 := cell_of_blk HAK.out.b1 4
              have z5 := cell_of_blk HAK.out.b1 5
              have z6 := cell_of_blk HAK.out.b1 6
              have z7 := cell_of_blk HAK.out.b1 7
              have z8 := cell_of_blk HAK.out.b1 8
              have z9 := cell_of_blk HAK.out.b1 9
              simp only [List.getElem?_toArray, List.getElem?_cons_succ, List.getElem?_cons_zero] at z0 z1 z2 z3 z4 z5 z6 z7 z8 z9
              have y0 := cell_of_blk HAK.out.b2 0
              have y1 := cell_of_blk HAK.out.b2 1
              have y2 := cell_of_blk HAK.out.b2 2
              have y3 := cell_of_blk HAK.out.b2 3
              have y4 := cell_of_blk HAK.out.b2 4
              have y5 := cell_of_blk HAK.out.b2 5
              have y6 := cell_of_blk HAK.out.b2 6
              have y7 := cell_of_blk HAK.out.b2 7
              have y8 := cell_of_blk HAK.out.b2 8
              have y9 := cell_of_blk HAK.out.b2 9
              simp only [List.getElem?_toArray, List.getElem?_cons_succ, List.getElem?_cons_zero] at y0 y1 y2 y3 y4 y5 y6 y7 y8 y9
              have fy0 := frozen_of_blk HAK.out.b2 0
              have fy1 := frozen_of_blk HAK.out.b2 1
              have fy2 := frozen_of_blk HAK.out.b2 2
              have fy3 := frozen_of_blk HAK.out.b2 3
              have fy4 := frozen_of_blk HAK.out.b2 4
              have fy5 := frozen_of_blk HAK.out.b2 5
              have fy6 := frozen_of_blk HAK.out.b2 6
              have fy7 := frozen_of_blk HAK.out.b2 7
              have fy8 := frozen_of_blk HAK.out.b2 8
              have fy9 := frozen_of_blk HAK.out.b2 9
              have HF : Hid (∀ W', W' = set10 WW (B + 1) (⟨1, c, t, i, po, j, pc, none, 0, 0, 0, 0, 0, none, 0, 0⟩ : RE) → W'.heap[B + 1]? = some (.cells (cellsE (⟨1, c, t, i, po, j, pc, none, 0, 0, 0, 0, 0, none, 0, 0⟩ : RE)).toArray 36 (0, 0)) ∧ Keeps no w W' ∧ Keeps (fun k => k = B + 1) WW W') := by
                rintro W' rfl
                exact HAK.out.fin (⟨1, c, t, i, po, j, pc, none, 0, 0, 0, 0, 0, none, 0, 0⟩ : RE)
              unfold set10 at HF
              simp only at HF
              go_wp2_with fail
              refine bodyPost_ret (results_row2 rfl _ _ (B + 1) _ rfl (run_loadVar_row _ _ _ _ _ _ _ (HF.out _ rfl).1 Tryz.underlying36 rfl (ev_size _ _ _ _ _ _ _ _ _ _))) rfl ?_
              exact ⟨(⟨1, c, t, i, po, j, pc, none, 0, 0, 0, 0, 0, none, 0, 0⟩ : RE), by rw [HE.out]; rfl, (HF.out _ rfl).2.1, fun y e => by rw [HE.out] at e; cases e⟩
            | some tp =>
              have HE : Hid (mapR pairR (List.take (j + 1) (bts zs)) = some ((ps ++ [(y1, y2)]).map prB)) := by
                show _ = _
                rw [HTK.out.2 tp hr, List.map_append]
                have := HY.out tp hr
                show some (_ ++ [tp]) = some (_ ++ [(y1.data.toList, y2.data.toList)])
                rw [this.1, this.2]
              have HLT : Hid (E2 w ((w4.alloc (.cells #[.string y1, .string y2] 49)).alloc (.cells #[.string y1, .string y2] 49)) B #[.int .i64 1, .int .i64 (c : Nat), .int .i64 (t : Nat), .int .u64 (i : Nat), .slice po j pc, .slice none 0 0, .int .i64 0, .int .i64 0, .int .u64 0, .slice none 0 0] ∧ Own PE ((w4.alloc (.cells #[.string y1, .string y2] 49)).alloc (.cells #[.string y1, .string y2] 49)) po pc ps ∧ Row PE ((w4.alloc (.cells #[.string y1, .string y2] 49)).alloc (.cells #[.string y1, .string y2] 49)) (some ⟨(w4.alloc (.cells #[.string y1, .string y2] 49)).heap.size, 0, none⟩) [(y1, y2)]) := by
                have k : Keeps no w4 ((w4.alloc (.cells #[.string y1, .string y2] 49)).alloc (.cells #[.string y1, .string y2] 49)) := ((Keeps.refl _ _).alloc _).alloc _
                exact ⟨H4.out.1.keepsN k, H4.out.2.keepsN k, (lit_one (E := PE) _ (y1, y2) #[.string y1, .string y2] rfl).row⟩
              have hsz4 : (w4.alloc (.cells #[.string y1, .string y2] 49)).heap.size = w4.heap.size + 1 := Array.size_push _
              rw [hsz4] at HLT
              have hb4 := (H4.out.1.keepsN ((Keeps.refl no w4).alloc (.cells #[.string y1, .string y2] 49)))
              have z4 := cell_of_blk hb4.b1 4
              simp only [List.getElem?_toArray, List.getElem?_cons_succ, List.getElem?_cons_zero] at z4
              clear hb4 HTK HY hr hsz4
              go_wp2_with (at_builtin; go_loud (refine wpList_app okP rfl _ _ rfl _ _ _ ps rfl HO.out.2.2.2.2 HLT.out.2.1 _ _ _ [(y1, y2)] rfl rfl (fun h => by cases h) HLT.out.2.2 (by have := HXL.out.2.2; have := HO.out.2.2.2.2; simp [PE]; omega) (by have := HXL.out.2.2; have := HO.out.2.2.2.2; simp; omega) ?_); intro o6 c6 w6 ho6 hap6; have HE6 : Hid (E2 w w6 B #[.int .i64 1, .int .i64 (c : Nat), .int .i64 (t : Nat), .int .u64 (i : Nat), .slice po j pc, .slice none 0 0, .int .i64 0, .int .i64 0, .int .u64 0, .slice none 0 0]) := (HLT.out.1.ap hap6 HO.out.2.2.1 (fun k hk => by obtain ⟨cur, hc⟩ := HLT.out.2.1.tag k hk; exact ⟨cur, _, hc, by decide⟩)); have HN6 : Hid (Own PE w6 o6 c6 (ps ++ [(y1, y2)]) ∧ New w o6) := ⟨ho6, (hap6.new (w0 := w) HO.out.2.2.1 HLT.out.1.kp).1⟩; have u4 := cell_of_blk HE6.out.b1 4; have v4 := frozen_of_blk HE6.out.b1 4; simp only [List.getElem?_toArray, List.getElem?_cons_succ, List.getElem?_cons_zero] at u4; clear ho6 hap6)
              have HN7 : Hid (E2 w (w6.setCell ⟨B, 4, none⟩ (.slice o6 (j + 1) c6)) B #[.int .i64 1, .int .i64 (c : Nat), .int .i64 (t : Nat), .int .u64 (i : Nat), .slice o6 (j + 1) c6, .slice none 0 0, .int .i64 0, .int .i64 0, .int .u64 0, .slice none 0 0] ∧ Own PE (w6.setCell ⟨B, 4, none⟩ (.slice o6 (j + 1) c6)) o6 c6 (ps ++ [(y1, y2)])) := by
                refine ⟨HE6.out.set 4 (.slice o6 (j + 1) c6), HN6.out.1.keeps (keeps_one w6 B 4 _) (fun k hk e => ?_)⟩
                obtain ⟨cur, hc⟩ := HN6.out.1.tag k hk
                rw [e, HE6.out.b1] at hc
                injection hc with hc
                injection hc with _ hc _
                exact absurd hc (by decide)
              go_roundw
              case rel => exact ⟨j + 1, o6, c6, ps ++ [(y1, y2)], by omega, by go_num, HN7.out.1, HN7.out.2, HN6.out.2, HE.out, by rw [List.length_append, List.length_singleton, ← HO.out.2.2.2.2]⟩
              case measure => first | (simp [intOf]; done) | (simp [intOf]; omega)
          · have hlt' : ¬ (j : Int) < m := by omega
            have HE : Hid (writeE c t (bts xs) = some ⟨1, c, t, i, ps.map prB, [], 0, 0, []⟩) := by
              show _ = _
              have h := HO.out.2.2.2.1
              rw [List.take_of_length_le (by rw [bts_len]; have := HMZ.out; omega)] at h
              rw [HPV2.out, h]
            have H3 : Hid (E2 w wr B #[.int .i64 1, .int .i64 (c : Nat), .int .i64 (t : Nat), .int .u64 (i : Nat), .slice po j pc, .slice none 0 0, .int .i64 0, .int .i64 0, .int .u64 0, .slice none 0 0]) := HO.out.1
            have HPS : Hid (j = ps.length ∧ Own PE wr po pc ps ∧ ∀ k, inO po k → w.heap.size ≤ k) := ⟨HO.out.2.2.2.2, HO.out.2.1, HO.out.2.2.1⟩
            generalize hWW : wr = WW at H3 HPS ⊢
            clear HO
            have z0 := cell_of_blk H3.out.b1 0
            have z1 := cell_of_blk H3.out.b1 1
            have z2 := cell_of_blk H3.out.b1 2
            have z3 := cell_of_blk H3.out.b1 3
            have z4 := cell_of_blk H3.out.b1 4
            have z5 := cell_of_blk H3.out.b1 5
            have z6 := cell_of_blk H3.out.b1 6
            have z7 := cell_of_blk H3.out.b1 7
            have z8 := cell_of_blk H3.out.b1 8
            have z9 := cell_of_blk H3.out.b1 9
            simp only [List.getElem?_toArray, List.getElem?_cons_succ, List.getElem?_cons_zero] at z0 z1 z2 z3 z4 z5 z6 z7 z8 z9
            have y0 := cell_of_blk H3.out.b2 0
            have y1 := cell_of_blk H3.out.b2 1
            have y2 := cell_of_blk H3.out.b2 2
            have y3 := cell_of_blk H3.out.b2 3
            have y4 := cell_of_blk H3.out.b2 4
            have y5 := cell_of_blk H3.out.b2 5
            have y6 := cell_of_blk H3.out.b2 6
            have y7 := cell_of_blk H3.out.b2 7
            have y8 := cell_of_blk H3.out.b2 8
            have y9 := cell_of_blk H3.out.b2 9
            simp only [List.getElem?_toArray, List.getElem?_cons_succ, List.getElem?_cons_zero] at y0 y1 y2 y3 y4 y5 y6 y7 y8 y9
            have fy0 := frozen_of_blk H3.out.b2 0
            have fy1 := frozen_of_blk H3.out.b2 1
            have fy2 := frozen_of_blk H3.out.b2 2
            have fy3 := frozen_of_blk H3.out.b2 3
            have fy4 := frozen_of_blk H3.out.b2 4
            have fy5 := frozen_of_blk H3.out.b2 5
            have fy6 := frozen_of_blk H3.out.b2 6
            have fy7 := frozen_of_blk H3.out.b2 7
            have fy8 := frozen_of_blk H3.out.b2 8
            have fy9 := frozen_of_blk H3.out.b2 9
            have HF : Hid (∀ W', W' = set10 WW (B + 1) (⟨1, c, t, i, po, j, pc, none, 0, 0, 0, 0, 0, none, 0, 0⟩ : RE) → W'.heap[B + 1]? = some (.cells (cellsE (⟨1, c, t, i, po, j, pc, none, 0, 0, 0, 0, 0, none, 0, 0⟩ : RE)).toArray 36 (0, 0)) ∧ Keeps no w W' ∧ Keeps (fun k => k = B + 1) WW W') := by
              rintro W' rfl
              exact H3.out.fin (⟨1, c, t, i, po, j, pc, none, 0, 0, 0, 0, 0, none, 0, 0⟩ : RE)
            unfold set10 at HF
            simp only at HF
            go_wp2_with fail
            refine bodyPost_ret (results_row2 rfl _ _ (B + 1) _ rfl (run_loadVar_row _ _ _ _ _ _ _ (HF.out _ rfl).1 Tryz.underlying36 rfl (ev_size _ _ _ _ _ _ _ _ _ _))) rfl ?_
            refine ⟨(⟨1, c, t, i, po, j, pc, none, 0, 0, 0, 0, 0, none, 0, 0⟩ : RE), by rw [HE.out]; rfl, (HF.out _ rfl).2.1, fun y e => ?_⟩
            rw [HE.out] at e
            injection e with e
            subst e
            refine ⟨rfl, rfl, rfl, rfl, ⟨ps, HPS.out.1, HPS.out.2.1.keeps (HF.out _ rfl).2.2 (fun k hk e => ?_), rfl⟩, HPS.out.2.2, ⟨[], rfl, own_nil _, rfl⟩, inO_none, rfl, rfl, rfl, ⟨[], [], rfl, own_nil _, Vl.nil _ _, rfl, inO_none⟩⟩
            obtain ⟨cur, hc⟩ := HPS.out.2.1.tag k hk
            rw [e, H3.out.b2] at hc
            injection hc with hc
            injection hc with _ hc _
            exact absurd hc (by decide)
end Go.Proofs.YtjkljljmjjnneaaGreatDoor
