/- The document's reader, step by step; what its read holds. -/
import Derived.Test.YtjklpcamlppegaaGreatS3
import Derived.Test.YtjklpcamlppegaaGreatF4
import Derived.Test.YtjklpcamlppegaaGreatG4
namespace Go.Proofs.YtjklpcamlppegaaGreat
open Go.RowKit Go.Sort Orl Pk
set_option linter.unusedVariables false
set_option linter.unusedSimpArgs false

theorem rdU8 {w w1 : World} {a : Nat} {o : Option Addr} {st : RS} (h : RStep 126 w a o st w1) :
    Calls Tryz.prog 76 #[.pointer (some ⟨a, 0, none⟩)] w1 fun e w2 => (∃ v : Nat, e = .returned (.int .u8 (v : Nat)) ∧ Hid (v = (rnum 1 st).1) ∧ v < 256) ∧ RStep 126 w a o (rnum 1 st).2 w2 ∧ Keeps (eqA a) w1 w2 := by
  have hb := h.byt
  obtain ⟨o1, c1, hR, hS, hK⟩ := h
  refine (refRU8_any w1 a o1 c1 st.1 st.2 hR).mono ?_
  rintro e w2 ⟨rfl, h2⟩
  exact ⟨⟨_, rfl, rfl, by have := rnum_lt 1 st.1 st.2 hb; omega⟩, h2.trans hS hK, h2.keeps⟩
theorem rdU64 {w w1 : World} {a : Nat} {o : Option Addr} {st : RS} (h : RStep 126 w a o st w1) :
    Calls Tryz.prog 77 #[.pointer (some ⟨a, 0, none⟩)] w1 fun e w2 => (∃ v : Nat, e = .returned (.int .u64 (v : Nat)) ∧ Hid (v = (rnum 8 st).1) ∧ v < 18446744073709551616) ∧ RStep 126 w a o (rnum 8 st).2 w2 ∧ Keeps (eqA a) w1 w2 := by
  have hb := h.byt
  obtain ⟨o1, c1, hR, hS, hK⟩ := h
  refine (refRU64_any w1 a o1 c1 st.1 st.2 hR).mono ?_
  rintro e w2 ⟨rfl, h2⟩
  exact ⟨⟨_, rfl, rfl, by have := rnum_lt 8 st.1 st.2 hb; omega⟩, h2.trans hS hK, h2.keeps⟩
theorem rdCount {w w1 : World} {a : Nat} {o : Option Addr} {st : RS} (h : RStep 126 w a o st w1) :
    Calls Tryz.prog 79 #[.pointer (some ⟨a, 0, none⟩), .int .i64 1024] w1 fun e w2 => (∃ v : Nat, e = .returned (.int .i64 (v : Nat)) ∧ Hid (v = (rcount 1024 st).1) ∧ v ≤ 1024) ∧ RStep 126 w a o (rcount 1024 st).2 w2 ∧ Keeps (eqA a) w1 w2 := by
  obtain ⟨o1, c1, hR, hS, hK⟩ := h
  refine (refRCount_any w1 a o1 c1 st.1 st.2 1024 (by omega) (by omega) hR).mono ?_
  rintro e w2 ⟨rfl, h2⟩
  exact ⟨⟨_, rfl, rfl, rcount_le 1024 st⟩, h2.trans hS hK, h2.keeps⟩
theorem rdText {w w1 : World} {a : Nat} {o : Option Addr} {st : RS} (h : RStep 126 w a o st w1) :
    Calls Tryz.prog 80 #[.pointer (some ⟨a, 0, none⟩), .int .i64 65535] w1 fun e w2 => (∃ s : Tx, e = .returned (.string s) ∧ Hid (s = text (rtext 65535 st).1)) ∧ RStep 126 w a o (rtext 65535 st).2 w2 ∧ Keeps (eqA a) w1 w2 := by
  obtain ⟨o1, c1, hR, hS, hK⟩ := h
  refine (refRText_any w1 a o1 c1 st.1 st.2 65535 (by omega) (by omega) hR).mono ?_
  rintro e w2 ⟨rfl, h2⟩
  exact ⟨⟨_, rfl, rfl⟩, h2.trans hS hK, h2.keeps⟩
theorem rdTexts {w w1 : World} {a : Nat} {o : Option Addr} {st : RS} (h : RStep 126 w a o st w1) :
    Calls Tryz.prog 78 #[.pointer (some ⟨a, 0, none⟩), .int .i64 1024, .int .i64 65535] w1 fun e w2 => (∃ oo n c, e = .returned (.slice oo n c) ∧ Hid (n = (rkeys st).1.length) ∧ Own TE w2 oo c (rkeys st).1 ∧ New w1 oo) ∧ RStep 126 w a o (rkeys st).2 w2 ∧ Keeps (eqA a) w1 w2 := by
  obtain ⟨o1, c1, hR, hS, hK⟩ := h
  refine (refRTexts_any w1 a o1 c1 st.1 st.2 1024 65535 (by omega) (by omega) (by omega) (by omega) hR).mono ?_
  rintro e w2 ⟨⟨oo, c, n, rfl, hn, _, hown, hnew, _⟩, h2⟩
  refine ⟨⟨oo, n, c, rfl, ?_, ownT_of hown, hnew⟩, h2.trans hS hK, h2.keeps⟩
  show n = _
  rw [hn.out]; unfold rkeys; simp
theorem rdEnd {w w1 : World} {a : Nat} {o : Option Addr} {st : RS} {E : Nat} (hE : E = rend st.1 st.2) (h : RStep 126 w a o st w1) :
    Calls Tryz.prog 81 #[.pointer (some ⟨a, 0, none⟩)] w1 fun e w2 => e = .returned (.int .i64 (E : Nat)) ∧ w2 = w1 := by
  subst hE
  obtain ⟨o1, c1, hR, hS, hK⟩ := h
  exact refEnd_any w1 a o1 c1 st.1 st.2 hR

/-- what the document's read holds while it reads: the message M, the result B, the reader -/
structure RdD (w : World) (a B M : Nat) (o : Option Addr) (cs : Array Value) (st : RS) (W : World) : Prop where
  m : W.heap[M]? = some (.cells cs 29 (0, 0))
  b : W.heap[B]? = some (.cells #[.int .i64 0, .int .i64 0, .int .u64 0, .int .u64 0, .slice none 0 0, .slice none 0 0, .slice none 0 0, .slice none 0 0] 29 (0, 0))
  r : RStep 126 w a o st W
  k : Keeps (eqA a) w W
  lt : (a < w.heap.size ∧ ∀ k, inO o k → k < w.heap.size) ∧ B < a ∧ w.heap.size ≤ M
theorem RdD.size {w : World} {a B M : Nat} {o : Option Addr} {cs : Array Value} {st : RS} {W : World} (h : RdD w a B M o cs st W) : M < W.heap.size := lt_of_block h.m
theorem RdD.call {w : World} {a B M : Nat} {o : Option Addr} {cs : Array Value} {st st' : RS} {W W' : World} (h : RdD w a B M o cs st W) (r : RStep 126 w a o st' W') (k : Keeps (eqA a) W W') : RdD w a B M o cs st' W' :=
  have := h.lt
  ⟨k.at h.m (by unfold eqA; omega), k.at h.b (by unfold eqA; omega), r, h.k.trans k, h.lt⟩
theorem RdD.more {w : World} {a B M : Nat} {o : Option Addr} {cs : Array Value} {st : RS} {W W' : World} (h : RdD w a B M o cs st W) (k : Keeps no W W') : RdD w a B M o cs st W' :=
  ⟨k.at h.m (fun h => h), k.at h.b (fun h => h), h.r.beside (.inr h.lt.1) k (fun i hi => hi.elim), h.k.trans k.of_no, h.lt⟩
/-- a step that writes new blocks alone, but neither the message's nor the result's -/
theorem RdD.side {w : World} {a B M : Nat} {o : Option Addr} {cs : Array Value} {st : RS} {W W' : World} {S : Nat → Prop} (h : RdD w a B M o cs st W) (k : Keeps S W W') (hS : ∀ i, S i → M < i) : RdD w a B M o cs st W' := by
  have hl := h.lt
  exact ⟨k.at h.m (fun e => by have := hS _ e; omega), k.at h.b (fun e => by have := hS _ e; omega), h.r.beside (.inr h.lt.1) k (fun i hi => by have := hS i hi; omega), h.k.then k (fun i hi => .inr (by have := hS i hi; omega)), h.lt⟩
theorem RdD.store {w : World} {a B M : Nat} {o : Option Addr} {cs : Array Value} {st : RS} {W : World} (h : RdD w a B M o cs st W) (i : Nat) (v : Value) : RdD w a B M o (cs.setIfInBounds i v) st (W.setCell ⟨M, i, none⟩ v) := by
  have hl := h.lt
  have kS : Keeps (eqA M) W (W.setCell ⟨M, i, none⟩ v) := (Keeps.refl (eqA M) W).setA i v
  exact ⟨blk_set h.m i v, kS.at h.b (by unfold eqA; omega), h.r.beside (.inr h.lt.1) kS (fun j hj => by unfold eqA at hj; omega), h.k.then kS (fun j hj => .inr (by unfold eqA at hj; omega)), h.lt⟩
theorem RdD.ownCall {α : Type} {E : El α} {w W W' : World} {a B M : Nat} {o : Option Addr} {cs : Array Value} {st : RS} (h : RdD w a B M o cs st W) {oo : Option Addr} {c : Nat} {l : List α} (hO : Own E W oo c l) (hN : ∀ j, inO oo j → M < j) (k : Keeps (eqA a) W W') : Own E W' oo c l :=
  hO.keeps k (fun j hj e => by have := hN j hj; have := h.lt; unfold eqA at e; omega)
theorem RdD.ownStore {α : Type} {E : El α} {w W : World} {a B M : Nat} {o : Option Addr} {cs : Array Value} {st : RS} (h : RdD w a B M o cs st W) {oo : Option Addr} {c : Nat} {l : List α} (hO : Own E W oo c l) (hN : ∀ j, inO oo j → M < j) (i : Nat) (v : Value) : Own E (W.setCell ⟨M, i, none⟩ v) oo c l :=
  hO.keeps ((Keeps.refl (eqA M) W).setA i v) (fun j hj e => by have := hN j hj; unfold eqA at e; omega)

/-- a message's lists lie behind M -/
structure Far (M : Nat) (op ok ow ov : Option Addr) (rs : List RV) : Prop where
  p : ∀ j, inO op j → M < j
  k : ∀ j, inO ok j → M < j
  w : ∀ j, inO ow j → M < j
  v : ∀ j, inO ov j → M < j
  r : ∀ j, j < rs.length → ∀ i, inO (rs.getD j r0).o i → M < i
/-- what the document's read tells -/
def ReadD (w : World) (L : List Nat) (e : Ending) (w' : World) : Prop :=
  ∃ (k cl : Int) (q i : Nat) (op : Option Addr) (np cp : Nat) (ok : Option Addr) (nk ck : Nat) (ow : Option Addr) (nw cw : Nat) (ov : Option Addr) (nv cv : Nat) (rs : List RV),
    e = .returned (.tuple #[.agg #[.int .i64 k, .int .i64 cl, .int .u64 (q : Nat), .int .u64 (i : Nat), .slice op np cp, .slice ok nk ck, .slice ow nw cw, .slice ov nv cv], .bool (rok L)]) ∧
    Hid (rok L = true → IsM w' k cl q i op np cp ok nk ck ow nw cw ov nv cv rs (rmsg L).1) ∧ (∃ M, w.heap.size ≤ M ∧ Far M op ok ow ov rs) ∧ Keeps no w w'
theorem rend_of {st : RS} {X : Bool} (h : rend0 st = X) : ∃ E : Nat, E = rend st.1 st.2 ∧ (X = true → E = 0) ∧ (X = false → ¬ E = 0) := by
  have := rend_rend0 st
  refine ⟨_, rfl, fun e => ?_, fun e => ?_⟩
  · rw [h, e] at this; have := this.2 rfl; omega
  · rw [h, e] at this; intro h0; have := this.1 (by rw [h0]; rfl); cases this
/-- behind read's last store -/
theorem readD_mk {w0 w W W1 W' : World} {a B M : Nat} {o : Option Addr} {cs : Array Value} {st : RS} {L : List Nat} {k cl : Int} {q i : Nat} {op : Option Addr} {np cp : Nat} {ok : Option Addr} {nk ck : Nat} {ow : Option Addr} {nw cw : Nat} {ov : Option Addr} {nv cv : Nat} {rs : List RV} {mm : Msg}
    (h : RdD w a B M o cs st W) (h0 : Keeps no w0 w) (hB : w0.heap.size ≤ B) (hM : IsM W k cl q i op np cp ok nk ck ow nw cw ov nv cv rs mm)
    (n1 : ∀ j, inO op j → M < j) (n2 : ∀ j, inO ok j → M < j) (n3 : ∀ j, inO ow j → M < j) (n4 : ∀ j, inO ov j → M < j) (n5 : ∀ j, j < rs.length → ∀ i, inO (rs.getD j r0).o i → M < i)
    (k1 : Keeps no W W1) (kS : Keeps (eqA B) W1 W') (X : Bool) (hX : rok L = X) (hmm : rok L = true → mm = (rmsg L).1) :
    ReadD w0 L (.returned (.tuple #[.agg #[.int .i64 k, .int .i64 cl, .int .u64 (q : Nat), .int .u64 (i : Nat), .slice op np cp, .slice ok nk ck, .slice ow nw cw, .slice ov nv cv], .bool X])) W' := by
  have hl := h.lt
  have ne : ∀ {o : Option Addr}, (∀ j, inO o j → M < j) → ∀ j, inO o j → ¬ eqA B j := by
    intro o hn j hj e
    have := hn j hj
    unfold eqA at e
    omega
  refine ⟨k, cl, q, i, op, np, cp, ok, nk, ck, ow, nw, cw, ov, nv, cv, rs, by rw [hX], fun hr => ?_, ⟨M, by have := h0.size; omega, n1, n2, n3, n4, n5⟩, ?_⟩
  · rw [← hmm hr]
    exact (hM.keepsN k1).keepsS kS (ne n1) (ne n2) (ne n3) (ne n4) (fun j hj => ne (n5 j hj))
  · have hk := h0.size
    exact ((h0.then h.k (fun j hj => .inr (by unfold eqA at hj; omega))).trans k1).then kS (fun j hj => .inr (by unfold eqA at hj; omega))
/-- append as one step of a region that draws -/
theorem step_app {α : Type} {E : El α} (hE : E.Ok) {w : World} {ops : Array Oper} {o : Oper} {a : Act} {K : Act → World → Prop} {Q : Exit → Act → World → Prop} {Ep : Prop} (hgd : o.guard = none) (s x : Operand)
    (ho : o.op = .call { callee := .builtin .append, args := #[s, x], argTypes := #[E.t, E.t] })
    (oa : Option Addr) (n c : Nat) (xs : List α) (hs : a.eval s = .slice oa n c) (hn : n = xs.length) (hown : Own E w oa c xs)
    (ox : Option Addr) (m d : Nat) (news : List α) (hx : a.eval x = .slice ox m d) (hm : m = news.length) (hd : ox = none → d = 0) (hrow : Row E w ox news)
    (hb : (xs.length + news.length) * E.nb ≤ 140737488355328) (hb2 : xs.length + news.length ≤ 140737488355328)
    (h : ∀ o' c' w', Own E w' o' c' (xs ++ news) → Ap w oa o' w' → K (a.put o.dst (.slice o' (n + m) c')) w') :
    if Region.wanted o (yielded ops a.tmps) = true then Oper.wp Tryz.prog o a w K Q else Ep := by
  have hw : Region.wanted o (yielded ops a.tmps) = true := by simp [Region.wanted, hgd]
  rw [if_pos hw]
  subst hn hm
  obtain ⟨o', c', w', hr, h1, h2⟩ := run_app hE w o.type oa c xs hown ox d news hd hrow hb hb2
  unfold Oper.wp execOp
  simp only [ho, resolve, invoke, builtin, Sem.run_bind, Sem.run_pure, Result.andThen_ok, List.map_toArray, List.map_cons, List.map_nil, hs, hx, hr]
  exact h o' c' w' h1 h2
theorem RdD.ap {α : Type} {w W W' : World} {a B M : Nat} {o : Option Addr} {cs : Array Value} {st : RS} (h : RdD w a B M o cs st W) {oo o' : Option Addr} (hN : ∀ j, inO oo j → M < j) (hap : Ap W oo o' W') :
    RdD w a B M o cs st W' ∧ (∀ j, inO o' j → M < j) ∧ (∀ {β : Type} {E : El β} {ob : Option Addr} {c : Nat} {l : List β}, Own E W ob c l → (∀ j, inO ob j → ¬ inO oo j) → Own E W' ob c l) := by
  have hs := h.size
  rcases hap with ⟨rfl, hh⟩ | ⟨⟨g, rfl, hg⟩, hh⟩
  · exact ⟨h.side hh hN, hN, fun hO hne => hO.keeps hh hne⟩
  · exact ⟨h.more hh, fun j hj => by obtain ⟨x, e, rfl⟩ := hj; cases e; show M < g; omega, fun hO _ => hO.keepsN hh⟩
theorem ap_from {W W' : World} {oo o' : Option Addr} {Z : Nat} (hap : Ap W oo o' W') (h : ∀ j, inO oo j → Z ≤ j) (hZ : Z ≤ W.heap.size) : (∀ j, inO o' j → Z ≤ j) ∧ Z ≤ W'.heap.size := by
  rcases hap with ⟨rfl, hh⟩ | ⟨⟨g, rfl, hg⟩, hh⟩
  · exact ⟨h, Nat.le_trans hZ hh.size⟩
  · exact ⟨fun j hj => by obtain ⟨x, e, rfl⟩ := hj; cases e; show Z ≤ g; omega, Nat.le_trans hZ hh.size⟩
theorem rend_le {t : Nat} {w w1 : World} {a : Nat} {o : Option Addr} {st : RS} (h : RStep t w a o st w1) : rend st.1 st.2 ≤ 5 := by
  obtain ⟨o1, c1, hR, _, _⟩ := h
  have := hR.er
  unfold rend
  repeat' split
  all_goals omega
end Go.Proofs.YtjklpcamlppegaaGreat
