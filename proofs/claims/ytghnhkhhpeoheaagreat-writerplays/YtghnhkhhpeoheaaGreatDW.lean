/- The document's writer in memory. -/
import Derived.Test.YtghnhkhhpeoheaaGreatDC
import Derived.Test.YtghnhkhhpeoheaaGreatG2
import Derived.Test.YtghnhkhhpeoheaaGreatRw
import Derived.Laws.MakeOwn
namespace Go.Proofs.YtghnhkhhpeoheaaGreat
open Go.RowKit Go.Sort Orl
set_option linter.unusedVariables false
set_option linter.unusedSimpArgs false

def BE : El Bool := ⟨4, 56, 1, 1, fun b => [.bool b]⟩
theorem infoB : (Tryz.prog.info? 4).map (fun i => (i.zero, i.size, i.bytes)) = some (some (.bool false), 1, 1) := by kernel_rfl
theorem okB : BE.Ok := by
  obtain ⟨i0, hi, hz0, hz1, hz2⟩ := info_parts infoB
  exact ⟨fun _ => rfl, fun x u hu => by simp [BE] at hu; rcases hu with rfl; rfl, by decide, Tryz.underlying56, i0, _, hi, hz0, hz1, hz2, rfl⟩
theorem Own.atB {w : World} {a : Option Addr} {c : Nat} {xs : List Bool} (h : Own BE w a c xs) {j : Nat} (hj : j < xs.length) : ∃ b, a = some ⟨b, 0, none⟩ ∧ (∀ i, w.frozen? ⟨b, i, none⟩ = false) ∧ w.cell? ⟨b, j, none⟩ = some (.bool (xs.getD j true)) ∧ Own BE (w.setCell ⟨b, j, none⟩ (.bool true)) a c (xs.set j true) ∧ Keeps (inO a) w (w.setCell ⟨b, j, none⟩ (.bool true)) := by
  obtain ⟨g, e, hf, h1, h2⟩ := h.store1 okB true j hj 0 (by decide) true (.bool true) rfl
  have e1 : j * BE.k + 0 = j := by show j * 1 + 0 = j; omega
  rw [e1] at h1 h2
  refine ⟨g, e, hf, ?_, h1, h2⟩
  rcases h.row with e2 | ⟨b, off, e2, hc⟩
  · rw [e2] at hj; simp at hj
  · rw [e] at e2; cases e2
    have := hc j _ (by
      have := cells_at okB true xs j 0 hj (by decide)
      rw [e1] at this
      rw [this]; rfl)
    rwa [Nat.zero_add] at this
theorem made_bools (n : Nat) : (madeCells (Value.cells (.bool false)) (n * 1)).toList = BE.cells (List.replicate n false) := by
  have h1 : BE.cells (List.replicate n false) = List.replicate n (Value.bool false) := by
    induction n with
    | zero => rfl
    | succ n ih => rw [List.replicate_succ, List.replicate_succ, ← ih]; rfl
  rw [h1]
  apply List.ext_getElem?
  intro i
  unfold madeCells
  rw [Array.getElem?_toList, Array.getElem?_map, Nat.mul_one, Array.getElem?_range, List.getElem?_replicate]
  by_cases hi : i < n
  · rw [if_pos hi, if_pos hi]
    show some ((#[.bool false] : Array Value)[i % 1]!) = _
    rw [Nat.mod_one]; rfl
  · rw [if_neg hi, if_neg hi]; rfl
def rdC (id : Nat) (oP : Option Addr) (nP cP : Nat) (oK : Option Addr) (nK cK : Nat) (oA : Option Addr) (nA cA : Nat) (oD : Option Addr) (nD cD : Nat) (rd ed m : Nat) : Array Value :=
  #[.int .u64 (id : Nat), .slice oP nP cP, .slice oK nK cK, .slice oA nA cA, .slice oD nD cD, .int .i64 (rd : Nat), .int .i64 (ed : Nat), .int .u64 (m : Nat)]
structure RdL (w : World) (p : Nat) (F : Nat → Prop) (id : Nat) (ps : List Pp) (keys : List Tx) (qs : List Qn) (done : List Bool) (rd ed m : Nat) (oP : Option Addr) (cP : Nat) (gs : List (GS Pr)) (oK : Option Addr) (cK : Nat) (oA : Option Addr) (cA : Nat) (rs : List RQ) (oD : Option Addr) (cD : Nat) : Prop where
  blk : w.heap[p]? = some (.cells (rdC id oP ps.length cP oK keys.length cK oA qs.length cA oD done.length cD rd ed m) 58 (0, 0))
  parts : Own HR w oP cP gs
  val : gs.map (fun g => (g.n, g.xs)) = ps
  each : ∀ g ∈ gs, Own PE w g.o g.c g.xs
  keys : Own TE w oK cK keys
  asked : Own QE w oA cA rs
  len : rs.length = qs.length
  row : ∀ j, j < qs.length → QNw w (rs.getD j rq0) (qs.getD j q0)
  done : Own BE w oD cD done
  pF : F p
  fP : ∀ i, inO oP i → F i
  fE : ∀ g ∈ gs, ∀ i, inO g.o i → F i
  fK : ∀ i, inO oK i → F i
  fA : ∀ i, inO oA i → F i
  fQ : ∀ j, j < qs.length → ∀ i, (inO (rs.getD j rq0).po i ∨ inO (rs.getD j rq0).ko i) → F i
  fD : ∀ i, inO oD i → F i
  lt : ∀ i, F i → i < w.heap.size
section
variable {w w' : World} {p : Nat} {F S : Nat → Prop} {id : Nat} {ps : List Pp} {keys : List Tx} {qs : List Qn} {done : List Bool} {rd ed m : Nat} {oP : Option Addr} {cP : Nat} {gs : List (GS Pr)} {oK : Option Addr} {cK : Nat} {oA : Option Addr} {cA : Nat} {rs : List RQ} {oD : Option Addr} {cD : Nat}
theorem RdL.keeps (h : RdL w p F id ps keys qs done rd ed m oP cP gs oK cK oA cA rs oD cD) (k : Keeps S w w') (hs : ∀ i, F i → ¬ S i) : RdL w' p F id ps keys qs done rd ed m oP cP gs oK cK oA cA rs oD cD :=
  ⟨k.at h.blk (hs p h.pF), h.parts.keeps k (fun i hi => hs i (h.fP i hi)), h.val, fun g hg => (h.each g hg).keeps k (fun i hi => hs i (h.fE g hg i hi)), h.keys.keeps k (fun i hi => hs i (h.fK i hi)), h.asked.keeps k (fun i hi => hs i (h.fA i hi)), h.len, fun j hj => (h.row j hj).keeps k (fun i hi => hs i (h.fQ j hj i (.inl hi))) (fun i hi => hs i (h.fQ j hj i (.inr hi))), h.done.keeps k (fun i hi => hs i (h.fD i hi)), h.pF, h.fP, h.fE, h.fK, h.fA, h.fQ, h.fD, fun i hi => Nat.lt_of_lt_of_le (h.lt i hi) k.size⟩
theorem RdL.keepsN (h : RdL w p F id ps keys qs done rd ed m oP cP gs oK cK oA cA rs oD cD) (k : Keeps no w w') : RdL w' p F id ps keys qs done rd ed m oP cP gs oK cK oA cA rs oD cD := h.keeps k (fun _ _ h => h)
/-- what the writer's own writes leave as it was -/
theorem RdL.own {α : Type} {E : El α} (h : RdL w p F id ps keys qs done rd ed m oP cP gs oK cK oA cA rs oD cD) (k : Keeps S w w') (hS : ∀ i, S i → i = p ∨ inO oA i ∨ inO oD i) (h1 : E.e ≠ 58) (h2 : E.e ≠ QE.e) (h3 : E.e ≠ BE.e) {o : Option Addr} {c : Nat} {xs : List α} (ho : Own E w o c xs) : Own E w' o c xs := by
  refine ho.keeps k (fun i hi hs => ?_)
  rcases hS i hs with e | e | e
  · subst e; exact not_own h.blk h1 ho hi
  · exact own_apart h2 ho h.asked i hi e
  · exact own_apart h3 ho h.done i hi e
theorem RdL.rows (h : RdL w p F id ps keys qs done rd ed m oP cP gs oK cK oA cA rs oD cD) (k : Keeps S w w') (hS : ∀ i, S i → i = p ∨ inO oA i ∨ inO oD i) {j : Nat} (hj : j < qs.length) : QNw w' (rs.getD j rq0) (qs.getD j q0) := by
  have hq := h.row j hj
  exact ⟨hq.part, hq.kind, hq.client, hq.req, hq.id, hq.pn, h.own k hS (by decide) (by decide) (by decide) hq.ps, hq.kn, h.own k hS (by decide) (by decide) (by decide) hq.ks⟩
/-- the writer goes on -/
theorem RdL.next (h : RdL w p F id ps keys qs done rd ed m oP cP gs oK cK oA cA rs oD cD) (k : Keeps S w w') (hS : ∀ i, S i → i = p ∨ inO oA i ∨ inO oD i) {G : Nat → Prop} (hG : ∀ i, F i → G i) (hlt : ∀ i, G i → i < w'.heap.size) {qs' : List Qn} {done' : List Bool} {rd' ed' m' : Nat} {oA' : Option Addr} {cA' : Nat} {rs' : List RQ} {oD' : Option Addr} {cD' : Nat}
    (hb : w'.heap[p]? = some (.cells (rdC id oP ps.length cP oK keys.length cK oA' qs'.length cA' oD' done'.length cD' rd' ed' m') 58 (0, 0))) (hA : Own QE w' oA' cA' rs') (hl : rs'.length = qs'.length) (hq : ∀ j, j < qs'.length → QNw w' (rs'.getD j rq0) (qs'.getD j q0)) (hf : ∀ j, j < qs'.length → ∀ i, (inO (rs'.getD j rq0).po i ∨ inO (rs'.getD j rq0).ko i) → G i) (hD : Own BE w' oD' cD' done') (nA : ∀ i, inO oA' i → G i) (nD : ∀ i, inO oD' i → G i) :
    RdL w' p G id ps keys qs' done' rd' ed' m' oP cP gs oK cK oA' cA' rs' oD' cD' :=
  ⟨hb, h.own k hS (by decide) (by decide) (by decide) h.parts, h.val, fun g hg => h.own k hS (by decide) (by decide) (by decide) (h.each g hg), h.own k hS (by decide) (by decide) (by decide) h.keys, hA, hl, hq, hD, hG p h.pF, fun i hi => hG i (h.fP i hi), fun g hg i hi => hG i (h.fE g hg i hi), fun i hi => hG i (h.fK i hi), nA, hf, nD, hlt⟩
/-- the numbers alone have turned -/
theorem RdL.nums (h : RdL w p F id ps keys qs done rd ed m oP cP gs oK cK oA cA rs oD cD) (k : Keeps (fun i => i = p) w w') {rd' ed' m' : Nat}
    (hb : w'.heap[p]? = some (.cells (rdC id oP ps.length cP oK keys.length cK oA qs.length cA oD done.length cD rd' ed' m') 58 (0, 0))) :
    RdL w' p F id ps keys qs done rd' ed' m' oP cP gs oK cK oA cA rs oD cD :=
  h.next k (fun i hi => .inl hi) (fun _ h => h) (fun i hi => Nat.lt_of_lt_of_le (h.lt i hi) k.size) hb (h.asked.keeps k (fun i hi e => by subst e; exact not_own h.blk (by decide) h.asked hi)) h.len (fun j hj => h.rows k (fun i hi => .inl hi) hj) h.fQ (h.done.keeps k (fun i hi e => by subst e; exact not_own h.blk (by decide) h.done hi)) h.fA h.fD
theorem RdL.asQs (h : RdL w p F id ps keys qs done rd ed m oP cP gs oK cK oA cA rs oD cD) : Qs w oA cA rs qs := ⟨h.asked.sl, h.len, fun j hj => (h.row j hj).of⟩
end
/-- the document's writer in a state -/
def askI (s : WS) : List Qn := if s.round = 0 then [] else askedS s
def Rd (w : World) (p : Nat) (F : Nat → Prop) (s : WS) (m : Nat) : Prop := ∃ oP cP gs oK cK oA cA rs oD cD, RdL w p F s.id s.ps s.keys (askI s) s.done s.round s.ended m oP cP gs oK cK oA cA rs oD cD
/-- what its calls tell -/
structure RTell (w : World) (p : Nat) (F : Nat → Prop) (out : Out) (o : Option Addr) (n c : Nat) (rs : List RQ) (G : Nat → Prop) (w' : World) : Prop where
  n : n = out.told.length
  tq : Tq w' o c rs out.told
  new : ∀ i, TB o rs out.told.length i → w.heap.size ≤ i
  is : Rd w' p G out.s out.m
  foot : ∀ i, G i → F i ∨ w.heap.size ≤ i
  apart : ∀ i, TB o rs out.told.length i → ¬ G i
  kp : Keeps F w w'
def RTellTo (w : World) (p : Nat) (F : Nat → Prop) (out : Out) (e : Ending) (w' : World) : Prop := ∃ o n c rs G, e = .returned (.slice o n c) ∧ RTell w p F out o n c rs G w'
theorem rtell_none {w w' : World} {p : Nat} {F : Nat → Prop} {s : WS} {m : Nat} (h : Rd w' p F s m) (k : Keeps F w w') : RTellTo w p F ⟨s, [], m⟩ (.returned (.slice none 0 0)) w' :=
  ⟨none, 0, 0, [], F, rfl, rfl, tq_nil w', fun i hi => by rcases hi with ⟨x, e, _⟩ | ⟨j, hj, _⟩; cases e; simp at hj, h, fun i hi => .inl hi, fun i hi => by rcases hi with ⟨x, e, _⟩ | ⟨j, hj, _⟩; cases e; simp at hj, k⟩
end Go.Proofs.YtghnhkhhpeoheaaGreat
