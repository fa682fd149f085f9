/- What a writer tells: new memory. The counter. What answers a question. -/
import Derived.Test.YtghnhkhhpeoheaaGreatM1
namespace Go.Proofs.YtghnhkhhpeoheaaGreat
open Go.RowKit Go.Sort Orl
set_option linter.unusedVariables false
set_option linter.unusedSimpArgs false

theorem own_apart {α β : Type} {E : El α} {F : El β} (hne : E.e ≠ F.e) {w : World} {o o' : Option Addr} {c c' : Nat} {xs : List α} {ys : List β} (h : Own E w o c xs) (h' : Own F w o' c' ys) : ∀ k, inO o k → ¬ inO o' k := by
  rintro k ⟨x, e, rfl⟩ ⟨y, e2, hy⟩
  rcases h.shape with ⟨e', _⟩ | ⟨g, cur, e', hg, _⟩
  · rw [e'] at e; cases e
  · rw [e'] at e; cases e
    rcases h'.shape with ⟨e', _⟩ | ⟨g', cur', e'', hg', _⟩
    · rw [e'] at e2; cases e2
    · rw [e''] at e2; cases e2
      simp only at hy
      subst hy
      rw [hg] at hg'
      injection hg' with h1
      injection h1 with _ h2 _
      exact hne h2
/-- a question whose lists are some call's own -/
structure QNw (w : World) (r : RQ) (q : Qn) : Prop where
  part : r.part = q.part
  kind : r.kind = q.kind
  client : r.client = q.client
  req : r.req = q.req
  id : r.id = q.id
  pn : r.pn = q.pairs.length
  ps : Own PE w r.po r.pc q.pairs
  kn : r.kn = q.keys.length
  ks : Own TE w r.ko r.kc q.keys
theorem QNw.of {w : World} {r : RQ} {q : Qn} (h : QNw w r q) : QOf w r q := ⟨h.part, h.kind, h.client, h.req, h.id, h.pn, h.ps.sl, h.kn, h.ks.sl⟩
theorem QNw.keeps {S : Nat → Prop} {w w' : World} {r : RQ} {q : Qn} (h : QNw w r q) (k : Keeps S w w') (hp : ∀ i, inO r.po i → ¬ S i) (hk : ∀ i, inO r.ko i → ¬ S i) : QNw w' r q := ⟨h.part, h.kind, h.client, h.req, h.id, h.pn, h.ps.keeps k hp, h.kn, h.ks.keeps k hk⟩
/-- the blocks of a list of questions -/
def TB (o : Option Addr) (rs : List RQ) (n : Nat) (i : Nat) : Prop := inO o i ∨ ∃ j, j < n ∧ (inO (rs.getD j rq0).po i ∨ inO (rs.getD j rq0).ko i)
/-- questions that were told: each list by itself -/
structure Tq (w : World) (o : Option Addr) (c : Nat) (rs : List RQ) (qs : List Qn) : Prop where
  own : Own QE w o c rs
  len : rs.length = qs.length
  each : ∀ j, j < qs.length → QNw w (rs.getD j rq0) (qs.getD j q0)
  sepP : ∀ i j, i < j → j < qs.length → ∀ k, inO (rs.getD i rq0).po k → ¬ inO (rs.getD j rq0).po k
  sepK : ∀ i j, i < j → j < qs.length → ∀ k, inO (rs.getD i rq0).ko k → ¬ inO (rs.getD j rq0).ko k
theorem Tq.qs {w : World} {o : Option Addr} {c : Nat} {rs : List RQ} {qs : List Qn} (h : Tq w o c rs qs) : Qs w o c rs qs := ⟨h.own.sl, h.len, fun j hj => (h.each j hj).of⟩
theorem Tq.keeps {S : Nat → Prop} {w w' : World} {o : Option Addr} {c : Nat} {rs : List RQ} {qs : List Qn} (h : Tq w o c rs qs) (k : Keeps S w w') (hs : ∀ i, TB o rs qs.length i → ¬ S i) : Tq w' o c rs qs :=
  ⟨h.own.keeps k (fun i hi => hs i (.inl hi)), h.len, fun j hj => (h.each j hj).keeps k (fun i hi => hs i (.inr ⟨j, hj, .inl hi⟩)) (fun i hi => hs i (.inr ⟨j, hj, .inr hi⟩)), h.sepP, h.sepK⟩
theorem Tq.keepsN {w w' : World} {o : Option Addr} {c : Nat} {rs : List RQ} {qs : List Qn} (h : Tq w o c rs qs) (k : Keeps no w w') : Tq w' o c rs qs := h.keeps k fun _ _ => id
theorem Tq.lt {w : World} {o : Option Addr} {c : Nat} {rs : List RQ} {qs : List Qn} (h : Tq w o c rs qs) : ∀ i, TB o rs qs.length i → i < w.heap.size := by
  rintro i (hi | ⟨j, hj, hi | hi⟩)
  · exact h.own.lt i hi
  · exact (h.each j hj).ps.lt i hi
  · exact (h.each j hj).ks.lt i hi
theorem tq_nil (w : World) : Tq w none 0 [] [] := ⟨own_nil w, rfl, fun j hj => by simp at hj, fun i j _ hj => by simp at hj, fun i j _ hj => by simp at hj⟩
/-- the counter -/
def IsCt (w : World) (cp m : Nat) : Prop := w.heap[cp]? = some (.cells #[.int .u64 (m : Nat)] 28 (0, 0))
theorem IsCt.keeps {S : Nat → Prop} {w w' : World} {cp m : Nat} (h : IsCt w cp m) (k : Keeps S w w') (hs : ¬ S cp) : IsCt w' cp m := k.at h hs
def fnC (cp : Nat) : Value := .func (.func 5) #[.pointer (some ⟨cp, 0, none⟩)] #[]
theorem next_any (w : World) (cp m : Nat) (hm : m < 18446744073709551616) (h : IsCt w cp m) :
    Calls Tryz.prog 5 #[.pointer (some ⟨cp, 0, none⟩)] w fun e w' => e = .returned (.int .u64 (m : Nat)) ∧ IsCt w' cp (w64 (m + 1)) ∧ Keeps (fun i => i = cp) w w' := by
  have h0 := cell_of_blk h 0
  simp only [List.getElem?_toArray, List.getElem?_cons_zero] at h0
  have f0 := frozen_of_blk h 0
  have hmi : (m : Int) < 18446744073709551616 := by omega
  have hk : Keeps (fun i => i = cp) w (w.setCell ⟨cp, 0, none⟩ (.int .u64 ((w64 (m + 1) : Nat) : Int))) := (Keeps.refl (fun i => i = cp) w).setCell (p := ⟨cp, 0, none⟩) (.inl (show (fun i => i = cp) cp from rfl)) _
  have hb : IsCt (w.setCell ⟨cp, 0, none⟩ (.int .u64 ((w64 (m + 1) : Nat) : Int))) cp (w64 (m + 1)) := by
    have := blk_set h 0 (.int .u64 ((w64 (m + 1) : Nat) : Int))
    simpa [IsCt] using this
  have HH : Hid (Keeps (fun i => i = cp) w (w.setCell ⟨cp, 0, none⟩ (.int .u64 ((w64 (m + 1) : Nat) : Int))) ∧ IsCt (w.setCell ⟨cp, 0, none⟩ (.int .u64 ((w64 (m + 1) : Nat) : Int))) cp (w64 (m + 1))) := ⟨hk, hb⟩
  have hw1 : IntKind.u64.wrap ((m : Int) + 1) = ((w64 (m + 1) : Nat) : Int) := by
    rw [IntKind.wrap_u64]; unfold w64; omega
  have hw2 : IntKind.u64.wrap (((w64 (m + 1) : Nat) : Int) - 1) = (m : Int) := by
    rw [IntKind.wrap_u64]; unfold w64; omega
  have h1 := cell_of_blk hb 0
  simp only [List.getElem?_toArray, List.getElem?_cons_zero] at h1
  clear hk hb h
  generalize hM : w64 (m + 1) = M at *
  clear hM
  go_enter Tryz.func5, Tryz.ntmps5
  go_wp2_with fail
  go_ret
  exact ⟨rfl, HH.out.2, HH.out.1⟩
/-- one result, a struct in a cell -/
theorem results_row1 {fn : Func} {p : Tmp} {ty : TypeId} (h : fn.results = #[.cell p ty]) (tmps : Array Value) (w : World) (g : Nat) (cs : Array Value)
    (hp : tmps.getD p undef = .pointer (some ⟨g, 0, none⟩)) (hl : (loadVar ty ⟨g, 0, none⟩).run Tryz.prog w = .ok (.agg cs) w) :
    (results fn tmps).run Tryz.prog w = .ok (.agg cs) w := by
  have hp' : tmps[p]?.getD undef = .pointer (some ⟨g, 0, none⟩) := by simpa using hp
  simp [results, h, hp', asAddr, hl]
theorem msg_size (a b c d e f g h : Value) : (Tryz.prog.info? 45).map (·.size) = some (#[a, b, c, d, e, f, g, h] : Array Value).size := by
  show _ = some 8
  kernel_rfl
theorem blk_mid (w : World) (a b c : Obj) : (((w.alloc a).alloc b).alloc c).heap[w.heap.size + 1]? = some b := by
  have h := blk_alloc (blk_new (w.alloc a) b) c
  have e : (w.alloc a).heap.size = w.heap.size + 1 := by simp
  rwa [e] at h
/-- a message that answers -/
def aggA (k cl : Int) (req id : Nat) : Value := .agg #[.int .i64 k, .int .i64 cl, .int .u64 (req : Nat), .int .u64 (id : Nat), .slice none 0 0, .slice none 0 0, .slice none 0 0, .slice none 0 0]
/-- a question's own cells -/
def aggQ (r : RQ) : Value := .agg #[.int .i64 r.part, .int .i64 r.kind, .int .i64 r.client, .int .u64 (r.req : Nat), .int .u64 (r.id : Nat), .slice r.po r.pn r.pc, .slice r.ko r.kn r.kc, .slice r.wo 0 r.wc, .slice r.vo 0 r.vc]
/-- what the program's calls on a writer tell -/
structure Tell (IsW : World → Nat → Nat → (Nat → Prop) → WS → Prop) (w : World) (p cp : Nat) (F : Nat → Prop) (out : Out) (o : Option Addr) (n c : Nat) (rs : List RQ) (G : Nat → Prop) (w' : World) : Prop where
  n : n = out.told.length
  tq : Tq w' o c rs out.told
  new : ∀ i, TB o rs out.told.length i → w.heap.size ≤ i
  is : IsW w' p cp G out.s
  foot : ∀ i, G i → F i ∨ w.heap.size ≤ i
  apart : ∀ i, TB o rs out.told.length i → ¬ G i
  ct : IsCt w' cp out.m
  kp : Keeps (fun i => F i ∨ i = cp) w w'
end Go.Proofs.YtghnhkhhpeoheaaGreat
