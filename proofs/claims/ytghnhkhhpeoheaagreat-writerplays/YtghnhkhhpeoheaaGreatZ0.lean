/- A round's questions in memory; a writer in memory. -/
import Derived.Test.YtghnhkhhpeoheaaGreatRw
namespace Go.Proofs.YtghnhkhhpeoheaaGreat
open Go.RowKit Go.Sort Orl
set_option linter.unusedVariables false
set_option linter.unusedSimpArgs false

structure RZ where
  q : RQ
  ans : Bool
def rz0 : RZ := ⟨rq0, false⟩
def ZE : El RZ := ⟨77, 70, 10, 144, fun r => [.int .i64 r.q.part, .int .i64 r.q.kind, .int .i64 r.q.client, .int .u64 (r.q.req : Nat), .int .u64 (r.q.id : Nat), .slice r.q.po r.q.pn r.q.pc, .slice r.q.ko r.q.kn r.q.kc, .slice r.q.wo 0 r.q.wc, .slice r.q.vo 0 r.q.vc, .bool r.ans]⟩
theorem infoZ : (Tryz.prog.info? 77).map (fun i => (i.zero, i.size, i.bytes)) = some (some (.agg #[.int .i64 0, .int .i64 0, .int .i64 0, .int .u64 0, .int .u64 0, .slice none 0 0, .slice none 0 0, .slice none 0 0, .slice none 0 0, .bool false]), 10, 144) := by kernel_rfl
theorem okZ : ZE.Ok := by
  obtain ⟨i0, hi, hz0, hz1, hz2⟩ := info_parts infoZ
  exact ⟨fun _ => rfl, fun x u hu => by simp [ZE] at hu; rcases hu with rfl | rfl | rfl | rfl | rfl | rfl | rfl | rfl | rfl | rfl <;> rfl, by decide, Tryz.underlying70, i0, _, hi, hz0, hz1, hz2, rfl⟩
/-- the ten cells of the j-th -/
structure At10 (w : World) (b off j : Nat) (r : RZ) : Prop where
  c0 : w.cell? ⟨b, off + j * 10, none⟩ = some (.int .i64 r.q.part)
  c1 : w.cell? ⟨b, off + j * 10 + 1, none⟩ = some (.int .i64 r.q.kind)
  c2 : w.cell? ⟨b, off + j * 10 + 2, none⟩ = some (.int .i64 r.q.client)
  c3 : w.cell? ⟨b, off + j * 10 + 3, none⟩ = some (.int .u64 (r.q.req : Nat))
  c4 : w.cell? ⟨b, off + j * 10 + 4, none⟩ = some (.int .u64 (r.q.id : Nat))
  c5 : w.cell? ⟨b, off + j * 10 + 5, none⟩ = some (.slice r.q.po r.q.pn r.q.pc)
  c6 : w.cell? ⟨b, off + j * 10 + 6, none⟩ = some (.slice r.q.ko r.q.kn r.q.kc)
  c7 : w.cell? ⟨b, off + j * 10 + 7, none⟩ = some (.slice r.q.wo 0 r.q.wc)
  c8 : w.cell? ⟨b, off + j * 10 + 8, none⟩ = some (.slice r.q.vo 0 r.q.vc)
  c9 : w.cell? ⟨b, off + j * 10 + 9, none⟩ = some (.bool r.ans)
theorem Sl.atZ {w : World} {a : Option Addr} {c : Nat} {xs : List RZ} (h : Sl ZE w a c xs) {j : Nat} (hj : j < xs.length) : ∃ b off, a = some ⟨b, off, none⟩ ∧ At10 w b off j (xs.getD j rz0) := by
  rcases h.row with e | ⟨b, off, rfl, hc⟩
  · subst e; simp at hj
  · have key : ∀ i, i < 10 → ∀ u, (ZE.enc (xs.getD j rz0))[i]? = some u → w.cell? ⟨b, off + j * 10 + i, none⟩ = some u := by
      intro i hi u hu
      rw [Nat.add_assoc]
      refine hc (j * 10 + i) _ ?_
      have := cells_at okZ rz0 xs j i hj hi
      rw [show j * 10 + i = j * ZE.k + i from rfl, this]
      exact hu
    exact ⟨b, off, rfl, key 0 (by decide) _ rfl, key 1 (by decide) _ rfl, key 2 (by decide) _ rfl, key 3 (by decide) _ rfl, key 4 (by decide) _ rfl, key 5 (by decide) _ rfl, key 6 (by decide) _ rfl, key 7 (by decide) _ rfl, key 8 (by decide) _ rfl, key 9 (by decide) _ rfl⟩
theorem Own.atZ {w : World} {a : Option Addr} {c : Nat} {xs : List RZ} (h : Own ZE w a c xs) {j : Nat} (hj : j < xs.length) : ∃ b, a = some ⟨b, 0, none⟩ ∧ (∀ i, w.frozen? ⟨b, i, none⟩ = false) ∧ At10 w b 0 j (xs.getD j rz0) := by
  obtain ⟨b, off, e, h1⟩ := h.sl.atZ hj
  rcases h.shape with ⟨_, _, e2⟩ | ⟨g, cur, e2, hg, _⟩
  · rw [e2] at hj; simp at hj
  · rw [e] at e2; cases e2
    exact ⟨b, e, fun i => frozen_of_blk hg i, h1⟩
/-- a round's questions in memory; ds: which are answered -/
structure Zs (w : World) (ro : Option Addr) (rc : Nat) (rz : List RZ) (qs : List Qn) (ds : List Bool) : Prop where
  own : Own ZE w ro rc rz
  len : rz.length = qs.length
  ans : ∀ j, j < qs.length → (rz.getD j rz0).ans = ds.getD j true
  part : ∀ j, j < qs.length → (rz.getD j rz0).q.part = (qs.getD j q0).part
  each : ∀ j, j < qs.length → ds.getD j true = false → QNw w (rz.getD j rz0).q (qs.getD j q0)
def ZB (ro : Option Addr) (rz : List RZ) (n : Nat) (i : Nat) : Prop := inO ro i ∨ ∃ j, j < n ∧ (inO (rz.getD j rz0).q.po i ∨ inO (rz.getD j rz0).q.ko i)
theorem Zs.keeps {S : Nat → Prop} {w w' : World} {ro : Option Addr} {rc : Nat} {rz : List RZ} {qs : List Qn} {ds : List Bool} (h : Zs w ro rc rz qs ds) (k : Keeps S w w') (hs : ∀ i, ZB ro rz qs.length i → ¬ S i) : Zs w' ro rc rz qs ds :=
  ⟨h.own.keeps k (fun i hi => hs i (.inl hi)), h.len, h.ans, h.part, fun j hj hd => (h.each j hj hd).keeps k (fun i hi => hs i (.inr ⟨j, hj, .inl hi⟩)) (fun i hi => hs i (.inr ⟨j, hj, .inr hi⟩))⟩
theorem Zs.keepsN {w w' : World} {ro : Option Addr} {rc : Nat} {rz : List RZ} {qs : List Qn} {ds : List Bool} (h : Zs w ro rc rz qs ds) (k : Keeps no w w') : Zs w' ro rc rz qs ds := h.keeps k fun _ _ => id
/-- what is not the round's own block lets its lists be -/
theorem QNw.blk {S : Nat → Prop} {w w' : World} {r : RQ} {q : Qn} (h : QNw w r q) (k : Keeps S w w') (hp : ∀ b cur fz, S b → w.heap[b]? = some (.cells cur PE.e fz) → False) (ht : ∀ b cur fz, S b → w.heap[b]? = some (.cells cur TE.e fz) → False) : QNw w' r q := by
  refine h.keeps k (fun i hi hs => ?_) (fun i hi hs => ?_)
  · obtain ⟨x, e, rfl⟩ := hi
    rcases h.ps.shape with ⟨e2, _⟩ | ⟨g, cur, e2, hg, _⟩
    · rw [e2] at e; cases e
    · rw [e2] at e; cases e; exact hp _ _ _ hs hg
  · obtain ⟨x, e, rfl⟩ := hi
    rcases h.ks.shape with ⟨e2, _⟩ | ⟨g, cur, e2, hg, _⟩
    · rw [e2] at e; cases e
    · rw [e2] at e; cases e; exact ht _ _ _ hs hg
/-- the questions of a write, as the program holds them -/
def qIn (s : WS) (i : Nat) : Qn := if s.round = 0 then ⟨((s.ps.getD i pp0).1 : Nat), 1, ((s.id % 65536 : Nat) : Int), 0, s.id, (s.ps.getD i pp0).2, s.keys⟩ else qAt s i
def qsIn (s : WS) : List Qn := (List.range s.ps.length).map (qIn s)
def dsIn (s : WS) : List Bool := if s.round = 0 then List.replicate s.ps.length false else s.done
theorem qsIn_len (s : WS) : (qsIn s).length = s.ps.length := by unfold qsIn; simp
theorem qsIn_at (s : WS) {i : Nat} (hi : i < s.ps.length) : (qsIn s).getD i q0 = qIn s i := by
  unfold qsIn; simp [List.getD_eq_getElem?_getD, hi]
def wrC (id : Nat) (nx : Value) (ph rs : Int) (ro : Option Addr) (rn rc : Nat) : Array Value := #[.int .u64 (id : Nat), nx, .int .i64 ph, .int .i64 rs, .slice ro rn rc]
/-- a writer whose round is under way -/
structure WrL (w : World) (p cp : Nat) (F : Nat → Prop) (id : Nat) (ph : Int) (ro : Option Addr) (rn rc : Nat) (rz : List RZ) (qs : List Qn) (ds : List Bool) : Prop where
  blk : w.heap[p]? = some (.cells (wrC id (fnC cp) ph 0 ro rn rc) 72 (0, 0))
  rn : rn = qs.length
  zs : Zs w ro rc rz qs ds
  foot : ∀ i, ZB ro rz qs.length i → F i
def IsWr (w : World) (p cp : Nat) (F : Nat → Prop) (s : WS) : Prop :=
  F p ∧ (∀ i, F i → i < w.heap.size) ∧
  ((¬ s.ended = 0 ∧ w.heap[p]? = some (.cells (wrC s.id .nilFunc 3 (s.ended : Nat) none 0 0) 72 (0, 0))) ∨
   (s.ended = 0 ∧ ∃ ro rn rc rz, WrL w p cp F s.id (s.round : Nat) ro rn rc rz (qsIn s) (dsIn s)))
theorem IsWr.keeps {S : Nat → Prop} {w w' : World} {p cp : Nat} {F : Nat → Prop} {s : WS} (h : IsWr w p cp F s) (k : Keeps S w w') (hs : ∀ i, F i → ¬ S i) : IsWr w' p cp F s := by
  obtain ⟨h1, h2, h3⟩ := h
  refine ⟨h1, fun i hi => Nat.lt_of_lt_of_le (h2 i hi) k.size, ?_⟩
  rcases h3 with ⟨he, hb⟩ | ⟨he, ro, rn, rc, rz, hl⟩
  · exact .inl ⟨he, k.at hb (hs p h1)⟩
  · exact .inr ⟨he, ro, rn, rc, rz, k.at hl.blk (hs p h1), hl.rn, hl.zs.keeps k (fun i hi => hs i (hl.foot i hi)), hl.foot⟩
theorem IsWr.lt {w : World} {p cp : Nat} {F : Nat → Prop} {s : WS} (h : IsWr w p cp F s) : ∀ i, F i → i < w.heap.size := h.2.1
def TellTo (w : World) (p cp : Nat) (F : Nat → Prop) (out : Out) (e : Ending) (w' : World) : Prop := ∃ o n c rs G, e = .returned (.slice o n c) ∧ Tell IsWr w p cp F out o n c rs G w'
/-- nothing told, nothing turned -/
theorem tell_none {w w' : World} {p cp : Nat} {F : Nat → Prop} {s : WS} {m : Nat} (h : IsWr w p cp F s) (hc : IsCt w cp m) (hcF : ¬ F cp) (k : Keeps no w w') : TellTo w p cp F ⟨s, [], m⟩ (.returned (.slice none 0 0)) w' :=
  ⟨none, 0, 0, [], F, rfl, rfl, tq_nil w', fun i hi => by rcases hi with ⟨x, e, _⟩ | ⟨j, hj, _⟩; cases e; simp at hj, h.keeps k (fun _ _ => id), fun i hi => .inl hi, fun i hi => by rcases hi with ⟨x, e, _⟩ | ⟨j, hj, _⟩; cases e; simp at hj, hc.keeps k id, k.of_no⟩
theorem wResult_any (w : World) (p cp : Nat) (F : Nat → Prop) (s : WS) (h : IsWr w p cp F s) (hw : WfS s) :
    Calls Tryz.prog 20 #[.pointer (some ⟨p, 0, none⟩)] w fun e w' => e = .returned (.int .i64 (s.ended : Nat)) ∧ Keeps no w w' := by
  have hc : w.cell? ⟨p, 3, none⟩ = some (.int .i64 (s.ended : Nat)) := by
    rcases h.2.2 with ⟨_, hb⟩ | ⟨he, ro, rn, rc, rz, hl⟩
    · rw [cell_of_blk hb]; rfl
    · rw [cell_of_blk hl.blk, he]; rfl
  clear h hw
  go_enter Tryz.func20, Tryz.ntmps20
  go_wp2_with fail
  go_ret
  exact ⟨rfl, Keeps.refl _ _⟩
theorem wID_any (w : World) (p cp : Nat) (F : Nat → Prop) (s : WS) (h : IsWr w p cp F s) (hw : WfS s) :
    Calls Tryz.prog 22 #[.pointer (some ⟨p, 0, none⟩)] w fun e w' => e = .returned (.int .u64 (s.id : Nat)) ∧ Keeps no w w' := by
  have hc : w.cell? ⟨p, 0, none⟩ = some (.int .u64 (s.id : Nat)) := by
    rcases h.2.2 with ⟨_, hb⟩ | ⟨he, ro, rn, rc, rz, hl⟩
    · rw [cell_of_blk hb]; rfl
    · rw [cell_of_blk hl.blk]; rfl
  clear h hw
  go_enter Tryz.func22, Tryz.ntmps22
  go_wp2_with fail
  go_ret
  exact ⟨rfl, Keeps.refl _ _⟩
end Go.Proofs.YtghnhkhhpeoheaaGreat
