/- Pairs and questions in memory. -/
import Derived.Test.YtghnhkhhpeoheaaGreatA0
import Derived.Laws.ResultCell
import Derived.Laws.Rows
import Derived.Laws.Bits128
import Derived.Lib.QuietBelow
namespace Go.Proofs.YtghnhkhhpeoheaaGreat
open Go.RowKit Go.Sort Orl
set_option linter.unusedVariables false
set_option linter.unusedSimpArgs false

theorem take_succ_getD {α : Type} (l : List α) (k : Nat) (d : α) (h : k < l.length) : l.take (k + 1) = l.take k ++ [l.getD k d] := by
  rw [List.take_add_one]; simp [h]
theorem toList_inj (x y : Tx) : x.toList = y.toList ↔ x = y := by
  rw [Lib.toList_data, Lib.toList_data]
  exact ⟨tx_ext, fun e => by rw [e]⟩
theorem getD_app {α : Type} (l m : List α) (d : α) (j : Nat) : (l ++ m).getD j d = if j < l.length then l.getD j d else m.getD (j - l.length) d := by
  simp only [List.getD_eq_getElem?_getD, List.getElem?_append]
  split <;> rfl
abbrev Pr := ByteArray × ByteArray
def p0 : Pr := (e0, e0)
def PE : El Pr := ⟨61, 22, 2, 32, fun p => [.string p.1, .string p.2]⟩
theorem infoP : (Tryz.prog.info? 61).map (fun i => (i.zero, i.size, i.bytes)) = some (some (.agg #[.string ⟨#[]⟩, .string ⟨#[]⟩]), 2, 32) := by kernel_rfl
theorem okP : PE.Ok := by
  obtain ⟨i0, hi, hz0, hz1, hz2⟩ := info_parts infoP
  exact ⟨fun _ => rfl, fun x u hu => by simp [PE] at hu; rcases hu with rfl | rfl <;> rfl, by decide, Tryz.underlying22, i0, _, hi, hz0, hz1, hz2, rfl⟩
theorem Sl.atP {w : World} {a : Option Addr} {c : Nat} {xs : List Pr} (h : Sl PE w a c xs) {j : Nat} (hj : j < xs.length) : ∃ b off, a = some ⟨b, off, none⟩ ∧ w.cell? ⟨b, off + j * 2, none⟩ = some (.string (xs.getD j p0).1) ∧ w.cell? ⟨b, off + j * 2 + 1, none⟩ = some (.string (xs.getD j p0).2) := by
  rcases h.row with e | ⟨b, off, rfl, hc⟩
  · subst e; simp at hj
  · refine ⟨b, off, rfl, hc (j * 2) _ ?_, ?_⟩
    · have := cells_at okP p0 xs j 0 hj (by decide)
      simpa [PE] using this
    · rw [Nat.add_assoc]
      refine hc (j * 2 + 1) _ ?_
      have := cells_at okP p0 xs j 1 hj (by decide)
      simpa [PE] using this
/-! ### questions -/
structure Qn where
  part : Int
  kind : Int
  client : Int
  req : Nat
  id : Nat
  pairs : List Pr
  keys : List Tx
deriving DecidableEq
def q0 : Qn := ⟨0, 0, 0, 0, 0, [], []⟩
structure RQ where
  part : Int
  kind : Int
  client : Int
  req : Nat
  id : Nat
  po : Option Addr
  pn : Nat
  pc : Nat
  ko : Option Addr
  kn : Nat
  kc : Nat
  wo : Option Addr
  wc : Nat
  vo : Option Addr
  vc : Nat
def rq0 : RQ := ⟨0, 0, 0, 0, 0, none, 0, 0, none, 0, 0, none, 0, none, 0⟩
def QE : El RQ := ⟨63, 40, 9, 136, fun r => [.int .i64 r.part, .int .i64 r.kind, .int .i64 r.client, .int .u64 (r.req : Nat), .int .u64 (r.id : Nat), .slice r.po r.pn r.pc, .slice r.ko r.kn r.kc, .slice r.wo 0 r.wc, .slice r.vo 0 r.vc]⟩
theorem infoQ : (Tryz.prog.info? 63).map (fun i => (i.zero, i.size, i.bytes)) = some (some (.agg #[.int .i64 0, .int .i64 0, .int .i64 0, .int .u64 0, .int .u64 0, .slice none 0 0, .slice none 0 0, .slice none 0 0, .slice none 0 0]), 9, 136) := by kernel_rfl
theorem okQ : QE.Ok := by
  obtain ⟨i0, hi, hz0, hz1, hz2⟩ := info_parts infoQ
  exact ⟨fun _ => rfl, fun x u hu => by simp [QE] at hu; rcases hu with rfl | rfl | rfl | rfl | rfl | rfl | rfl | rfl | rfl <;> rfl, by decide, Tryz.underlying40, i0, _, hi, hz0, hz1, hz2, rfl⟩
/-- the nine cells of the j-th -/
structure At9 (w : World) (b off j : Nat) (r : RQ) : Prop where
  c0 : w.cell? ⟨b, off + j * 9, none⟩ = some (.int .i64 r.part)
  c1 : w.cell? ⟨b, off + j * 9 + 1, none⟩ = some (.int .i64 r.kind)
  c2 : w.cell? ⟨b, off + j * 9 + 2, none⟩ = some (.int .i64 r.client)
  c3 : w.cell? ⟨b, off + j * 9 + 3, none⟩ = some (.int .u64 (r.req : Nat))
  c4 : w.cell? ⟨b, off + j * 9 + 4, none⟩ = some (.int .u64 (r.id : Nat))
  c5 : w.cell? ⟨b, off + j * 9 + 5, none⟩ = some (.slice r.po r.pn r.pc)
  c6 : w.cell? ⟨b, off + j * 9 + 6, none⟩ = some (.slice r.ko r.kn r.kc)
  c7 : w.cell? ⟨b, off + j * 9 + 7, none⟩ = some (.slice r.wo 0 r.wc)
  c8 : w.cell? ⟨b, off + j * 9 + 8, none⟩ = some (.slice r.vo 0 r.vc)
theorem At9.keeps {S : Nat → Prop} {w w' : World} {b off j : Nat} {r : RQ} (h : At9 w b off j r) (k : Keeps S w w') (hb : ¬ S b) : At9 w' b off j r :=
  ⟨k.cell h.c0 hb, k.cell h.c1 hb, k.cell h.c2 hb, k.cell h.c3 hb, k.cell h.c4 hb, k.cell h.c5 hb, k.cell h.c6 hb, k.cell h.c7 hb, k.cell h.c8 hb⟩
theorem At9.keepsN {w w' : World} {b off j : Nat} {r : RQ} (h : At9 w b off j r) (k : Keeps no w w') : At9 w' b off j r := h.keeps k id
theorem Sl.atQ {w : World} {a : Option Addr} {c : Nat} {xs : List RQ} (h : Sl QE w a c xs) {j : Nat} (hj : j < xs.length) : ∃ b off, a = some ⟨b, off, none⟩ ∧ At9 w b off j (xs.getD j rq0) := by
  rcases h.row with e | ⟨b, off, rfl, hc⟩
  · subst e; simp at hj
  · have key : ∀ i, i < 9 → ∀ u, (QE.enc (xs.getD j rq0))[i]? = some u → w.cell? ⟨b, off + j * 9 + i, none⟩ = some u := by
      intro i hi u hu
      rw [Nat.add_assoc]
      refine hc (j * 9 + i) _ ?_
      have := cells_at okQ rq0 xs j i hj hi
      rw [show j * 9 + i = j * QE.k + i from rfl, this]
      exact hu
    exact ⟨b, off, rfl, key 0 (by decide) _ rfl, key 1 (by decide) _ rfl, key 2 (by decide) _ rfl, key 3 (by decide) _ rfl, key 4 (by decide) _ rfl, key 5 (by decide) _ rfl, key 6 (by decide) _ rfl, key 7 (by decide) _ rfl, key 8 (by decide) _ rfl⟩
/-- a question as it is read out of its cells -/
structure QOf (w : World) (r : RQ) (q : Qn) : Prop where
  part : r.part = q.part
  kind : r.kind = q.kind
  client : r.client = q.client
  req : r.req = q.req
  id : r.id = q.id
  pn : r.pn = q.pairs.length
  ps : Sl PE w r.po r.pc q.pairs
  kn : r.kn = q.keys.length
  ks : Sl TE w r.ko r.kc q.keys
theorem QOf.keepsN {w w' : World} {r : RQ} {q : Qn} (h : QOf w r q) (k : Keeps no w w') : QOf w' r q := ⟨h.part, h.kind, h.client, h.req, h.id, h.pn, h.ps.keepsN k, h.kn, h.ks.keepsN k⟩
theorem QOf.keeps {S : Nat → Prop} {w w' : World} {r : RQ} {q : Qn} (h : QOf w r q) (k : Keeps S w w') (hp : ∀ i, inO r.po i → ¬ S i) (hk : ∀ i, inO r.ko i → ¬ S i) : QOf w' r q := ⟨h.part, h.kind, h.client, h.req, h.id, h.pn, h.ps.keeps k hp, h.kn, h.ks.keeps k hk⟩
/-- questions in memory -/
structure Qs (w : World) (o : Option Addr) (c : Nat) (rs : List RQ) (qs : List Qn) : Prop where
  sl : Sl QE w o c rs
  len : rs.length = qs.length
  each : ∀ j, j < qs.length → QOf w (rs.getD j rq0) (qs.getD j q0)
theorem Qs.keepsN {w w' : World} {o : Option Addr} {c : Nat} {rs : List RQ} {qs : List Qn} (h : Qs w o c rs qs) (k : Keeps no w w') : Qs w' o c rs qs := ⟨h.sl.keepsN k, h.len, fun j hj => (h.each j hj).keepsN k⟩
theorem Qs.at {w : World} {o : Option Addr} {c : Nat} {rs : List RQ} {qs : List Qn} (h : Qs w o c rs qs) {j : Nat} (hj : j < qs.length) : ∃ b off r, o = some ⟨b, off, none⟩ ∧ At9 w b off j r ∧ QOf w r (qs.getD j q0) := by
  obtain ⟨b, off, e, ha⟩ := h.sl.atQ (j := j) (by rw [h.len]; exact hj)
  exact ⟨b, off, _, e, ha, h.each j hj⟩
/-- sizes -/
structure FitQ (q : Qn) : Prop where
  req : q.req < 18446744073709551616
  id : q.id < 18446744073709551616
  part : 0 ≤ q.part ∧ q.part ≤ 64
  pl : q.pairs.length ≤ 2000
  kl : q.keys.length ≤ 2000
def FitQs (qs : List Qn) : Prop := qs.length ≤ 64 ∧ ∀ q ∈ qs, FitQ q
theorem FitQs.at {qs : List Qn} (h : FitQs qs) {j : Nat} (hj : j < qs.length) : FitQ (qs.getD j q0) := h.2 _ (getD_mem_lt q0 hj)
theorem keeps_grown (W : World) (d : Nat) (os : Array Obj) : Keeps no W (Sort.grow (redrawn W d) os) := Keeps.of_below (below_regrown W d os)
theorem grown_keeps {W X : World} (h : Keeps no W X) : ∃ p : Regrown, X = Sort.grow (redrawn W p.d) p.os := regrown_of_below (h.below (Nat.le_refl _) (fun _ h => h.elim))
theorem call_grown {f : FuncId} {args : Array Value} {W : World} {v : Value} (h : ∀ X, Keeps no W X → Calls Tryz.prog f args X fun e w' => e = .returned v ∧ Keeps no X w') (d : Nat) (os : Array Obj) :
    Calls Tryz.prog f args (Sort.grow (redrawn W d) os) fun e w'' => e = .returned v ∧ ∃ p : Regrown, w'' = Sort.grow (redrawn W p.d) p.os :=
  (h _ (keeps_grown W d os)).mono fun e w' ⟨he, hk⟩ => ⟨he, grown_keeps ((keeps_grown W d os).trans hk)⟩
end Go.Proofs.YtghnhkhhpeoheaaGreat
