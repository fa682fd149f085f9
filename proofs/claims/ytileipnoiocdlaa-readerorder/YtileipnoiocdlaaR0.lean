import Derived.Test.YtileipnoiocdlaaG1
import Derived.Test.YtileipnoiocdlaaC9
/- A reader in pure lists; its questions in memory. -/
namespace Go.Proofs.Ytileipnoiocdlaa
open Go.RowKit Go.Sort Orl
set_option linter.unusedVariables false
set_option linter.unusedSimpArgs false

/-! ### questions -/
structure Qn where
  part : Int
  kind : Int
  client : Int
  req : Nat
  keys : List Tx
  wants : List Wn
deriving DecidableEq
def q0 : Qn := ⟨0, 0, 0, 0, [], []⟩
structure RQ where
  part : Int
  kind : Int
  client : Int
  req : Nat
  ko : Option Addr
  kn : Nat
  kc : Nat
  wo : Option Addr
  wn : Nat
  wc : Nat
def rq0 : RQ := ⟨0, 0, 0, 0, none, 0, 0, none, 0, 0⟩
def QE : El RQ := ⟨44, 34, 9, 136, fun r => [.int .i64 r.part, .int .i64 r.kind, .int .i64 r.client, .int .u64 (r.req : Nat), .int .u64 0, .slice none 0 0, .slice r.ko r.kn r.kc, .slice r.wo r.wn r.wc, .slice none 0 0]⟩
theorem infoQ : (Try.prog.info? 44).map (fun i => (i.zero, i.size, i.bytes)) = some (some (.agg #[.int .i64 0, .int .i64 0, .int .i64 0, .int .u64 0, .int .u64 0, .slice none 0 0, .slice none 0 0, .slice none 0 0, .slice none 0 0]), 9, 136) := by kernel_rfl
theorem okQ : QE.Ok := by
  obtain ⟨i0, hi, hz0, hz1, hz2⟩ := info_parts infoQ
  exact ⟨fun _ => rfl, fun x u hu => by simp [QE] at hu; rcases hu with rfl | rfl | rfl | rfl | rfl | rfl | rfl | rfl | rfl <;> rfl, by decide, Try.underlying34, i0, _, hi, hz0, hz1, hz2, rfl⟩
/-- a question's own cells -/
def aggQ (r : RQ) : Value := .agg #[.int .i64 r.part, .int .i64 r.kind, .int .i64 r.client, .int .u64 (r.req : Nat), .int .u64 0, .slice none 0 0, .slice r.ko r.kn r.kc, .slice r.wo r.wn r.wc, .slice none 0 0]
/-- a question as the reader holds it -/
structure RZ where
  q : RQ
  mb : Nat
def rz0 : RZ := ⟨rq0, 0⟩
def RE : El RZ := ⟨84, 77, 10, 144, fun r => [.int .i64 r.q.part, .int .i64 r.q.kind, .int .i64 r.q.client, .int .u64 (r.q.req : Nat), .int .u64 0, .slice none 0 0, .slice r.q.ko r.q.kn r.q.kc, .slice r.q.wo r.q.wn r.q.wc, .slice none 0 0, .map (some r.mb)]⟩
theorem infoRE : (Try.prog.info? 84).map (fun i => (i.zero, i.size, i.bytes)) = some (some (.agg #[.int .i64 0, .int .i64 0, .int .i64 0, .int .u64 0, .int .u64 0, .slice none 0 0, .slice none 0 0, .slice none 0 0, .slice none 0 0, .map none]), 10, 144) := by kernel_rfl
theorem okRE : RE.Ok := by
  obtain ⟨i0, hi, hz0, hz1, hz2⟩ := info_parts infoRE
  exact ⟨fun _ => rfl, fun x u hu => by simp [RE] at hu; rcases hu with rfl | rfl | rfl | rfl | rfl | rfl | rfl | rfl | rfl | rfl <;> rfl, by decide, Try.underlying77, i0, _, hi, hz0, hz1, hz2, rfl⟩
/-- the nine cells of the j-th -/
structure At9 (w : World) (b off j k : Nat) (r : RQ) : Prop where
  c0 : w.cell? ⟨b, off + j * k, none⟩ = some (.int .i64 r.part)
  c1 : w.cell? ⟨b, off + j * k + 1, none⟩ = some (.int .i64 r.kind)
  c2 : w.cell? ⟨b, off + j * k + 2, none⟩ = some (.int .i64 r.client)
  c3 : w.cell? ⟨b, off + j * k + 3, none⟩ = some (.int .u64 (r.req : Nat))
  c4 : w.cell? ⟨b, off + j * k + 4, none⟩ = some (.int .u64 0)
  c5 : w.cell? ⟨b, off + j * k + 5, none⟩ = some (.slice none 0 0)
  c6 : w.cell? ⟨b, off + j * k + 6, none⟩ = some (.slice r.ko r.kn r.kc)
  c7 : w.cell? ⟨b, off + j * k + 7, none⟩ = some (.slice r.wo r.wn r.wc)
  c8 : w.cell? ⟨b, off + j * k + 8, none⟩ = some (.slice none 0 0)
theorem Sl.atQ {w : World} {a : Option Addr} {c : Nat} {xs : List RQ} (h : Sl QE w a c xs) {j : Nat} (hj : j < xs.length) : ∃ b off, a = some ⟨b, off, none⟩ ∧ At9 w b off j 9 (xs.getD j rq0) := by
  rcases h.row with e | ⟨b, off, rfl, hc⟩
  · subst e; simp at hj
  · have key : ∀ i, i < 9 → ∀ u, (QE.enc (xs.getD j rq0))[i]? = some u → w.cell? ⟨b, off + j * 9 + i, none⟩ = some u := by
      intro i hi u hu
      rw [Nat.add_assoc]
      refine hc (j * 9 + i) _ ?_
      have := cells_at okQ rq0 xs j i hj hi
      rw [show j * 9 + i = j * QE.k + i from rfl, this]
      exact hu
    exact ⟨b, off, rfl, key 0 (by decide) _ rfl, key 1 (by decide) _ rfl, key 2 (by decide) _ rfl, key 3 (by decide) _ rfl, key 4 (by decide) _ rfl, key 5 (by decide) _ rfl, key 6 (by decide) _ rfl, key 7 (by decide) _ rfl, key 8 (by decide) _ rfl⟩
theorem Sl.atRE {w : World} {a : Option Addr} {c : Nat} {xs : List RZ} (h : Sl RE w a c xs) {j : Nat} (hj : j < xs.length) : ∃ b off, a = some ⟨b, off, none⟩ ∧ At9 w b off j 10 (xs.getD j rz0).q ∧ w.cell? ⟨b, off + j * 10 + 9, none⟩ = some (.map (some (xs.getD j rz0).mb)) := by
  rcases h.row with e | ⟨b, off, rfl, hc⟩
  · subst e; simp at hj
  · have key : ∀ i, i < 10 → ∀ u, (RE.enc (xs.getD j rz0))[i]? = some u → w.cell? ⟨b, off + j * 10 + i, none⟩ = some u := by
      intro i hi u hu
      rw [Nat.add_assoc]
      refine hc (j * 10 + i) _ ?_
      have := cells_at okRE rz0 xs j i hj hi
      rw [show j * 10 + i = j * RE.k + i from rfl, this]
      exact hu
    exact ⟨b, off, rfl, ⟨key 0 (by decide) _ rfl, key 1 (by decide) _ rfl, key 2 (by decide) _ rfl, key 3 (by decide) _ rfl, key 4 (by decide) _ rfl, key 5 (by decide) _ rfl, key 6 (by decide) _ rfl, key 7 (by decide) _ rfl, key 8 (by decide) _ rfl⟩, key 9 (by decide) _ rfl⟩
theorem Own.atRE {w : World} {a : Option Addr} {c : Nat} {xs : List RZ} (h : Own RE w a c xs) {j : Nat} (hj : j < xs.length) : ∃ b, a = some ⟨b, 0, none⟩ ∧ (∀ i, w.frozen? ⟨b, i, none⟩ = false) ∧ At9 w b 0 j 10 (xs.getD j rz0).q ∧ w.cell? ⟨b, 0 + j * 10 + 9, none⟩ = some (.map (some (xs.getD j rz0).mb)) := by
  obtain ⟨b, off, e, h1⟩ := h.sl.atRE hj
  rcases h.shape with ⟨_, _, e2⟩ | ⟨g, cur, e2, hg, _⟩
  · rw [e2] at hj; simp at hj
  · rw [e] at e2; cases e2
    exact ⟨b, e, fun i => frozen_of_blk hg i, h1⟩
/-- a question whose lists are some call's own -/
structure QNw (w : World) (r : RQ) (q : Qn) : Prop where
  part : r.part = q.part
  kind : r.kind = q.kind
  client : r.client = q.client
  req : r.req = q.req
  kn : r.kn = q.keys.length
  ks : Own TE w r.ko r.kc q.keys
  wn : r.wn = q.wants.length
  ws : Own WE w r.wo r.wc q.wants
def QB (r : RQ) (i : Nat) : Prop := inO r.ko i ∨ inO r.wo i
theorem QNw.keeps {S : Nat → Prop} {w w' : World} {r : RQ} {q : Qn} (h : QNw w r q) (k : Keeps S w w') (hs : ∀ i, QB r i → ¬ S i) : QNw w' r q := ⟨h.part, h.kind, h.client, h.req, h.kn, h.ks.keeps k (fun i hi => hs i (.inl hi)), h.wn, h.ws.keeps k (fun i hi => hs i (.inr hi))⟩
theorem QNw.keepsN {w w' : World} {r : RQ} {q : Qn} (h : QNw w r q) (k : Keeps no w w') : QNw w' r q := h.keeps k fun _ _ => id
theorem QNw.lt {w : World} {r : RQ} {q : Qn} (h : QNw w r q) : ∀ i, QB r i → i < w.heap.size := fun i hi => hi.elim (h.ks.lt i) (h.ws.lt i)
/-- the blocks of a list of questions told -/
def TB (o : Option Addr) (rs : List RQ) (n : Nat) (i : Nat) : Prop := inO o i ∨ ∃ j, j < n ∧ QB (rs.getD j rq0) i
/-- questions that were told: each list by itself -/
structure Tq (w : World) (o : Option Addr) (c : Nat) (rs : List RQ) (qs : List Qn) : Prop where
  own : Own QE w o c rs
  len : rs.length = qs.length
  each : ∀ j, j < qs.length → QNw w (rs.getD j rq0) (qs.getD j q0)
  sepK : ∀ i j, i < j → j < qs.length → ∀ k, inO (rs.getD i rq0).ko k → ¬ inO (rs.getD j rq0).ko k
  sepW : ∀ i j, i < j → j < qs.length → ∀ k, inO (rs.getD i rq0).wo k → ¬ inO (rs.getD j rq0).wo k
theorem Tq.keeps {S : Nat → Prop} {w w' : World} {o : Option Addr} {c : Nat} {rs : List RQ} {qs : List Qn} (h : Tq w o c rs qs) (k : Keeps S w w') (hs : ∀ i, TB o rs qs.length i → ¬ S i) : Tq w' o c rs qs :=
  ⟨h.own.keeps k (fun i hi => hs i (.inl hi)), h.len, fun j hj => (h.each j hj).keeps k (fun i hi => hs i (.inr ⟨j, hj, hi⟩)), h.sepK, h.sepW⟩
theorem Tq.keepsN {w w' : World} {o : Option Addr} {c : Nat} {rs : List RQ} {qs : List Qn} (h : Tq w o c rs qs) (k : Keeps no w w') : Tq w' o c rs qs := h.keeps k fun _ _ => id
theorem Tq.lt {w : World} {o : Option Addr} {c : Nat} {rs : List RQ} {qs : List Qn} (h : Tq w o c rs qs) : ∀ i, TB o rs qs.length i → i < w.heap.size := by
  rintro i (hi | ⟨j, hj, hi⟩)
  · exact h.own.lt i hi
  · exact (h.each j hj).lt i hi
theorem tq_nil (w : World) : Tq w none 0 [] [] := ⟨own_nil w, rfl, fun j hj => by simp at hj, fun i j _ hj => by simp at hj, fun i j _ hj => by simp at hj⟩
/-! ### a reader, in pure lists -/
structure RS where
  names : List Tx
  parts : Nat
  client : Nat
  round : Nat
  nm : List Tx
  ws : List Wn
  reqs : List Nat
  came : List Ver
  got : List Bool
  first : List Ver
  ended : Nat
  out : List Ver
def pp0 : Nat × List Tx := (0, [])
def psR (s : RS) : List (Nat × List Tx) := prt s.parts idT s.nm s.parts
def botV' (k : Tx) : Ver := ⟨k, 0, e0, []⟩
def wantOf (ws : List Wn) (k : Tx) : Wn := (k, ((ws.find? fun p => decide (p.1 = k)).map Prod.snd).getD 0)
def qAt (s : RS) (i : Nat) : Qn := ⟨(((psR s).getD i pp0).1 : Nat), if s.round = 1 then 3 else 4, (s.client : Nat), s.reqs.getD i 0, if s.round = 1 then ((psR s).getD i pp0).2 else [], if s.round = 1 then [] else ((psR s).getD i pp0).2.map (wantOf s.ws)⟩
/-- a name's place -/
def ixN (nm : List Tx) (k : Tx) : Nat := nm.findIdx fun x => decide (x = k)
def isOpn (s : RS) (k : Tx) : Bool := !s.got.getD (ixN s.nm k) true
def doneQ (s : RS) (i : Nat) : Bool := ((psR s).getD i pp0).2.all fun k => !isOpn s k
/-- which questions of this round are not done -/
def undone (s : RS) : List Nat := (List.range (psR s).length).filter fun i => !doneQ s i
def askedR (s : RS) : List Qn := (undone s).map (qAt s)
/-- what a question's map holds -/
structure OpL (s : RS) (ks : List Tx) (L : List (Tx × Nat)) : Prop where
  iff : ∀ k a, fnd k L = some a ↔ (k ∈ ks ∧ isOpn s k = true) ∧ a = ixN s.nm k
  le : L.length ≤ 1024
theorem OpL.empty {s : RS} {ks : List Tx} {L : List (Tx × Nat)} (h : OpL s ks L) : L.length = 0 ↔ (ks.all fun k => !isOpn s k) = true := by
  constructor
  · intro h0
    have e : L = [] := List.length_eq_zero_iff.1 h0
    rw [List.all_eq_true]
    intro k hk
    cases ho : isOpn s k with
    | false => rfl
    | true =>
      have := (h.iff k _).2 ⟨⟨hk, ho⟩, rfl⟩
      rw [e] at this; simp [fnd] at this
  · intro ha
    rw [List.all_eq_true] at ha
    rcases L with _ | ⟨⟨k, a⟩, r⟩
    · rfl
    · have h1 : fnd k ((k, a) :: r) = some a := by simp [fnd]
      have h2 := (h.iff k a).1 h1
      have h3 := ha k h2.1.1
      rw [h2.1.2] at h3; cases h3
/-! ### the round's questions in memory -/
structure Zs (w : World) (s : RS) (ro : Option Addr) (rc : Nat) (rz : List RZ) (ix : List Nat) (qs : List Qn) : Prop where
  own : Own RE w ro rc rz
  lenI : rz.length = ix.length
  lenQ : qs.length = ix.length
  each : ∀ j, j < ix.length → QNw w (rz.getD j rz0).q (qs.getD j q0)
  mp : ∀ j, j < ix.length → ∃ L, IsMp KT Vi w (rz.getD j rz0).mb L ∧ OpL s ((psR s).getD (ix.getD j 0) pp0).2 L
  sep : ∀ i j, i < j → j < ix.length → (rz.getD i rz0).mb ≠ (rz.getD j rz0).mb
def ZB (ro : Option Addr) (rz : List RZ) (n : Nat) (i : Nat) : Prop := inO ro i ∨ ∃ j, j < n ∧ (QB (rz.getD j rz0).q i ∨ i = (rz.getD j rz0).mb)
theorem Zs.keeps {S : Nat → Prop} {w w' : World} {s : RS} {ro : Option Addr} {rc : Nat} {rz : List RZ} {ix : List Nat} {qs : List Qn} (h : Zs w s ro rc rz ix qs) (k : Keeps S w w') (hs : ∀ i, ZB ro rz ix.length i → ¬ S i) : Zs w' s ro rc rz ix qs :=
  ⟨h.own.keeps k (fun i hi => hs i (.inl hi)), h.lenI, h.lenQ, fun j hj => (h.each j hj).keeps k (fun i hi => hs i (.inr ⟨j, hj, .inl hi⟩)), fun j hj => by
    obtain ⟨L, h1, h2⟩ := h.mp j hj
    exact ⟨L, h1.keeps k (hs _ (.inr ⟨j, hj, .inr rfl⟩)), h2⟩, h.sep⟩
theorem Zs.keepsN {w w' : World} {s : RS} {ro : Option Addr} {rc : Nat} {rz : List RZ} {ix : List Nat} {qs : List Qn} (h : Zs w s ro rc rz ix qs) (k : Keeps no w w') : Zs w' s ro rc rz ix qs := h.keeps k fun _ _ => id
theorem Zs.lt {w : World} {s : RS} {ro : Option Addr} {rc : Nat} {rz : List RZ} {ix : List Nat} {qs : List Qn} (h : Zs w s ro rc rz ix qs) : ∀ i, ZB ro rz ix.length i → i < w.heap.size := by
  rintro i (hi | ⟨j, hj, hi | rfl⟩)
  · exact h.own.lt i hi
  · exact (h.each j hj).lt i hi
  · obtain ⟨L, h1, _⟩ := h.mp j hj
    exact h1.lt
/-- what is written is none of its kinds -/
theorem Zs.keepsT {S : Nat → Prop} {w w' : World} {s : RS} {ro : Option Addr} {rc : Nat} {rz : List RZ} {ix : List Nat} {qs : List Qn} (h : Zs w s ro rc rz ix qs) (k : Keeps S w w') (hs : ∀ b, S b → ∃ cur t fz, w.heap[b]? = some (.cells cur t fz) ∧ t ≠ RE.e ∧ t ≠ TE.e ∧ t ≠ WE.e) : Zs w' s ro rc rz ix qs := by
  refine h.keeps k ?_
  rintro i (hi | ⟨j, hj, (hi | hi) | rfl⟩) hS <;> obtain ⟨cur, t, fz, hb, h1, h2, h3⟩ := hs _ hS
  · obtain ⟨c2, hb2⟩ := h.own.tag i hi
    rw [hb] at hb2; injection hb2 with e; injection e with _ e _; exact h1 e
  · obtain ⟨c2, hb2⟩ := (h.each j hj).ks.tag i hi
    rw [hb] at hb2; injection hb2 with e; injection e with _ e _; exact h2 e
  · obtain ⟨c2, hb2⟩ := (h.each j hj).ws.tag i hi
    rw [hb] at hb2; injection hb2 with e; injection e with _ e _; exact h3 e
  · obtain ⟨L, h5, _⟩ := h.mp j hj
    obtain ⟨es, cl, h6⟩ := h5.obj
    rw [hb] at h6; cases h6
/-! ### the counter -/
def w64 (n : Nat) : Nat := n % 18446744073709551616
theorem w64_lt (n : Nat) : w64 n < 18446744073709551616 := Nat.mod_lt _ (by decide)
def numC (fr st t : Nat) : Nat := w64 (fr + st * t)
def IsCt (w : World) (cp fr st t : Nat) : Prop := w.heap[cp]? = some (.cells #[.int .u64 (fr : Nat), .int .u64 (st : Nat), .int .i64 (t : Nat)] 27 (0, 0))
theorem IsCt.keeps {S : Nat → Prop} {w w' : World} {cp fr st t : Nat} (h : IsCt w cp fr st t) (k : Keeps S w w') (hs : ¬ S cp) : IsCt w' cp fr st t := k.at h hs
def fnC (cp : Nat) : Value := .func (.func 8) #[.pointer (some ⟨cp, 0, none⟩)] #[]
/-! ### a reader in memory -/
def rdC (no : Option Addr) (nn nc : Nat) (P C : Nat) (nx : Value) (ph rs : Nat) (ro : Option Addr) (rn rc : Nat) (co : Option Addr) (cn cc : Nat) (vo : Option Addr) (vn vc : Nat) : Array Value :=
  #[.slice no nn nc, .int .i64 (P : Nat), .int .i64 (C : Nat), nx, .int .i64 (ph : Nat), .int .i64 (rs : Nat), .slice ro rn rc, .slice co cn cc, .slice vo vn vc]
def VB (o : Option Addr) (rs : List RV) (n : Nat) (i : Nat) : Prop := inO o i ∨ ∃ j, j < n ∧ inO (rs.getD j r0).o i
/-- the blocks of their keys -/
def KB (rs : List RV) (n : Nat) (i : Nat) : Prop := ∃ j, j < n ∧ inO (rs.getD j r0).o i
theorem Vers.keeps {S : Nat → Prop} {w w' : World} {o : Option Addr} {c : Nat} {rs : List RV} {vs : List Ver} (h : Vers w o c rs vs) (k : Keeps S w w') (hs : ∀ i, VB o rs vs.length i → ¬ S i) : Vers w' o c rs vs :=
  ⟨h.sl.keeps k (fun i hi => hs i (.inl hi)), h.len, fun j hj => (h.each j hj).keeps k (fun i hi => hs i (.inr ⟨j, hj, hi⟩))⟩
/-- a reader whose read is pending -/
structure RdL (w : World) (p cp : Nat) (F : Nat → Prop) (s : RS) (no : Option Addr) (nc : Nat) (ro : Option Addr) (rc : Nat) (rz : List RZ) (co : Option Addr) (cc : Nat) (cs : List RV) (vo : Option Addr) (vc : Nat) (vs : List RV) : Prop where
  blk : w.heap[p]? = some (.cells (rdC no s.names.length nc s.parts s.client (fnC cp) s.round 0 ro (undone s).length rc co s.came.length cc vo s.first.length vc) 79 (0, 0))
  nms : Sl TE w no nc s.names
  zs : Zs w s ro rc rz (undone s) (askedR s)
  cam : Own VE w co cc cs
  came : Vers w co cc cs s.came
  ver : Vers w vo vc vs s.first
  fN : ∀ i, inO no i → F i ∧ i ≠ p
  fZ : ∀ i, ZB ro rz (undone s).length i → F i ∧ i ≠ p ∧ ¬ inO no i ∧ ¬ VB co cs s.came.length i ∧ ¬ VB vo vs s.first.length i
  fC : ∀ i, VB co cs s.came.length i → F i ∧ i ≠ p
  fV : ∀ i, VB vo vs s.first.length i → F i ∧ i ≠ p
  cv : ∀ i, inO co i → ¬ inO no i ∧ ¬ VB vo vs s.first.length i ∧ ¬ KB cs s.came.length i
def IsRd (w : World) (p cp : Nat) (F : Nat → Prop) (s : RS) : Prop :=
  F p ∧ (∀ i, F i → i < w.heap.size) ∧
  ((¬ s.ended = 0 ∧ ∃ vo vc vs, w.heap[p]? = some (.cells (rdC none 0 0 0 0 .nilFunc 3 s.ended none 0 0 none 0 0 vo s.out.length vc) 79 (0, 0)) ∧ Vers w vo vc vs s.out ∧ ∀ i, VB vo vs s.out.length i → F i) ∨
   (s.ended = 0 ∧ ∃ no nc ro rc rz co cc cs vo vc vs, RdL w p cp F s no nc ro rc rz co cc cs vo vc vs))
theorem RdL.keeps {S : Nat → Prop} {w w' : World} {p cp : Nat} {F : Nat → Prop} {s : RS} {no : Option Addr} {nc : Nat} {ro : Option Addr} {rc : Nat} {rz : List RZ} {co : Option Addr} {cc : Nat} {cs : List RV} {vo : Option Addr} {vc : Nat} {vs : List RV} (h : RdL w p cp F s no nc ro rc rz co cc cs vo vc vs) (hp : F p) (k : Keeps S w w') (hs : ∀ i, F i → ¬ S i) : RdL w' p cp F s no nc ro rc rz co cc cs vo vc vs :=
  ⟨k.at h.blk (hs p hp), h.nms.keeps k (fun i hi => hs i (h.fN i hi).1), h.zs.keeps k (fun i hi => hs i (h.fZ i hi).1), h.cam.keeps k (fun i hi => hs i (h.fC i (.inl hi)).1), h.came.keeps k (fun i hi => hs i (h.fC i hi).1), h.ver.keeps k (fun i hi => hs i (h.fV i hi).1), h.fN, h.fZ, h.fC, h.fV, h.cv⟩
theorem IsRd.keeps {S : Nat → Prop} {w w' : World} {p cp : Nat} {F : Nat → Prop} {s : RS} (h : IsRd w p cp F s) (k : Keeps S w w') (hs : ∀ i, F i → ¬ S i) : IsRd w' p cp F s := by
  obtain ⟨h1, h2, h3⟩ := h
  refine ⟨h1, fun i hi => Nat.lt_of_lt_of_le (h2 i hi) k.size, ?_⟩
  rcases h3 with ⟨he, vo, vc, vs, hb, hv, hf⟩ | ⟨he, no, nc, ro, rc, rz, co, cc, cs, vo, vc, vs, hl⟩
  · exact .inl ⟨he, vo, vc, vs, k.at hb (hs p h1), hv.keeps k (fun i hi => hs i (hf i hi)), hf⟩
  · exact .inr ⟨he, no, nc, ro, rc, rz, co, cc, cs, vo, vc, vs, hl.keeps h1 k hs⟩
theorem IsRd.lt {w : World} {p cp : Nat} {F : Nat → Prop} {s : RS} (h : IsRd w p cp F s) : ∀ i, F i → i < w.heap.size := h.2.1
/-- behind a call on a reader -/
structure Out where
  s : RS
  told : List Qn
  t : Nat
structure Tell (w : World) (p cp fr st : Nat) (F : Nat → Prop) (out : Out) (o : Option Addr) (n c : Nat) (rs : List RQ) (G : Nat → Prop) (w' : World) : Prop where
  n : n = out.told.length
  tq : Tq w' o c rs out.told
  new : ∀ i, TB o rs out.told.length i → w.heap.size ≤ i
  is : IsRd w' p cp G out.s
  foot : ∀ i, G i → F i ∨ w.heap.size ≤ i
  apart : ∀ i, TB o rs out.told.length i → ¬ G i
  ct : IsCt w' cp fr st out.t
  kp : Keeps (fun i => F i ∨ i = cp) w w'
def TellTo (w : World) (p cp fr st : Nat) (F : Nat → Prop) (out : Out) (e : Ending) (w' : World) : Prop := ∃ o n c rs G, e = .returned (.slice o n c) ∧ Tell w p cp fr st F out o n c rs G w'
/-- nothing told, nothing turned -/
theorem tell_none {w w' : World} {p cp fr st : Nat} {F : Nat → Prop} {s : RS} {t : Nat} (h : IsRd w p cp F s) (hc : IsCt w cp fr st t) (k : Keeps no w w') : TellTo w p cp fr st F ⟨s, [], t⟩ (.returned (.slice none 0 0)) w' :=
  ⟨none, 0, 0, [], F, rfl, rfl, tq_nil w', fun i hi => by rcases hi with ⟨x, e, _⟩ | ⟨j, hj, _⟩; cases e; simp at hj, h.keeps k (fun _ _ => id), fun i hi => .inl hi, fun i hi => by rcases hi with ⟨x, e, _⟩ | ⟨j, hj, _⟩; cases e; simp at hj, hc.keeps k id, k.of_no⟩
end Go.Proofs.Ytileipnoiocdlaa
