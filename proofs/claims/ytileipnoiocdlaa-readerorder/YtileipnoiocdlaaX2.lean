import Derived.Test.YtileipnoiocdlaaWJ
/- What ReaderGives holds. -/
namespace Go.Proofs.Ytileipnoiocdlaa
open Go.RowKit Go.Sort Orl
set_option linter.unusedVariables false
set_option linter.unusedSimpArgs false

/-- the law's world, as it stands -/
structure Wd (w w1 : World) (A : Nat) (P : Nat) (o : Option Addr) (n c : Nat) (rs : List RWr) (ws : List Wr) : Prop where
  box : w1.heap[A]? = some (.cells #[.int .i64 (P : Nat), .slice o n c] 59 (0, 0))
  wrs : Wrs w1 o c rs ws
  good : GoodW ws
  len : n = ws.length
  p1 : 1 ≤ P
  p2 : P ≤ 64
  kp : Keeps no w w1
theorem Wd.keepsN {w w1 w2 : World} {A : Nat} {P : Nat} {o : Option Addr} {n c : Nat} {rs : List RWr} {ws : List Wr} (h : Wd w w1 A P o n c rs ws) (k : Keeps no w1 w2) : Wd w w2 A P o n c rs ws := ⟨k.at h.box id, h.wrs.keepsN k, h.good, h.len, h.p1, h.p2, h.kp.trans k⟩
/-- apart from the reader, and newer than the law's world -/
def Zr (w1 : World) (F : Nat → Prop) (cp : Nat) (i : Nat) : Prop := ¬ (F i ∨ i = cp) ∧ w1.heap.size ≤ i
theorem Rc.zr_new {w0 w : World} {p cp fr st : Nat} {s : RS} {t : Nat} {F : Nat → Prop} (h : Rc w0 w p cp fr st s t F) : ∀ i, w.heap.size ≤ i → Zr w0 F cp i := fun i hi => ⟨fun hf => by have := h.lt i hf; omega, Nat.le_trans h.kp.size hi⟩
theorem Zr.tell {w0 w w' : World} {p cp fr st : Nat} {F G : Nat → Prop} {out : Out} {o : Option Addr} {n c : Nat} {rs : List RQ} {i : Nat} (h : Zr w0 F cp i) (hi : i < w.heap.size) (t : Tell w p cp fr st F out o n c rs G w') : Zr w0 G cp i := by
  refine ⟨fun hg => ?_, h.2⟩
  rcases hg with hg | hg
  · rcases t.foot i hg with h1 | h1
    · exact h.1 (.inl h1)
    · omega
  · exact h.1 (.inr hg)
theorem OwnT.tag {α : Type} {E : El α} {w : World} {o : Option Addr} {c : Nat} {xs : List α} (h : OwnT E w o c xs) : ∀ i, inO o i → ∃ cur, w.heap[i]? = some (.cells cur E.e (0, 0)) := by
  rintro i ⟨x, e, rfl⟩
  rcases h.ex with ⟨h1, _⟩ | ⟨g, off, cur, rfl, hg, _⟩
  · rw [h1] at e; cases e
  · cases e; exact ⟨cur, hg⟩
/-- a reader, answers on their way, questions gathered -/
structure Gv (w5 wr : World) (p cp : Nat) (s : RS) (t : Nat) (F : Nat → Prop) (ol : Option Addr) (cl : Nat) (rs : List RT) (ts : List Tl) (oo : Option Addr) (co : Nat) (rq : List RQ) (qs : List Qn) (N : Nat) : Prop where
  rc : Rc w5 wr p cp 1 1 s t F
  tls : Tls wr (Zr w5 F cp) ol cl rs ts
  out : OutS wr (Zr w5 F cp) oo co rq qs
  tb : t + 64 * N ≤ 20000
  qb : qs.length + 64 * N ≤ 20000
theorem Gv.keepsN {w5 wr w' : World} {p cp : Nat} {s : RS} {t : Nat} {F : Nat → Prop} {ol : Option Addr} {cl : Nat} {rs : List RT} {ts : List Tl} {oo : Option Addr} {co : Nat} {rq : List RQ} {qs : List Qn} {N : Nat} (h : Gv w5 wr p cp s t F ol cl rs ts oo co rq qs N) (k : Keeps no wr w') : Gv w5 w' p cp s t F ol cl rs ts oo co rq qs N := ⟨h.rc.keepsN k, h.tls.keepsN k, h.out.keepsN k, h.tb, h.qb⟩
/-- one more on its way -/
theorem Gv.push {w5 wr w2 w' : World} {p cp : Nat} {s : RS} {t : Nat} {F : Nat → Prop} {ol o' : Option Addr} {cl c' : Nat} {rs : List RT} {ts : List Tl} {oo : Option Addr} {co : Nat} {rq : List RQ} {qs : List Qn} {N : Nat} (h : Gv w5 wr p cp s t F ol cl rs ts oo co rq qs N) (k : Keeps no wr w2) {r : RT} {x : Tl} (h1 : r.part = x.part) (h2 : r.req = x.req) (hm : MsgAt w2 (fun i => Zr w5 F cp i ∧ ¬ inO ol i) r.B x.v) (hf : FitV x.v) (ho : OwnT LE w' o' c' (rs ++ [r])) (ha : Ap w2 ol o' w') :
    Gv w5 w' p cp s t F o' c' (rs ++ [r]) (ts ++ [x]) oo co rq qs N ∧ Keeps (inO ol) wr w' := by
  have h0 := h.keepsN k
  have kw : Keeps (inO ol) w2 w' := by
    rcases ha with ⟨_, k1⟩ | ⟨_, k1⟩
    · exact k1
    · exact k1.of_no
  refine ⟨⟨h0.rc.keeps kw (fun i hi hb => (h.tls.blk i hb).1 hi) (fun i hb => (h.tls.blk i hb).2), h.tls.push k (fun i hi => h0.rc.zr_new i hi) h1 h2 hm hf ho ha, h0.out.keepsT kw (fun b hb => ?_), h.tb, h.qb⟩, k.of_no.trans kw⟩
  obtain ⟨cur, hc⟩ := h0.tls.own.tag b hb
  exact ⟨cur, _, _, hc, by decide, by decide, by decide⟩
/-- while answers are taken -/
structure Gi (w5 wr : World) (hI : Nat) (p cp : Nat) (s : RS) (t : Nat) (F : Nat → Prop) (ol : Option Addr) (cl : Nat) (rs : List RT) (ts : List Tl) (oo : Option Addr) (co : Nat) (rq : List RQ) (qs : List Qn) (N : Nat) : Prop where
  rc : Rc w5 wr p cp 1 1 s t F
  tls : Tls wr (fun i => Zr w5 F cp i ∧ i < hI) ol cl rs ts
  out : OutS wr (fun i => Zr w5 F cp i ∧ hI ≤ i) oo co rq qs
  hi : hI ≤ wr.heap.size
  tb : t + 64 * N ≤ 20000
  qb : qs.length + 64 * N ≤ 20000
theorem Gi.keepsN {w5 wr w' : World} {hI : Nat} {p cp : Nat} {s : RS} {t : Nat} {F : Nat → Prop} {ol : Option Addr} {cl : Nat} {rs : List RT} {ts : List Tl} {oo : Option Addr} {co : Nat} {rq : List RQ} {qs : List Qn} {N : Nat} (h : Gi w5 wr hI p cp s t F ol cl rs ts oo co rq qs N) (k : Keeps no wr w') : Gi w5 w' hI p cp s t F ol cl rs ts oo co rq qs N := ⟨h.rc.keepsN k, h.tls.keepsN k, h.out.keepsN k, Nat.le_trans h.hi k.size, h.tb, h.qb⟩
theorem Gi.tail {w5 wr : World} {hI : Nat} {p cp : Nat} {s : RS} {t : Nat} {F : Nat → Prop} {g o2 cl : Nat} {rs : List RT} {ts : List Tl} {oo : Option Addr} {co : Nat} {rq : List RQ} {qs : List Qn} {N : Nat} (h : Gi w5 wr hI p cp s t F (some ⟨g, o2, none⟩) cl rs ts oo co rq qs N) (hl : 0 < ts.length) : Gi w5 wr hI p cp s t F (some ⟨g, o2 + 9, none⟩) (cl - 1) rs.tail ts.tail oo co rq qs N ∧ 1 ≤ cl ∧ ts.length ≤ cl ∧ (cl = 1 → Gi w5 wr hI p cp s t F (some ⟨g, o2, none⟩) 0 [] [] oo co rq qs N) := by
  have h1 := h.tls.tail hl
  have hc : ts.length ≤ cl := by have := h.tls.own.sl.cap; have := h.tls.len; omega
  refine ⟨⟨h.rc, h1.1, h.out, h.hi, h.tb, h.qb⟩, h1.2, hc, fun e => ⟨h.rc, ⟨h.tls.own.cut0 (by omega), rfl, fun j hj => by simp at hj, h.tls.blk⟩, h.out, h.hi, h.tb, h.qb⟩⟩
theorem Gi.gv {w5 wr : World} {hI : Nat} {p cp : Nat} {s : RS} {t : Nat} {F : Nat → Prop} {ol : Option Addr} {cl : Nat} {rs : List RT} {ts : List Tl} {oo : Option Addr} {co : Nat} {rq : List RQ} {qs : List Qn} {N : Nat} (h : Gi w5 wr hI p cp s t F ol cl rs ts oo co rq qs N) : Gv w5 wr p cp s t F ol cl rs ts oo co rq qs N :=
  ⟨h.rc, h.tls.mono (fun i h1 _ => h1.1), h.out.mono (fun i h1 _ => h1.1), h.tb, h.qb⟩
theorem Gv.gi {w5 wr : World} {p cp : Nat} {s : RS} {t : Nat} {F : Nat → Prop} {ol : Option Addr} {cl : Nat} {rs : List RT} {ts : List Tl} {oo : Option Addr} {co : Nat} {rq : List RQ} {qs : List Qn} {N : Nat} (h : Gv w5 wr p cp s t F ol cl rs ts oo co rq qs N) : Gi w5 wr wr.heap.size p cp s t F ol cl rs ts none 0 [] [] N :=
  ⟨h.rc, h.tls.mono (fun i h1 h2 => ⟨h1, h2⟩), outS_nil _ _, Nat.le_refl _, h.tb, by have := h.qb; simp; omega⟩
/-- behind a Receive -/
structure Gx (w5 wr w' : World) (hI : Nat) (p cp : Nat) (O : Out) (G : Nat → Prop) (ol : Option Addr) (cl : Nat) (rs : List RT) (ts : List Tl) (oo : Option Addr) (co : Nat) (rq : List RQ) (qs : List Qn) (o2 : Option Addr) (c2 : Nat) (r2 : List RQ) : Prop where
  rc : Rc w5 w' p cp 1 1 O.s O.t G
  tls : Tls w' (fun i => Zr w5 G cp i ∧ i < hI) ol cl rs ts
  out : OutS w' (fun i => Zr w5 G cp i ∧ hI ≤ i) oo co rq qs
  told : OutS w' (fun i => Zr w5 G cp i ∧ hI ≤ i) o2 c2 r2 O.told
  hi : hI ≤ w'.heap.size
theorem Gi.tell {w5 wr w' : World} {hI : Nat} {p cp : Nat} {s : RS} {t : Nat} {F G : Nat → Prop} {ol : Option Addr} {cl : Nat} {rs : List RT} {ts : List Tl} {oo : Option Addr} {co : Nat} {rq : List RQ} {qs : List Qn} {N : Nat} {O : Out} {o2 : Option Addr} {n2 c2 : Nat} {r2 : List RQ} (h : Gi w5 wr hI p cp s t F ol cl rs ts oo co rq qs N) (ht : Tell wr p cp 1 1 F O o2 n2 c2 r2 G w') (hw : WfR O.s) (hb : TB2 O t) : Gx w5 wr w' hI p cp O G ol cl rs ts oo co rq qs o2 c2 r2 := by
  refine ⟨h.rc.tell ht hw, ?_, ?_, ?_, Nat.le_trans h.hi ht.kp.size⟩
  · have h1 := h.tls.mono (Y := fun i => (Zr w5 F cp i ∧ i < hI) ∧ i < wr.heap.size) (fun i h1 h2 => ⟨h1, h2⟩)
    exact (h1.keeps ht.kp (fun i h1 _ => h1.1.1.1)).mono (fun i h1 _ => ⟨h1.1.1.tell h1.2 ht, h1.1.2⟩)
  · have h1 := h.out.mono (Y := fun i => (Zr w5 F cp i ∧ hI ≤ i) ∧ i < wr.heap.size) (fun i h1 h2 => ⟨h1, h2⟩)
    exact (h1.keeps ht.kp (fun i h1 _ => h1.1.1.1)).mono (fun i h1 _ => ⟨h1.1.1.tell h1.2 ht, h1.1.2⟩)
  · exact ht.tq.outS hb.f _ (fun i hi => ⟨⟨ht.far (lt_of_block h.rc.ct) i hi, Nat.le_trans h.rc.kp.size (ht.new i hi)⟩, Nat.le_trans h.hi (ht.new i hi)⟩)
theorem Gx.app {w5 wr w1 w' : World} {hI : Nat} {p cp : Nat} {O : Out} {G : Nat → Prop} {ol : Option Addr} {cl : Nat} {rs : List RT} {ts : List Tl} {oo o' : Option Addr} {co c' : Nat} {rq : List RQ} {qs : List Qn} {o2 : Option Addr} {c2 : Nat} {r2 : List RQ} {N : Nat} (h : Gx w5 wr w1 hI p cp O G ol cl rs ts oo co rq qs o2 c2 r2) (ho : Own QE w' o' c' (rq ++ r2)) (ha : Ap w1 oo o' w') (htb : O.t + 64 * N ≤ 20000) (hqb : qs.length + O.told.length + 64 * N ≤ 20000) : Gi w5 w' hI p cp O.s O.t G ol cl rs ts o' c' (rq ++ r2) (qs ++ O.told) N := by
  have kw : Keeps (inO oo) w1 w' := by
    rcases ha with ⟨_, k1⟩ | ⟨_, k1⟩
    · exact k1
    · exact k1.of_no
  have hb : ∀ i, inO oo i → Zr w5 G cp i ∧ hI ≤ i := fun i hi => h.out.blk i (.inl hi)
  refine ⟨h.rc.keeps kw (fun i hi hz => (hb i hz).1.1 hi) (fun i hz => (hb i hz).1.2), h.tls.keeps kw (fun i h1 _ hz => by have := (hb i hz).2; omega), h.out.app h.told (fun i hi => ⟨h.rc.zr_new i hi, Nat.le_trans h.hi hi⟩) ho ha, Nat.le_trans h.hi kw.size, htb, by rw [List.length_append]; exact hqb⟩
theorem At9.keepsN {w w' : World} {b off j k : Nat} {r : RQ} (h : At9 w b off j k r) (hk : Keeps no w w') : At9 w' b off j k r := ⟨hk.cellN h.c0, hk.cellN h.c1, hk.cellN h.c2, hk.cellN h.c3, hk.cellN h.c4, hk.cellN h.c5, hk.cellN h.c6, hk.cellN h.c7, hk.cellN h.c8⟩
/-- messages that stay -/
theorem Msgs.keeps {S : Nat → Prop} {w w' : World} {Z : Nat → Prop} {o : Option Addr} {c : Nat} {rs : List RM} {vs : List Ver} {req : Nat} (h : Msgs w Z o c rs vs req) (k : Keeps S w w') (hs : ∀ i, Z i → ¬ S i) : Msgs w' Z o c rs vs req := ⟨h.own.keeps k (fun i hi => hs i (h.blk i hi)), h.len, fun j hj => ⟨(h.each j hj).1, (h.each j hj).2.keeps k (fun i h1 _ => hs i h1.1)⟩, h.blk⟩
theorem Msgs.mono {w : World} {Z Y : Nat → Prop} {o : Option Addr} {c : Nat} {rs : List RM} {vs : List Ver} {req : Nat} (h : Msgs w Z o c rs vs req) (hy : ∀ i, Z i → i < w.heap.size → Y i) : Msgs w Y o c rs vs req := ⟨h.own, h.len, fun j hj => ⟨(h.each j hj).1, (h.each j hj).2.mono (fun i h1 h2 => ⟨hy i h1.1 h2, h1.2⟩)⟩, fun i hi => hy i (h.blk i hi) (h.own.lt i hi)⟩
structure At8m (w : World) (b off : Nat) (r : RM) : Prop where
  c0 : w.cell? ⟨b, off, none⟩ = some (.int .i64 7)
  c1 : w.cell? ⟨b, off + 1, none⟩ = some (.int .i64 3)
  c2 : w.cell? ⟨b, off + 2, none⟩ = some (.int .u64 (r.req : Nat))
  c3 : w.cell? ⟨b, off + 3, none⟩ = some (.int .u64 0)
  c4 : w.cell? ⟨b, off + 4, none⟩ = some (.slice none 0 0)
  c5 : w.cell? ⟨b, off + 5, none⟩ = some (.slice none 0 0)
  c6 : w.cell? ⟨b, off + 6, none⟩ = some (.slice none 0 0)
  c7 : w.cell? ⟨b, off + 7, none⟩ = some (.slice (some ⟨r.B, 0, none⟩) 1 1)
theorem At8m.keepsN {w w' : World} {b off : Nat} {r : RM} (h : At8m w b off r) (k : Keeps no w w') : At8m w' b off r := ⟨k.cellN h.c0, k.cellN h.c1, k.cellN h.c2, k.cellN h.c3, k.cellN h.c4, k.cellN h.c5, k.cellN h.c6, k.cellN h.c7⟩
theorem Msgs.at {w : World} {Z : Nat → Prop} {o : Option Addr} {c : Nat} {rs : List RM} {vs : List Ver} {req : Nat} (h : Msgs w Z o c rs vs req) {j : Nat} (hj : j < vs.length) : ∃ b, o = some ⟨b, 0, none⟩ ∧ At8m w b (j * 8) (rs.getD j rm0) := by
  have hjr : j < rs.length := by rw [h.len]; exact hj
  rcases h.own.shape with ⟨_, _, e⟩ | ⟨g, cur, e, hg, _⟩
  · rw [e] at hjr; simp at hjr
  · rcases h.own.row with e2 | ⟨b, off, e2, hc⟩
    · rw [e2] at hjr; simp at hjr
    · rw [e] at e2
      cases e2
      have key : ∀ i, i < 8 → ∀ u, (ME.enc (rs.getD j rm0))[i]? = some u → w.cell? ⟨g, j * 8 + i, none⟩ = some u := by
        intro i hi u hu
        have := cells_at okM rm0 rs j i hjr hi
        have h3 := hc (j * 8 + i) u (by rw [show j * 8 + i = j * ME.k + i from rfl, this]; exact hu)
        rwa [Nat.zero_add] at h3
      exact ⟨g, e, key 0 (by decide) _ rfl, key 1 (by decide) _ rfl, key 2 (by decide) _ rfl, key 3 (by decide) _ rfl, key 4 (by decide) _ rfl, key 5 (by decide) _ rfl, key 6 (by decide) _ rfl, key 7 (by decide) _ rfl⟩
theorem ver_fit {ws : List Wr} (h : GoodW ws) {k : Tx} (hk : k.size ≤ 65535) {i : Nat} (hi : i < ws.length) : FitV (verP ws i k) := by
  have hv := (valK_iff _).1 (h.val i hi)
  have hl := h.len
  refine ⟨by show (i + 1) * 65536 < _; omega, by show k.size ≤ _; omega, ?_, ?_, fun s hs => ?_⟩
  · show (k ++ tag1 i).size ≤ _
    have : (tag1 i).size = 1 := rfl
    rw [ByteArray.size_append]; omega
  · show (isT _).length ≤ _
    unfold isT
    rw [isort_length]; have := hv.1.2; omega
  · have : s ∈ (ws.getD i wr0).1 := (isort_perm e0 _).mem_iff.1 hs
    have := hv.2.1 s this
    omega
/-- a version told by the law's world may be -/
theorem lat_fit {P : Nat} {ws : List Wr} (h : GoodW ws) {k : Tx} (hk : k.size ≤ 65535) : ∀ j, j ≤ ws.length → FitV (latP P ws k j)
  | 0, _ => ⟨by show (0 : Nat) < _; decide, by show k.size ≤ _; omega, by show e0.size ≤ _; decide, by show (0 : Nat) ≤ _; decide, fun s hs => by cases hs⟩
  | j + 1, hj => by
    unfold latP
    split
    · exact ver_fit h hk (by omega)
    · exact lat_fit h hk j (by omega)
theorem ask_fit {P : Nat} {ws : List Wr} (h : GoodW ws) {gone : Nat} {q : Qn} (hq : FitA q) : ∀ v ∈ askV P ws gone q, FitV v := by
  intro v hv
  unfold askV at hv
  rcases List.mem_append.1 hv with hv | hv
  · obtain ⟨k, hk, rfl⟩ := List.mem_map.1 hv
    exact lat_fit h (hq.kz k hk) _ (Nat.le_refl _)
  · obtain ⟨x, hx, rfl⟩ := List.mem_map.1 hv
    have hz := (hq.wz x hx).1
    unfold wantV
    split
    · rename_i h1
      exact ver_fit h hz (by omega)
    · exact ⟨by show (0 : Nat) < _; decide, by show x.1.size ≤ _; omega, by show e0.size ≤ _; decide, by show (0 : Nat) ≤ _; decide, fun s hs => by cases hs⟩
theorem ask_len {P : Nat} {ws : List Wr} {gone : Nat} {q : Qn} (hq : FitA q) : (askV P ws gone q).length ≤ 4000 := by
  unfold askV
  rw [List.length_append, List.length_map, List.length_map]
  have := hq.kl
  have := hq.wl
  omega
end Go.Proofs.Ytileipnoiocdlaa
/- A round's answers, in any order: pure. -/
namespace Go.Proofs.Ytileipnoiocdlaa
open Go.RowKit Go.Sort Orl
set_option linter.unusedVariables false
set_option linter.unusedSimpArgs false

/-- a round in which the keys of g have been answered, each by f -/
def cmS (s : RS) (f : Tx → Ver) (g : List Bool) : RS := { s with came := (List.range s.nm.length).map (fun j => if g.getD j true = true then f (s.nm.getD j e0) else botV' (s.nm.getD j e0)), got := g }
theorem cm_ps (s : RS) (f : Tx → Ver) (g : List Bool) : psR (cmS s f g) = psR s := rfl
theorem cm_q (s : RS) (f : Tx → Ver) (g : List Bool) (i : Nat) : qAt (cmS s f g) i = qAt s i := rfl
theorem cm_nm (s : RS) (f : Tx → Ver) (g : List Bool) : (cmS s f g).nm = s.nm := rfl
theorem cm_at (s : RS) (f : Tx → Ver) (g : List Bool) {j : Nat} (hj : j < s.nm.length) : (cmS s f g).came.getD j v0 = if g.getD j true = true then f (s.nm.getD j e0) else botV' (s.nm.getD j e0) := by
  unfold cmS
  simp [List.getD_eq_getElem?_getD, hj]
theorem cm_len (s : RS) (f : Tx → Ver) (g : List Bool) : (cmS s f g).came.length = s.nm.length := by unfold cmS; simp
theorem getD_ext {α : Type} {l m : List α} (d : α) (hl : l.length = m.length) (h : ∀ j, j < l.length → l.getD j d = m.getD j d) : l = m := by
  apply List.ext_getElem hl
  intro j h1 h2
  have := h j h1
  rw [List.getD_eq_getElem?_getD, List.getD_eq_getElem?_getD, List.getElem?_eq_getElem h1, List.getElem?_eq_getElem h2] at this
  exact this
theorem took_cm {s : RS} {f : Tx → Ver} {g : List Bool} {k : Tx} (hk : k ∈ s.nm) (hf : (f k).key = k) (hg : g.length = s.nm.length) : tookS (cmS s f g) (f k) = cmS s f (g.set (ixN s.nm k) true) := by
  have hix := idx_lt hk
  have hat := idx_at hk
  have e1 : (tookS (cmS s f g) (f k)).came = (cmS s f (g.set (ixN s.nm k) true)).came := by
    show kept (cmS s f g).came (ixN s.nm (f k).key) (f k) = _
    rw [hf]
    refine getD_ext v0 (by rw [kept_len, cm_len, cm_len]) (fun j hj => ?_)
    rw [kept_len, cm_len] at hj
    unfold kept
    rw [getD_setV _ _ _ _ v0 (by rw [cm_len]; exact hix), cm_at s f (g.set (ixN s.nm k) true) hj, getD_setV g _ _ _ true (by rw [hg]; exact hix)]
    by_cases e : j = ixN s.nm k
    · rw [if_pos e, if_pos e, if_pos rfl, e, hat, cm_at s f g hix, hat]
      have hkey : (if g.getD (ixN s.nm k) true = true then f k else botV' k).key = k := by split; exact hf; rfl
      rw [hkey]
      cases hv : f k with
      | mk key id val keys =>
        rw [hv] at hf
        simp only at hf
        rw [hf]
    · rw [if_neg e, if_neg e, cm_at s f g hj]
  have e2 : (tookS (cmS s f g) (f k)).got = g.set (ixN s.nm k) true := by show g.set (ixN s.nm (f k).key) true = _; rw [hf]
  unfold cmS at e1 ⊢
  unfold tookS at e1 e2 ⊢
  simp only at e1 e2 ⊢
  rw [e1, hf]
/-- each name stands in some part -/
theorem ps_has {s : RS} (h1 : 1 ≤ s.parts) {k : Tx} (hk : k ∈ s.nm) : ∃ i, i < (psR s).length ∧ k ∈ ((psR s).getD i pp0).2 := by
  have hm : k ∈ ownOf s.parts idT s.nm (pl s.parts k) := List.mem_filter.2 ⟨hk, decide_eq_true rfl⟩
  have h2 := prt_has s.parts idT s.nm (pl s.parts k) (fun e => by rw [e] at hm; cases hm) s.parts (pl_lt k (by omega))
  obtain ⟨i, hi, e⟩ := List.getElem_of_mem h2
  refine ⟨i, hi, ?_⟩
  have e2 : (psR s).getD i pp0 = (pl s.parts k, ownOf s.parts idT s.nm (pl s.parts k)) := by
    rw [List.getD_eq_getElem?_getD]
    show ((prt s.parts idT s.nm s.parts)[i]?).getD pp0 = _
    rw [List.getElem?_eq_getElem hi, e]; rfl
  rw [e2]
  exact hm
theorem opn_cm {s : RS} {f : Tx → Ver} {g : List Bool} (k : Tx) : isOpn (cmS s f g) k = !g.getD (ixN s.nm k) true := rfl
/-- the round's end -/
theorem undone_cm {s : RS} {f : Tx → Ver} {g : List Bool} (h1 : 1 ≤ s.parts) : undone (cmS s f g) = [] ↔ ∀ k ∈ s.nm, g.getD (ixN s.nm k) true = true := by
  unfold undone
  rw [List.filter_eq_nil_iff]
  constructor
  · intro h k hk
    obtain ⟨i, hi, hm⟩ := ps_has h1 hk
    have h2 := h i (List.mem_range.2 hi)
    have h3 : doneQ (cmS s f g) i = true := by simpa using h2
    unfold doneQ at h3
    rw [List.all_eq_true] at h3
    have h4 := h3 k hm
    rw [opn_cm] at h4
    simpa using h4
  · intro h i hi
    have hi' : i < (psR s).length := List.mem_range.1 hi
    have h3 : doneQ (cmS s f g) i = true := by
      unfold doneQ
      rw [List.all_eq_true]
      intro k hk
      have hk2 : k ∈ s.nm := (ps_keys hi').2.1 k hk
      rw [opn_cm, h k hk2]; rfl
    rw [h3]; simp
/-- an answer that is right, to a key that is open -/
theorem recv_open {s : RS} {f : Tx → Ver} {g : List Bool} (h1 : 1 ≤ s.parts) (he : s.ended = 0) (hg : g.length = s.nm.length) {i : Nat} (hi : i < (psR s).length) {k : Tx} (hk : k ∈ ((psR s).getD i pp0).2) (ho : g.getD (ixN s.nm k) true = false) (hf : (f k).key = k) (fr st t : Nat) :
    recvO (cmS s f g) (qAt s i).part 7 (qAt s i).req [f k] fr st t = behindO (cmS s f (g.set (ixN s.nm k) true)) fr st t := by
  have hkn := (ps_keys hi).2.1 k hk
  have hnd : doneQ (cmS s f g) i = false := by
    rw [Bool.eq_false_iff]
    intro h
    unfold doneQ at h
    rw [List.all_eq_true] at h
    have := h k hk
    rw [opn_cm, ho] at this
    cases this
  have hmu : i ∈ undone (cmS s f g) := List.mem_filter.2 ⟨List.mem_range.2 hi, by rw [hnd]; rfl⟩
  obtain ⟨j, hj, ej⟩ := List.getElem_of_mem hmu
  have ej' : (undone (cmS s f g)).getD j 0 = i := by rw [List.getD_eq_getElem?_getD, List.getElem?_eq_getElem hj, ej]; rfl
  have hx : idxQ (hitR (qAt s i).part (qAt s i).req) (askedR (cmS s f g)) = some j := by
    refine idxQ_hit (by rw [askedR_len]; exact hj) (fun a ha => ?_) ?_
    · have ha' : a < (undone (cmS s f g)).length := by omega
      rw [askedR_at ha', cm_q]
      have hia : (undone (cmS s f g)).getD a 0 < (psR s).length := undone_lt ha'
      have hne : (undone (cmS s f g)).getD a 0 ≠ i := by
        intro e
        have hnod := undone_nodup (cmS s f g)
        have : a = j := by
          have h5 : (undone (cmS s f g))[a] = (undone (cmS s f g))[j] := by
            rw [ej, ← e, List.getD_eq_getElem?_getD, List.getElem?_eq_getElem ha']; rfl
          exact (List.getElem_inj hnod).1 h5
        omega
      have hpt : ¬ (qAt s ((undone (cmS s f g)).getD a 0)).part = (qAt s i).part := by
        intro e
        exact hne (ps_inj hia hi (by have : ((((psR s).getD ((undone (cmS s f g)).getD a 0) pp0).1 : Nat) : Int) = (((psR s).getD i pp0).1 : Nat) := e; omega))
      unfold hitR
      rw [decide_eq_false hpt]; rfl
    · rw [askedR_at hj, ej', cm_q]
      unfold hitR
      rw [decide_eq_true rfl, decide_eq_true rfl]; rfl
  unfold recvO
  rw [if_pos ⟨he, rfl, rfl⟩, hx]
  simp only
  rw [ej']
  have hin : inn ((psR (cmS s f g)).getD i pp0).2 ([f k].getD 0 v0).key = true := by
    rw [inn_iff]
    show (f k).key ∈ _
    rw [hf]; exact hk
  have hop : isOpn (cmS s f g) ([f k].getD 0 v0).key = true := by
    show isOpn (cmS s f g) (f k).key = true
    rw [hf, opn_cm, ho]; rfl
  rw [if_pos ⟨hin, hop⟩]
  show behindO (tookS (cmS s f g) (f k)) fr st t = _
  rw [took_cm hkn hf hg]
/-- the same once more, while the round goes on -/
theorem recv_again {s : RS} {f : Tx → Ver} {g : List Bool} {i : Nat} (hi : i < (psR s).length) {k : Tx} (hk : k ∈ ((psR s).getD i pp0).2) (ho : g.getD (ixN s.nm k) true = true) (hf : (f k).key = k) (fr st t : Nat) :
    recvO (cmS s f g) (qAt s i).part 7 (qAt s i).req [f k] fr st t = ⟨cmS s f g, [], t⟩ := by
  unfold recvO
  split
  · split
    · rfl
    · rename_i j e
      split
      · rename_i h2
        have h3 := h2.2
        have : isOpn (cmS s f g) (f k).key = true := h3
        rw [hf, opn_cm, ho] at this
        cases this
      · rfl
  · rfl
end Go.Proofs.Ytileipnoiocdlaa
/- A round's answers, in any order: the answers that are still on their way. -/
namespace Go.Proofs.Ytileipnoiocdlaa
open Go.RowKit Go.Sort Orl
set_option linter.unusedVariables false
set_option linter.unusedSimpArgs false

theorem ix_inj {nm : List Tx} {a b : Tx} (ha : a ∈ nm) (hb : b ∈ nm) (h : ixN nm a = ixN nm b) : a = b := by rw [← idx_at ha, h, idx_at hb]
/-- an answer that is right -/
def RightT (s : RS) (f : Tx → Ver) (t : Tl) : Prop := ∃ i k, i < (psR s).length ∧ k ∈ ((psR s).getD i pp0).2 ∧ t = ⟨(qAt s i).part, (qAt s i).req, f k⟩
/-- what is on its way is what is open -/
structure WayI (s : RS) (f : Tx → Ver) (g : List Bool) (l : List Tl) : Prop where
  gl : g.length = s.nm.length
  right : ∀ t ∈ l, RightT s f t ∧ t.v.key ∈ s.nm ∧ g.getD (ixN s.nm t.v.key) true = false
  all : ∀ k ∈ s.nm, g.getD (ixN s.nm k) true = false → ∃ t ∈ l, t.v.key = k
  nd : (l.map (fun t => t.v.key)).Nodup
theorem RightT.key {s : RS} {f : Tx → Ver} (hf : ∀ k, (f k).key = k) {t : Tl} (h : RightT s f t) : t.v.key ∈ s.nm := by
  obtain ⟨i, k, hi, hk, rfl⟩ := h
  show (f k).key ∈ _
  rw [hf]
  exact (ps_keys hi).2.1 k hk
theorem mem_erase_ne {l : List Tl} (hn : (l.map (fun t => t.v.key)).Nodup) {j : Nat} (hj : j < l.length) {t : Tl} (ht : t ∈ l.eraseIdx j) : t.v.key ≠ (l.getD j tl0).v.key := by
  intro e
  obtain ⟨i, hi, rfl⟩ := List.getElem_of_mem ht
  rw [List.length_eraseIdx, if_pos hj] at hi
  have hn2 := hn
  rw [List.getElem_eraseIdx] at e
  rw [List.getD_eq_getElem?_getD, List.getElem?_eq_getElem hj] at e
  simp only [Option.getD_some] at e
  have key : ∀ a (ha : a < l.length), l[a].v.key = l[j].v.key → a = j := by
    intro a ha h
    have h1 : (l.map (fun t => t.v.key))[a]'(by rw [List.length_map]; exact ha) = (l.map (fun t => t.v.key))[j]'(by rw [List.length_map]; exact hj) := by simpa using h
    exact (List.getElem_inj hn2).1 h1
  split at e
  · have := key _ _ e; omega
  · have := key _ _ e; omega
theorem WayI.take {s : RS} {f : Tx → Ver} {g : List Bool} {l : List Tl} (h : WayI s f g l) (hf : ∀ k, (f k).key = k) {j : Nat} (hj : j < l.length) : WayI s f (g.set (ixN s.nm (l.getD j tl0).v.key) true) (l.eraseIdx j) := by
  have hm : l.getD j tl0 ∈ l := getD_mem_lt tl0 hj
  have hr := h.right _ hm
  have hix := idx_lt hr.2.1
  refine ⟨by rw [List.length_set]; exact h.gl, fun t ht => ?_, fun k hk ho => ?_, ?_⟩
  · have hne := mem_erase_ne h.nd hj ht
    have htl : t ∈ l := List.mem_of_mem_eraseIdx ht
    have h1 := h.right t htl
    refine ⟨h1.1, h1.2.1, ?_⟩
    rw [getD_setV g _ _ _ true (by rw [h.gl]; exact hix), if_neg (fun e => hne (ix_inj h1.2.1 hr.2.1 e))]
    exact h1.2.2
  · rw [getD_setV g _ _ _ true (by rw [h.gl]; exact hix)] at ho
    split at ho
    · cases ho
    · rename_i hne
      obtain ⟨t, ht, hk2⟩ := h.all k hk ho
      refine ⟨t, ?_, hk2⟩
      rw [List.mem_eraseIdx_iff_getElem]
      obtain ⟨i, hi, e⟩ := List.getElem_of_mem ht
      refine ⟨i, hi, fun e2 => hne ?_, e⟩
      subst e2
      rw [List.getD_eq_getElem?_getD, List.getElem?_eq_getElem hi, e]
      show ixN s.nm k = ixN s.nm t.v.key
      rw [hk2]
  · exact List.Nodup.sublist (List.Sublist.map _ (List.eraseIdx_sublist l j)) h.nd
theorem WayI.none {s : RS} {f : Tx → Ver} {g : List Bool} {l : List Tl} (h : WayI s f g l) (h1 : 1 ≤ s.parts) : undone (cmS s f g) = [] ↔ l = [] := by
  rw [undone_cm h1]
  constructor
  · intro ha
    rcases l with _ | ⟨t, r⟩
    · rfl
    · have h2 := h.right t (by simp)
      have := ha _ h2.2.1
      rw [h2.2.2] at this; cases this
  · intro e k hk
    cases ho : g.getD (ixN s.nm k) true with
    | true => rfl
    | false =>
      obtain ⟨t, ht, _⟩ := h.all k hk ho
      rw [e] at ht; cases ht
theorem nodup_getD {l : List Tx} (hn : l.Nodup) {a b : Nat} (ha : a < l.length) (hb : b < l.length) (h : l.getD a e0 = l.getD b e0) : a = b := by
  rw [List.getD_eq_getElem?_getD, List.getElem?_eq_getElem ha, List.getD_eq_getElem?_getD, List.getElem?_eq_getElem hb] at h
  exact (List.getElem_inj hn).1 h
theorem WayI.full {s : RS} {f : Tx → Ver} {g : List Bool} {l : List Tl} (h : WayI s f g l) (h1 : 1 ≤ s.parts) (hn : s.nm.Nodup) (hl : l = []) : g = List.replicate s.nm.length true := by
  have hu := (undone_cm (f := f) h1).1 ((h.none h1).2 hl)
  refine getD_ext true (by rw [h.gl, List.length_replicate]) (fun j hj => ?_)
  have hj' : j < s.nm.length := by rw [← h.gl]; exact hj
  have hk : s.nm.getD j e0 ∈ s.nm := getD_mem_lt e0 hj'
  have h2 := hu _ hk
  have e : ixN s.nm (s.nm.getD j e0) = j := by
    have h3 := idx_at hk
    have h4 := idx_lt hk
    exact nodup_getD hn h4 hj' h3
  rw [e] at h2
  rw [h2]
  simp [List.getD_eq_getElem?_getD, hj']
/-- the round's end, all answered -/
def finS (s : RS) (f : Tx → Ver) : RS := cmS s f (List.replicate s.nm.length true)
/-- what a Receive of the j-th does -/
theorem WayI.recv {s : RS} {f : Tx → Ver} {g : List Bool} {l : List Tl} (h : WayI s f g l) (h1 : 1 ≤ s.parts) (hn : s.nm.Nodup) (he : s.ended = 0) (hf : ∀ k, (f k).key = k) {j : Nat} (hj : j < l.length) (fr st t : Nat) :
    recvO (cmS s f g) (l.getD j tl0).part 7 (l.getD j tl0).req [(l.getD j tl0).v] fr st t =
      if l.eraseIdx j = [] then behindO (finS s f) fr st t else ⟨cmS s f (g.set (ixN s.nm (l.getD j tl0).v.key) true), [], t⟩ := by
  have hm : l.getD j tl0 ∈ l := getD_mem_lt tl0 hj
  obtain ⟨hr, hkn, ho⟩ := h.right _ hm
  have hw := h.take hf hj
  obtain ⟨i, k, hi, hk, e⟩ := hr
  rw [e] at ho hw hkn ⊢
  have hv : (f k).key = k := hf k
  simp only at ho hw hkn ⊢
  rw [hv] at ho hw hkn
  rw [recv_open h1 he h.gl hi hk ho hv fr st t, hv]
  by_cases hl : l.eraseIdx j = []
  · rw [if_pos hl]
    have := hw.full h1 hn hl
    unfold finS
    rw [← this]
  · rw [if_neg hl]
    unfold behindO
    rw [if_neg (fun hu => hl ((hw.none h1).1 hu))]
/-- a question of an earlier round -/
theorem recv_old {s : RS} {req : Nat} (h : ∀ i, i < (psR s).length → s.reqs.getD i 0 ≠ req) (part kind : Int) (l : List Ver) (fr st t : Nat) : recvO s part kind req l fr st t = ⟨s, [], t⟩ := by
  unfold recvO
  split
  · have : idxQ (hitR part req) (askedR s) = Option.none := by
      refine idxQ_none (fun j hj => ?_)
      rw [askedR_len] at hj
      rw [askedR_at hj]
      unfold hitR
      have hne : ¬ (qAt s ((undone s).getD j 0)).req = req := h _ (undone_lt hj)
      rw [decide_eq_false hne, Bool.and_false]
    rw [this]
  · rfl
end Go.Proofs.Ytileipnoiocdlaa
