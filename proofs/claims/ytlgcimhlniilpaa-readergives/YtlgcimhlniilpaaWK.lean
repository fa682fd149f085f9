import Derived.Test.YtlgcimhlniilpaaWJ
/- What ReaderGives holds. -/
namespace Go.Proofs.Ytlgcimhlniilpaa
open Go.RowKit Go.Sort Orl
set_option linter.unusedVariables false
set_option linter.unusedSimpArgs false

/-- the law's world, as it stands -/
structure Wd (w w1 : World) (A : Nat) (P : Nat) (o : Option Addr) (n c : Nat) (rs : List RWr) (ws : List Wr) : Prop where
  box : w1.heap[A]? = some (.cells #[.int .i64 (P : Nat), .slice o n c] 59 (0, 0))
  wrs : Wrs w1 o c rs ws
  good : GoodW ws
  len : n = ws.length
  p1 : 1 ≤ P
  p2 : P ≤ 64
  kp : Keeps no w w1
theorem Wd.keepsN {w w1 w2 : World} {A : Nat} {P : Nat} {o : Option Addr} {n c : Nat} {rs : List RWr} {ws : List Wr} (h : Wd w w1 A P o n c rs ws) (k : Keeps no w1 w2) : Wd w w2 A P o n c rs ws := ⟨k.at h.box id, h.wrs.keepsN k, h.good, h.len, h.p1, h.p2, h.kp.trans k⟩
/-- apart from the reader, and newer than the law's world -/
def Zr (w1 : World) (F : Nat → Prop) (cp : Nat) (i : Nat) : Prop := ¬ (F i ∨ i = cp) ∧ w1.heap.size ≤ i
theorem Rc.zr_new {w0 w : World} {p cp fr st : Nat} {s : RS} {t : Nat} {F : Nat → Prop} (h : Rc w0 w p cp fr st s t F) : ∀ i, w.heap.size ≤ i → Zr w0 F cp i := fun i hi => ⟨fun hf => by have := h.lt i hf; omega, Nat.le_trans h.kp.size hi⟩
theorem Zr.tell {w0 w w' : World} {p cp fr st : Nat} {F G : Nat → Prop} {out : Out} {o : Option Addr} {n c : Nat} {rs : List RQ} {i : Nat} (h : Zr w0 F cp i) (hi : i < w.heap.size) (t : Tell w p cp fr st F out o n c rs G w') : Zr w0 G cp i := by
  refine ⟨fun hg => ?_, h.2⟩
  rcases hg with hg | hg
  · rcases t.foot i hg with h1 | h1
    · exact h.1 (.inl h1)
    · omega
  · exact h.1 (.inr hg)
theorem OwnT.tag {α : Type} {E : El α} {w : World} {o : Option Addr} {c : Nat} {xs : List α} (h : OwnT E w o c xs) : ∀ i, inO o i → ∃ cur, w.heap[i]? = some (.cells cur E.e (0, 0)) := by
  rintro i ⟨x, e, rfl⟩
  rcases h.ex with ⟨h1, _⟩ | ⟨g, off, cur, rfl, hg, _⟩
  · rw [h1] at e; cases e
  · cases e; exact ⟨cur, hg⟩
/-- a reader, answers on their way, questions gathered -/
structure Gv (w5 wr : World) (p cp : Nat) (s : RS) (t : Nat) (F : Nat → Prop) (ol : Option Addr) (cl : Nat) (rs : List RT) (ts : List Tl) (oo : Option Addr) (co : Nat) (rq : List RQ) (qs : List Qn) (N : Nat) : Prop where
  rc : Rc w5 wr p cp 1 1 s t F
  tls : Tls wr (Zr w5 F cp) ol cl rs ts
  out : OutS wr (Zr w5 F cp) oo co rq qs
  tb : t + 64 * N ≤ 20000
  qb : qs.length + 64 * N ≤ 20000
theorem Gv.keepsN {w5 wr w' : World} {p cp : Nat} {s : RS} {t : Nat} {F : Nat → Prop} {ol : Option Addr} {cl : Nat} {rs : List RT} {ts : List Tl} {oo : Option Addr} {co : Nat} {rq : List RQ} {qs : List Qn} {N : Nat} (h : Gv w5 wr p cp s t F ol cl rs ts oo co rq qs N) (k : Keeps no wr w') : Gv w5 w' p cp s t F ol cl rs ts oo co rq qs N := ⟨h.rc.keepsN k, h.tls.keepsN k, h.out.keepsN k, h.tb, h.qb⟩
/-- one more on its way -/
theorem Gv.push {w5 wr w2 w' : World} {p cp : Nat} {s : RS} {t : Nat} {F : Nat → Prop} {ol o' : Option Addr} {cl c' : Nat} {rs : List RT} {ts : List Tl} {oo : Option Addr} {co : Nat} {rq : List RQ} {qs : List Qn} {N : Nat} (h : Gv w5 wr p cp s t F ol cl rs ts oo co rq qs N) (k : Keeps no wr w2) {r : RT} {x : Tl} (h1 : r.part = x.part) (h2 : r.req = x.req) (hm : MsgAt w2 (fun i => Zr w5 F cp i ∧ ¬ inO ol i) r.B x.v) (hf : FitV x.v) (ho : OwnT LE w' o' c' (rs ++ [r])) (ha : Ap w2 ol o' w') :
    Gv w5 w' p cp s t F o' c' (rs ++ [r]) (ts ++ [x]) oo co rq qs N ∧ Keeps (inO ol) wr w' := by
  have h0 := h.keepsN k
  have kw : Keeps (inO ol) w2 w' := by
    rcases ha with ⟨_, k1⟩ | ⟨_, k1⟩
    · exact k1
    · exact k1.of_no
  refine ⟨⟨h0.rc.keeps kw (fun i hi hb => (h.tls.blk i hb).1 hi) (fun i hb => (h.tls.blk i hb).2), h.tls.push k (fun i hi => h0.rc.zr_new i hi) h1 h2 hm hf ho ha, h0.out.keepsT kw (fun b hb => ?_), h.tb, h.qb⟩, k.of_no.trans kw⟩
  obtain ⟨cur, hc⟩ := h0.tls.own.tag b hb
  exact ⟨cur, _, _, hc, by decide, by decide, by decide⟩
/-- while answers are taken -/
structure Gi (w5 wr : World) (hI : Nat) (p cp : Nat) (s : RS) (t : Nat) (F : Nat → Prop) (ol : Option Addr) (cl : Nat) (rs : List RT) (ts : List Tl) (oo : Option Addr) (co : Nat) (rq : List RQ) (qs : List Qn) (N : Nat) : Prop where
  rc : Rc w5 wr p cp 1 1 s t F
  tls : Tls wr (fun i => Zr w5 F cp i ∧ i < hI) ol cl rs ts
  out : OutS wr (fun i => Zr w5 F cp i ∧ hI ≤ i) oo co rq qs
  hi : hI ≤ wr.heap.size
  tb : t + 64 * N ≤ 20000
  qb : qs.length + 64 * N ≤ 20000
theorem Gi.keepsN {w5 wr w' : World} {hI : Nat} {p cp : Nat} {s : RS} {t : Nat} {F : Nat → Prop} {ol : Option Addr} {cl : Nat} {rs : List RT} {ts : List Tl} {oo : Option Addr} {co : Nat} {rq : List RQ} {qs : List Qn} {N : Nat} (h : Gi w5 wr hI p cp s t F ol cl rs ts oo co rq qs N) (k : Keeps no wr w') : Gi w5 w' hI p cp s t F ol cl rs ts oo co rq qs N := ⟨h.rc.keepsN k, h.tls.keepsN k, h.out.keepsN k, Nat.le_trans h.hi k.size, h.tb, h.qb⟩
theorem Gi.tail {w5 wr : World} {hI : Nat} {p cp : Nat} {s : RS} {t : Nat} {F : Nat → Prop} {g o2 cl : Nat} {rs : List RT} {ts : List Tl} {oo : Option Addr} {co : Nat} {rq : List RQ} {qs : List Qn} {N : Nat} (h : Gi w5 wr hI p cp s t F (some ⟨g, o2, none⟩) cl rs ts oo co rq qs N) (hl : 0 < ts.length) : Gi w5 wr hI p cp s t F (some ⟨g, o2 + 9, none⟩) (cl - 1) rs.tail ts.tail oo co rq qs N ∧ 1 ≤ cl ∧ ts.length ≤ cl ∧ (cl = 1 → Gi w5 wr hI p cp s t F (some ⟨g, o2, none⟩) 0 [] [] oo co rq qs N) := by
  have h1 := h.tls.tail hl
  have hc : ts.length ≤ cl := by have := h.tls.own.sl.cap; have := h.tls.len; omega
  refine ⟨⟨h.rc, h1.1, h.out, h.hi, h.tb, h.qb⟩, h1.2, hc, fun e => ⟨h.rc, ⟨h.tls.own.cut0 (by omega), rfl, fun j hj => by simp at hj, h.tls.blk⟩, h.out, h.hi, h.tb, h.qb⟩⟩
theorem Gi.gv {w5 wr : World} {hI : Nat} {p cp : Nat} {s : RS} {t : Nat} {F : Nat → Prop} {ol : Option Addr} {cl : Nat} {rs : List RT} {ts : List Tl} {oo : Option Addr} {co : Nat} {rq : List RQ} {qs : List Qn} {N : Nat} (h : Gi w5 wr hI p cp s t F ol cl rs ts oo co rq qs N) : Gv w5 wr p cp s t F ol cl rs ts oo co rq qs N :=
  ⟨h.rc, h.tls.mono (fun i h1 _ => h1.1), h.out.mono (fun i h1 _ => h1.1), h.tb, h.qb⟩
theorem Gv.gi {w5 wr : World} {p cp : Nat} {s : RS} {t : Nat} {F : Nat → Prop} {ol : Option Addr} {cl : Nat} {rs : List RT} {ts : List Tl} {oo : Option Addr} {co : Nat} {rq : List RQ} {qs : List Qn} {N : Nat} (h : Gv w5 wr p cp s t F ol cl rs ts oo co rq qs N) : Gi w5 wr wr.heap.size p cp s t F ol cl rs ts none 0 [] [] N :=
  ⟨h.rc, h.tls.mono (fun i h1 h2 => ⟨h1, h2⟩), outS_nil _ _, Nat.le_refl _, h.tb, by have := h.qb; simp; omega⟩
/-- behind a Receive -/
structure Gx (w5 wr w' : World) (hI : Nat) (p cp : Nat) (O : Out) (G : Nat → Prop) (ol : Option Addr) (cl : Nat) (rs : List RT) (ts : List Tl) (oo : Option Addr) (co : Nat) (rq : List RQ) (qs : List Qn) (o2 : Option Addr) (c2 : Nat) (r2 : List RQ) : Prop where
  rc : Rc w5 w' p cp 1 1 O.s O.t G
  tls : Tls w' (fun i => Zr w5 G cp i ∧ i < hI) ol cl rs ts
  out : OutS w' (fun i => Zr w5 G cp i ∧ hI ≤ i) oo co rq qs
  told : OutS w' (fun i => Zr w5 G cp i ∧ hI ≤ i) o2 c2 r2 O.told
  hi : hI ≤ w'.heap.size
theorem Gi.tell {w5 wr w' : World} {hI : Nat} {p cp : Nat} {s : RS} {t : Nat} {F G : Nat → Prop} {ol : Option Addr} {cl : Nat} {rs : List RT} {ts : List Tl} {oo : Option Addr} {co : Nat} {rq : List RQ} {qs : List Qn} {N : Nat} {O : Out} {o2 : Option Addr} {n2 c2 : Nat} {r2 : List RQ} (h : Gi w5 wr hI p cp s t F ol cl rs ts oo co rq qs N) (ht : Tell wr p cp 1 1 F O o2 n2 c2 r2 G w') (hw : WfR O.s) (hb : TB2 O t) : Gx w5 wr w' hI p cp O G ol cl rs ts oo co rq qs o2 c2 r2 := by
  refine ⟨h.rc.tell ht hw, ?_, ?_, ?_, Nat.le_trans h.hi ht.kp.size⟩
  · have h1 := h.tls.mono (Y := fun i => (Zr w5 F cp i ∧ i < hI) ∧ i < wr.heap.size) (fun i h1 h2 => ⟨h1, h2⟩)
    exact (h1.keeps ht.kp (fun i h1 _ => h1.1.1.1)).mono (fun i h1 _ => ⟨h1.1.1.tell h1.2 ht, h1.1.2⟩)
  · have h1 := h.out.mono (Y := fun i => (Zr w5 F cp i ∧ hI ≤ i) ∧ i < wr.heap.size) (fun i h1 h2 => ⟨h1, h2⟩)
    exact (h1.keeps ht.kp (fun i h1 _ => h1.1.1.1)).mono (fun i h1 _ => ⟨h1.1.1.tell h1.2 ht, h1.1.2⟩)
  · exact ht.tq.outS hb.f _ (fun i hi => ⟨⟨ht.far (lt_of_block h.rc.ct) i hi, Nat.le_trans h.rc.kp.size (ht.new i hi)⟩, Nat.le_trans h.hi (ht.new i hi)⟩)
theorem Gx.app {w5 wr w1 w' : World} {hI : Nat} {p cp : Nat} {O : Out} {G : Nat → Prop} {ol : Option Addr} {cl : Nat} {rs : List RT} {ts : List Tl} {oo o' : Option Addr} {co c' : Nat} {rq : List RQ} {qs : List Qn} {o2 : Option Addr} {c2 : Nat} {r2 : List RQ} {N : Nat} (h : Gx w5 wr w1 hI p cp O G ol cl rs ts oo co rq qs o2 c2 r2) (ho : Own QE w' o' c' (rq ++ r2)) (ha : Ap w1 oo o' w') (htb : O.t + 64 * N ≤ 20000) (hqb : qs.length + O.told.length + 64 * N ≤ 20000) : Gi w5 w' hI p cp O.s O.t G ol cl rs ts o' c' (rq ++ r2) (qs ++ O.told) N := by
  have kw : Keeps (inO oo) w1 w' := by
    rcases ha with ⟨_, k1⟩ | ⟨_, k1⟩
    · exact k1
    · exact k1.of_no
  have hb : ∀ i, inO oo i → Zr w5 G cp i ∧ hI ≤ i := fun i hi => h.out.blk i (.inl hi)
  refine ⟨h.rc.keeps kw (fun i hi hz => (hb i hz).1.1 hi) (fun i hz => (hb i hz).1.2), h.tls.keeps kw (fun i h1 _ hz => by have := (hb i hz).2; omega), h.out.app h.told (fun i hi => ⟨h.rc.zr_new i hi, Nat.le_trans h.hi hi⟩) ho ha, Nat.le_trans h.hi kw.size, htb, by rw [List.length_append]; exact hqb⟩
theorem At9.keepsN {w w' : World} {b off j k : Nat} {r : RQ} (h : At9 w b off j k r) (hk : Keeps no w w') : At9 w' b off j k r := ⟨hk.cellN h.c0, hk.cellN h.c1, hk.cellN h.c2, hk.cellN h.c3, hk.cellN h.c4, hk.cellN h.c5, hk.cellN h.c6, hk.cellN h.c7, hk.cellN h.c8⟩
/-- messages that stay -/
theorem Msgs.keeps {S : Nat → Prop} {w w' : World} {Z : Nat → Prop} {o : Option Addr} {c : Nat} {rs : List RM} {vs : List Ver} {req : Nat} (h : Msgs w Z o c rs vs req) (k : Keeps S w w') (hs : ∀ i, Z i → ¬ S i) : Msgs w' Z o c rs vs req := ⟨h.own.keeps k (fun i hi => hs i (h.blk i hi)), h.len, fun j hj => ⟨(h.each j hj).1, (h.each j hj).2.keeps k (fun i h1 _ => hs i h1.1)⟩, h.blk⟩
theorem Msgs.mono {w : World} {Z Y : Nat → Prop} {o : Option Addr} {c : Nat} {rs : List RM} {vs : List Ver} {req : Nat} (h : Msgs w Z o c rs vs req) (hy : ∀ i, Z i → i < w.heap.size → Y i) : Msgs w Y o c rs vs req := ⟨h.own, h.len, fun j hj => ⟨(h.each j hj).1, (h.each j hj).2.mono (fun i h1 h2 => ⟨hy i h1.1 h2, h1.2⟩)⟩, fun i hi => hy i (h.blk i hi) (h.own.lt i hi)⟩
structure At8m (w : World) (b off : Nat) (r : RM) : Prop where
  c0 : w.cell? ⟨b, off, none⟩ = some (.int .i64 7)
  c1 : w.cell? ⟨b, off + 1, none⟩ = some (.int .i64 3)
  c2 : w.cell? ⟨b, off + 2, none⟩ = some (.int .u64 (r.req : Nat))
  c3 : w.cell? ⟨b, off + 3, none⟩ = some (.int .u64 0)
  c4 : w.cell? ⟨b, off + 4, none⟩ = some (.slice none 0 0)
  c5 : w.cell? ⟨b, off + 5, none⟩ = some (.slice none 0 0)
  c6 : w.cell? ⟨b, off + 6, none⟩ = some (.slice none 0 0)
  c7 : w.cell? ⟨b, off + 7, none⟩ = some (.slice (some ⟨r.B, 0, none⟩) 1 1)
theorem At8m.keepsN {w w' : World} {b off : Nat} {r : RM} (h : At8m w b off r) (k : Keeps no w w') : At8m w' b off r := ⟨k.cellN h.c0, k.cellN h.c1, k.cellN h.c2, k.cellN h.c3, k.cellN h.c4, k.cellN h.c5, k.cellN h.c6, k.cellN h.c7⟩
theorem Msgs.at {w : World} {Z : Nat → Prop} {o : Option Addr} {c : Nat} {rs : List RM} {vs : List Ver} {req : Nat} (h : Msgs w Z o c rs vs req) {j : Nat} (hj : j < vs.length) : ∃ b, o = some ⟨b, 0, none⟩ ∧ At8m w b (j * 8) (rs.getD j rm0) := by
  have hjr : j < rs.length := by rw [h.len]; exact hj
  rcases h.own.shape with ⟨_, _, e⟩ | ⟨g, cur, e, hg, _⟩
  · rw [e] at hjr; simp at hjr
  · rcases h.own.row with e2 | ⟨b, off, e2, hc⟩
    · rw [e2] at hjr; simp at hjr
    · rw [e] at e2
      cases e2
      have key : ∀ i, i < 8 → ∀ u, (ME.enc (rs.getD j rm0))[i]? = some u → w.cell? ⟨g, j * 8 + i, none⟩ = some u := by
        intro i hi u hu
        have := cells_at okM rm0 rs j i hjr hi
        have h3 := hc (j * 8 + i) u (by rw [show j * 8 + i = j * ME.k + i from rfl, this]; exact hu)
        rwa [Nat.zero_add] at h3
      exact ⟨g, e, key 0 (by decide) _ rfl, key 1 (by decide) _ rfl, key 2 (by decide) _ rfl, key 3 (by decide) _ rfl, key 4 (by decide) _ rfl, key 5 (by decide) _ rfl, key 6 (by decide) _ rfl, key 7 (by decide) _ rfl⟩
theorem ver_fit {ws : List Wr} (h : GoodW ws) {k : Tx} (hk : k.size ≤ 65535) {i : Nat} (hi : i < ws.length) : FitV (verP ws i k) := by
  have hv := (valK_iff _).1 (h.val i hi)
  have hl := h.len
  refine ⟨by show (i + 1) * 65536 < _; omega, by show k.size ≤ _; omega, ?_, ?_, fun s hs => ?_⟩
  · show (k ++ tag1 i).size ≤ _
    have : (tag1 i).size = 1 := rfl
    rw [ByteArray.size_append]; omega
  · show (isT _).length ≤ _
    unfold isT
    rw [isort_length]; have := hv.1.2; omega
  · have : s ∈ (ws.getD i wr0).1 := (isort_perm e0 _).mem_iff.1 hs
    have := hv.2.1 s this
    omega
/-- a version told by the law's world may be -/
theorem lat_fit {P : Nat} {ws : List Wr} (h : GoodW ws) {k : Tx} (hk : k.size ≤ 65535) : ∀ j, j ≤ ws.length → FitV (latP P ws k j)
  | 0, _ => ⟨by show (0 : Nat) < _; decide, by show k.size ≤ _; omega, by show e0.size ≤ _; decide, by show (0 : Nat) ≤ _; decide, fun s hs => by cases hs⟩
  | j + 1, hj => by
    unfold latP
    split
    · exact ver_fit h hk (by omega)
    · exact lat_fit h hk j (by omega)
theorem ask_fit {P : Nat} {ws : List Wr} (h : GoodW ws) {gone : Nat} {q : Qn} (hq : FitA q) : ∀ v ∈ askV P ws gone q, FitV v := by
  intro v hv
  unfold askV at hv
  rcases List.mem_append.1 hv with hv | hv
  · obtain ⟨k, hk, rfl⟩ := List.mem_map.1 hv
    exact lat_fit h (hq.kz k hk) _ (Nat.le_refl _)
  · obtain ⟨x, hx, rfl⟩ := List.mem_map.1 hv
    have hz := (hq.wz x hx).1
    unfold wantV
    split
    · rename_i h1
      exact ver_fit h hz (by omega)
    · exact ⟨by show (0 : Nat) < _; decide, by show x.1.size ≤ _; omega, by show e0.size ≤ _; decide, by show (0 : Nat) ≤ _; decide, fun s hs => by cases hs⟩
theorem ask_len {P : Nat} {ws : List Wr} {gone : Nat} {q : Qn} (hq : FitA q) : (askV P ws gone q).length ≤ 4000 := by
  unfold askV
  rw [List.length_append, List.length_map, List.length_map]
  have := hq.kl
  have := hq.wl
  omega
end Go.Proofs.Ytlgcimhlniilpaa
