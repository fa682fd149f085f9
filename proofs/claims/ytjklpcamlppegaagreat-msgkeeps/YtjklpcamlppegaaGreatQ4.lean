/- The program's read. -/
import Derived.Test.YtjklpcamlppegaaGreatQ3
namespace Go.Proofs.YtjklpcamlppegaaGreat
open Go.RowKit Go.Sort Orl Pk
set_option linter.unusedVariables false
set_option linter.unusedSimpArgs false

/-- a message that a call tells: its lists are new, and the call's own -/
structure Fresh8 (w w' : World) (op : Option Addr) (ok : Option Addr) (nk ck : Nat) (ow : Option Addr) (ov : Option Addr) (nv : Nat) (rs : List RV) (m : Msg) : Prop where
  np : New w op
  nk : New w ok
  nw : New w ow
  nv : New w ov
  ks : Own TE w' ok ck m.keys
  vs : ∀ j, j < rs.length → Own TE w' (rs.getD j r0).o (rs.getD j r0).c (m.vers.getD j v0).keys ∧ New w (rs.getD j r0).o
  one : ok = none ∨ rs = []
  few : rs.length ≤ 1
/-- what read tells -/
def ReadTo (w : World) (a : Nat) (R : Msg × RS) (e : Ending) (w' : World) : Prop :=
  ∃ (k cl : Int) (q i : Nat) (op : Option Addr) (np cp : Nat) (ok : Option Addr) (nk ck : Nat) (ow : Option Addr) (nw cw : Nat) (ov : Option Addr) (nv cv : Nat) (rs : List RV),
    e = .returned (.tuple #[.agg #[.int .i64 k, .int .i64 cl, .int .u64 (q : Nat), .int .u64 (i : Nat), .slice op np cp, .slice ok nk ck, .slice ow nw cw, .slice ov nv cv], .bool (rend0 R.2)]) ∧
    Hid (IsM w' k cl q i op np cp ok nk ck ow nw cw ov nv cv rs R.1) ∧ Fresh8 w w' op ok nk ck ow ov nv rs R.1 ∧ Keeps (eqA a) w w'
theorem rend_rend0 (st : RS) : ((rend st.1 st.2 : Nat) : Int) = 0 ↔ rend0 st = true := by
  obtain ⟨b, e⟩ := st
  unfold rend rend0
  rw [decide_eq_true_eq]
  simp only
  by_cases he : e = 0
  · subst he
    cases b with
    | nil => simp
    | cons x l => simp
  · simp [he]
theorem loadM {w : World} {g : Nat} {a0 a1 a2 a3 a4 a5 a6 a7 : Value} (h : w.heap[g]? = some (.cells #[a0, a1, a2, a3, a4, a5, a6, a7] 29 (0, 0))) : (loadVar 29 ⟨g, 0, none⟩).run Tryz.prog w = .ok (.agg #[a0, a1, a2, a3, a4, a5, a6, a7]) w :=
  run_loadVar_row _ _ _ _ _ _ _ h Tryz.underlying29 rfl (msg_size _ _ _ _ _ _ _ _)
theorem loadMd {w : World} {g : Nat} {a0 a1 a2 a3 a4 a5 a6 a7 : Value} (h : w.heap[g]? = some (.cells #[a0, a1, a2, a3, a4, a5, a6, a7] 29 (0, 0))) : (loadVar 29 ⟨g, 0, none⟩).run Tryz.prog w.drew = .ok (.agg #[a0, a1, a2, a3, a4, a5, a6, a7]) w.drew := loadM (w := w.drew) h
def set8w (w : World) (g : Nat) (a0 a1 a2 a3 a4 a5 a6 a7 : Value) : World := ((((((((w.setCell ⟨g, 0, none⟩ a0).setCell ⟨g, 1, none⟩ a1).setCell ⟨g, 2, none⟩ a2).setCell ⟨g, 3, none⟩ a3).setCell ⟨g, 4, none⟩ a4).setCell ⟨g, 5, none⟩ a5).setCell ⟨g, 6, none⟩ a6).setCell ⟨g, 7, none⟩ a7)
theorem set8 {w : World} {g : Nat} {z0 z1 z2 z3 z4 z5 z6 z7 : Value} {t : TypeId} (h : w.heap[g]? = some (.cells #[z0, z1, z2, z3, z4, z5, z6, z7] t (0, 0))) (a0 a1 a2 a3 a4 a5 a6 a7 : Value) :
    (set8w w g a0 a1 a2 a3 a4 a5 a6 a7).heap[g]? = some (.cells #[a0, a1, a2, a3, a4, a5, a6, a7] t (0, 0)) ∧ Keeps (eqA g) w (set8w w g a0 a1 a2 a3 a4 a5 a6 a7) := by
  unfold set8w
  have h1 : (w.setCell ⟨g, 0, none⟩ a0).heap[g]? = some (.cells #[a0, z1, z2, z3, z4, z5, z6, z7] t (0, 0)) := by rw [blk_set h 0 a0]; rfl
  have k1 : Keeps (eqA g) w (w.setCell ⟨g, 0, none⟩ a0) := (Keeps.refl (eqA g) w).setA 0 a0
  generalize w.setCell ⟨g, 0, none⟩ a0 = w1 at h1 k1 ⊢
  have h2 : (w1.setCell ⟨g, 1, none⟩ a1).heap[g]? = some (.cells #[a0, a1, z2, z3, z4, z5, z6, z7] t (0, 0)) := by rw [blk_set h1 1 a1]; rfl
  have k2 : Keeps (eqA g) w (w1.setCell ⟨g, 1, none⟩ a1) := k1.setA 1 a1
  generalize w1.setCell ⟨g, 1, none⟩ a1 = w2 at h2 k2 ⊢
  have h3 : (w2.setCell ⟨g, 2, none⟩ a2).heap[g]? = some (.cells #[a0, a1, a2, z3, z4, z5, z6, z7] t (0, 0)) := by rw [blk_set h2 2 a2]; rfl
  have k3 : Keeps (eqA g) w (w2.setCell ⟨g, 2, none⟩ a2) := k2.setA 2 a2
  generalize w2.setCell ⟨g, 2, none⟩ a2 = w3 at h3 k3 ⊢
  have h4 : (w3.setCell ⟨g, 3, none⟩ a3).heap[g]? = some (.cells #[a0, a1, a2, a3, z4, z5, z6, z7] t (0, 0)) := by rw [blk_set h3 3 a3]; rfl
  have k4 : Keeps (eqA g) w (w3.setCell ⟨g, 3, none⟩ a3) := k3.setA 3 a3
  generalize w3.setCell ⟨g, 3, none⟩ a3 = w4 at h4 k4 ⊢
  have h5 : (w4.setCell ⟨g, 4, none⟩ a4).heap[g]? = some (.cells #[a0, a1, a2, a3, a4, z5, z6, z7] t (0, 0)) := by rw [blk_set h4 4 a4]; rfl
  have k5 : Keeps (eqA g) w (w4.setCell ⟨g, 4, none⟩ a4) := k4.setA 4 a4
  generalize w4.setCell ⟨g, 4, none⟩ a4 = w5 at h5 k5 ⊢
  have h6 : (w5.setCell ⟨g, 5, none⟩ a5).heap[g]? = some (.cells #[a0, a1, a2, a3, a4, a5, z6, z7] t (0, 0)) := by rw [blk_set h5 5 a5]; rfl
  have k6 : Keeps (eqA g) w (w5.setCell ⟨g, 5, none⟩ a5) := k5.setA 5 a5
  generalize w5.setCell ⟨g, 5, none⟩ a5 = w6 at h6 k6 ⊢
  have h7 : (w6.setCell ⟨g, 6, none⟩ a6).heap[g]? = some (.cells #[a0, a1, a2, a3, a4, a5, a6, z7] t (0, 0)) := by rw [blk_set h6 6 a6]; rfl
  have k7 : Keeps (eqA g) w (w6.setCell ⟨g, 6, none⟩ a6) := k6.setA 6 a6
  generalize w6.setCell ⟨g, 6, none⟩ a6 = w7 at h7 k7 ⊢
  have h8 : (w7.setCell ⟨g, 7, none⟩ a7).heap[g]? = some (.cells #[a0, a1, a2, a3, a4, a5, a6, a7] t (0, 0)) := by rw [blk_set h7 7 a7]; rfl
  have k8 : Keeps (eqA g) w (w7.setCell ⟨g, 7, none⟩ a7) := k7.setA 7 a7
  generalize w7.setCell ⟨g, 7, none⟩ a7 = w8 at h8 k8 ⊢
  exact ⟨h8, k8⟩
def z8 : Array Value := #[.int .i64 0, .int .i64 0, .int .u64 0, .int .u64 0, .slice none 0 0, .slice none 0 0, .slice none 0 0, .slice none 0 0]
theorem Vers.keepsS {S : Nat → Prop} {w w' : World} {o : Option Addr} {c : Nat} {rs : List RV} {vs : List Ver} (h : Vers w o c rs vs) (k : Keeps S w w') (h1 : ∀ j, inO o j → ¬ S j) (h2 : ∀ j, j < rs.length → ∀ i, inO (rs.getD j r0).o i → ¬ S i) : Vers w' o c rs vs :=
  ⟨h.sl.keeps k h1, h.len, fun j hj => ⟨(h.each j hj).key, (h.each j hj).id, (h.each j hj).val, (h.each j hj).n, (h.each j hj).sl.keeps k (h2 j (by rw [h.len]; exact hj))⟩⟩
theorem IsM.keepsS {S : Nat → Prop} {w w' : World} {k cl : Int} {q i : Nat} {op : Option Addr} {np cp : Nat} {ok : Option Addr} {nk ck : Nat} {ow : Option Addr} {nw cw : Nat} {ov : Option Addr} {nv cv : Nat} {rs : List RV} {m : Msg} (h : IsM w k cl q i op np cp ok nk ck ow nw cw ov nv cv rs m) (kp : Keeps S w w')
    (h1 : ∀ j, inO op j → ¬ S j) (h2 : ∀ j, inO ok j → ¬ S j) (h3 : ∀ j, inO ow j → ¬ S j) (h4 : ∀ j, inO ov j → ¬ S j) (h5 : ∀ j, j < rs.length → ∀ i, inO (rs.getD j r0).o i → ¬ S i) : IsM w' k cl q i op np cp ok nk ck ow nw cw ov nv cv rs m :=
  ⟨h.k, h.cl, h.q, h.i, h.np, h.nk, h.nw, h.nv, h.prs.keeps kp h1, h.kys.keeps kp h2, h.wts.keeps kp h3, h.vrs.keepsS kp h4 h5, h.rng, h.fit⟩
theorem own_nil_sl {α : Type} {E : El α} (w : World) : Sl E w none 0 [] := (own_nil w).sl
/-- behind read's last store -/
theorem readTo_mk {w wB W W' : World} {a B : Nat} {R : Msg × RS} {k cl : Int} {q i : Nat} {op : Option Addr} {np cp : Nat} {ok : Option Addr} {nk ck : Nat} {ow : Option Addr} {nw cw : Nat} {ov : Option Addr} {nv cv : Nat} {rs : List RV}
    (hB : B = w.heap.size) (hwB : wB.heap.size = B + 1) (hM : IsM W k cl q i op np cp ok nk ck ow nw cw ov nv cv rs R.1) (hF : Fresh8 wB W op ok nk ck ow ov nv rs R.1) (hk : Keeps (eqA a) w W) (kS : Keeps (eqA B) W W') (st : RS) (hst : R.2 = st) :
    ReadTo w a R (.returned (.tuple #[.agg #[.int .i64 k, .int .i64 cl, .int .u64 (q : Nat), .int .u64 (i : Nat), .slice op np cp, .slice ok nk ck, .slice ow nw cw, .slice ov nv cv], .bool (((rend st.1 st.2 : Nat) : Int) == 0)])) W' := by
  have ne : ∀ {o : Option Addr}, New wB o → ∀ j, inO o j → ¬ eqA B j := by
    intro o hn j hj e
    have := hn j hj
    unfold eqA at e
    omega
  have nw' : ∀ {o : Option Addr}, New wB o → New w o := fun hn j hj => by have := hn j hj; omega
  refine ⟨k, cl, q, i, op, np, cp, ok, nk, ck, ow, nw, cw, ov, nv, cv, rs, ?_, ?_, ?_, ?_⟩
  · have : (((rend st.1 st.2 : Nat) : Int) == 0) = rend0 R.2 := by
      rw [hst, Bool.eq_iff_iff]
      have := rend_rend0 st
      rw [← this]
      simp
    rw [this]
  · exact hM.keepsS kS (ne hF.np) (ne hF.nk) (ne hF.nw) (ne hF.nv) (fun j hj => ne (hF.vs j hj).2)
  · exact ⟨nw' hF.np, nw' hF.nk, nw' hF.nw, nw' hF.nv, hF.ks.keeps kS (ne hF.nk), fun j hj => ⟨(hF.vs j hj).1.keeps kS (ne (hF.vs j hj).2), nw' (hF.vs j hj).2⟩, hF.one, hF.few⟩
  · exact hk.then kS (fun j hj => .inr (by unfold eqA at hj; omega))
theorem fields_of (k : Int) :
    (k = 1 ∧ fId k = true ∧ fKeys k = true ∧ fPairs k = true ∧ fWants k = false ∧ fVers k = false) ∨
    (plainK k ∧ fId k = true ∧ fKeys k = false ∧ fPairs k = false ∧ fWants k = false ∧ fVers k = false) ∨
    (k = 3 ∧ fId k = false ∧ fKeys k = true ∧ fPairs k = false ∧ fWants k = false ∧ fVers k = false) ∨
    (k = 4 ∧ fId k = false ∧ fKeys k = false ∧ fPairs k = false ∧ fWants k = true ∧ fVers k = false) ∨
    (k = 7 ∧ fId k = false ∧ fKeys k = false ∧ fPairs k = false ∧ fWants k = false ∧ fVers k = true) ∨
    ((¬ k = 1 ∧ ¬ plainK k ∧ ¬ k = 3 ∧ ¬ k = 4 ∧ ¬ k = 7) ∧ fId k = false ∧ fKeys k = false ∧ fPairs k = false ∧ fWants k = false ∧ fVers k = false) := by
  by_cases h1 : k = 1
  · subst h1; exact .inl ⟨rfl, rfl, rfl, rfl, rfl, rfl⟩
  by_cases h2 : plainK k
  · refine .inr (.inl ⟨h2, ?_⟩)
    unfold plainK at h2
    rcases h2 with rfl | rfl | rfl | rfl <;> exact ⟨rfl, rfl, rfl, rfl, rfl⟩
  by_cases h3 : k = 3
  · subst h3; exact .inr (.inr (.inl ⟨rfl, rfl, rfl, rfl, rfl, rfl⟩))
  by_cases h4 : k = 4
  · subst h4; exact .inr (.inr (.inr (.inl ⟨rfl, rfl, rfl, rfl, rfl, rfl⟩)))
  by_cases h7 : k = 7
  · subst h7; exact .inr (.inr (.inr (.inr (.inl ⟨rfl, rfl, rfl, rfl, rfl, rfl⟩))))
  refine .inr (.inr (.inr (.inr (.inr ⟨⟨h1, h2, h3, h4, h7⟩, ?_⟩))))
  unfold plainK at h2
  refine ⟨?_, ?_, ?_, ?_, ?_⟩
  · unfold fId; rw [decide_eq_false_iff_not]; omega
  · unfold fKeys; rw [decide_eq_false_iff_not]; omega
  · unfold fPairs; rw [decide_eq_false_iff_not]; omega
  · unfold fWants; rw [decide_eq_false_iff_not]; omega
  · unfold fVers; rw [decide_eq_false_iff_not]; omega
theorem rsEnd {w w1 : World} {a : Nat} {o : Option Addr} {st : RS} (h : RStep 101 w a o st w1) :
    Calls Tryz.prog 67 #[.pointer (some ⟨a, 0, none⟩)] w1 fun e w2 => e = .returned (.int .i64 (rend st.1 st.2 : Nat)) ∧ w2 = w1 := by
  obtain ⟨o1, c1, hR, hS, hK⟩ := h
  exact rEnd_any w1 a o1 c1 st.1 st.2 hR

theorem own_oneV {w : World} {g : Nat} {key : Tx} {id : Nat} {val : Tx} {o : Option Addr} {n c : Nat} (h : w.heap[g]? = some (.cells #[.string key, .int .u64 (id : Nat), .string val, .slice o n c] 46 (0, 0))) : Sl VE w (some ⟨g, 0, none⟩) 1 [⟨key, id, val, o, n, c⟩] := by
  refine ⟨.inr ⟨_, _, rfl, fun j u hj => ?_⟩, by simp, fun e => by cases e⟩
  rw [cell_of_blk h, Nat.zero_add]
  simpa [El.cells, VE] using hj
/-- what read holds while it reads: the message M, its fields F, the result B, the reader -/
structure RdS (w : World) (a B M F : Nat) (o : Option Addr) (cs fs : Array Value) (st : RS) (W : World) : Prop where
  m : W.heap[M]? = some (.cells cs 29 (0, 0))
  f : W.heap[F]? = some (.cells fs 55 (0, 0))
  b : W.heap[B]? = some (.cells #[.int .i64 0, .int .i64 0, .int .u64 0, .int .u64 0, .slice none 0 0, .slice none 0 0, .slice none 0 0, .slice none 0 0] 29 (0, 0))
  r : RStep 101 w a o st W
  k : Keeps (eqA a) w W
  lt : (a < w.heap.size ∧ ∀ k, inO o k → k < w.heap.size) ∧ a < B ∧ B = w.heap.size ∧ B < M ∧ M < F
theorem RdS.size {w : World} {a B M F : Nat} {o : Option Addr} {cs fs : Array Value} {st : RS} {W : World} (h : RdS w a B M F o cs fs st W) : F < W.heap.size := lt_of_block h.f
theorem RdS.call {w : World} {a B M F : Nat} {o : Option Addr} {cs fs : Array Value} {st st' : RS} {W W' : World} (h : RdS w a B M F o cs fs st W) (r : RStep 101 w a o st' W') (k : Keeps (eqA a) W W') : RdS w a B M F o cs fs st' W' :=
  have := h.lt
  ⟨k.at h.m (by unfold eqA; omega), k.at h.f (by unfold eqA; omega), k.at h.b (by unfold eqA; omega), r, h.k.trans k, h.lt⟩
theorem RdS.more {w : World} {a B M F : Nat} {o : Option Addr} {cs fs : Array Value} {st : RS} {W W' : World} (h : RdS w a B M F o cs fs st W) (k : Keeps no W W') : RdS w a B M F o cs fs st W' :=
  ⟨k.at h.m (fun h => h), k.at h.f (fun h => h), k.at h.b (fun h => h), h.r.beside (.inr h.lt.1) k (fun i hi => hi.elim), h.k.trans k.of_no, h.lt⟩
theorem RdS.store {w : World} {a B M F : Nat} {o : Option Addr} {cs fs : Array Value} {st : RS} {W : World} (h : RdS w a B M F o cs fs st W) (i : Nat) (v : Value) : RdS w a B M F o (cs.setIfInBounds i v) fs st (W.setCell ⟨M, i, none⟩ v) := by
  have hl := h.lt
  have kS : Keeps (eqA M) W (W.setCell ⟨M, i, none⟩ v) := (Keeps.refl (eqA M) W).setA i v
  exact ⟨blk_set h.m i v, kS.at h.f (by unfold eqA; omega), kS.at h.b (by unfold eqA; omega), h.r.beside (.inr h.lt.1) kS (fun j hj => by unfold eqA at hj; omega), h.k.then kS (fun j hj => .inr (by unfold eqA at hj; omega)), h.lt⟩
/-- a list of the call's own stays -/
theorem Own.call {α : Type} {E : El α} {w W W' : World} {a B M F : Nat} {o : Option Addr} {cs fs : Array Value} {st : RS} (h : RdS w a B M F o cs fs st W) {oo : Option Addr} {c : Nat} {l : List α} (hO : Own E W oo c l) (hN : ∀ j, inO oo j → F < j) (k : Keeps (eqA a) W W') : Own E W' oo c l :=
  hO.keeps k (fun j hj e => by have := hN j hj; have := h.lt; unfold eqA at e; omega)
theorem Own.store {α : Type} {E : El α} {w W : World} {a B M F : Nat} {o : Option Addr} {cs fs : Array Value} {st : RS} (h : RdS w a B M F o cs fs st W) {oo : Option Addr} {c : Nat} {l : List α} (hO : Own E W oo c l) (hN : ∀ j, inO oo j → F < j) (i : Nat) (v : Value) : Own E (W.setCell ⟨M, i, none⟩ v) oo c l :=
  hO.keeps ((Keeps.refl (eqA M) W).setA i v) (fun j hj e => by have := hN j hj; have := h.lt; unfold eqA at e; omega)

set_option maxRecDepth 10000 in
set_option maxHeartbeats 2000000 in
theorem read_any (w : World) (a : Nat) (o : Option Addr) (c : Nat) (b : List Nat) (hR : IsR 101 w a o c b 0) :
    Calls Tryz.prog 33 #[.pointer (some ⟨a, 0, none⟩)] w (ReadTo w a (rmsg b)) := by
  have HLT : Hid (a < w.heap.size ∧ ∀ k, inO o k → k < w.heap.size) := ⟨lt_of_block hR.blk, hR.live⟩
  have haw : a < w.heap.size := HLT.out.1
  have h0 := RStep.beside (RStep.start hR) (.inr HLT.out) ((Keeps.refl no _).alloc (.cells #[.int .i64 0, .int .i64 0, .int .u64 0, .int .u64 0, .slice none 0 0, .slice none 0 0, .slice none 0 0, .slice none 0 0] 29)) (fun i hi => hi.elim)
  have kB : Keeps (eqA a) w (w.alloc (.cells #[.int .i64 0, .int .i64 0, .int .u64 0, .int .u64 0, .slice none 0 0, .slice none 0 0, .slice none 0 0, .slice none 0 0] 29)) := (Keeps.refl _ _).alloc _
  have HBY : Hid (∀ c ∈ b, c < 256) := hR.sl.row.1
  clear hR
  obtain ⟨R, hRR⟩ : ∃ R, R = rmsg b := ⟨_, rfl⟩
  rw [← hRR]
  have HRR : Hid (R = rmsg b) := hRR
  clear hRR
  go_enter Tryz.func33, Tryz.ntmps33
  go_wp2_with fail
  refine (rsU8 h0).mono ?_
  rintro e w1 ⟨⟨K, rfl, hK, hKb⟩, h1, hk1⟩
  go_wp2_with fail
  refine (rsU8 h1).mono ?_
  rintro e w2 ⟨⟨C, rfl, hC, hCb⟩, h2, hk2⟩
  go_wp2_with fail
  refine (rsU64 h2).mono ?_
  rintro e w3 ⟨⟨Q, rfl, hQ, hQb⟩, h3, hk3⟩
  have HS : Hid (R = rfield K C Q (rnum 8 (rnum 1 (rnum 1 (b, 0)).2).2).2) := by
    show _ = _
    rw [HRR.out]
    unfold rmsg; rw [hK.out, hC.out, hQ.out]
  have HFIT := rfield_fit K C Q (rnum 8 (rnum 1 (rnum 1 (b, 0)).2).2).2 h3.byt hKb hCb hQb
  rw [← HS.out] at HFIT
  have HF : Hid (Rng R.1 ∧ FitM R.1) := HFIT
  generalize (rnum 8 (rnum 1 (rnum 1 (b, 0)).2).2).2 = S at h3 HS
  have hk13 := (hk1.trans hk2).trans hk3
  have hB3 : w3.heap[w.heap.size]? = some (.cells #[.int .i64 0, .int .i64 0, .int .u64 0, .int .u64 0, .slice none 0 0, .slice none 0 0, .slice none 0 0, .slice none 0 0] 29 (0, 0)) := hk13.at (blk_new w _) (by unfold eqA; omega)
  have HB3 : Hid (w3.heap[w.heap.size]? = some (.cells #[.int .i64 0, .int .i64 0, .int .u64 0, .int .u64 0, .slice none 0 0, .slice none 0 0, .slice none 0 0, .slice none 0 0] 29 (0, 0))) := hB3
  have hk03 := kB.trans hk13
  have hsz3 : w.heap.size + 1 ≤ w3.heap.size := by have := hk13.size; simpa using this
  clear hB3 hk13 hk1 hk2 hk3 h0 h1 h2 HFIT hK hC hQ kB
  have k4 : Keeps no w3 (w3.alloc (.cells #[.int .i64 (K : Nat), .int .i64 (C : Nat), .int .u64 (Q : Nat), .int .u64 0, .slice none 0 0, .slice none 0 0, .slice none 0 0, .slice none 0 0] 29)) := (Keeps.refl _ _).alloc _
  go_wp2_with fail
  refine (fieldsOf_any _ K).mono ?_
  rintro e w4 ⟨rfl, hk4⟩
  have hM4 := hk4.at (blk_new w3 _) (fun h => h)
  have hB4 : w4.heap[w.heap.size]? = some (.cells #[.int .i64 0, .int .i64 0, .int .u64 0, .int .u64 0, .slice none 0 0, .slice none 0 0, .slice none 0 0, .slice none 0 0] 29 (0, 0)) := (k4.trans hk4).at HB3.out (fun h => h)
  have hsz4 : w3.heap.size + 1 ≤ w4.heap.size := by have := hk4.size; simpa using this
  have hS4 : Hid (∀ fs : Array Value, RdS w a w.heap.size w3.heap.size w4.heap.size o #[.int .i64 (K : Nat), .int .i64 (C : Nat), .int .u64 (Q : Nat), .int .u64 0, .slice none 0 0, .slice none 0 0, .slice none 0 0, .slice none 0 0] fs S (w4.alloc (.cells fs 55))) := fun fs =>
    ⟨blk_alloc hM4 _, blk_new w4 _, blk_alloc hB4 _, ((h3.beside (.inr HLT.out) k4 (fun i hi => hi.elim)).beside (.inr HLT.out) hk4 (fun i hi => hi.elim)).beside (.inr HLT.out) ((Keeps.refl no w4).alloc _) (fun i hi => hi.elim), (hk03.trans (k4.trans hk4).of_no).alloc _, HLT.out, haw, rfl, by omega, by omega⟩
  obtain ⟨M, hM⟩ : ∃ M, M = w3.heap.size := ⟨_, rfl⟩
  obtain ⟨B, hB⟩ : ∃ B, B = w.heap.size := ⟨_, rfl⟩
  obtain ⟨F, hF⟩ : ∃ F, F = w4.heap.size := ⟨_, rfl⟩
  have HFE : Hid (F = w4.heap.size) := hF
  rw [← hM, ← hB, ← hF] at hS4
  rw [← hM, ← hB]
  clear hM hB hF hk4 k4 HB3 h3 hk03 HBY hM4 hB4 hsz4 hsz3
  rcases fields_of K with ⟨g0, g1, g2, g3, g4, g5⟩ | ⟨g0, g1, g2, g3, g4, g5⟩ | ⟨g0, g1, g2, g3, g4, g5⟩ | ⟨g0, g1, g2, g3, g4, g5⟩ | ⟨g0, g1, g2, g3, g4, g5⟩ | ⟨g0, g1, g2, g3, g4, g5⟩
  · rw [g1, g2, g3, g4, g5]
    have H5 : Hid _ := hS4.out #[.bool true, .bool true, .bool true, .bool false, .bool false]
    have HR : Hid (R = (⟨K, C, Q, (rnum 8 S).1, (rkeys (rnum 8 S).2).1, (rpairs (rkeys (rnum 8 S).2).2).1, [], []⟩, (rpairs (rkeys (rnum 8 S).2).2).2)) := by
      show _ = _
      rw [HS.out]; unfold rfield
      rw [if_pos g0]
    clear g0 g1 g2 g3 g4 g5 hS4
    have hF5 := H5.out.size
    obtain ⟨x0, x1, x2, x3, x4, x5, x6, x7⟩ := cells8 H5.out.m
    obtain ⟨z0, z1, z2, z3, z4⟩ := cells5 H5.out.f
    have HZ : Hid (_ ∧ _ ∧ _ ∧ _ ∧ _) := ⟨z0, z1, z2, z3, z4⟩
    rw [HFE.out] at z0 z1 z2 z3 z4
    go_wp2_with fail
    refine (rsU64 H5.out.r).mono ?_
    rintro e w6 ⟨⟨I, rfl, hI, hIb⟩, h6, hk6⟩
    have H6 : Hid _ := H5.out.call h6 hk6
    have H7 : Hid _ := H6.out.store 3 (.int .u64 (I : Nat))
    clear x0 x1 x2 x3 x4 x5 x6 x7 z0 z1 z2 z3 z4
    obtain ⟨x0, x1, x2, x3, x4, x5, x6, x7⟩ := cells8 H6.out.m
    have f3 := frozen_of_blk H6.out.m 3
    have hq1 : ¬ M = w4.heap.size := by have := H6.out.lt; have := HFE.out; omega
    have hq2 : ¬ w4.heap.size = M := by omega
    obtain ⟨z0, z1, z2, z3, z4⟩ := cells5 H6.out.f
    obtain ⟨u0, u1, u2, u3, u4⟩ := cells5 H7.out.f
    rw [HFE.out] at z0 z1 z2 z3 z4 u0 u1 u2 u3 u4
    go_wp2_with fail
    generalize w6.setCell ⟨M, 3, none⟩ (.int .u64 (I : Nat)) = W7 at H7 ⊢
    clear x0 x1 x2 x3 x4 x5 x6 x7 f3 z0 z1 z2 z3 z4 u0 u1 u2 u3 u4
    have hF7 := H7.out.size
    refine (readKeys_any H7.out.r).mono ?_
    rintro e w8 ⟨⟨ok, nk, ck, rfl, hnk, hownk, hnewk⟩, h8, hk8⟩
    have H8 : Hid _ := H7.out.call h8 hk8
    have H9 : Hid _ := H8.out.store 5 (.slice ok nk ck)
    have HNk : Hid (∀ j, inO ok j → F < j) := fun j hj => by have := hnewk j hj; omega
    have HOk : Hid (Own TE (w8.setCell ⟨M, 5, none⟩ (.slice ok nk ck)) ok ck (rkeys (rnum 8 S).2).1) := Own.store H8.out hownk HNk.out 5 _
    obtain ⟨x0, x1, x2, x3, x4, x5, x6, x7⟩ := cells8 H8.out.m
    have f5 := frozen_of_blk H8.out.m 5
    obtain ⟨u0, u1, u2, u3, u4⟩ := cells5 H8.out.f
    rw [HFE.out] at u0 u1 u2 u3 u4
    go_wp2_with fail
    generalize w8.setCell ⟨M, 5, none⟩ (.slice ok nk ck) = W9 at H9 HOk ⊢
    clear x0 x1 x2 x3 x4 x5 x6 x7 f5 u0 u1 u2 u3 u4
    have hF9 := H9.out.size
    refine (readPairs_any H9.out.r HLT.out).mono ?_
    rintro e wa ⟨⟨op, np, cp, rfl, hnp, hownp, hnewp⟩, ha, hka⟩
    have Ha : Hid _ := H9.out.call ha hka
    have Hb : Hid _ := Ha.out.store 4 (.slice op np cp)
    have HNp : Hid (∀ j, inO op j → F < j) := fun j hj => by have := hnewp j hj; omega
    have HOp : Hid (Own PE (wa.setCell ⟨M, 4, none⟩ (.slice op np cp)) op cp (rpairs (rkeys (rnum 8 S).2).2).1) := Own.store Ha.out hownp HNp.out 4 _
    have HOk2 : Hid (Own TE (wa.setCell ⟨M, 4, none⟩ (.slice op np cp)) ok ck (rkeys (rnum 8 S).2).1) := Own.store Ha.out (Own.call H9.out HOk.out HNk.out hka) HNk.out 4 _
    obtain ⟨x0, x1, x2, x3, x4, x5, x6, x7⟩ := cells8 Ha.out.m
    have f4 := frozen_of_blk Ha.out.m 4
    obtain ⟨u0, u1, u2, u3, u4⟩ := cells5 Ha.out.f
    rw [HFE.out] at u0 u1 u2 u3 u4
    go_wp2_with fail
    generalize wa.setCell ⟨M, 4, none⟩ (.slice op np cp) = W at Hb HOp HOk2 ⊢
    clear x0 x1 x2 x3 x4 x5 x6 x7 f4 u0 u1 u2 u3 u4
    obtain ⟨x0, x1, x2, x3, x4, x5, x6, x7⟩ := cells8 Hb.out.m
    obtain ⟨y0, y1, y2, y3, y4, y5, y6, y7⟩ := cells8 Hb.out.b
    have f0 := frozen_of_blk Hb.out.b 0
    have f1 := frozen_of_blk Hb.out.b 1
    have f2 := frozen_of_blk Hb.out.b 2
    have f3 := frozen_of_blk Hb.out.b 3
    have f4 := frozen_of_blk Hb.out.b 4
    have f5 := frozen_of_blk Hb.out.b 5
    have f6 := frozen_of_blk Hb.out.b 6
    have f7 := frozen_of_blk Hb.out.b 7
    have hne1 : ¬ M = B := by have := Hb.out.lt; omega
    have hne2 : ¬ B = M := by have := Hb.out.lt; omega
    go_region_held3 (fun w' => w'.cell? ⟨M, 0, none⟩ = some (.int .i64 (K : Nat)) ∧ w'.cell? ⟨M, 1, none⟩ = some (.int .i64 (C : Nat)) ∧ w'.cell? ⟨M, 2, none⟩ = some (.int .u64 (Q : Nat)) ∧ w'.cell? ⟨M, 3, none⟩ = some (.int .u64 (I : Nat)) ∧ w'.cell? ⟨M, 4, none⟩ = some (.slice op np cp) ∧ w'.cell? ⟨M, 5, none⟩ = some (.slice ok nk ck) ∧ w'.cell? ⟨M, 6, none⟩ = some (.slice none 0 0) ∧ w'.cell? ⟨M, 7, none⟩ = some (.slice none 0 0)) (go_keep) ((go_at_call 67; refine (rsEnd (Hb.out.r.beside (.inr HLT.out) (Keeps.refl no W).drew (fun i hi => hi.elim))).mono ?_; rintro e w9 ⟨rfl, h9⟩; subst w9))
    go_wp2_with fail
    (try simp only [Exit.inBlock, Exit.then])
    have hs8 := set8 Hb.out.b (.int .i64 (K : Nat)) (.int .i64 (C : Nat)) (.int .u64 (Q : Nat)) (.int .u64 (I : Nat)) (.slice op np cp) (.slice ok nk ck) (.slice none 0 0) (.slice none 0 0)
    unfold set8w at hs8
    refine bodyPost_ret (results_row2 rfl _ _ B _ rfl (loadMd hs8.1)) rfl ?_
    refine readTo_mk (wB := w.alloc (.cells z8 29)) Hb.out.lt.2.2.1 (by have := Hb.out.lt.2.2.1; have e : (w.alloc (.cells z8 29)).heap.size = w.heap.size + 1 := (by simp); omega) (rs := []) ?_ ?_ Hb.out.k hs8.2.drew (rpairs (rkeys (rnum 8 S).2).2).2 (by rw [HR.out])
    · rw [HR.out] at HF ⊢
      exact ⟨rfl, rfl, rfl, hI.out, hnp.out, hnk.out, rfl, rfl, HOp.out.sl, HOk2.out.sl, own_nil_sl _, ⟨own_nil_sl _, rfl, fun j hj => by simp at hj⟩, HF.out.1, HF.out.2⟩
    · rw [HR.out]
      exact ⟨(fun j hj => by have := HNp.out j hj; have := Hb.out.lt; have e : (w.alloc (.cells z8 29)).heap.size = w.heap.size + 1 := (by simp); omega), (fun j hj => by have := HNk.out j hj; have := Hb.out.lt; have e : (w.alloc (.cells z8 29)).heap.size = w.heap.size + 1 := (by simp); omega), new_none _, new_none _, HOk2.out, fun j hj => by simp at hj, .inr rfl, by simp⟩
  · rw [g1, g2, g3, g4, g5]
    have H5 : Hid _ := hS4.out #[.bool true, .bool false, .bool false, .bool false, .bool false]
    have HR : Hid (R = (⟨K, C, Q, (rnum 8 S).1, [], [], [], []⟩, (rnum 8 S).2)) := by
      show _ = _
      rw [HS.out]; unfold rfield
      rw [if_neg (by unfold plainK at g0; omega), if_pos g0]
    clear g0 g1 g2 g3 g4 g5 hS4
    have hF5 := H5.out.size
    obtain ⟨x0, x1, x2, x3, x4, x5, x6, x7⟩ := cells8 H5.out.m
    obtain ⟨z0, z1, z2, z3, z4⟩ := cells5 H5.out.f
    have HZ : Hid (_ ∧ _ ∧ _ ∧ _ ∧ _) := ⟨z0, z1, z2, z3, z4⟩
    rw [HFE.out] at z0 z1 z2 z3 z4
    go_wp2_with fail
    refine (rsU64 H5.out.r).mono ?_
    rintro e w6 ⟨⟨I, rfl, hI, hIb⟩, h6, hk6⟩
    have H6 : Hid _ := H5.out.call h6 hk6
    have H7 : Hid _ := H6.out.store 3 (.int .u64 (I : Nat))
    clear x0 x1 x2 x3 x4 x5 x6 x7 z0 z1 z2 z3 z4
    obtain ⟨x0, x1, x2, x3, x4, x5, x6, x7⟩ := cells8 H6.out.m
    have f3 := frozen_of_blk H6.out.m 3
    have hq1 : ¬ M = w4.heap.size := by have := H6.out.lt; have := HFE.out; omega
    have hq2 : ¬ w4.heap.size = M := by omega
    obtain ⟨z0, z1, z2, z3, z4⟩ := cells5 H6.out.f
    rw [HFE.out] at z0 z1 z2 z3 z4
    go_wp2_with fail
    generalize w6.setCell ⟨M, 3, none⟩ (.int .u64 (I : Nat)) = W at H7 ⊢
    clear x0 x1 x2 x3 x4 x5 x6 x7 f3 z0 z1 z2 z3 z4
    obtain ⟨x0, x1, x2, x3, x4, x5, x6, x7⟩ := cells8 H7.out.m
    obtain ⟨y0, y1, y2, y3, y4, y5, y6, y7⟩ := cells8 H7.out.b
    have f0 := frozen_of_blk H7.out.b 0
    have f1 := frozen_of_blk H7.out.b 1
    have f2 := frozen_of_blk H7.out.b 2
    have f3 := frozen_of_blk H7.out.b 3
    have f4 := frozen_of_blk H7.out.b 4
    have f5 := frozen_of_blk H7.out.b 5
    have f6 := frozen_of_blk H7.out.b 6
    have f7 := frozen_of_blk H7.out.b 7
    have hne1 : ¬ M = B := by have := H7.out.lt; omega
    have hne2 : ¬ B = M := by have := H7.out.lt; omega
    go_region_held3 (fun w' => w'.cell? ⟨M, 0, none⟩ = some (.int .i64 (K : Nat)) ∧ w'.cell? ⟨M, 1, none⟩ = some (.int .i64 (C : Nat)) ∧ w'.cell? ⟨M, 2, none⟩ = some (.int .u64 (Q : Nat)) ∧ w'.cell? ⟨M, 3, none⟩ = some (.int .u64 (I : Nat)) ∧ w'.cell? ⟨M, 4, none⟩ = some (.slice none 0 0) ∧ w'.cell? ⟨M, 5, none⟩ = some (.slice none 0 0) ∧ w'.cell? ⟨M, 6, none⟩ = some (.slice none 0 0) ∧ w'.cell? ⟨M, 7, none⟩ = some (.slice none 0 0)) (go_keep) ((go_at_call 67; refine (rsEnd (H7.out.r.beside (.inr HLT.out) (Keeps.refl no W).drew (fun i hi => hi.elim))).mono ?_; rintro e w9 ⟨rfl, h9⟩; subst w9))
    go_wp2_with fail
    (try simp only [Exit.inBlock, Exit.then])
    have hs8 := set8 H7.out.b (.int .i64 (K : Nat)) (.int .i64 (C : Nat)) (.int .u64 (Q : Nat)) (.int .u64 (I : Nat)) (.slice none 0 0) (.slice none 0 0) (.slice none 0 0) (.slice none 0 0)
    unfold set8w at hs8
    refine bodyPost_ret (results_row2 rfl _ _ B _ rfl (loadMd hs8.1)) rfl ?_
    refine readTo_mk (wB := w.alloc (.cells z8 29)) H7.out.lt.2.2.1 (by have := H7.out.lt.2.2.1; have e : (w.alloc (.cells z8 29)).heap.size = w.heap.size + 1 := (by simp); omega) (rs := []) ?_ ?_ H7.out.k hs8.2.drew (rnum 8 S).2 (by rw [HR.out])
    · rw [HR.out] at HF ⊢
      exact ⟨rfl, rfl, rfl, hI.out, rfl, rfl, rfl, rfl, own_nil_sl _, own_nil_sl _, own_nil_sl _, ⟨own_nil_sl _, rfl, fun j hj => by simp at hj⟩, HF.out.1, HF.out.2⟩
    · rw [HR.out]
      exact ⟨new_none _, new_none _, new_none _, new_none _, own_nil _, fun j hj => by simp at hj, .inl rfl, by simp⟩
  · rw [g1, g2, g3, g4, g5]
    have H5 : Hid _ := hS4.out #[.bool false, .bool true, .bool false, .bool false, .bool false]
    have HR : Hid (R = (⟨K, C, Q, 0, (rkeys S).1, [], [], []⟩, (rkeys S).2)) := by
      show _ = _
      rw [HS.out]; unfold rfield
      rw [if_neg (by omega), if_neg (by unfold plainK; omega), if_pos g0]
    clear g0 g1 g2 g3 g4 g5 hS4
    have hF5 := H5.out.size
    obtain ⟨x0, x1, x2, x3, x4, x5, x6, x7⟩ := cells8 H5.out.m
    obtain ⟨z0, z1, z2, z3, z4⟩ := cells5 H5.out.f
    have HZ : Hid (_ ∧ _ ∧ _ ∧ _ ∧ _) := ⟨z0, z1, z2, z3, z4⟩
    rw [HFE.out] at z0 z1 z2 z3 z4
    go_wp2_with fail
    refine (readKeys_any H5.out.r).mono ?_
    rintro e w6 ⟨⟨ok, nk, ck, rfl, hnk, hownk, hnewk⟩, h6, hk6⟩
    have H6 : Hid _ := H5.out.call h6 hk6
    have H7 : Hid _ := H6.out.store 5 (.slice ok nk ck)
    have HNk : Hid (∀ j, inO ok j → F < j) := fun j hj => by have := hnewk j hj; omega
    have HOk : Hid (Own TE (w6.setCell ⟨M, 5, none⟩ (.slice ok nk ck)) ok ck (rkeys S).1) := Own.store H6.out hownk HNk.out 5 _
    clear x0 x1 x2 x3 x4 x5 x6 x7 z0 z1 z2 z3 z4
    obtain ⟨x0, x1, x2, x3, x4, x5, x6, x7⟩ := cells8 H6.out.m
    have f5 := frozen_of_blk H6.out.m 5
    obtain ⟨z0, z1, z2, z3, z4⟩ := cells5 H6.out.f
    rw [HFE.out] at z0 z1 z2 z3 z4
    go_wp2_with fail
    generalize w6.setCell ⟨M, 5, none⟩ (.slice ok nk ck) = W at H7 HOk ⊢
    clear x0 x1 x2 x3 x4 x5 x6 x7 f5 z0 z1 z2 z3 z4
    obtain ⟨x0, x1, x2, x3, x4, x5, x6, x7⟩ := cells8 H7.out.m
    obtain ⟨y0, y1, y2, y3, y4, y5, y6, y7⟩ := cells8 H7.out.b
    have f0 := frozen_of_blk H7.out.b 0
    have f1 := frozen_of_blk H7.out.b 1
    have f2 := frozen_of_blk H7.out.b 2
    have f3 := frozen_of_blk H7.out.b 3
    have f4 := frozen_of_blk H7.out.b 4
    have f5 := frozen_of_blk H7.out.b 5
    have f6 := frozen_of_blk H7.out.b 6
    have f7 := frozen_of_blk H7.out.b 7
    have hne1 : ¬ M = B := by have := H7.out.lt; omega
    have hne2 : ¬ B = M := by have := H7.out.lt; omega
    go_region_held3 (fun w' => w'.cell? ⟨M, 0, none⟩ = some (.int .i64 (K : Nat)) ∧ w'.cell? ⟨M, 1, none⟩ = some (.int .i64 (C : Nat)) ∧ w'.cell? ⟨M, 2, none⟩ = some (.int .u64 (Q : Nat)) ∧ w'.cell? ⟨M, 3, none⟩ = some (.int .u64 0) ∧ w'.cell? ⟨M, 4, none⟩ = some (.slice none 0 0) ∧ w'.cell? ⟨M, 5, none⟩ = some (.slice ok nk ck) ∧ w'.cell? ⟨M, 6, none⟩ = some (.slice none 0 0) ∧ w'.cell? ⟨M, 7, none⟩ = some (.slice none 0 0)) (go_keep) ((go_at_call 67; refine (rsEnd (H7.out.r.beside (.inr HLT.out) (Keeps.refl no W).drew (fun i hi => hi.elim))).mono ?_; rintro e w9 ⟨rfl, h9⟩; subst w9))
    go_wp2_with fail
    (try simp only [Exit.inBlock, Exit.then])
    have hs8 := set8 H7.out.b (.int .i64 (K : Nat)) (.int .i64 (C : Nat)) (.int .u64 (Q : Nat)) (.int .u64 0) (.slice none 0 0) (.slice ok nk ck) (.slice none 0 0) (.slice none 0 0)
    unfold set8w at hs8
    refine bodyPost_ret (results_row2 rfl _ _ B _ rfl (loadMd hs8.1)) rfl ?_
    refine readTo_mk (wB := w.alloc (.cells z8 29)) H7.out.lt.2.2.1 (by have := H7.out.lt.2.2.1; have e : (w.alloc (.cells z8 29)).heap.size = w.heap.size + 1 := (by simp); omega) (rs := []) ?_ ?_ H7.out.k hs8.2.drew (rkeys S).2 (by rw [HR.out])
    · rw [HR.out] at HF ⊢
      exact ⟨rfl, rfl, rfl, rfl, rfl, hnk.out, rfl, rfl, own_nil_sl _, HOk.out.sl, own_nil_sl _, ⟨own_nil_sl _, rfl, fun j hj => by simp at hj⟩, HF.out.1, HF.out.2⟩
    · rw [HR.out]
      exact ⟨new_none _, (fun j hj => by have := HNk.out j hj; have := H7.out.lt; have e : (w.alloc (.cells z8 29)).heap.size = w.heap.size + 1 := (by simp); omega), new_none _, new_none _, HOk.out, fun j hj => by simp at hj, .inr rfl, by simp⟩
  · rw [g1, g2, g3, g4, g5]
    have H5 : Hid _ := hS4.out #[.bool false, .bool false, .bool false, .bool true, .bool false]
    have HR : Hid (R = (⟨K, C, Q, 0, [], [], (rwants S).1, []⟩, (rwants S).2)) := by
      show _ = _
      rw [HS.out]; unfold rfield
      rw [if_neg (by omega), if_neg (by unfold plainK; omega), if_neg (by omega), if_pos g0]
    clear g0 g1 g2 g3 g4 g5 hS4
    have hF5 := H5.out.size
    obtain ⟨x0, x1, x2, x3, x4, x5, x6, x7⟩ := cells8 H5.out.m
    obtain ⟨z0, z1, z2, z3, z4⟩ := cells5 H5.out.f
    have HZ : Hid (_ ∧ _ ∧ _ ∧ _ ∧ _) := ⟨z0, z1, z2, z3, z4⟩
    rw [HFE.out] at z0 z1 z2 z3 z4
    go_wp2_with fail
    refine (readWants_any H5.out.r HLT.out).mono ?_
    rintro e w6 ⟨⟨ow, nw, cw, rfl, hnw, hownw, hneww⟩, h6, hk6⟩
    have H6 : Hid _ := H5.out.call h6 hk6
    have H7 : Hid _ := H6.out.store 6 (.slice ow nw cw)
    have HNw : Hid (∀ j, inO ow j → F < j) := fun j hj => by have := hneww j hj; omega
    have HOw : Hid (Own WE (w6.setCell ⟨M, 6, none⟩ (.slice ow nw cw)) ow cw (rwants S).1) := Own.store H6.out hownw HNw.out 6 _
    clear x0 x1 x2 x3 x4 x5 x6 x7 z0 z1 z2 z3 z4
    obtain ⟨x0, x1, x2, x3, x4, x5, x6, x7⟩ := cells8 H6.out.m
    have f6 := frozen_of_blk H6.out.m 6
    obtain ⟨z0, z1, z2, z3, z4⟩ := cells5 H6.out.f
    rw [HFE.out] at z0 z1 z2 z3 z4
    go_wp2_with fail
    generalize w6.setCell ⟨M, 6, none⟩ (.slice ow nw cw) = W at H7 HOw ⊢
    clear x0 x1 x2 x3 x4 x5 x6 x7 f6 z0 z1 z2 z3 z4
    obtain ⟨x0, x1, x2, x3, x4, x5, x6, x7⟩ := cells8 H7.out.m
    obtain ⟨y0, y1, y2, y3, y4, y5, y6, y7⟩ := cells8 H7.out.b
    have f0 := frozen_of_blk H7.out.b 0
    have f1 := frozen_of_blk H7.out.b 1
    have f2 := frozen_of_blk H7.out.b 2
    have f3 := frozen_of_blk H7.out.b 3
    have f4 := frozen_of_blk H7.out.b 4
    have f5 := frozen_of_blk H7.out.b 5
    have f6 := frozen_of_blk H7.out.b 6
    have f7 := frozen_of_blk H7.out.b 7
    have hne1 : ¬ M = B := by have := H7.out.lt; omega
    have hne2 : ¬ B = M := by have := H7.out.lt; omega
    go_region_held3 (fun w' => w'.cell? ⟨M, 0, none⟩ = some (.int .i64 (K : Nat)) ∧ w'.cell? ⟨M, 1, none⟩ = some (.int .i64 (C : Nat)) ∧ w'.cell? ⟨M, 2, none⟩ = some (.int .u64 (Q : Nat)) ∧ w'.cell? ⟨M, 3, none⟩ = some (.int .u64 0) ∧ w'.cell? ⟨M, 4, none⟩ = some (.slice none 0 0) ∧ w'.cell? ⟨M, 5, none⟩ = some (.slice none 0 0) ∧ w'.cell? ⟨M, 6, none⟩ = some (.slice ow nw cw) ∧ w'.cell? ⟨M, 7, none⟩ = some (.slice none 0 0)) (go_keep) ((go_at_call 67; refine (rsEnd (H7.out.r.beside (.inr HLT.out) (Keeps.refl no W).drew (fun i hi => hi.elim))).mono ?_; rintro e w9 ⟨rfl, h9⟩; subst w9))
    go_wp2_with fail
    (try simp only [Exit.inBlock, Exit.then])
    have hs8 := set8 H7.out.b (.int .i64 (K : Nat)) (.int .i64 (C : Nat)) (.int .u64 (Q : Nat)) (.int .u64 0) (.slice none 0 0) (.slice none 0 0) (.slice ow nw cw) (.slice none 0 0)
    unfold set8w at hs8
    refine bodyPost_ret (results_row2 rfl _ _ B _ rfl (loadMd hs8.1)) rfl ?_
    refine readTo_mk (wB := w.alloc (.cells z8 29)) H7.out.lt.2.2.1 (by have := H7.out.lt.2.2.1; have e : (w.alloc (.cells z8 29)).heap.size = w.heap.size + 1 := (by simp); omega) (rs := []) ?_ ?_ H7.out.k hs8.2.drew (rwants S).2 (by rw [HR.out])
    · rw [HR.out] at HF ⊢
      exact ⟨rfl, rfl, rfl, rfl, rfl, rfl, hnw.out, rfl, own_nil_sl _, own_nil_sl _, HOw.out.sl, ⟨own_nil_sl _, rfl, fun j hj => by simp at hj⟩, HF.out.1, HF.out.2⟩
    · rw [HR.out]
      exact ⟨new_none _, new_none _, (fun j hj => by have := HNw.out j hj; have := H7.out.lt; have e : (w.alloc (.cells z8 29)).heap.size = w.heap.size + 1 := (by simp); omega), new_none _, own_nil _, fun j hj => by simp at hj, .inr rfl, by simp⟩
  · rw [g1, g2, g3, g4, g5]
    have H5 : Hid _ := hS4.out #[.bool false, .bool false, .bool false, .bool false, .bool true]
    have HR : Hid (R = (⟨K, C, Q, 0, [], [], [], [(rver S).1]⟩, (rver S).2)) := by
      show _ = _
      rw [HS.out]; unfold rfield
      rw [if_neg (by omega), if_neg (by unfold plainK; omega), if_neg (by omega), if_neg (by omega), if_pos g0]
    clear g0 g1 g2 g3 g4 g5 hS4
    have hF5 := H5.out.size
    obtain ⟨x0, x1, x2, x3, x4, x5, x6, x7⟩ := cells8 H5.out.m
    obtain ⟨z0, z1, z2, z3, z4⟩ := cells5 H5.out.f
    have HZ : Hid (_ ∧ _ ∧ _ ∧ _ ∧ _) := ⟨z0, z1, z2, z3, z4⟩
    rw [HFE.out] at z0 z1 z2 z3 z4
    go_wp2_with fail
    refine (readVersion_any H5.out.r HLT.out).mono ?_
    rintro e w6 ⟨⟨key, id, vl, ok, nk, ck, rfl, HV, hnewk⟩, h6, hk6⟩
    have H6 : Hid _ := (H5.out.call h6 hk6).more ((Keeps.refl no _).alloc (.cells #[.string key, .int .u64 (id : Nat), .string vl, .slice ok nk ck] 46))
    obtain ⟨V, hV⟩ : ∃ V, V = w6.heap.size := ⟨_, rfl⟩
    have hVF : F < V := by have := hk6.size; omega
    have H7 : Hid _ := H6.out.store 7 (.slice (some ⟨V, 0, none⟩) 1 1)
    have HNk : Hid (∀ j, inO ok j → F < j) := fun j hj => by have := hnewk j hj; omega
    have HOk : Hid (Own TE ((w6.alloc (.cells #[.string key, .int .u64 (id : Nat), .string vl, .slice ok nk ck] 46)).setCell ⟨M, 7, none⟩ (.slice (some ⟨V, 0, none⟩) 1 1)) ok ck (rver S).1.keys) := Own.store H6.out (HV.out.1.keepsN ((Keeps.refl no _).alloc _)) HNk.out 7 _
    have HVB : Hid (((w6.alloc (.cells #[.string key, .int .u64 (id : Nat), .string vl, .slice ok nk ck] 46)).setCell ⟨M, 7, none⟩ (.slice (some ⟨V, 0, none⟩) 1 1)).heap[V]? = some (.cells #[.string key, .int .u64 (id : Nat), .string vl, .slice ok nk ck] 46 (0, 0))) := by
      rw [hV]
      exact ((Keeps.refl (eqA M) _).setA 7 _).at (blk_new w6 _) (by unfold eqA; have := H6.out.lt; omega)
    have HVE : Hid (V = w6.heap.size) := hV
    clear x0 x1 x2 x3 x4 x5 x6 x7 z0 z1 z2 z3 z4
    obtain ⟨x0, x1, x2, x3, x4, x5, x6, x7⟩ := cells8 H6.out.m
    have f7 := frozen_of_blk H6.out.m 7
    obtain ⟨z0, z1, z2, z3, z4⟩ := cells5 H6.out.f
    rw [HFE.out] at z0 z1 z2 z3 z4
    rw [hV] at H7 HOk HVB
    clear hV
    go_wp2_with fail
    generalize (w6.alloc (.cells #[.string key, .int .u64 (id : Nat), .string vl, .slice ok nk ck] 46)).setCell ⟨M, 7, none⟩ (.slice (some ⟨w6.heap.size, 0, none⟩) 1 1) = W at H7 HOk HVB ⊢
    rw [← HVE.out] at H7 HVB ⊢
    clear x0 x1 x2 x3 x4 x5 x6 x7 f7 z0 z1 z2 z3 z4
    obtain ⟨x0, x1, x2, x3, x4, x5, x6, x7⟩ := cells8 H7.out.m
    obtain ⟨y0, y1, y2, y3, y4, y5, y6, y7⟩ := cells8 H7.out.b
    have f0 := frozen_of_blk H7.out.b 0
    have f1 := frozen_of_blk H7.out.b 1
    have f2 := frozen_of_blk H7.out.b 2
    have f3 := frozen_of_blk H7.out.b 3
    have f4 := frozen_of_blk H7.out.b 4
    have f5 := frozen_of_blk H7.out.b 5
    have f6 := frozen_of_blk H7.out.b 6
    have f7 := frozen_of_blk H7.out.b 7
    have hne1 : ¬ M = B := by have := H7.out.lt; omega
    have hne2 : ¬ B = M := by have := H7.out.lt; omega
    go_region_held3 (fun w' => w'.cell? ⟨M, 0, none⟩ = some (.int .i64 (K : Nat)) ∧ w'.cell? ⟨M, 1, none⟩ = some (.int .i64 (C : Nat)) ∧ w'.cell? ⟨M, 2, none⟩ = some (.int .u64 (Q : Nat)) ∧ w'.cell? ⟨M, 3, none⟩ = some (.int .u64 0) ∧ w'.cell? ⟨M, 4, none⟩ = some (.slice none 0 0) ∧ w'.cell? ⟨M, 5, none⟩ = some (.slice none 0 0) ∧ w'.cell? ⟨M, 6, none⟩ = some (.slice none 0 0) ∧ w'.cell? ⟨M, 7, none⟩ = some (.slice (some ⟨V, 0, none⟩) 1 1)) (go_keep) ((go_at_call 67; refine (rsEnd (H7.out.r.beside (.inr HLT.out) (Keeps.refl no W).drew (fun i hi => hi.elim))).mono ?_; rintro e w9 ⟨rfl, h9⟩; subst w9))
    go_wp2_with fail
    (try simp only [Exit.inBlock, Exit.then])
    have hs8 := set8 H7.out.b (.int .i64 (K : Nat)) (.int .i64 (C : Nat)) (.int .u64 (Q : Nat)) (.int .u64 0) (.slice none 0 0) (.slice none 0 0) (.slice none 0 0) (.slice (some ⟨V, 0, none⟩) 1 1)
    unfold set8w at hs8
    refine bodyPost_ret (results_row2 rfl _ _ B _ rfl (loadMd hs8.1)) rfl ?_
    refine readTo_mk (wB := w.alloc (.cells z8 29)) H7.out.lt.2.2.1 (by have := H7.out.lt.2.2.1; have e : (w.alloc (.cells z8 29)).heap.size = w.heap.size + 1 := (by simp); omega) (rs := [⟨key, id, vl, ok, nk, ck⟩]) ?_ ?_ H7.out.k hs8.2.drew (rver S).2 (by rw [HR.out])
    · rw [HR.out] at HF ⊢
      exact ⟨rfl, rfl, rfl, rfl, rfl, rfl, rfl, rfl, own_nil_sl _, own_nil_sl _, own_nil_sl _, ⟨own_oneV HVB.out, rfl, fun j hj => by obtain rfl : j = 0 := (by simpa using hj); exact ⟨HV.out.2.2.1, HV.out.2.2.2.1, HV.out.2.2.2.2.1, HV.out.2.1, HOk.out.sl⟩⟩, HF.out.1, HF.out.2⟩
    · rw [HR.out]
      exact ⟨new_none _, new_none _, new_none _, new_fresh _ _ (by have := H7.out.lt; have e : (w.alloc (.cells z8 29)).heap.size = w.heap.size + 1 := (by simp); omega) _, own_nil _, fun j hj => by obtain rfl : j = 0 := (by simpa using hj); exact ⟨HOk.out, fun i hi => by have := HNk.out i hi; have := H7.out.lt; have e : (w.alloc (.cells z8 29)).heap.size = w.heap.size + 1 := (by simp); omega⟩, .inl rfl, by simp⟩
  · rw [g1, g2, g3, g4, g5]
    have H5 : Hid _ := hS4.out #[.bool false, .bool false, .bool false, .bool false, .bool false]
    have HR : Hid (R = (⟨K, C, Q, 0, [], [], [], []⟩, S)) := by
      show _ = _
      rw [HS.out]; unfold rfield
      rw [if_neg g0.1, if_neg g0.2.1, if_neg g0.2.2.1, if_neg g0.2.2.2.1, if_neg g0.2.2.2.2]
    clear g0 g1 g2 g3 g4 g5 hS4
    have hF5 := H5.out.size
    obtain ⟨x0, x1, x2, x3, x4, x5, x6, x7⟩ := cells8 H5.out.m
    obtain ⟨z0, z1, z2, z3, z4⟩ := cells5 H5.out.f
    have HZ : Hid (_ ∧ _ ∧ _ ∧ _ ∧ _) := ⟨z0, z1, z2, z3, z4⟩
    rw [HFE.out] at z0 z1 z2 z3 z4
    go_wp2_with fail
    generalize w4.alloc (.cells #[.bool false, .bool false, .bool false, .bool false, .bool false] 55) = W at H5 hF5 ⊢
    clear x0 x1 x2 x3 x4 x5 x6 x7 z0 z1 z2 z3 z4
    obtain ⟨x0, x1, x2, x3, x4, x5, x6, x7⟩ := cells8 H5.out.m
    obtain ⟨y0, y1, y2, y3, y4, y5, y6, y7⟩ := cells8 H5.out.b
    have f0 := frozen_of_blk H5.out.b 0
    have f1 := frozen_of_blk H5.out.b 1
    have f2 := frozen_of_blk H5.out.b 2
    have f3 := frozen_of_blk H5.out.b 3
    have f4 := frozen_of_blk H5.out.b 4
    have f5 := frozen_of_blk H5.out.b 5
    have f6 := frozen_of_blk H5.out.b 6
    have f7 := frozen_of_blk H5.out.b 7
    have hne1 : ¬ M = B := by have := H5.out.lt; omega
    have hne2 : ¬ B = M := by have := H5.out.lt; omega
    go_region_held3 (fun w' => w'.cell? ⟨M, 0, none⟩ = some (.int .i64 (K : Nat)) ∧ w'.cell? ⟨M, 1, none⟩ = some (.int .i64 (C : Nat)) ∧ w'.cell? ⟨M, 2, none⟩ = some (.int .u64 (Q : Nat)) ∧ w'.cell? ⟨M, 3, none⟩ = some (.int .u64 0) ∧ w'.cell? ⟨M, 4, none⟩ = some (.slice none 0 0) ∧ w'.cell? ⟨M, 5, none⟩ = some (.slice none 0 0) ∧ w'.cell? ⟨M, 6, none⟩ = some (.slice none 0 0) ∧ w'.cell? ⟨M, 7, none⟩ = some (.slice none 0 0)) (go_keep) ((go_at_call 67; refine (rsEnd (H5.out.r.beside (.inr HLT.out) (Keeps.refl no W).drew (fun i hi => hi.elim))).mono ?_; rintro e w9 ⟨rfl, h9⟩; subst w9))
    go_wp2_with fail
    (try simp only [Exit.inBlock, Exit.then])
    have hs8 := set8 H5.out.b (.int .i64 (K : Nat)) (.int .i64 (C : Nat)) (.int .u64 (Q : Nat)) (.int .u64 0) (.slice none 0 0) (.slice none 0 0) (.slice none 0 0) (.slice none 0 0)
    unfold set8w at hs8
    refine bodyPost_ret (results_row2 rfl _ _ B _ rfl (loadMd hs8.1)) rfl ?_
    refine readTo_mk (wB := w.alloc (.cells z8 29)) H5.out.lt.2.2.1 (by have := H5.out.lt.2.2.1; have e : (w.alloc (.cells z8 29)).heap.size = w.heap.size + 1 := (by simp); omega) (rs := []) ?_ ?_ H5.out.k hs8.2.drew S (by rw [HR.out])
    · rw [HR.out] at HF ⊢
      exact ⟨rfl, rfl, rfl, rfl, rfl, rfl, rfl, rfl, own_nil_sl _, own_nil_sl _, own_nil_sl _, ⟨own_nil_sl _, rfl, fun j hj => by simp at hj⟩, HF.out.1, HF.out.2⟩
    · rw [HR.out]
      exact ⟨new_none _, new_none _, new_none _, new_none _, own_nil _, fun j hj => by simp at hj, .inl rfl, by simp⟩
end Go.Proofs.YtjklpcamlppegaaGreat
