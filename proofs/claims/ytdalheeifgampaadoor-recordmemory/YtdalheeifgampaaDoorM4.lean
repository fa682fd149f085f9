/- RecordMemory: steps of its last loops. -/
import Derived.Test.YtdalheeifgampaaDoorM3
namespace Go.Proofs.YtdalheeifgampaaDoor
open Go.RowKit Go.Sort Orl Pk
set_option linter.unusedVariables false
set_option linter.unusedSimpArgs false

theorem Six.keepsN {w0 : World} {gR gN : Nat} {V : List CV} {mk mp : Nat → Nat} {W W' : World} (h : Six w0 gR gN V mk mp W) (hk : Keeps no W W') : Six w0 gR gN V mk mp W' :=
  ⟨h.a, h.gn, h.r0, h.rs.keepsN hk, h.nm.keepsN hk, fun j hj => (h.k j hj).keeps hk (fun _ _ h => h), fun j hj => (h.p j hj).keeps hk (fun _ _ h => h), h.kp.trans hk⟩
/-- written over: all ahead of I, q of I -/
def up (V : List CV) (f : CV → Nat) (I q : Nat) : Nat → Nat := fun j => if j < I then f (V.getD j cv0) else if j = I then q else 0
theorem up_at (V : List CV) (f : CV → Nat) (I q : Nat) : up V f I q I = q := by
  unfold up
  rw [if_neg (by omega), if_pos rfl]
theorem up_step (V : List CV) (f : CV → Nat) (I q j : Nat) : up V f I (q + 1) j ≤ (if j = I then q + 1 else up V f I q j) := by
  unfold up
  by_cases h : j = I
  · rw [if_pos h, if_neg (by omega), if_pos h]; exact Nat.le_refl _
  · rw [if_neg h, if_neg h]
    by_cases h2 : j < I
    · rw [if_pos h2, if_pos h2]; exact Nat.le_refl _
    · rw [if_neg h2, if_neg h2, if_neg h]; exact Nat.le_refl _
theorem up_end (V : List CV) (f : CV → Nat) (I q j : Nat) (hq : f (V.getD I cv0) ≤ q) : up V f (I + 1) 0 j ≤ up V f I q j := by
  unfold up
  by_cases h : j < I
  · rw [if_pos (by omega), if_pos h]; exact Nat.le_refl _
  · by_cases h2 : j = I
    · subst h2; rw [if_pos (by omega), if_neg h, if_pos rfl]; exact hq
    · rw [if_neg (by omega), if_neg h, if_neg h2]
      split <;> exact Nat.le_refl _
theorem cv_all (v : CV) : ∃ k i op np cp ok nk ck, v = ⟨k, i, op, np, cp, ok, nk, ck⟩ := ⟨_, _, _, _, _, _, _, _, rfl⟩
theorem rs_cells {gR gN : Nat} {V : List CV} {W : World} (hl : V.length = 6) (rs : Sl CE W (some ⟨gR, 0, none⟩) 6 V) (nm : Sl TE W (some ⟨gN, 0, none⟩) 6 nmL) {I : Nat} (hI : I < 6) {vk : Int} {vi : Nat} {op : Option Addr} {np cp : Nat} {ok : Option Addr} {nk ck : Nat} (hv : V.getD I cv0 = ⟨vk, vi, op, np, cp, ok, nk, ck⟩) :
    W.cell? ⟨gR, I * 4 + 2, none⟩ = some (.slice op np cp) ∧ W.cell? ⟨gR, I * 4 + 3, none⟩ = some (.slice ok nk ck) ∧ W.cell? ⟨gN, I, none⟩ = some (.string (nmx I)) := by
  obtain ⟨b, off, e, d0, d1, d2, d3⟩ := rs.atC (j := I) (by omega)
  cases e
  obtain ⟨b, off, e, d4⟩ := nm.at (j := I) hI
  cases e
  rw [hv] at d2 d3
  rw [Nat.zero_add] at d2 d3 d4
  exact ⟨d2, d3, d4⟩
theorem Six.cells {w0 : World} {gR gN : Nat} {V : List CV} {mk mp : Nat → Nat} {W : World} (h : Six w0 gR gN V mk mp W) {I : Nat} (hI : I < 6) {vk : Int} {vi : Nat} {op : Option Addr} {np cp : Nat} {ok : Option Addr} {nk ck : Nat} (hv : V.getD I cv0 = ⟨vk, vi, op, np, cp, ok, nk, ck⟩) :
    W.cell? ⟨gR, I * 4 + 2, none⟩ = some (.slice op np cp) ∧ W.cell? ⟨gR, I * 4 + 3, none⟩ = some (.slice ok nk ck) ∧ W.cell? ⟨gN, I, none⟩ = some (.string (nmx I)) := rs_cells h.a.len h.rs h.nm hI hv
theorem SixI.cells {w0 : World} {gR gN : Nat} {V : List CV} {i : Nat} {W : World} (h : SixI w0 gR gN V i W) {I : Nat} (hI : I < 6) {vk : Int} {vi : Nat} {op : Option Addr} {np cp : Nat} {ok : Option Addr} {nk ck : Nat} (hv : V.getD I cv0 = ⟨vk, vi, op, np, cp, ok, nk, ck⟩) :
    W.cell? ⟨gR, I * 4 + 2, none⟩ = some (.slice op np cp) ∧ W.cell? ⟨gR, I * 4 + 3, none⟩ = some (.slice ok nk ck) ∧ W.cell? ⟨gN, I, none⟩ = some (.string (nmx I)) := rs_cells h.a.len h.rs h.nm hI hv
theorem Six.stepK {w0 : World} {gR gN : Nat} {V : List CV} {mp : Nat → Nat} {W : World} {I q : Nat} (h : Six w0 gR gN V (up V CV.nk I q) mp W) (hI : I < 6) {vk : Int} {vi : Nat} {op : Option Addr} {np cp : Nat} {ok : Option Addr} {nk ck : Nat} (hv : V.getD I cv0 = ⟨vk, vi, op, np, cp, ok, nk, ck⟩) (hq : q < nk) :
    ∃ g, ok = some ⟨g, 0, none⟩ ∧ (∃ v, W.cell? ⟨g, q, none⟩ = some v) ∧ W.frozen? ⟨g, q, none⟩ = false ∧ ¬ gR = g ∧ ¬ gN = g ∧ Hid (Six w0 gR gN V (up V CV.nk I (q + 1)) mp (W.setCell ⟨g, q, none⟩ (.string (nmx I))).drew) := by
  obtain ⟨g, e, h1, h2, h3, h4⟩ := h.wK hI (q := q) (by rw [hv]; exact hq) (up_at V CV.nk I q)
  rw [hv] at e
  have hgn := h.gn
  exact ⟨g, e, h1, h2, by omega, by omega, (h4.upd (fun j _ => up_step V CV.nk I q j) (fun j _ => Nat.le_refl _)).keepsN (Keeps.refl no _).drew⟩
theorem Six.stepP {w0 : World} {gR gN : Nat} {V : List CV} {mk : Nat → Nat} {W : World} {I q : Nat} (h : Six w0 gR gN V mk (up V CV.np I q) W) (hI : I < 6) {vk : Int} {vi : Nat} {op : Option Addr} {np cp : Nat} {ok : Option Addr} {nk ck : Nat} (hv : V.getD I cv0 = ⟨vk, vi, op, np, cp, ok, nk, ck⟩) (hq : q < np) :
    ∃ g, op = some ⟨g, 0, none⟩ ∧ (∃ v, W.cell? ⟨g, q * 2, none⟩ = some v) ∧ (∃ v, W.cell? ⟨g, q * 2 + 1, none⟩ = some v) ∧ W.frozen? ⟨g, q * 2, none⟩ = false ∧ W.frozen? ⟨g, q * 2 + 1, none⟩ = false ∧ ¬ gR = g ∧ ¬ gN = g ∧ Hid (Six w0 gR gN V mk (up V CV.np I (q + 1)) ((W.setCell ⟨g, q * 2, none⟩ (.string (nmx I))).setCell ⟨g, q * 2 + 1, none⟩ (.string ⟨#[]⟩)).drew) := by
  obtain ⟨g, e, h1, h2, h3, h3', h5, h4⟩ := h.wP hI (q := q) (by rw [hv]; exact hq) (up_at V CV.np I q)
  rw [hv] at e
  have hgn := h.gn
  exact ⟨g, e, h1, h2, h3, h3', by omega, by omega, (h4.upd (fun j _ => Nat.le_refl _) (fun j _ => up_step V CV.np I q j)).keepsN (Keeps.refl no _).drew⟩
theorem Six.endK {w0 : World} {gR gN : Nat} {V : List CV} {mp : Nat → Nat} {W : World} {I q : Nat} (h : Six w0 gR gN V (up V CV.nk I q) mp W) {vk : Int} {vi : Nat} {op : Option Addr} {np cp : Nat} {ok : Option Addr} {nk ck : Nat} (hv : V.getD I cv0 = ⟨vk, vi, op, np, cp, ok, nk, ck⟩) (hq : nk ≤ q) : Six w0 gR gN V (up V CV.nk (I + 1) 0) mp W :=
  h.upd (fun j _ => up_end V CV.nk I q j (by rw [hv]; exact hq)) (fun j _ => Nat.le_refl _)
theorem Six.endP {w0 : World} {gR gN : Nat} {V : List CV} {mk : Nat → Nat} {W : World} {I q : Nat} (h : Six w0 gR gN V mk (up V CV.np I q) W) {vk : Int} {vi : Nat} {op : Option Addr} {np cp : Nat} {ok : Option Addr} {nk ck : Nat} (hv : V.getD I cv0 = ⟨vk, vi, op, np, cp, ok, nk, ck⟩) (hq : np ≤ q) : Six w0 gR gN V mk (up V CV.np (I + 1) 0) W :=
  h.upd (fun j _ => Nat.le_refl _) (fun j _ => up_end V CV.np I q j (by rw [hv]; exact hq))
theorem up_zero (V : List CV) (f : CV → Nat) (j : Nat) : up V f 0 0 j ≤ 0 := by
  unfold up
  rw [if_neg (by omega)]
  split <;> exact Nat.le_refl _
theorem Six.begin {w0 : World} {gR gN : Nat} {V : List CV} {W : World} (h : Six w0 gR gN V (fun _ => 0) (fun _ => 0) W) : Six w0 gR gN V (up V CV.nk 0 0) (up V CV.np 0 0) W :=
  h.upd (fun j _ => up_zero V CV.nk j) (fun j _ => up_zero V CV.np j)
theorem up_all (V : List CV) (f : CV → Nat) (j : Nat) (hj : j < 6) : up V f 6 0 j = f (V.getD j cv0) := by
  unfold up
  rw [if_pos hj]
theorem Six.all {w0 : World} {gR gN : Nat} {V : List CV} {W : World} (h : Six w0 gR gN V (up V CV.nk 6 0) (up V CV.np 6 0) W) : SixI w0 gR gN V 0 W :=
  h.done (fun j hj => up_all V CV.nk j hj) (fun j hj => up_all V CV.np j hj)
def more : Tx := ⟨#[109, 111, 114, 101]⟩
/-- one record's two lists, lengthened by qk and qp -/
structure Lng (W0 : World) (ok : Option Addr) (xs : List Tx) (op : Option Addr) (ps : List Pr) (qk qp : Nat) (oa : Option Addr) (ca : Nat) (ob : Option Addr) (cb : Nat) (W : World) : Prop where
  k : Lo TE W0 ok xs oa ca (List.replicate qk more) W
  p : Lo PE W0 op ps ob cb (List.replicate qp (more, e0)) W
  kp : Keeps (fun x => inO op x ∨ inO ok x) W0 W
  ne : ∀ x, inO ok x → ¬ inO op x
theorem Lng.start {W0 : World} {ok op : Option Addr} {ck cp : Nat} {xs : List Tx} {ps : List Pr} (h1 : Own TE W0 ok ck xs) (h2 : Own PE W0 op cp ps) : Lng W0 ok xs op ps 0 0 ok ck op cp W0 :=
  ⟨Lo.start h1, Lo.start h2, Keeps.refl _ _, fun x hx hy => own_ne (by decide) h1 h2 x hx hy⟩
theorem Lng.keepsN {W0 : World} {ok : Option Addr} {xs : List Tx} {op : Option Addr} {ps : List Pr} {qk qp : Nat} {oa : Option Addr} {ca : Nat} {ob : Option Addr} {cb : Nat} {W W' : World} (h : Lng W0 ok xs op ps qk qp oa ca ob cb W) (hk : Keeps no W W') : Lng W0 ok xs op ps qk qp oa ca ob cb W' :=
  ⟨h.k.keepsN hk, h.p.keepsN hk, h.kp.then hk (fun _ h => h.elim), h.ne⟩
theorem Lng.stepK {W0 : World} {ok : Option Addr} {xs : List Tx} {op : Option Addr} {ps : List Pr} {qk qp : Nat} {oa : Option Addr} {ca : Nat} {ob : Option Addr} {cb : Nat} {W W' : World} {o' : Option Addr} {c' : Nat} (h : Lng W0 ok xs op ps qk qp oa ca ob cb W) (ho : Own TE W' o' c' (xs ++ List.replicate qk more ++ [more])) (hap : Ap W oa o' W') : Lng W0 ok xs op ps (qk + 1) qp o' c' ob cb W' := by
  refine ⟨?_, h.p.beside (by decide) h.k h.ne hap, h.k.kp (fun x hx => .inr hx) h.kp hap, h.ne⟩
  rw [List.replicate_succ']
  exact h.k.app h.kp.size ho hap
theorem Lng.stepP {W0 : World} {ok : Option Addr} {xs : List Tx} {op : Option Addr} {ps : List Pr} {qk qp : Nat} {oa : Option Addr} {ca : Nat} {ob : Option Addr} {cb : Nat} {W W' : World} {o' : Option Addr} {c' : Nat} (h : Lng W0 ok xs op ps qk qp oa ca ob cb W) (ho : Own PE W' o' c' (ps ++ List.replicate qp (more, e0) ++ [(more, e0)])) (hap : Ap W ob o' W') : Lng W0 ok xs op ps qk (qp + 1) oa ca o' c' W' := by
  refine ⟨h.k.beside (by decide) h.p (fun x hx hy => h.ne x hy hx) hap, ?_, h.p.kp (fun x hx => .inl hx) h.kp hap, h.ne⟩
  rw [List.replicate_succ']
  exact h.p.app h.kp.size ho hap
theorem Lng.cells {W0 : World} {ok : Option Addr} {xs : List Tx} {op : Option Addr} {ps : List Pr} {qk qp : Nat} {oa : Option Addr} {ca : Nat} {ob : Option Addr} {cb : Nat} {W : World} (h : Lng W0 ok xs op ps (qk + 1) (qp + 1) oa ca ob cb W) : ∃ ga gb, oa = some ⟨ga, 0, none⟩ ∧ ob = some ⟨gb, 0, none⟩ ∧ W.cell? ⟨ga, xs.length, none⟩ = some (.string more) ∧ W.cell? ⟨gb, ps.length * 2, none⟩ = some (.string more) := by
  obtain ⟨ga, rfl⟩ := own_some h.k.own (by simp [List.replicate_succ])
  obtain ⟨gb, rfl⟩ := own_some h.p.own (by simp [List.replicate_succ])
  refine ⟨ga, gb, rfl, rfl, ?_, ?_⟩
  · obtain ⟨b, off, e, hc⟩ := h.k.own.sl.at (j := xs.length) (by rw [List.length_append, List.length_replicate]; omega)
    cases e
    rw [Nat.zero_add] at hc
    rw [hc]
    simp [List.getD_eq_getElem?_getD, List.replicate_succ]
  · obtain ⟨b, off, e, hc, _⟩ := h.p.own.sl.atP (j := ps.length) (by rw [List.length_append, List.length_replicate]; omega)
    cases e
    rw [Nat.zero_add] at hc
    rw [hc]
    simp [List.getD_eq_getElem?_getD, List.replicate_succ]
theorem SixI.lens {w0 : World} {gR gN : Nat} {V : List CV} {I : Nat} {W : World} (h : SixI w0 gR gN V I W) (hI : I < 6) {vk : Int} {vi : Nat} {op : Option Addr} {np cp : Nat} {ok : Option Addr} {nk ck : Nat} (hv : V.getD I cv0 = ⟨vk, vi, op, np, cp, ok, nk, ck⟩) :
    ∃ xs ps, nk = xs.length ∧ np = ps.length ∧ Hid ((∀ q, q < nk → xs.getD q e0 = nmx I) ∧ ∀ q, q < np → (ps.getD q p0).1 = nmx I) ∧ Hid (Lng W ok xs op ps 0 0 ok ck op cp W) := by
  obtain ⟨xs, x1, x2, x3⟩ := h.k I (Nat.le_refl _) hI
  obtain ⟨ps, p1, p2, p3⟩ := h.p I (Nat.le_refl _) hI
  rw [hv] at x1 x2 x3 p1 p2 p3
  exact ⟨xs, ps, x2, p2, ⟨x3, p3⟩, Lng.start x1 p1⟩
theorem SixI.after {w0 : World} {gR gN : Nat} {V : List CV} {I : Nat} {W W' : World} (h : SixI w0 gR gN V I W) (hI : I < 6) {vk : Int} {vi : Nat} {op : Option Addr} {np cp : Nat} {ok : Option Addr} {nk ck : Nat} (hv : V.getD I cv0 = ⟨vk, vi, op, np, cp, ok, nk, ck⟩) {xs : List Tx} {ps : List Pr} (hx : nk = xs.length) (hp : np = ps.length) (ha : (∀ q, q < nk → xs.getD q e0 = nmx I) ∧ ∀ q, q < np → (ps.getD q p0).1 = nmx I) {qk qp : Nat} {oa : Option Addr} {ca : Nat} {ob : Option Addr} {cb : Nat} (hL : Lng W ok xs op ps qk qp oa ca ob cb W') : SixI w0 gR gN V (I + 1) W' := by
  refine h.next hI (by rw [hv]; exact hL.kp) ?_ ?_
  · rw [hv]; exact ⟨xs, hL.k.row, hx, ha.1⟩
  · rw [hv]; exact ⟨ps, hL.p.row, hp, ha.2⟩
theorem sl_more (w : World) : Sl TE (w.alloc (.cells #[.string ⟨#[109, 111, 114, 101]⟩] 9)) (some ⟨w.heap.size, 0, none⟩) 1 [more] := by
  refine ⟨.inr ⟨_, _, rfl, fun j u hj => ?_⟩, by simp, fun e => by cases e⟩
  rw [cell_of_blk (blk_new w _), Nat.zero_add]
  simpa [El.cells, TE, more] using hj
theorem sl_moreP (w : World) : Sl PE (w.alloc (.cells #[.string ⟨#[109, 111, 114, 101]⟩, .string ⟨#[]⟩] 33)) (some ⟨w.heap.size, 0, none⟩) 1 [(more, e0)] := by
  refine ⟨.inr ⟨_, _, rfl, fun j u hj => ?_⟩, by simp, fun e => by cases e⟩
  rw [cell_of_blk (blk_new w _), Nat.zero_add]
  simpa [El.cells, PE, more, e0] using hj
theorem moreT_b {xk : List Tx} {q : Nat} (h : xk.length ≤ 8796093022000) (hq : q < 40) : ((xk ++ List.replicate q more).length + [more].length) * TE.nb ≤ 140737488355328 ∧ (xk ++ List.replicate q more).length + [more].length ≤ 140737488355328 := by
  constructor <;> simp [TE] <;> omega
theorem moreP_b {xp : List Pr} {q : Nat} (h : xp.length ≤ 4398046511000) (hq : q < 40) : ((xp ++ List.replicate q (more, e0)).length + [(more, e0)].length) * PE.nb ≤ 140737488355328 ∧ (xp ++ List.replicate q (more, e0)).length + [(more, e0)].length ≤ 140737488355328 := by
  constructor <;> simp [PE] <;> omega
/-- a key, a pair's key, read -/
theorem SixI.rowK {w0 : World} {gR gN : Nat} {V : List CV} {W : World} (h : SixI w0 gR gN V 6 W) {I : Nat} (hI : I < 6) {vk : Int} {vi : Nat} {op : Option Addr} {np cp : Nat} {ok : Option Addr} {nk ck : Nat} (hv : V.getD I cv0 = ⟨vk, vi, op, np, cp, ok, nk, ck⟩) {q : Nat} (hq : q < nk) : ∃ b off, ok = some ⟨b, off, none⟩ ∧ W.cell? ⟨b, off + q, none⟩ = some (.string (nmx I)) := by
  obtain ⟨xs, h1, h2, h3⟩ := h.k2 I hI hI
  rw [hv] at h1 h2 h3
  simp only at h1 h2 h3
  obtain ⟨b, off, e, hc⟩ := (⟨h1, Nat.le_refl _, fun hn => by
    rcases h1 with e | ⟨b, off, e, _⟩
    · subst e; simp at h2; omega
    · rw [e] at hn; cases hn⟩ : Sl TE W ok xs.length xs).at (j := q) (by omega)
  rw [h3 q hq] at hc
  exact ⟨b, off, e, hc⟩
theorem SixI.rowP {w0 : World} {gR gN : Nat} {V : List CV} {W : World} (h : SixI w0 gR gN V 6 W) {I : Nat} (hI : I < 6) {vk : Int} {vi : Nat} {op : Option Addr} {np cp : Nat} {ok : Option Addr} {nk ck : Nat} (hv : V.getD I cv0 = ⟨vk, vi, op, np, cp, ok, nk, ck⟩) {q : Nat} (hq : q < np) : ∃ b off, op = some ⟨b, off, none⟩ ∧ W.cell? ⟨b, off + q * 2, none⟩ = some (.string (nmx I)) := by
  obtain ⟨xs, h1, h2, h3⟩ := h.p2 I hI hI
  rw [hv] at h1 h2 h3
  simp only at h1 h2 h3
  obtain ⟨b, off, e, hc, _⟩ := (⟨h1, Nat.le_refl _, fun hn => by
    rcases h1 with e | ⟨b, off, e, _⟩
    · subst e; simp at h2; omega
    · rw [e] at hn; cases hn⟩ : Sl PE W op xs.length xs).atP (j := q) (by omega)
  rw [h3 q hq] at hc
  exact ⟨b, off, e, hc⟩
theorem SixI.keepsN {w0 : World} {gR gN : Nat} {V : List CV} {i : Nat} {W W' : World} (h : SixI w0 gR gN V i W) (hk : Keeps no W W') : SixI w0 gR gN V i W' :=
  ⟨h.a, h.gn, h.r0, h.rs.keepsN hk, h.nm.keepsN hk, fun j h1 hj => (h.k j h1 hj).keeps hk (fun _ _ h => h), fun j h1 hj => (h.p j h1 hj).keeps hk (fun _ _ h => h), fun j h1 hj => (h.k2 j h1 hj).keeps hk (fun _ _ h => h), fun j h1 hj => (h.p2 j h1 hj).keeps hk (fun _ _ h => h), h.kp.trans hk⟩
end Go.Proofs.YtdalheeifgampaaDoor
