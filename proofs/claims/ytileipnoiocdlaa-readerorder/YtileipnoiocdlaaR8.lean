import Derived.Test.YtileipnoiocdlaaR7
/- A round begun: its numbers drawn. -/
namespace Go.Proofs.Ytileipnoiocdlaa
open Go.RowKit Go.Sort Orl
set_option linter.unusedVariables false
set_option linter.unusedSimpArgs false

theorem Own.storeF {α : Type} {E : El α} (hE : E.Ok) {w : World} {o : Option Addr} {c : Nat} {xs : List α} (h : Own E w o c xs) (d : α) (j : Nat) (hj : j < xs.length) (f : Nat) (hf : f < E.k) (x : α) (v : Value) (hx : E.enc x = (E.enc (xs.getD j d)).set f v) :
    ∃ g, o = some ⟨g, 0, none⟩ ∧ (∀ i, w.frozen? ⟨g, i, none⟩ = false) ∧ Own E (w.setCell ⟨g, j * E.k + f, none⟩ v) o c (xs.set j x) ∧ Keeps (inO o) w (w.setCell ⟨g, j * E.k + f, none⟩ v) := by
  rcases h.shape with ⟨_, _, e⟩ | ⟨g, cur, rfl, hg, hc, hm, hs, ht⟩
  · rw [e] at hj; simp at hj
  · refine ⟨g, rfl, fun i => frozen_of_blk hg i, ?_, (Keeps.refl _ _).setCell (.inl ⟨_, rfl, rfl⟩) v⟩
    refine own_of_shape hE (blk_set hg _ _) (by simpa using hc) hm (by simp [hs]) ?_
    have hjk : j * E.k + E.k ≤ xs.length * E.k := by rw [← Nat.succ_mul]; exact Nat.mul_le_mul_right _ hj
    have hck : xs.length * E.k ≤ c * E.k := Nat.mul_le_mul_right _ hc
    apply List.ext_getElem?
    intro i
    rw [cells_setE hE x xs j i hj, List.getElem?_take, List.length_set, Array.getElem?_toList]
    by_cases hi : i < xs.length * E.k
    · rw [if_pos hi]
      by_cases e : i = j * E.k + f
      · subst e
        have hl : f < (E.enc (xs.getD j d)).length := by rw [hE.len]; exact hf
        rw [if_pos (by omega), hx, show j * E.k + f - j * E.k = f by omega, Array.getElem?_setIfInBounds_self_of_lt (by rw [hs]; omega)]
        rw [List.getElem?_set_self hl]
      · rw [Array.getElem?_setIfInBounds_ne (by omega), ← Array.getElem?_toList, take_eq ht i hi]
        split
        · rename_i hcs
          rw [hx, List.getElem?_set_ne (by omega)]
          have := cells_at hE d xs j (i - j * E.k) hj (by omega)
          rw [← this]
          congr 1
          omega
        · rfl
    · rw [if_neg hi, if_neg (by omega)]
      have := cells_length hE xs
      rw [List.getElem?_eq_none (by omega)]
theorem getD_setR {α : Type} (l : List α) (j k : Nat) (x d : α) (hj : j < l.length) : (l.set j x).getD k d = if k = j then x else l.getD k d := by
  rw [List.getD_eq_getElem?_getD, List.getD_eq_getElem?_getD]
  by_cases e : k = j
  · rw [if_pos e, e, List.getElem?_set_self hj]; rfl
  · rw [if_neg e, List.getElem?_set_ne (fun h => e h.symm)]
theorem Zs.setReq {w : World} {s : RS} {ro : Option Addr} {rc : Nat} {rz : List RZ} {ix : List Nat} {qs : List Qn} (h : Zs w s ro rc rz ix qs) {j : Nat} (hj : j < ix.length) (v : Nat) :
    ∃ g, ro = some ⟨g, 0, none⟩ ∧ (∀ i, w.frozen? ⟨g, i, none⟩ = false) ∧ (∃ u : Int, w.cell? ⟨g, j * 10 + 3, none⟩ = some (.int .u64 u)) ∧ (∃ rz', Zs (w.setCell ⟨g, j * 10 + 3, none⟩ (.int .u64 (v : Nat))) s ro rc rz' ix (qs.set j { qs.getD j q0 with req := v }) ∧ ∀ i, ZB ro rz' ix.length i → ZB ro rz ix.length i) ∧ Keeps (inO ro) w (w.setCell ⟨g, j * 10 + 3, none⟩ (.int .u64 (v : Nat))) := by
  have hjr : j < rz.length := by rw [h.lenI]; exact hj
  have hjq : j < qs.length := by rw [h.lenQ]; exact hj
  obtain ⟨g, e, hf, ho, hk⟩ := h.own.storeF okRE rz0 j hjr 3 (by decide) ⟨{ (rz.getD j rz0).q with req := v }, (rz.getD j rz0).mb⟩ (.int .u64 (v : Nat)) rfl
  obtain ⟨b, e2, _, ha, _⟩ := h.own.atRE hjr
  rw [e] at e2; cases e2
  have ha3 := ha.c3
  simp only [Nat.zero_add] at ha3
  have ho' : Own RE (w.setCell ⟨g, j * 10 + 3, none⟩ (.int .u64 (v : Nat))) ro rc (rz.set j ⟨{ (rz.getD j rz0).q with req := v }, (rz.getD j rz0).mb⟩) := ho
  have hk' : Keeps (inO ro) w (w.setCell ⟨g, j * 10 + 3, none⟩ (.int .u64 (v : Nat))) := hk
  have eR : ∀ k, (rz.set j ⟨{ (rz.getD j rz0).q with req := v }, (rz.getD j rz0).mb⟩).getD k rz0 = if k = j then ⟨{ (rz.getD j rz0).q with req := v }, (rz.getD j rz0).mb⟩ else rz.getD k rz0 := fun k => getD_setR rz j k _ rz0 hjr
  have eM : ∀ k, ((rz.set j ⟨{ (rz.getD j rz0).q with req := v }, (rz.getD j rz0).mb⟩).getD k rz0).mb = (rz.getD k rz0).mb := fun k => by
    rw [eR]; split
    · rename_i e3; rw [e3]
    · rfl
  have eQ : ∀ k, (qs.set j { qs.getD j q0 with req := v }).getD k q0 = if k = j then { qs.getD j q0 with req := v } else qs.getD k q0 := fun k => getD_setR qs j k _ q0 hjq
  refine ⟨g, e, hf, ⟨_, ha3⟩, ⟨_, ⟨ho', by simp [h.lenI], by simp [h.lenQ], ?_, ?_, ?_⟩, ?_⟩, hk'⟩
  · intro k hk2
    have hq := h.each k hk2
    have hq2 := hq.keeps hk' (fun b hb => hb.elim (tags_ne (by decide) hq.ks h.own b) (tags_ne (by decide) hq.ws h.own b))
    rw [eR, eQ]
    split
    · rename_i e3; subst e3
      exact ⟨hq2.part, hq2.kind, hq2.client, rfl, hq2.kn, hq2.ks, hq2.wn, hq2.ws⟩
    · exact hq2
  · intro k hk2
    obtain ⟨L, h1, h2⟩ := h.mp k hk2
    rw [eM]
    refine ⟨L, h1.keeps hk' (fun hi => ?_), h2⟩
    obtain ⟨es, cl, h3⟩ := h1.obj
    obtain ⟨cur, h4⟩ := h.own.tag _ hi
    rw [h3] at h4; cases h4
  · intro a b hab hb
    rw [eM, eM]
    exact h.sep a b hab hb
  · rintro i (hi | ⟨k, hk2, hi⟩)
    · exact .inl hi
    · rw [eM, eR] at hi
      refine .inr ⟨k, hk2, ?_⟩
      split at hi
      · rename_i e3; subst e3; exact hi
      · exact hi
theorem mix_len {α : Type} (tq qs : List α) (k : Nat) (h : k ≤ qs.length) (hl : tq.length = qs.length) : (tq.take k ++ qs.drop k).length = qs.length := by simp; omega
theorem mix_at {α : Type} (tq qs : List α) (d : α) (k : Nat) (h : k < qs.length) (hl : tq.length = qs.length) : (tq.take k ++ qs.drop k).getD k d = qs.getD k d := by
  rw [getD_app, if_neg (by simp; omega)]
  have e : k - (tq.take k).length = 0 := by simp; omega
  rw [e, List.drop_eq_getElem_cons h]
  simp [h]
theorem mix_set {α : Type} (tq qs : List α) (d : α) (k : Nat) (h : k < qs.length) (hl : tq.length = qs.length) : (tq.take k ++ qs.drop k).set k (tq.getD k d) = tq.take (k + 1) ++ qs.drop (k + 1) := by
  rw [List.set_append_right _ _ (by simp; omega), take_succ_getD tq k d (by omega)]
  have e : k - (tq.take k).length = 0 := by simp; omega
  rw [e, List.drop_eq_getElem_cons h, List.set_cons_zero, List.append_assoc]
  rfl
/-! ### the first questions of a round -/
theorem undone_all {s : RS} (hg : s.got = List.replicate s.nm.length false) : undone s = List.range (psR s).length := by
  unfold undone
  rw [List.filter_eq_self]
  intro i hi
  have hi := List.mem_range.1 hi
  obtain ⟨_, h2, _, h4⟩ := ps_keys hi
  have h5 : doneQ s i = false := by
    unfold doneQ
    rw [← Bool.not_eq_true, List.all_eq_true]
    intro ha
    obtain ⟨k, hk⟩ := List.exists_mem_of_ne_nil _ h4
    have := ha k hk
    rw [opn_all hg (h2 k hk)] at this
    cases this
  rw [h5]; rfl
def qsR (s : RS) : List Qn := (List.range (psR s).length).map (qAt s)
theorem qsR_len (s : RS) : (qsR s).length = (psR s).length := by simp [qsR]
theorem qsR_at (s : RS) {j : Nat} (hj : j < (psR s).length) : (qsR s).getD j q0 = qAt s j := by simp [qsR, List.getD_eq_getElem?_getD, hj]
theorem asked_all {s : RS} (hg : s.got = List.replicate s.nm.length false) : askedR s = qsR s := by
  unfold askedR qsR; rw [undone_all hg]
def drawn (fr st t n : Nat) : List Nat := (List.range n).map fun i => numC fr st (t + i)
theorem drawn_at {fr st t n i : Nat} (hi : i < n) : (drawn fr st t n).getD i 0 = numC fr st (t + i) := by simp [drawn, List.getD_eq_getElem?_getD, hi]
/-- while the numbers are drawn -/
structure AskR (w w' : World) (M p cp fr st : Nat) (s : RS) (nmo : Option Addr) (nc : Nat) (vo : Option Addr) (vc : Nat) (ro : Option Addr) (rc : Nat) (co : Option Addr) (cn cc : Nat) (cs : List RV) (qs : List Qn) (t : Nat) : Prop where
  blk : w'.heap[p]? = some (.cells (rdC nmo s.names.length nc s.parts s.client (fnC cp) s.round 0 none 0 0 co cn cc vo s.first.length vc) 79 (0, 0))
  zs : ∃ rz, Zs w' s ro rc rz (List.range (psR s).length) qs ∧ ∀ i, ZB ro rz (psR s).length i → w.heap.size ≤ i ∧ i < M
  cam : Own VE w' co cc cs
  came : Vers w' co cc cs s.came
  fC : ∀ i, VB co cs s.came.length i → M ≤ i ∧ i < w'.heap.size
  wM : w.heap.size ≤ M
  ck : ∀ i, inO co i → ¬ KB cs s.came.length i
  cn : cn = s.came.length
  ct : IsCt w' cp fr st t
  kp : Keeps (fun i => i = p ∨ i = cp) w w'
theorem AskR.draw {w w' X : World} {M p cp fr st : Nat} {s : RS} {nmo : Option Addr} {nc : Nat} {vo : Option Addr} {vc : Nat} {ro : Option Addr} {rc : Nat} {co : Option Addr} {cn cc : Nat} {cs : List RV} {k t : Nat} (h : AskR w w' M p cp fr st s nmo nc vo vc ro rc co cn cc cs ((qsR s).take k ++ (qs0 s).drop k) (t + k)) (hne : p ≠ cp) (hcl : cp < w.heap.size) (hpl : p < w.heap.size) (hk : k < (psR s).length) (hq : s.reqs = drawn fr st t (psR s).length) (hX : IsCt X cp fr st (t + k + 1)) (hkX : Keeps (fun i => i = cp) w' X) :
    ∃ g, ro = some ⟨g, 0, none⟩ ∧ (∀ i, X.frozen? ⟨g, i, none⟩ = false) ∧ (∃ u : Int, X.cell? ⟨g, k * 10 + 3, none⟩ = some (.int .u64 u)) ∧ AskR w (X.setCell ⟨g, k * 10 + 3, none⟩ (.int .u64 ((numC fr st (t + k) : Nat) : Int))) M p cp fr st s nmo nc vo vc ro rc co cn cc cs ((qsR s).take (k + 1) ++ (qs0 s).drop (k + 1)) (t + (k + 1)) := by
  obtain ⟨rzk, hzk, hfk⟩ := h.zs
  have hzX := hzk.keepsT hkX (by rintro b rfl; exact ⟨_, _, _, h.ct, by decide, by decide, by decide⟩)
  have hil : (List.range (psR s).length).length = (psR s).length := List.length_range
  have hl0 : (qs0 s).length = (psR s).length := qs0_len s
  have hl1 : (qsR s).length = (qs0 s).length := by rw [qsR_len, hl0]
  obtain ⟨g, e, hf, hcell, ⟨rz', hz', hB'⟩, hk'⟩ := hzX.setReq (j := k) (by rw [hil]; exact hk) (numC fr st (t + k))
  rw [hil] at hB'
  have hgn : w.heap.size ≤ g := (hfk g (.inl ⟨_, e, rfl⟩)).1
  have hwM := h.wM
  have hgc : cp ≠ g := by omega
  have hgi : ∀ i, inO ro i → w.heap.size ≤ i ∧ i < M := fun i hi => hfk i (.inl hi)
  have hcX : Own VE X co cc cs := h.cam.keeps hkX (fun i hi e => by have := (h.fC i (.inl hi)).1; omega)
  have tagX : ∀ i, inO co i → ¬ inO ro i := fun i hi hj => by have := (h.fC i (.inl hi)).1; have := (hgi i hj).2; omega
  refine ⟨g, e, hf, hcell, ?_, ⟨rz', ?_, fun i hi => hfk i (hB' i hi)⟩, hcX.keeps hk' tagX, ?_, fun i hi => ?_, hwM, h.ck, h.cn, ?_, ?_⟩
  · obtain ⟨cur, hcur⟩ := hzX.own.tag g ⟨_, e, rfl⟩
    have hbX := hkX.at h.blk hne
    refine blk_set_ne hbX (fun e2 => ?_) _
    simp only at e2
    rw [← e2, hbX] at hcur
    injection hcur with e3; injection e3 with _ e3 _; cases e3
  · have he2 := mix_at (qsR s) (qs0 s) q0 k (by omega) hl1
    have e4 : ({ qAt s k with req := 0 } : Qn) = (qs0 s).getD k q0 := (qs0_at hk).symm
    have e5 : ({ (qs0 s).getD k q0 with req := numC fr st (t + k) } : Qn) = (qsR s).getD k q0 := by
      rw [qs0_at hk, qsR_at s hk]
      have e6 := drawn_at (fr := fr) (st := st) (t := t) hk
      rw [← hq] at e6
      unfold qAt
      rw [e6]
    rw [he2, e5, mix_set (qsR s) (qs0 s) q0 k (by omega) hl1] at hz'
    exact hz'
  · have h1 : Vers X co cc cs s.came := h.came.keeps hkX (fun i hi e => by have := (h.fC i hi).1; omega)
    exact h1.keeps hk' (fun i hi hj => by have := (h.fC i hi).1; have := (hgi i hj).2; omega)
  · have h1 := h.fC i hi
    have := hkX.size; have := hk'.size
    omega
  · have := hX.keeps hk' (by rintro ⟨x, e2, e3⟩; rw [e] at e2; cases e2; exact hgc e3.symm)
    exact this
  · exact (h.kp.trans (hkX.mono (fun i hi => .inr hi))).then hk' (fun i hi => .inr (hgi i hi).1)
theorem NewVo.vers {w w' : World} {o : Option Addr} {c : Nat} {rs : List RV} {vs : List Ver} (h : NewVo w o c rs vs w') : Vers w' o c rs vs := ⟨h.own.sl, h.len, fun j hj => (h.each j hj).of⟩
theorem NewVo.vb {w w' : World} {o : Option Addr} {c : Nat} {rs : List RV} {vs : List Ver} (h : NewVo w o c rs vs w') : ∀ i, VB o rs vs.length i → w.heap.size ≤ i ∧ i < w'.heap.size := by
  rintro i (hi | ⟨j, hj, hi⟩)
  · exact ⟨h.newO i hi, h.own.lt i hi⟩
  · exact ⟨h.newK j hj i hi, (h.each j hj).own.lt i hi⟩
set_option maxRecDepth 10000 in
set_option maxHeartbeats 2000000 in
theorem ask_any (w : World) (p cp fr st t : Nat) (F : Nat → Prop) (s : RS) (ph : Nat) (ro0 : Option Addr) (rn0 rc0 : Nat) (co0 : Option Addr) (cn0 cc0 : Nat) (nmo : Option Addr) (nc : Nat) (vo : Option Addr) (vc : Nat) (vs : List RV) (o : Option Addr) (n c : Nat) (fv : Value)
    (hb : w.heap[p]? = some (.cells (rdC nmo s.names.length nc s.parts s.client (fnC cp) ph 0 ro0 rn0 rc0 co0 cn0 cc0 vo s.first.length vc) 79 (0, 0)))
    (hnm : Sl TE w nmo nc s.names) (hv : Vers w vo vc vs s.first) (hFp : F p) (hfN : ∀ i, inO nmo i → F i ∧ i ≠ p) (hfV : ∀ i, VB vo vs s.first.length i → F i ∧ i ≠ p) (hFl : ∀ i, F i → i < w.heap.size) (hc : IsCt w cp fr st t) (ht : t + 64 ≤ 4611686018427387904) (hcF : ¬ F cp)
    (hn : n = s.nm.length) (hon : Sl TE w o c s.nm) (hw : WfR s) (he : s.ended = 0) (hr : s.round = 1 ∨ s.round = 2) (hg : s.got = List.replicate s.nm.length false) (hcm : s.came = s.nm.map botV') (hq : s.reqs = drawn fr st t (psR s).length)
    (HQ : Calls Try.prog 43 #[.pointer (some ⟨p, 0, none⟩), .slice o n c, fv] w (QsTo w s)) :
    Calls Try.prog 25 #[.pointer (some ⟨p, 0, none⟩), .int .i64 (s.round : Nat), .slice o n c, fv] w (TellTo w p cp fr st F ⟨s, askedR s, t + (psR s).length⟩) := by
  have hne : p ≠ cp := fun e => hcF (e ▸ hFp)
  have hcl := lt_of_block hc
  have hpl := lt_of_block hb
  have HK : Hid (Calls Try.prog 43 #[.pointer (some ⟨p, 0, none⟩), .slice o n c, fv] w (QsTo w s) ∧ w.heap[p]? = some (.cells (rdC nmo s.names.length nc s.parts s.client (fnC cp) ph 0 ro0 rn0 rc0 co0 cn0 cc0 vo s.first.length vc) 79 (0, 0)) ∧ IsCt w cp fr st t ∧ s.reqs = drawn fr st t (psR s).length) := ⟨HQ, hb, hc, hq⟩
  have HBT : Hid (∀ X, Keeps no w X → Calls Try.prog 44 #[.slice o n c] X (VersTo X s.came)) := fun X k => by
    rw [hcm]; exact bottoms_any X o n c s.nm hn hw.nml (hon.keepsN k)
  have HA : Hid (∀ M X ro rn rc co cn cc cs, rn = (psR s).length → AskR w X M p cp fr st s nmo nc vo vc ro rc co cn cc cs (qsR s) (t + (psR s).length) → Calls Try.prog 11 #[.pointer (some ⟨p, 0, none⟩)] (X.setCell ⟨p, 6, none⟩ (.slice ro rn rc)) (TellTo w p cp fr st F ⟨s, askedR s, t + (psR s).length⟩)) := by
    intro M X ro rn rc co cn cc cs hrn hX
    obtain ⟨rzX, hzX, hfX⟩ := hX.zs
    have k1 := keeps_one X p 6 (.slice ro rn rc)
    have hkw : Keeps (fun i => i = p ∨ i = cp) w (X.setCell ⟨p, 6, none⟩ (.slice ro rn rc)) := hX.kp.trans (k1.mono (fun i e => .inl e))
    have hwM := hX.wM
    have hsz : (X.setCell ⟨p, 6, none⟩ (.slice ro rn rc)).heap.size = X.heap.size := by simp
    have hle : w.heap.size ≤ X.heap.size := hX.kp.size
    have hud := undone_all hg
    have hul : (undone s).length = (psR s).length := by rw [hud, List.length_range]
    have hI : IsRd (X.setCell ⟨p, 6, none⟩ (.slice ro rn rc)) p cp (fun i => F i ∨ (w.heap.size ≤ i ∧ i < X.heap.size)) s := by
      refine ⟨.inl hFp, fun i hi => ?_, .inr ⟨he, nmo, nc, ro, rc, rzX, co, cc, cs, vo, vc, vs, ?_, ?_, ?_, ?_, ?_, ?_, ?_, ?_, ?_, ?_, ?_⟩⟩
      · rw [hsz]
        rcases hi with hi | hi
        · have := hFl i hi; omega
        · exact hi.2
      · have := blk_set hX.blk 6 (.slice ro rn rc)
        rw [hul, ← hrn, ← hX.cn]
        simpa [rdC] using this
      · exact hnm.keeps hkw (fun i hi => by
          rintro (e | e)
          · exact (hfN i hi).2 e
          · exact hcF (e ▸ (hfN i hi).1))
      · rw [asked_all hg, hud]
        refine hzX.keepsT k1 ?_
        rintro b rfl
        exact ⟨_, _, _, hX.blk, by decide, by decide, by decide⟩
      · exact hX.cam.keeps k1 (fun i hi e => by have := (hX.fC i (.inl hi)).1; omega)
      · exact hX.came.keeps k1 (fun i hi e => by have := (hX.fC i hi).1; omega)
      · exact hv.keeps hkw (fun i hi => by
          rintro (e | e)
          · exact (hfV i hi).2 e
          · exact hcF (e ▸ (hfV i hi).1))
      · exact fun i hi => ⟨.inl (hfN i hi).1, (hfN i hi).2⟩
      · intro i hi
        rw [hul] at hi
        have h1 := hzX.lt i (by rw [List.length_range]; exact hi)
        have h2 := hfX i hi
        exact ⟨.inr ⟨h2.1, h1⟩, by omega, fun hj => by have := hFl i (hfN i hj).1; omega, fun hj => by have := (hX.fC i hj).1; omega, fun hj => by have := hFl i (hfV i hj).1; omega⟩
      · intro i hi
        have := hX.fC i hi
        exact ⟨.inr ⟨by omega, this.2⟩, by omega⟩
      · exact fun i hi => ⟨.inl (hfV i hi).1, (hfV i hi).2⟩
      · intro i hi
        have h1 := (hX.fC i (.inl hi)).1
        exact ⟨fun hj => by have := hFl i (hfN i hj).1; omega, fun hj => by have := hFl i (hfV i hj).1; omega, hX.ck i hi⟩
    refine (rAgain_any _ p cp fr st _ s (t + (psR s).length) hI hw ?_ ?_ he).mono ?_
    · exact hX.ct.keeps k1 (fun e => hne e.symm)
    · rintro (h | h)
      · exact hcF h
      · omega
    · rintro e w' ⟨o, n, c, rs, G, rfl, T⟩
      have hs2 : w.heap.size ≤ (X.setCell ⟨p, 6, none⟩ (.slice ro rn rc)).heap.size := hkw.size
      refine ⟨o, n, c, rs, G, rfl, T.n, T.tq, fun i hi => Nat.le_trans hs2 (T.new i hi), T.is, fun i hi => ?_, T.apart, T.ct, ?_⟩
      · rcases T.foot i hi with (h | h) | h
        · exact .inl h
        · exact .inr h.1
        · exact .inr (Nat.le_trans hs2 h)
      · refine (hkw.mono (fun i hi => ?_)).then T.kp ?_
        · rcases hi with e | e
          · exact .inl (e ▸ hFp)
          · exact .inr e
        · rintro i ((h | h) | h)
          · exact .inl (.inl h)
          · exact .inr h.1
          · exact .inl (.inr h)
  have HS : Hid (p ≠ cp ∧ cp < w.heap.size ∧ p < w.heap.size ∧ (psR s).length ≤ 64 ∧ s.came.length = s.nm.length) := ⟨hne, hcl, hpl, by have := ps_le s; have := hw.p2; omega, by rw [hcm, List.length_map]⟩
  have HT0 : Hid (t + 64 ≤ 4611686018427387904) := ht
  have hR : ((s.round : Nat) : Int) ≤ 2 := by have := hw.rd; omega
  clear hb hnm hv hFp hfN hfV hFl hc ht hcF hn hon hw he hr hg hcm hq HQ hne hcl
  generalize hRR : ((s.round : Nat) : Int) = R at hR
  have HRR : Hid (((s.round : Nat) : Int) = R) := hRR
  clear hRR
  go_enter Try.func25, Try.ntmps25
  go_wp2_with fail
  refine HK.out.1.mono ?_
  rintro e w1 ⟨ro, rn, rc, rz, rfl, hrn, hz, hzn, hk1⟩
  have hb1 := hk1.at HK.out.2.1 (fun h => h)
  have H1 : Hid (rn = (psR s).length ∧ Zs w1 s ro rc rz (List.range (psR s).length) (qs0 s) ∧ (∀ i, ZB ro rz (psR s).length i → w.heap.size ≤ i) ∧ Keeps no w w1 ∧ w1.heap[p]? = some (.cells (rdC nmo s.names.length nc s.parts s.client (fnC cp) ph 0 ro0 rn0 rc0 co0 cn0 cc0 vo s.first.length vc) 79 (0, 0))) := ⟨hrn, hz, hzn, hk1, hb1⟩
  have hrnb : (rn : Int) ≤ 64 := by have := HS.out.2.2.2.1; omega
  have b3 := cell_of_blk hb1 3
  simp only [rdC, fnC, List.getElem?_toArray, List.getElem?_cons_succ, List.getElem?_cons_zero] at b3
  clear hrn hz hzn hk1 hb1
  go_wp2_with fail
  refine (HBT.out w1 H1.out.2.2.2.1).mono ?_
  rintro e w2 ⟨co, cn, cc, cs, rfl, hcn, hvo⟩
  have hb2 := hvo.kp.at H1.out.2.2.2.2 (fun h => h)
  have g4 := cell_of_blk hb2 4
  have g6 := cell_of_blk hb2 6
  have g7 := cell_of_blk hb2 7
  have f4 := frozen_of_blk hb2 4
  have f6 := frozen_of_blk hb2 6
  have f7 := frozen_of_blk hb2 7
  simp only [rdC, List.getElem?_toArray, List.getElem?_cons_succ, List.getElem?_cons_zero] at g4 g6 g7
  have HB : Hid (∀ W, W = ((w2.setCell ⟨p, 4, none⟩ (.int .i64 R)).setCell ⟨p, 6, none⟩ (.slice none 0 0)).setCell ⟨p, 7, none⟩ (.slice co cn cc) → AskR w W w1.heap.size p cp fr st s nmo nc vo vc ro rc co cn cc cs (qs0 s) t) := by
    rintro W rfl
    have k3 : Keeps (fun i => i = p) w2 (((w2.setCell ⟨p, 4, none⟩ (.int .i64 R)).setCell ⟨p, 6, none⟩ (.slice none 0 0)).setCell ⟨p, 7, none⟩ (.slice co cn cc)) := ((keeps_one w2 p 4 _).trans (keeps_one _ p 6 _)).trans (keeps_one _ p 7 _)
    have hz2 := H1.out.2.1.keepsN hvo.kp
    have h1s := H1.out.2.2.2.1.size
    have hpl := HS.out.2.2.1
    refine ⟨?_, ⟨rz, hz2.keepsT k3 ?_, fun i hi => ⟨H1.out.2.2.1 i hi, H1.out.2.1.lt i (by rw [List.length_range]; exact hi)⟩⟩, ?_, ?_, fun i hi => ?_, h1s, fun i hi => by rintro ⟨j, hj, h⟩; exact tags_ne (by decide) hvo.own (hvo.each j hj).own i hi h, hcn, ?_, ?_⟩
    · have := blk_set (blk_set (blk_set hb2 4 (.int .i64 R)) 6 (.slice none 0 0)) 7 (.slice co cn cc)
      rw [← HRR.out] at this ⊢
      simpa [rdC] using this
    · rintro b rfl
      exact ⟨_, _, _, hb2, by decide, by decide, by decide⟩
    · exact hvo.own.keeps k3 (fun i hi e => by have := hvo.newO i hi; omega)
    · exact hvo.vers.keeps k3 (fun i hi e => by have := (hvo.vb i hi).1; omega)
    · have := hvo.vb i hi
      have := k3.size
      omega
    · exact ((HK.out.2.2.1.keeps H1.out.2.2.2.1 (fun h => h)).keeps hvo.kp (fun h => h)).keeps k3 (fun e => HS.out.1 e.symm)
    · exact ((H1.out.2.2.2.1.trans hvo.kp).of_no.trans (k3.mono (fun i e => .inl e)))
  clear hvo hb2 b3 hcn
  go_upto_region 4 with fail
  have h3 := HB.out _ rfl
  generalize ((w2.setCell ⟨p, 4, none⟩ (.int .i64 R)).setCell ⟨p, 6, none⟩ (.slice none 0 0)).setCell ⟨p, 7, none⟩ (.slice co cn cc) = w3 at h3 ⊢
  obtain ⟨M, hM⟩ : ∃ M, M = w1.heap.size := ⟨_, rfl⟩
  rw [← hM] at h3
  have H3 : Hid (AskR w w3 M p cp fr st s nmo nc vo vc ro rc co cn cc cs (qs0 s) t) := h3
  clear h3 HB hM g4 g6 g7 f4 f6 f7
  go_wp2_with fail
  go_loopw [11, 34] (fun s11 s34 wr => ∃ (k : Nat), k ≤ rn ∧ s34 = .int .i64 k ∧ Hid (AskR w wr M p cp fr st s nmo nc vo vc ro rc co cn cc cs ((qsR s).take k ++ (qs0 s).drop k) (t + k))) (fun _ s34 _ => rn - (intOf s34).toNat)
  case atStart => exact ⟨0, by omega, rfl, H3.out⟩
  case round =>
    rename World => wr
    clear H3
    obtain ⟨k, hk, rfl, HT⟩ := hrel
    by_cases hlt : k < rn
    · have hlt' : (k : Int) < rn := by omega
      have hlq : k < (psR s).length := by have := H1.out.1; omega
      have HNX : Hid (Calls Try.prog 8 #[.pointer (some ⟨cp, 0, none⟩)] wr fun e w' => e = .returned (.int .u64 ((numC fr st (t + k) : Nat) : Int)) ∧ IsCt w' cp fr st (t + k + 1) ∧ Keeps (fun i => i = cp) wr w') := next_any wr cp fr st (t + k) (by have := HT0.out; have := HS.out.2.2.2.1; omega) HT.out.ct
      have HST : Hid (∀ X, IsCt X cp fr st (t + k + 1) → Keeps (fun i => i = cp) wr X → ∃ g, ro = some ⟨g, 0, none⟩ ∧ (∀ i, X.frozen? ⟨g, i, none⟩ = false) ∧ (∃ u : Int, X.cell? ⟨g, k * 10 + 3, none⟩ = some (.int .u64 u)) ∧ AskR w (X.setCell ⟨g, k * 10 + 3, none⟩ (.int .u64 ((numC fr st (t + k) : Nat) : Int))) M p cp fr st s nmo nc vo vc ro rc co cn cc cs ((qsR s).take (k + 1) ++ (qs0 s).drop (k + 1)) (t + (k + 1))) := fun X h1 h2 => HT.out.draw HS.out.1 HS.out.2.1 HS.out.2.2.1 hlq HK.out.2.2.2 h1 h2
      clear HT hlq
      generalize hv : numC fr st (t + k) = V at HNX HST
      clear hv
      go_wp2_with (go_at_call 8; go_loud (refine HNX.out.mono ?_); rintro e w3 ⟨rfl, hc3, hk3⟩; obtain ⟨g, hg, hfz, ⟨u, hu⟩, hA3⟩ := HST.out w3 hc3 hk3; subst hg; have hf3 := hfz (k * 10 + 3); have HA3 : Hid _ := hA3; clear hA3 hfz hc3 hk3)
      go_roundw
      case rel => exact ⟨k + 1, by omega, by go_num, HA3⟩
      case measure => simp [intOf]; omega
    · have hlt' : ¬ (k : Int) < rn := by omega
      have HX : Hid (rn = (psR s).length ∧ AskR w wr M p cp fr st s nmo nc vo vc ro rc co cn cc cs (qsR s) (t + (psR s).length)) := by
        have h := HT.out
        have e : k = (psR s).length := by have := H1.out.1; omega
        rw [e] at h
        have e2 : (qsR s).take (psR s).length = qsR s := List.take_of_length_le (by rw [qsR_len]; exact Nat.le_refl _)
        have e3 : (qs0 s).drop (psR s).length = [] := List.drop_of_length_le (by rw [qs0_len]; exact Nat.le_refl _)
        rw [e2, e3, List.append_nil] at h
        exact ⟨H1.out.1, h⟩
      clear HT
      have b4 := cell_of_blk HX.out.2.blk 4
      have b6 := cell_of_blk HX.out.2.blk 6
      have f6 := frozen_of_blk HX.out.2.blk 6
      simp only [rdC, List.getElem?_toArray, List.getElem?_cons_succ, List.getElem?_cons_zero] at b4 b6
      rw [HRR.out] at b4
      have hRne : (R != R) = false := by simp
      go_wp2_with fail
      refine (HA.out _ _ _ _ _ _ _ _ _ HX.out.1 HX.out.2).mono ?_
      rintro e w' ⟨o, n, c, rs, G, rfl, T⟩
      have HT2 : Hid _ := T
      clear T
      go_wp2_with fail
      go_ret
      exact ⟨o, n, c, rs, G, rfl, HT2.out⟩
end Go.Proofs.Ytileipnoiocdlaa
