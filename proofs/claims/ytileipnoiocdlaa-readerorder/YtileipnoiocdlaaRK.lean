import Derived.Test.YtileipnoiocdlaaRH
/- An answer, in pure lists; what it does to the questions. -/
namespace Go.Proofs.Ytileipnoiocdlaa
open Go.RowKit Go.Sort Orl
set_option linter.unusedVariables false
set_option linter.unusedSimpArgs false

/-! ### parts -/
theorem prt_rise {α : Type} (P : Nat) (key : α → Tx) (l : List α) : ∀ k, ((prt P key l k).map Prod.fst).Pairwise (· < ·)
  | 0 => List.Pairwise.nil
  | k + 1 => by
    rw [prt, List.map_append, List.pairwise_append]
    refine ⟨prt_rise P key l k, ?_, ?_⟩
    · split <;> simp
    · intro a ha b hb
      obtain ⟨q, hq, rfl⟩ := List.mem_map.1 ha
      have h1 := (prt_mem P key l k q hq).1
      split at hb
      · simp at hb
      · simp at hb; omega
theorem ps_inj {s : RS} {i j : Nat} (hi : i < (psR s).length) (hj : j < (psR s).length) (h : ((psR s).getD i pp0).1 = ((psR s).getD j pp0).1) : i = j := by
  have hp := prt_rise s.parts idT s.nm s.parts
  have e : ∀ k, k < (psR s).length → ((psR s).map Prod.fst).getD k 0 = ((psR s).getD k pp0).1 := fun k hk => by simp [List.getD_eq_getElem?_getD, hk]
  have hp : ((psR s).map Prod.fst).Pairwise (· < ·) := hp
  have key : ∀ a b, a < b → b < (psR s).length → ((psR s).getD a pp0).1 < ((psR s).getD b pp0).1 := by
    intro a b hab hb
    have h1 := List.pairwise_iff_getElem.1 hp a b (by rw [List.length_map]; omega) (by rw [List.length_map]; exact hb) hab
    rw [List.getElem_map, List.getElem_map] at h1
    simpa [List.getD_eq_getElem?_getD, hb, (show a < (psR s).length by omega)] using h1
  rcases Nat.lt_trichotomy i j with h1 | h1 | h1
  · have := key i j h1 hj; omega
  · exact h1
  · have := key j i h1 hi; omega
theorem ps_pl {s : RS} {i : Nat} (hi : i < (psR s).length) {k : Tx} (hk : k ∈ ((psR s).getD i pp0).2) : pl s.parts k = ((psR s).getD i pp0).1 := by
  have h2 := prt_mem s.parts idT s.nm s.parts _ (getD_mem_lt pp0 hi)
  rw [show ((psR s).getD i pp0).2 = _ from h2.2.1] at hk
  exact of_decide_eq_true (List.mem_filter.1 hk).2
/-- a key is asked of one part -/
theorem ps_one {s : RS} {i j : Nat} (hi : i < (psR s).length) (hj : j < (psR s).length) {k : Tx} (h1 : k ∈ ((psR s).getD i pp0).2) (h2 : k ∈ ((psR s).getD j pp0).2) : i = j :=
  ps_inj hi hj (by rw [← ps_pl hi h1, ← ps_pl hj h2])
/-! ### an answer taken -/
def tookS (s : RS) (v : Ver) : RS := { s with came := kept s.came (ixN s.nm v.key) v, got := s.got.set (ixN s.nm v.key) true }
theorem took_ps (s : RS) (v : Ver) : psR (tookS s v) = psR s := rfl
theorem took_q (s : RS) (v : Ver) (i : Nat) : qAt (tookS s v) i = qAt s i := rfl
theorem took_opn {s : RS} (hg : s.got.length = s.nm.length) {v : Ver} (hv : v.key ∈ s.nm) {k : Tx} (hk : k ∈ s.nm) : isOpn (tookS s v) k = (isOpn s k && !decide (k = v.key)) := by
  unfold isOpn tookS
  simp only
  rw [getD_setV s.got _ _ _ true (by rw [hg]; exact idx_lt hv)]
  by_cases e : k = v.key
  · rw [if_pos (by rw [e]), decide_eq_true e]; simp
  · rw [if_neg (fun h => e (by rw [← idx_at hk, h, idx_at hv])), decide_eq_false e]; simp
theorem WfR.took {s : RS} (h : WfR s) {v : Ver} (hv : v.key ∈ s.nm) (hf : FitV v) : WfR (tookS s v) := by
  have hix := idx_lt hv
  have hcl : ixN s.nm v.key < s.came.length := by rw [h.cml]; exact hix
  refine ⟨h.p1, h.p2, h.cl, h.nk, h.rd, h.nml, h.nmz, h.nmd, ?_, ?_, fun j hj => ?_, ⟨?_, fun u hu => ?_⟩, h.ff, h.fl, h.of, h.ol, h.rl, h.rz, h.wl, h.wz, h.r0, h.r1⟩
  · show (kept _ _ _).length = _; rw [kept_len]; exact h.cml
  · show (s.got.set _ _).length = _; rw [List.length_set]; exact h.gl
  · show ((kept _ _ _).getD j v0).key = _
    rw [kept_at hcl]
    have := h.ck j hj
    split
    · rename_i e; rw [← e]; exact this
    · exact this
  · show (kept _ _ _).length ≤ _; rw [kept_len]; exact h.cf.len
  · have hu : u ∈ kept s.came (ixN s.nm v.key) v := hu
    rcases List.mem_or_eq_of_mem_set hu with h1 | rfl
    · exact h.cf.each u h1
    · exact ⟨hf.id, (h.cf.at hcl).key, hf.val, hf.len, hf.keys⟩
theorem took_done {s : RS} (h : WfR s) {v : Ver} {i : Nat} (hi : i < (psR s).length) (hv : v.key ∈ ((psR s).getD i pp0).2) {j : Nat} (hj : j < (psR s).length) (hne : j ≠ i) : doneQ (tookS s v) j = doneQ s j := by
  have hvn := (ps_keys hi).2.1 _ hv
  unfold doneQ
  rw [took_ps, Bool.eq_iff_iff, List.all_eq_true, List.all_eq_true]
  refine forall₂_congr fun k hk => ?_
  have hkn := (ps_keys hj).2.1 k hk
  have e : ¬ k = v.key := fun e => hne (ps_one hj hi hk (e ▸ hv))
  rw [took_opn h.gl hvn hkn, decide_eq_false e]
  simp
theorem filter_out {l : List Nat} (hd : l.Nodup) {j : Nat} (hj : j < l.length) : l.filter (fun x => !decide (x = l.getD j 0)) = l.eraseIdx j := by
  induction l generalizing j with
  | nil => simp at hj
  | cons a r ih =>
    obtain ⟨h1, h2⟩ := List.nodup_cons.1 hd
    cases j with
    | zero =>
      rw [List.getD_cons_zero, List.filter_cons, if_neg (by simp), List.eraseIdx_cons_zero, List.filter_eq_self]
      intro x hx
      have : ¬ x = a := fun e => h1 (e ▸ hx)
      simp [this]
    | succ j =>
      have hj : j < r.length := by simpa using hj
      rw [List.getD_cons_succ, List.eraseIdx_cons_succ, List.filter_cons]
      have h3 : ¬ a = r.getD j 0 := fun e => h1 (by rw [e]; exact getD_mem_lt 0 hj)
      rw [if_pos (by rw [decide_eq_false h3]; rfl), ih h2 hj]
theorem undone_nodup (s : RS) : (undone s).Nodup := List.nodup_range.filter _
/-- the questions not done, behind an answer -/
theorem took_undone {s : RS} (h : WfR s) {v : Ver} {j : Nat} (hj : j < (undone s).length) (hv : v.key ∈ ((psR s).getD ((undone s).getD j 0) pp0).2) :
    undone (tookS s v) = if doneQ (tookS s v) ((undone s).getD j 0) = true then (undone s).eraseIdx j else undone s := by
  have hi := undone_lt hj
  have hm : (undone s).getD j 0 ∈ undone s := getD_mem_lt 0 hj
  have key : ∀ a ∈ List.range (psR s).length, (!doneQ (tookS s v) a) = if a = (undone s).getD j 0 then !doneQ (tookS s v) ((undone s).getD j 0) else !doneQ s a := by
    intro a ha
    split
    · rename_i e; rw [e]
    · rename_i e; rw [took_done h hi hv (List.mem_range.1 ha) e]
  have hu : undone (tookS s v) = (List.range (psR s).length).filter fun a => if a = (undone s).getD j 0 then !doneQ (tookS s v) ((undone s).getD j 0) else !doneQ s a := by
    unfold undone
    rw [took_ps]
    exact List.filter_congr key
  rw [hu]
  split
  · rename_i hd
    rw [← filter_out (undone_nodup s) hj]
    generalize (undone s).getD j 0 = x at *
    unfold undone
    rw [List.filter_filter]
    refine List.filter_congr fun a _ => ?_
    by_cases e : a = x
    · rw [if_pos e, hd, decide_eq_true e]; rfl
    · rw [if_neg e, decide_eq_false e]; simp
  · rename_i hd
    have hd' : doneQ (tookS s v) ((undone s).getD j 0) = false := by simpa using hd
    have hds : doneQ s ((undone s).getD j 0) = false := by
      have := (List.mem_filter.1 hm).2
      simpa using this
    rw [hd']
    unfold undone at *
    refine List.filter_congr fun a _ => ?_
    split
    · rename_i e; rw [e, hds]
    · rfl
/-! ### its map -/
theorem OpL.took {s : RS} (h : WfR s) {v : Ver} {i : Nat} (hi : i < (psR s).length) (hv : v.key ∈ ((psR s).getD i pp0).2) {L : List (Tx × Nat)} (hL : OpL s ((psR s).getD i pp0).2 L) : OpL (tookS s v) ((psR s).getD i pp0).2 (Go.Proofs.Ytileipnoiocdlaa.del v.key L) := by
  have hvn := (ps_keys hi).2.1 _ hv
  refine ⟨fun k a => ?_, Nat.le_trans (length_del_le _ _) hL.le⟩
  rw [fnd_del]
  show _ ↔ _ ∧ a = ixN s.nm k
  by_cases e : k = v.key
  · rw [if_pos e]
    constructor
    · intro h1; cases h1
    · rintro ⟨⟨h1, h2⟩, _⟩
      rw [took_opn h.gl hvn ((ps_keys hi).2.1 _ h1), decide_eq_true e] at h2
      simp at h2
  · rw [if_neg e, hL.iff]
    constructor
    · rintro ⟨⟨h1, h2⟩, h3⟩
      exact ⟨⟨h1, by rw [took_opn h.gl hvn ((ps_keys hi).2.1 _ h1), h2, decide_eq_false e]; rfl⟩, h3⟩
    · rintro ⟨⟨h1, h2⟩, h3⟩
      rw [took_opn h.gl hvn ((ps_keys hi).2.1 _ h1), decide_eq_false e] at h2
      exact ⟨⟨h1, by simpa using h2⟩, h3⟩
theorem OpL.other {s : RS} (h : WfR s) {v : Ver} {i j : Nat} (hi : i < (psR s).length) (hv : v.key ∈ ((psR s).getD i pp0).2) (hj : j < (psR s).length) (hne : j ≠ i) {L : List (Tx × Nat)} (hL : OpL s ((psR s).getD j pp0).2 L) : OpL (tookS s v) ((psR s).getD j pp0).2 L := by
  have hvn := (ps_keys hi).2.1 _ hv
  refine ⟨fun k a => ?_, hL.le⟩
  rw [hL.iff]
  show _ ↔ _ ∧ a = ixN s.nm k
  have key : k ∈ ((psR s).getD j pp0).2 → isOpn (tookS s v) k = isOpn s k := fun hk => by
    have e : ¬ k = v.key := fun e => hne (ps_one hj hi hk (e ▸ hv))
    rw [took_opn h.gl hvn ((ps_keys hj).2.1 _ hk), decide_eq_false e]; simp
  constructor
  · rintro ⟨⟨h1, h2⟩, h3⟩; exact ⟨⟨h1, by rw [key h1]; exact h2⟩, h3⟩
  · rintro ⟨⟨h1, h2⟩, h3⟩; exact ⟨⟨h1, by rw [← key h1]; exact h2⟩, h3⟩
/-- one key less is open -/
theorem Zs.del {w w' : World} {s : RS} {ro : Option Addr} {rc : Nat} {rz : List RZ} (h : Zs w s ro rc rz (undone s) (askedR s)) (hw : WfR s) {v : Ver} {j : Nat} (hj : j < (undone s).length) (hv : v.key ∈ ((psR s).getD ((undone s).getD j 0) pp0).2) {L : List (Tx × Nat)} (hL : OpL s ((psR s).getD ((undone s).getD j 0) pp0).2 L) (hm : IsMp KT Vi w' (rz.getD j rz0).mb (Go.Proofs.Ytileipnoiocdlaa.del v.key L)) (k : Keeps (fun i => i = (rz.getD j rz0).mb) w w') (hb : ∃ es cl, w.heap[(rz.getD j rz0).mb]? = some (.map es cl)) : Zs w' (tookS s v) ro rc rz (undone s) (askedR s) := by
  have hi := undone_lt hj
  obtain ⟨es, cl, hb⟩ := hb
  have tag : ∀ {α : Type} {E : El α} {o : Option Addr} {c : Nat} {xs : List α}, Own E w o c xs → ∀ i, inO o i → ¬ i = (rz.getD j rz0).mb := by
    intro α E o c xs ho i hi e
    obtain ⟨cur, h2⟩ := ho.tag i hi
    rw [e, hb] at h2; cases h2
  refine ⟨h.own.keeps k (tag h.own), h.lenI, h.lenQ, fun a ha => (h.each a ha).keeps k (fun i hi => hi.elim (tag (h.each a ha).ks i) (tag (h.each a ha).ws i)), fun a ha => ?_, h.sep⟩
  show ∃ L, IsMp KT Vi w' (rz.getD a rz0).mb L ∧ OpL (tookS s v) ((psR s).getD ((undone s).getD a 0) pp0).2 L
  by_cases e : a = j
  · subst e
    exact ⟨_, hm, hL.took hw hi hv⟩
  · obtain ⟨L1, h1, h2⟩ := h.mp a ha
    refine ⟨L1, h1.keeps k (fun e2 => ?_), h2.other hw hi hv (undone_lt ha) (fun e2 => e ?_)⟩
    · rcases Nat.lt_or_gt_of_ne e with h3 | h3
      · exact h.sep a j h3 hj e2
      · exact h.sep j a h3 ha e2.symm
    · have hd := undone_nodup s
      have e3 : (undone s)[a]'ha = (undone s)[j]'hj := by simpa [List.getD_eq_getElem?_getD, ha, hj] using e2
      by_cases h1 : a = j
      · exact h1
      · rcases Nat.lt_or_gt_of_ne h1 with h3 | h3
        · exact absurd e3 (List.pairwise_iff_getElem.1 hd a j ha hj h3)
        · exact absurd e3.symm (List.pairwise_iff_getElem.1 hd j a hj ha h3)
theorem getD_erase {α : Type} (l : List α) (j k : Nat) (d : α) : (l.eraseIdx j).getD k d = if k < j then l.getD k d else l.getD (k + 1) d := by
  rw [List.getD_eq_getElem?_getD, List.getD_eq_getElem?_getD, List.getD_eq_getElem?_getD, List.getElem?_eraseIdx]
  split <;> rfl
/-- one question out -/
theorem Zs.out {w w' : World} {s : RS} {g rc : Nat} {rz : List RZ} {ix : List Nat} {qs : List Qn} (h : Zs w s (some ⟨g, 0, none⟩) rc rz ix qs) {j : Nat} (hj : j < ix.length) (ho : Own RE w' (some ⟨g, 0, none⟩) rc (rz.eraseIdx j)) (k : Keeps (fun i => i = g) w w') : Zs w' s (some ⟨g, 0, none⟩) rc (rz.eraseIdx j) (ix.eraseIdx j) (qs.eraseIdx j) := by
  have el : (ix.eraseIdx j).length = ix.length - 1 := by rw [List.length_eraseIdx, if_pos hj]
  have er : (rz.eraseIdx j).length = rz.length - 1 := by rw [List.length_eraseIdx, if_pos (by rw [h.lenI]; exact hj)]
  have eq : (qs.eraseIdx j).length = qs.length - 1 := by rw [List.length_eraseIdx, if_pos (by rw [h.lenQ]; exact hj)]
  have kg : Keeps (inO (some (⟨g, 0, none⟩ : Addr))) w w' := k.mono (fun i e => ⟨_, rfl, e.symm⟩)
  have key : ∀ a, a < ix.length → QNw w' (rz.getD a rz0).q (qs.getD a q0) ∧ ∃ L, IsMp KT Vi w' (rz.getD a rz0).mb L ∧ OpL s ((psR s).getD (ix.getD a 0) pp0).2 L := by
    intro a ha
    have hq := h.each a ha
    refine ⟨hq.keeps kg (fun b hb => hb.elim (tags_ne (by decide) hq.ks h.own b) (tags_ne (by decide) hq.ws h.own b)), ?_⟩
    obtain ⟨L, h1, h2⟩ := h.mp a ha
    refine ⟨L, h1.keeps kg (fun hi => ?_), h2⟩
    obtain ⟨es, cl, h3⟩ := h1.obj
    obtain ⟨cur, h4⟩ := h.own.tag _ hi
    rw [h3] at h4; cases h4
  refine ⟨ho, by rw [er, el, h.lenI], by rw [eq, el, h.lenQ], fun a ha => ?_, fun a ha => ?_, fun a b hab hb => ?_⟩
  · rw [el] at ha
    rw [getD_erase, getD_erase]
    split
    · exact (key a (by omega)).1
    · exact (key (a + 1) (by omega)).1
  · rw [el] at ha
    rw [getD_erase, getD_erase]
    split
    · exact (key a (by omega)).2
    · exact (key (a + 1) (by omega)).2
  · rw [el] at hb
    rw [getD_erase, getD_erase]
    split <;> split
    · exact h.sep a b hab (by omega)
    · exact h.sep a (b + 1) (by omega) (by omega)
    · omega
    · exact h.sep (a + 1) (b + 1) (by omega) (by omega)
theorem map_erase {α β : Type} (f : α → β) : ∀ (l : List α) (j : Nat), (l.eraseIdx j).map f = (l.map f).eraseIdx j
  | [], j => by simp
  | a :: r, 0 => by simp
  | a :: r, j + 1 => by simp [map_erase f r j]
/-! ### Receive, in pure lists -/
noncomputable def behindO (s : RS) (fr st t : Nat) : Out := if undone s = [] then (if s.round = 1 then endFO s fr st t else ⟨endS2 s, [], t⟩) else ⟨s, [], t⟩
noncomputable def recvO (s : RS) (part kind : Int) (req : Nat) (l : List Ver) (fr st t : Nat) : Out :=
  if s.ended = 0 ∧ kind = 7 ∧ l.length = 1 then
    match idxQ (hitR part req) (askedR s) with
    | none => ⟨s, [], t⟩
    | some j =>
      if inn ((psR s).getD ((undone s).getD j 0) pp0).2 (l.getD 0 v0).key = true ∧ isOpn s (l.getD 0 v0).key = true then behindO (tookS s (l.getD 0 v0)) fr st t
      else ⟨s, [], t⟩
  else ⟨s, [], t⟩
end Go.Proofs.Ytileipnoiocdlaa
/- A reader while an answer is taken. -/
namespace Go.Proofs.Ytileipnoiocdlaa
open Go.RowKit Go.Sort Orl
set_option linter.unusedVariables false
set_option linter.unusedSimpArgs false

/-- a pending reader, but its questions -/
structure RdR (w : World) (p cp : Nat) (F : Nat → Prop) (s : RS) (n : Nat) (nmo : Option Addr) (nc : Nat) (ro : Option Addr) (rc : Nat) (co : Option Addr) (cc : Nat) (cs : List RV) (vo : Option Addr) (vc : Nat) (vs : List RV) : Prop where
  blk : w.heap[p]? = some (.cells (rdC nmo s.names.length nc s.parts s.client (fnC cp) s.round 0 ro n rc co s.came.length cc vo s.first.length vc) 79 (0, 0))
  nms : Sl TE w nmo nc s.names
  cam : Own VE w co cc cs
  came : Vers w co cc cs s.came
  ver : Vers w vo vc vs s.first
  fN : ∀ i, inO nmo i → F i ∧ i ≠ p
  fC : ∀ i, VB co cs s.came.length i → F i ∧ i ≠ p
  fV : ∀ i, VB vo vs s.first.length i → F i ∧ i ≠ p
  cv : ∀ i, inO co i → ¬ inO nmo i ∧ ¬ VB vo vs s.first.length i ∧ ¬ KB cs s.came.length i
theorem RdL.rest {w : World} {p cp : Nat} {F : Nat → Prop} {s : RS} {nmo : Option Addr} {nc : Nat} {ro : Option Addr} {rc : Nat} {rz : List RZ} {co : Option Addr} {cc : Nat} {cs : List RV} {vo : Option Addr} {vc : Nat} {vs : List RV} (h : RdL w p cp F s nmo nc ro rc rz co cc cs vo vc vs) : RdR w p cp F s (undone s).length nmo nc ro rc co cc cs vo vc vs :=
  ⟨h.blk, h.nms, h.cam, h.came, h.ver, h.fN, h.fC, h.fV, h.cv⟩
theorem RdR.all {w : World} {p cp : Nat} {F : Nat → Prop} {s : RS} {nmo : Option Addr} {nc : Nat} {ro : Option Addr} {rc : Nat} {rz : List RZ} {co : Option Addr} {cc : Nat} {cs : List RV} {vo : Option Addr} {vc : Nat} {vs : List RV} (h : RdR w p cp F s (undone s).length nmo nc ro rc co cc cs vo vc vs) (hz : Zs w s ro rc rz (undone s) (askedR s)) (hf : ∀ i, ZB ro rz (undone s).length i → F i ∧ i ≠ p ∧ ¬ inO nmo i ∧ ¬ VB co cs s.came.length i ∧ ¬ VB vo vs s.first.length i) : RdL w p cp F s nmo nc ro rc rz co cc cs vo vc vs :=
  ⟨h.blk, h.nms, hz, h.cam, h.came, h.ver, h.fN, hf, h.fC, h.fV, h.cv⟩
theorem RdR.keeps {S : Nat → Prop} {w w' : World} {p cp : Nat} {F : Nat → Prop} {s : RS} {n : Nat} {nmo : Option Addr} {nc : Nat} {ro : Option Addr} {rc : Nat} {co : Option Addr} {cc : Nat} {cs : List RV} {vo : Option Addr} {vc : Nat} {vs : List RV} (h : RdR w p cp F s n nmo nc ro rc co cc cs vo vc vs) (k : Keeps S w w') (hS : ∀ i, S i → i ≠ p ∧ ¬ inO nmo i ∧ ¬ VB co cs s.came.length i ∧ ¬ VB vo vs s.first.length i) : RdR w' p cp F s n nmo nc ro rc co cc cs vo vc vs :=
  ⟨k.at h.blk (fun e => (hS p e).1 rfl), h.nms.keeps k (fun i hi e => (hS i e).2.1 hi), h.cam.keeps k (fun i hi e => (hS i e).2.2.1 (.inl hi)), h.came.keeps k (fun i hi e => (hS i e).2.2.1 hi), h.ver.keeps k (fun i hi e => (hS i e).2.2.2 hi), h.fN, h.fC, h.fV, h.cv⟩
theorem RdR.round {w : World} {p cp : Nat} {F : Nat → Prop} {s : RS} {n : Nat} {nmo : Option Addr} {nc : Nat} {ro : Option Addr} {rc : Nat} {co : Option Addr} {cc : Nat} {cs : List RV} {vo : Option Addr} {vc : Nat} {vs : List RV} (h : RdR w p cp F s n nmo nc ro rc co cc cs vo vc vs) (m : Nat) : RdR (w.setCell ⟨p, 6, none⟩ (.slice ro m rc)) p cp F s m nmo nc ro rc co cc cs vo vc vs := by
  have k := keeps_one w p 6 (.slice ro m rc)
  refine ⟨?_, h.nms.keeps k (fun i hi e => (h.fN i hi).2 e), h.cam.keeps k (fun i hi e => (h.fC i (.inl hi)).2 e), h.came.keeps k (fun i hi e => (h.fC i hi).2 e), h.ver.keeps k (fun i hi e => (h.fV i hi).2 e), h.fN, h.fC, h.fV, h.cv⟩
  have := blk_set h.blk 6 (.slice ro m rc)
  simpa [rdC] using this
/-- a version kept -/
theorem RdR.kept {w w2 w3 : World} {p cp : Nat} {F : Nat → Prop} {s : RS} {n : Nat} {nmo : Option Addr} {nc : Nat} {ro : Option Addr} {rc : Nat} {co : Option Addr} {cc : Nat} {cs cs' : List RV} {vo : Option Addr} {vc : Nat} {vs : List RV} (h : RdR w p cp F s n nmo nc ro rc co cc cs vo vc vs) (hp : p < w.heap.size) (k2 : Keeps no w w2) {v : Ver} (hk : KeptTo w2 co cc cs s.came vs s.first.length (ixN s.nm v.key) v w3 cs') : RdR w3 p cp (fun i => F i ∨ (w.heap.size ≤ i ∧ i < w3.heap.size)) (tookS s v) n nmo nc ro rc co cc cs' vo vc vs := by
  have h2 := h.keeps k2 (fun _ e => e.elim)
  have hlen : (tookS s v).came.length = s.came.length := kept_len _ _ _
  have hsz := k2.size
  have kb : ∀ i, KB cs' s.came.length i → (KB cs s.came.length i ∨ KB vs s.first.length i) ∨ (w.heap.size ≤ i ∧ i < w3.heap.size) := fun i hi => by
    rcases hk.keys i hi with h | h | h
    · exact .inl (.inl h)
    · exact .inl (.inr h)
    · exact .inr ⟨by omega, h.2⟩
  refine ⟨?_, h2.nms.keeps hk.kp (fun i hi e => (h2.cv i e).1 hi), hk.cam, hk.vers, h2.ver.keeps hk.kp (fun i hi e => (h2.cv i e).2.1 hi), fun i hi => ⟨.inl (h.fN i hi).1, (h.fN i hi).2⟩, fun i hi => ?_, fun i hi => ⟨.inl (h.fV i hi).1, (h.fV i hi).2⟩, fun i hi => ⟨(h2.cv i hi).1, (h2.cv i hi).2.1, fun hj => ?_⟩⟩
  · rw [hlen]
    exact hk.kp.at h2.blk (fun e => (h.fC p (.inl e)).2 rfl)
  · rw [hlen] at hi
    rcases hi with hi | hi
    · exact ⟨.inl (h.fC i (.inl hi)).1, (h.fC i (.inl hi)).2⟩
    · rcases kb i hi with (h1 | h1) | h1
      · exact ⟨.inl (h.fC i (.inr h1)).1, (h.fC i (.inr h1)).2⟩
      · exact ⟨.inl (h.fV i (.inr h1)).1, (h.fV i (.inr h1)).2⟩
      · exact ⟨.inr h1, by omega⟩
  · rw [hlen] at hj
    rcases kb i hj with (h1 | h1) | h1
    · exact (h.cv i hi).2.2 h1
    · exact (h.cv i hi).2.1 (.inr h1)
    · have := h.cam.lt i hi; omega
theorem TellTo.after {w w4 : World} {p cp fr st : Nat} {F G : Nat → Prop} {O : Out} {e : Ending} {w' : World} (h : TellTo w4 p cp fr st G O e w') (k : Keeps F w w4) (hG : ∀ i, G i → F i ∨ w.heap.size ≤ i) : TellTo w p cp fr st F O e w' := by
  obtain ⟨o, n, c, rs, G', he, T⟩ := h
  refine ⟨o, n, c, rs, G', he, T.n, T.tq, fun i hi => Nat.le_trans k.size (T.new i hi), T.is, fun i hi => ?_, T.apart, T.ct, ?_⟩
  · rcases T.foot i hi with h | h
    · exact hG i h
    · exact .inr (Nat.le_trans k.size h)
  · refine (k.mono (fun i h => .inl h)).then T.kp ?_
    rintro i (h | h)
    · exact (hG i h).imp (fun h => .inl h) id
    · exact .inl (.inr h)
theorem tell_end2 {w w4 w' : World} {p cp fr st : Nat} {F G : Nat → Prop} {s : RS} {t : Nat} (h : End2 w4 p cp G s (.returned (.tuple #[])) w') (k : Keeps F w w4) (hG : ∀ i, G i → F i ∨ w.heap.size ≤ i) (hc : IsCt w cp fr st t) (hcF : ¬ F cp) : TellTo w p cp fr st F ⟨s, [], t⟩ (.returned (.slice none 0 0)) w' := by
  obtain ⟨_, G', hI, hG', hk⟩ := h
  have hcl := lt_of_block hc
  have hGw : ∀ i, G' i → F i ∨ w.heap.size ≤ i := fun i hi => by
    rcases hG' i hi with h | h
    · exact hG i h
    · exact .inr (Nat.le_trans k.size h)
  have hkw : Keeps F w w' := k.then hk hG
  exact ⟨none, 0, 0, [], G', rfl, rfl, tq_nil w', fun i hi => by rcases hi with ⟨x, e, _⟩ | ⟨j, hj, _⟩; cases e; simp at hj, hI, hGw, fun i hi => by rcases hi with ⟨x, e, _⟩ | ⟨j, hj, _⟩; cases e; simp at hj, hc.keeps hkw hcF, hkw.mono (fun i h => .inl h)⟩
/-- an answer taken, and its key closed -/
theorem took_one {w w2 w3 w4 : World} {p cp : Nat} {F : Nat → Prop} {s : RS} {nmo : Option Addr} {nc : Nat} {ro : Option Addr} {rc : Nat} {rz : List RZ} {co : Option Addr} {cc : Nat} {cs cs' : List RV} {vo : Option Addr} {vc : Nat} {vs : List RV} (h : RdL w p cp F s nmo nc ro rc rz co cc cs vo vc vs) (hp : p < w.heap.size) (hw : WfR s) (k2 : Keeps no w w2) {v : Ver} (hk : KeptTo w2 co cc cs s.came vs s.first.length (ixN s.nm v.key) v w3 cs') {j : Nat} (hj : j < (undone s).length) (hv : v.key ∈ ((psR s).getD ((undone s).getD j 0) pp0).2) {L : List (Tx × Nat)} (hL : OpL s ((psR s).getD ((undone s).getD j 0) pp0).2 L) (hb : ∃ es cl, w3.heap[(rz.getD j rz0).mb]? = some (.map es cl)) (hm : IsMp KT Vi w4 (rz.getD j rz0).mb (Go.Proofs.Ytileipnoiocdlaa.del v.key L)) (k4 : Keeps (fun i => i = (rz.getD j rz0).mb) w3 w4) :
    RdR w4 p cp (fun i => F i ∨ (w.heap.size ≤ i ∧ i < w3.heap.size)) (tookS s v) (undone s).length nmo nc ro rc co cc cs' vo vc vs ∧ Zs w4 (tookS s v) ro rc rz (undone s) (askedR s) ∧ (∀ i, ZB ro rz (undone s).length i → (F i ∨ (w.heap.size ≤ i ∧ i < w3.heap.size)) ∧ i ≠ p ∧ ¬ inO nmo i ∧ ¬ VB co cs' (tookS s v).came.length i ∧ ¬ VB vo vs (tookS s v).first.length i) ∧ Keeps F w w4 := by
  have hR3 := h.rest.kept hp k2 hk
  have hz2 := h.zs.keepsN k2
  have hz3 := hz2.keepsT hk.kp (fun b hb => by
    obtain ⟨cur, h1⟩ := (h.cam.keepsN k2).tag b hb
    exact ⟨cur, _, _, h1, by decide, by decide, by decide⟩)
  have hlen : (tookS s v).came.length = s.came.length := kept_len _ _ _
  have hzb : ∀ i, ZB ro rz (undone s).length i → i ≠ p ∧ ¬ inO nmo i ∧ ¬ VB co cs' (tookS s v).came.length i ∧ ¬ VB vo vs (tookS s v).first.length i := by
    intro i hi
    obtain ⟨h1, h2, h3, h4, h5⟩ := h.fZ i hi
    have hlt := h.zs.lt i hi
    refine ⟨h2, h3, fun h6 => ?_, h5⟩
    rw [hlen] at h6
    rcases h6 with h6 | h6
    · exact h4 (.inl h6)
    · rcases hk.keys i h6 with h7 | h7 | h7
      · exact h4 (.inr h7)
      · exact h5 (.inr h7)
      · have := k2.size; omega
  have hmb : ZB ro rz (undone s).length (rz.getD j rz0).mb := .inr ⟨j, hj, .inr rfl⟩
  refine ⟨hR3.keeps k4 (fun i e => by rw [e]; exact hzb _ hmb), hz3.del hw hj hv hL hm k4 hb, fun i hi => ⟨.inl (h.fZ i hi).1, hzb i hi⟩, ?_⟩
  exact (k2.of_no.trans (hk.kp.mono (fun i hi => (h.fC i (.inl hi)).1))).trans (k4.mono (fun i e => by rw [e]; exact (h.fZ _ hmb).1))
end Go.Proofs.Ytileipnoiocdlaa
/- Receive. -/
namespace Go.Proofs.Ytileipnoiocdlaa
open Go.RowKit Go.Sort Orl
set_option linter.unusedVariables false
set_option linter.unusedSimpArgs false

/-- a message that came -/
def aggC (k cl : Int) (req id : Nat) (v4 v5 v6 v7 : Option Addr) (n4 n5 n6 n7 c4 c5 c6 c7 : Nat) : Value := .agg #[.int .i64 k, .int .i64 cl, .int .u64 (req : Nat), .int .u64 (id : Nat), .slice v4 n4 c4, .slice v5 n5 c5, .slice v6 n6 c6, .slice v7 n7 c7]
/-- its two boxes -/
structure Bx (w w1 : World) (A : Nat) (part kind cl : Int) (req id : Nat) (v4 v5 v6 v7 : Option Addr) (n4 n5 n6 n7 c4 c5 c6 c7 : Nat) : Prop where
  a : w1.heap[A]? = some (.cells #[.int .i64 part] 3 (0, 0))
  m : w1.heap[A + 1]? = some (.cells #[.int .i64 kind, .int .i64 cl, .int .u64 (req : Nat), .int .u64 (id : Nat), .slice v4 n4 c4, .slice v5 n5 c5, .slice v6 n6 c6, .slice v7 n7 c7] 42 (0, 0))
  kp : Keeps no w w1
theorem bx_of (w : World) (part kind cl : Int) (req id : Nat) (v4 v5 v6 v7 : Option Addr) (n4 n5 n6 n7 c4 c5 c6 c7 : Nat) : Hid (∀ W, W = (w.alloc (.cells #[.int .i64 part] 3)).alloc (.cells #[.int .i64 kind, .int .i64 cl, .int .u64 (req : Nat), .int .u64 (id : Nat), .slice v4 n4 c4, .slice v5 n5 c5, .slice v6 n6 c6, .slice v7 n7 c7] 42) → Bx w W w.heap.size part kind cl req id v4 v5 v6 v7 n4 n5 n6 n7 c4 c5 c6 c7) := by
  rintro W rfl
  have h := two_blk w (.cells #[.int .i64 part] 3) (.cells #[.int .i64 kind, .int .i64 cl, .int .u64 (req : Nat), .int .u64 (id : Nat), .slice v4 n4 c4, .slice v5 n5 c5, .slice v6 n6 c6, .slice v7 n7 c7] 42)
  exact ⟨h.1, h.2, ((Keeps.refl _ _).alloc _).alloc _⟩
set_option maxRecDepth 10000 in
set_option maxHeartbeats 1000000 in
/-- a message of another kind, or not of one version -/
theorem recv_kind (w : World) (p : Nat) (part kind cl : Int) (req id : Nat) (v4 v5 v6 v7 : Option Addr) (n4 n5 n6 n7 c4 c5 c6 c7 : Nat) (hk : ¬ (kind = 7 ∧ n7 = 1)) :
    Calls Try.prog 13 #[.pointer (some ⟨p, 0, none⟩), .int .i64 part, aggC kind cl req id v4 v5 v6 v7 n4 n5 n6 n7 c4 c5 c6 c7] w fun e w' => e = .returned (.slice none 0 0) ∧ Keeps no w w' := by
  have HB := bx_of w part kind cl req id v4 v5 v6 v7 n4 n5 n6 n7 c4 c5 c6 c7
  unfold aggC
  obtain ⟨A, hA⟩ : ∃ A, A = w.heap.size := ⟨_, rfl⟩
  rw [← hA] at HB
  by_cases h7 : kind = 7
  · have h1 : ¬ n7 = 1 := fun e => hk ⟨h7, e⟩
    have h1n : ((n7 : Int) != 1) = true := by simp; omega
    subst h7
    clear hk h1
    go_enter Try.func13, Try.ntmps13
    go_upto_region 1 with fail
    have hB := HB.out _ rfl
    rw [← hA]
    generalize (w.alloc (.cells #[.int .i64 part] 3)).alloc (.cells #[.int .i64 7, .int .i64 cl, .int .u64 (req : Nat), .int .u64 (id : Nat), .slice v4 n4 c4, .slice v5 n5 c5, .slice v6 n6 c6, .slice v7 n7 c7] 42) = w1 at hB ⊢
    have HK : Hid (Keeps no w w1) := hB.kp
    have m0 := cell_of_blk hB.m 0
    have m7 := cell_of_blk hB.m 7
    simp only [List.getElem?_toArray, List.getElem?_cons_succ, List.getElem?_cons_zero] at m0 m7
    clear hB HB hA
    go_wp2_with fail
    go_ret
    exact ⟨rfl, HK.out⟩
  · have h7n : (kind != 7) = true := by simpa using h7
    clear hk h7
    go_enter Try.func13, Try.ntmps13
    go_upto_region 1 with fail
    have hB := HB.out _ rfl
    rw [← hA]
    generalize (w.alloc (.cells #[.int .i64 part] 3)).alloc (.cells #[.int .i64 kind, .int .i64 cl, .int .u64 (req : Nat), .int .u64 (id : Nat), .slice v4 n4 c4, .slice v5 n5 c5, .slice v6 n6 c6, .slice v7 n7 c7] 42) = w1 at hB ⊢
    have HK : Hid (Keeps no w w1) := hB.kp
    have m0 := cell_of_blk hB.m 0
    have m7 := cell_of_blk hB.m 7
    simp only [List.getElem?_toArray, List.getElem?_cons_succ, List.getElem?_cons_zero] at m0 m7
    clear hB HB hA
    go_wp2_with fail
    go_ret
    exact ⟨rfl, HK.out⟩
set_option maxRecDepth 10000 in
set_option maxHeartbeats 1000000 in
/-- no question has asked for it -/
theorem recv_none (w : World) (p : Nat) (part cl : Int) (req id : Nat) (v4 v5 v6 v7 : Option Addr) (n4 n5 n6 c4 c5 c6 c7 : Nat) (ro : Option Addr) (rn rc : Nat) (c6' : w.cell? ⟨p, 6, none⟩ = some (.slice ro rn rc))
    (HI : Hid (∀ X A, Keeps no w X → X.cell? ⟨A, 0, none⟩ = some (.int .i64 part) → X.cell? ⟨A + 1, 2, none⟩ = some (.int .u64 (req : Nat)) → Calls Try.prog 29 #[.slice ro rn rc, .func (.func 30) #[] #[.pointer (some ⟨A, 0, none⟩), .pointer (some ⟨A + 1, 0, none⟩)]] X fun e w' => e = .returned (.int .i64 (-1)) ∧ Keeps no X w')) :
    Calls Try.prog 13 #[.pointer (some ⟨p, 0, none⟩), .int .i64 part, aggC 7 cl req id v4 v5 v6 v7 n4 n5 n6 1 c4 c5 c6 c7] w fun e w' => e = .returned (.slice none 0 0) ∧ Keeps no w w' := by
  have HB := bx_of w part 7 cl req id v4 v5 v6 v7 n4 n5 n6 1 c4 c5 c6 c7
  unfold aggC
  obtain ⟨A, hA⟩ : ∃ A, A = w.heap.size := ⟨_, rfl⟩
  rw [← hA] at HB
  have HC : Hid (∀ X, Keeps no w X → X.cell? ⟨p, 6, none⟩ = some (.slice ro rn rc)) := fun X h => h.cellN c6'
  have hp := World.block_lt_of_cell? w _ c6'
  simp only at hp
  clear c6'
  go_enter Try.func13, Try.ntmps13
  go_upto_region 1 with fail
  have hB := HB.out _ rfl
  rw [← hA]
  generalize (w.alloc (.cells #[.int .i64 part] 3)).alloc (.cells #[.int .i64 7, .int .i64 cl, .int .u64 (req : Nat), .int .u64 (id : Nat), .slice v4 n4 c4, .slice v5 n5 c5, .slice v6 n6 c6, .slice v7 1 c7] 42) = w1 at hB ⊢
  have HK : Hid (Keeps no w w1) := hB.kp
  have m0 := cell_of_blk hB.m 0
  have m7 := cell_of_blk hB.m 7
  simp only [List.getElem?_toArray, List.getElem?_cons_succ, List.getElem?_cons_zero] at m0 m7
  have d6 := HC.out w1 HK.out
  have HI2 : Hid (Calls Try.prog 29 #[.slice ro rn rc, .func (.func 30) #[] #[.pointer (some ⟨A, 0, none⟩), .pointer (some ⟨A + 1, 0, none⟩)]] w1 fun e w' => e = .returned (.int .i64 (-1)) ∧ Keeps no w1 w') := HI.out w1 A HK.out (by rw [cell_of_blk hB.a]; rfl) (by rw [cell_of_blk hB.m]; rfl)
  clear hB HB hA HI HC
  go_wp2_with fail
  refine Calls.mono HI2.out ?_
  rintro e w2 ⟨rfl, hk2⟩
  have HK2 : Hid (Keeps no w w2) := HK.out.trans hk2
  clear hk2
  go_wp2_with fail
  go_ret
  exact ⟨rfl, HK2.out⟩
end Go.Proofs.Ytileipnoiocdlaa
