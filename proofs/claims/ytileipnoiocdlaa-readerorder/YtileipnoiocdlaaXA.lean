import Derived.Test.YtileipnoiocdlaaX2
/- A round begins: its answers over a world. -/
namespace Go.Proofs.Ytileipnoiocdlaa
open Go.RowKit Go.Sort Orl
set_option linter.unusedVariables false
set_option linter.unusedSimpArgs false

/-- what a world answers to a key, in a round -/
def ansF (P : Nat) (ws : List Wr) (gone : Nat) (s : RS) (k : Tx) : Ver := if s.round = 1 then latP P ws k ws.length else wantV P ws gone (wantOf s.ws k)
theorem lat_key (P : Nat) (ws : List Wr) (k : Tx) : ∀ n, (latP P ws k n).key = k
  | 0 => rfl
  | n + 1 => by
    unfold latP
    split
    · rfl
    · exact lat_key P ws k n
theorem want_key (P : Nat) (ws : List Wr) (gone : Nat) (x : Wn) : (wantV P ws gone x).key = x.1 := by
  unfold wantV
  split <;> rfl
theorem ans_key (P : Nat) (ws : List Wr) (gone : Nat) (s : RS) (k : Tx) : (ansF P ws gone s k).key = k := by
  unfold ansF
  split
  · exact lat_key _ _ _ _
  · rw [want_key]; rfl
/-- a question's answers -/
theorem ask_q (P : Nat) (ws : List Wr) (gone : Nat) (s : RS) (i : Nat) : askV P ws gone (qAt s i) = ((psR s).getD i pp0).2.map (ansF P ws gone s) := by
  unfold askV qAt ansF
  simp only
  by_cases h : s.round = 1
  · simp [h]
  · simp [h]
/-- the answers to questions, as they are laid on their way -/
def wayL (P : Nat) (ws : List Wr) (gone : Nat) (qs : List Qn) : List Tl := qs.flatMap fun q => (askV P ws gone q).map fun v => ⟨q.part, q.req, v⟩
/-- no question is done when a round begins -/
theorem start_undone {s : RS} (hg : s.got = List.replicate s.nm.length false) : undone s = List.range (psR s).length := by
  unfold undone
  rw [List.filter_eq_self]
  intro i hi
  have hi' : i < (psR s).length := List.mem_range.1 hi
  have h1 := ps_keys hi'
  obtain ⟨k, hk⟩ := List.exists_mem_of_ne_nil _ h1.2.2.2
  have hkn := h1.2.1 k hk
  have ho : isOpn s k = true := by
    unfold isOpn
    rw [hg]
    have := idx_lt hkn
    simp [List.getD_eq_getElem?_getD, this]
  have hd : doneQ s i = false := by
    rw [Bool.eq_false_iff]
    intro h
    unfold doneQ at h
    rw [List.all_eq_true] at h
    have := h k hk
    rw [ho] at this; cases this
  rw [hd]; rfl
theorem cm_start {s : RS} (f : Tx → Ver) (hg : s.got = List.replicate s.nm.length false) (hc : s.came = s.nm.map botV') : cmS s f (List.replicate s.nm.length false) = s := by
  have e : (cmS s f (List.replicate s.nm.length false)).came = s.came := by
    refine getD_ext v0 (by rw [cm_len, hc, List.length_map]) (fun j hj => ?_)
    rw [cm_len] at hj
    rw [cm_at s f _ hj, hc]
    have : (List.replicate s.nm.length false).getD j true = false := by simp [List.getD_eq_getElem?_getD, hj]
    rw [this, if_neg (by decide)]
    simp [List.getD_eq_getElem?_getD, hj]
  unfold cmS at e ⊢
  simp only at e
  rw [e, ← hg]
/-- when a round begins, what is on its way is what is open -/
theorem way_start (P : Nat) (ws : List Wr) (gone : Nat) {s : RS} (h1 : 1 ≤ s.parts) (hn : s.nm.Nodup) (hg : s.got = List.replicate s.nm.length false) : WayI s (ansF P ws gone s) (List.replicate s.nm.length false) (wayL P ws gone (askedR s)) := by
  have ea : wayL P ws gone (askedR s) = (List.range (psR s).length).flatMap fun i => ((psR s).getD i pp0).2.map fun k => (⟨(qAt s i).part, (qAt s i).req, ansF P ws gone s k⟩ : Tl) := by
    unfold wayL askedR
    rw [start_undone hg, List.flatMap_map]
    congr 1
    funext i
    rw [ask_q, List.map_map]
    rfl
  have hfalse : ∀ k, k ∈ s.nm → (List.replicate s.nm.length false).getD (ixN s.nm k) true = false := fun k hk => by
    have := idx_lt hk
    simp [List.getD_eq_getElem?_getD, this]
  rw [ea]
  refine ⟨List.length_replicate, fun t ht => ?_, fun k hk _ => ?_, ?_⟩
  · obtain ⟨i, hi, hm⟩ := List.mem_flatMap.1 ht
    obtain ⟨k, hk, rfl⟩ := List.mem_map.1 hm
    have hi' : i < (psR s).length := List.mem_range.1 hi
    have hkn := (ps_keys hi').2.1 k hk
    refine ⟨⟨i, k, hi', hk, rfl⟩, ?_, ?_⟩
    · show (ansF P ws gone s k).key ∈ _
      rw [ans_key]; exact hkn
    · show (List.replicate s.nm.length false).getD (ixN s.nm (ansF P ws gone s k).key) true = false
      rw [ans_key]; exact hfalse k hkn
  · obtain ⟨i, hi, hm⟩ := ps_has h1 hk
    exact ⟨_, List.mem_flatMap.2 ⟨i, List.mem_range.2 hi, List.mem_map.2 ⟨k, hm, rfl⟩⟩, ans_key _ _ _ _ _⟩
  · rw [List.map_flatMap]
    have e2 : (fun i => (((psR s).getD i pp0).2.map fun k => (⟨(qAt s i).part, (qAt s i).req, ansF P ws gone s k⟩ : Tl)).map fun t => t.v.key) = fun i => ((psR s).getD i pp0).2 := by
      funext i
      rw [List.map_map]
      conv => rhs; rw [← List.map_id ((psR s).getD i pp0).2]
      refine List.map_congr_left (fun k _ => ?_)
      exact ans_key _ _ _ _ _
    rw [e2]
    unfold List.Nodup
    rw [List.pairwise_flatMap]
    refine ⟨fun i hi => ?_, ?_⟩
    · have hi' : i < (psR s).length := List.mem_range.1 hi
      have h2 := prt_mem s.parts idT s.nm s.parts _ (getD_mem_lt pp0 hi')
      have h3 : ((psR s).getD i pp0).2 = ownOf s.parts idT s.nm ((psR s).getD i pp0).1 := h2.2.1
      rw [h3]
      exact List.Pairwise.filter _ hn
    · refine List.Pairwise.imp_of_mem ?_ (List.nodup_range (n := (psR s).length))
      intro a b ha hb hab x hx y hy e
      subst e
      exact hab (ps_one (List.mem_range.1 ha) (List.mem_range.1 hb) hx hy)
theorem roundS_start (s : RS) (m : Nat) (nm : List Tx) (ws : List Wn) (first : List Ver) (fr st t : Nat) : (roundS s m nm ws first fr st t).got = List.replicate (roundS s m nm ws first fr st t).nm.length false ∧ (roundS s m nm ws first fr st t).came = (roundS s m nm ws first fr st t).nm.map botV' := ⟨rfl, rfl⟩
end Go.Proofs.Ytileipnoiocdlaa
/- A read over a world: what comes of it, whatever the order. -/
namespace Go.Proofs.Ytileipnoiocdlaa
open Go.RowKit Go.Sort Orl
set_option linter.unusedVariables false
set_option linter.unusedSimpArgs false

theorem fin_came (s : RS) (f : Tx → Ver) : (finS s f).came = s.nm.map f := by
  refine getD_ext v0 (by show (cmS s f _).came.length = _; rw [cm_len, List.length_map]) (fun j hj => ?_)
  have hj' : j < s.nm.length := by
    have h : (finS s f).came.length = s.nm.length := cm_len s f _
    rw [← h]; exact hj
  show (cmS s f _).came.getD j v0 = _
  rw [cm_at s f _ hj']
  have : (List.replicate s.nm.length true).getD j true = true := by simp [List.getD_eq_getElem?_getD, hj']
  rw [this, if_pos rfl]
  simp [List.getD_eq_getElem?_getD, hj']
theorem idP_inj {i j : Nat} (h : idP i = idP j) : i = j := by unfold idP at h; omega
/-- a version of the world, or bottom -/
def OfR (ws : List Wr) (v : Ver) : Prop := v = botV' v.key ∨ ∃ i, i < ws.length ∧ v = verP ws i v.key ∧ hasB ws i v.key = true
theorem lat_of (P : Nat) (ws : List Wr) (k : Tx) : ∀ n, n ≤ ws.length → OfR ws (latP P ws k n)
  | 0, _ => .inl rfl
  | n + 1, hn => by
    unfold latP
    split
    · rename_i h
      rw [Bool.and_eq_true] at h
      exact .inr ⟨n, by omega, rfl, h.1⟩
    · exact lat_of P ws k n (by omega)
theorem want_of (P : Nat) (ws : List Wr) (gone : Nat) (x : Wn) : OfR ws (wantV P ws gone x) := by
  unfold wantV
  split
  · rename_i h
    exact .inr ⟨x.2 / 65536 - 1, by omega, rfl, h.2.2⟩
  · exact .inl rfl
theorem OfR.one {ws : List Wr} (hw : GoodW ws) {v : Ver} (h : OfR ws v) : oneB v = true := by
  rcases h with e | ⟨i, hi, e, hh⟩
  · rw [e]
    unfold oneB botV'
    simp
  · have hv := hw.val i hi
    have hv2 := (valK_iff _).1 hv
    rw [e]
    unfold oneB
    have hid : ¬ (verP ws i v.key).id = 0 := by show ¬ idP i = 0; unfold idP; omega
    rw [if_neg hid]
    have h1 : 65536 ≤ (verP ws i v.key).id := by show 65536 ≤ idP i; unfold idP; omega
    have h2 : (verP ws i v.key).keys.length ≤ 1024 := by show (isT _).length ≤ _; unfold isT; rw [isort_length]; exact hv2.1.2
    have h3 : rising lts (verP ws i v.key).keys = true := by
      show rising lts (isT _) = true
      unfold isT
      rw [isort_rising swoT triT]
      exact hv2.2.2
    have h4 : inn (verP ws i v.key).keys (verP ws i v.key).key = true := by
      rw [inn_iff]
      show v.key ∈ isT _
      exact (isort_perm e0 _).mem_iff.2 ((inn_iff _ _).1 hh)
    rw [decide_eq_true h1, decide_eq_true h2, h3, h4]; rfl
theorem OfR.same {ws : List Wr} {x y : Ver} (hx : OfR ws x) (hy : OfR ws y) (h : x.id = y.id) : x.keys = y.keys := by
  rcases hx with ex | ⟨i, hi, ex, _⟩ <;> rcases hy with ey | ⟨j, hj, ey, _⟩
  · rw [ex, ey]; rfl
  · rw [ex, ey] at h
    have h' : (0 : Nat) = idP j := h
    unfold idP at h'; omega
  · rw [ex, ey] at h
    have h' : idP i = 0 := h
    unfold idP at h'; omega
  · rw [ex, ey] at h
    have e : i = j := idP_inj h
    subst e
    rw [ex, ey]; rfl
theorem formedR_of {ws : List Wr} (hw : GoodW ws) {nm : List Tx} {f : Tx → Ver} (hf : ∀ k ∈ nm, OfR ws (f k)) (hk : ∀ k, (f k).key = k) (hn : nm.Nodup) (h1 : 1 ≤ nm.length) (h2 : nm.length ≤ 1024) : Formed (nm.map f) := by
  have at' : ∀ j, j < nm.length → (nm.map f).getD j v0 = f (nm.getD j e0) := fun j hj => by simp [List.getD_eq_getElem?_getD, hj]
  refine ⟨by rw [List.length_map]; omega, by rw [List.length_map]; exact h2, fun j hj => ?_, fun j k hj hkj => ?_⟩
  · rw [List.length_map] at hj
    rw [at' j hj]
    exact (hf _ (getD_mem_lt e0 hj)).one hw
  · rw [List.length_map] at hj
    have hk' : k < nm.length := by omega
    rw [at' j hj, at' k hk', badB_iff]
    refine ⟨fun e => ?_, fun e => (hf _ (getD_mem_lt e0 hk')).same (hf _ (getD_mem_lt e0 hj)) e⟩
    rw [hk, hk] at e
    have := nodup_getD hn hk' hj e
    omega
/-- what is wanted is a write's that has the key -/
theorem needsR_of {ws : List Wr} {l : List Ver} (hl : ∀ x ∈ l, OfR ws x) {p : Wn} (hp : p ∈ needsV l) : ∃ i, i < ws.length ∧ p.2 = idP i ∧ hasB ws i p.1 = true := by
  obtain ⟨y, hy, hlt, rfl⟩ := (needs_mem l p).1 hp
  rcases most_at l y with e | ⟨x, hx, hk, e⟩
  · omega
  · rcases hl x hx with ex | ⟨i, hi, ex, _⟩
    · rw [ex] at hk; cases hk
    · refine ⟨i, hi, ?_, ?_⟩
      · show mostV l y = idP i
        rw [← e, ex]; rfl
      · rw [ex] at hk
        have hk' : y.key ∈ isT (ws.getD i wr0).1 := hk
        show inn _ _ = true
        rw [inn_iff]
        exact (isort_perm e0 _).mem_iff.1 hk'
theorem want_found {P : Nat} {ws : List Wr} {gone : Nat} {k : Tx} {i : Nat} (hi : i < ws.length) (hh : hasB ws i k = true) : wantV P ws gone (k, idP i) = if gone ≤ i then verP ws i k else botV' k := by
  have e : idP i / 65536 = i + 1 := by unfold idP; omega
  unfold wantV
  simp only [e]
  have e2 : i + 1 - 1 = i := by omega
  rw [e2]
  by_cases hg : gone ≤ i
  · rw [if_pos hg, if_pos ⟨by omega, by omega, hh⟩]
  · rw [if_neg hg, if_neg (fun h => hg (by omega))]
theorem wantOf_mem {l : List Wn} {k : Tx} (hk : k ∈ l.map Prod.fst) : wantOf l k ∈ l := by
  unfold wantOf
  cases e : l.find? (fun p => decide (p.1 = k)) with
  | none =>
    obtain ⟨p, hp, rfl⟩ := List.mem_map.1 hk
    have := List.find?_eq_none.1 e p hp
    simp at this
  | some p =>
    have h1 := List.mem_of_find?_eq_some e
    have h2 : p.1 = k := by simpa using List.find?_some e
    show (k, p.2) ∈ l
    rw [← h2]
    exact h1
theorem wantOf_fst (l : List Wn) (k : Tx) : (wantOf l k).1 = k := rfl
/-- all is mended where all that is wanted came -/
theorem mend_some {l got : List Ver} (h : ∀ y ∈ l, y.id < mostV l y → ∃ g ∈ got, g.key = y.key ∧ g.id = mostV l y) : ∃ m, mendV l got = some m := by
  have h1 : ∀ y ∈ l, ∃ v, placeV l got y = some v := by
    intro y hy
    unfold placeV
    split
    · rename_i hlt
      obtain ⟨g, hg, e1, e2⟩ := h y hy hlt
      cases e : got.find? (fun g => decide (g.key = y.key) && decide (g.id = mostV l y)) with
      | none =>
        have := List.find?_eq_none.1 e g hg
        simp [e1, e2] at this
      | some v => exact ⟨v, rfl⟩
    · exact ⟨y, rfl⟩
  unfold mendV
  generalize hl : placeV l got = F at h1
  clear hl h
  induction l with
  | nil => exact ⟨[], rfl⟩
  | cons y r ih =>
    obtain ⟨v, hv⟩ := h1 y (by simp)
    obtain ⟨m, hm⟩ := ih (fun z hz => h1 z (by simp [hz]))
    exact ⟨v :: m, by rw [List.mapM_cons, hv, hm]; rfl⟩
end Go.Proofs.Ytileipnoiocdlaa
/- A read's two rounds over a world: their end. -/
namespace Go.Proofs.Ytileipnoiocdlaa
open Go.RowKit Go.Sort Orl
set_option linter.unusedVariables false
set_option linter.unusedSimpArgs false

theorem fin_undone {s : RS} (f : Tx → Ver) (h1 : 1 ≤ s.parts) : undone (finS s f) = [] := by
  refine (undone_cm h1).2 (fun k hk => ?_)
  have := idx_lt hk
  simp [List.getD_eq_getElem?_getD, this]
theorem fin_congr {s : RS} {f g : Tx → Ver} (h : ∀ k ∈ s.nm, f k = g k) : finS s f = finS s g := by
  unfold finS cmS
  congr 1
  refine List.map_congr_left (fun j hj => ?_)
  have hj' : j < s.nm.length := List.mem_range.1 hj
  rw [h _ (getD_mem_lt e0 hj')]
/-- a round of a read that is pending -/
structure Pend (s : RS) (m : Nat) : Prop where
  p1 : 1 ≤ s.parts
  rd : s.round = m
  en : s.ended = 0
  nd : s.nm.Nodup
  l1 : 1 ≤ s.nm.length
  l2 : s.nm.length ≤ 1024
  got : s.got = List.replicate s.nm.length false
  cam : s.came = s.nm.map botV'
theorem ans_one {P : Nat} {ws : List Wr} {s : RS} (h : s.round = 1) (g : Nat) : ansF P ws g s = ansF P ws 0 s := by
  funext k
  unfold ansF
  rw [if_pos h, if_pos h]
theorem ans_ofR {P : Nat} {ws : List Wr} (g : Nat) (s : RS) (k : Tx) : OfR ws (ansF P ws g s k) := by
  unfold ansF
  split
  · exact lat_of P ws k _ (Nat.le_refl _)
  · exact want_of P ws g _
/-- what the first round brought -/
def came1 (P : Nat) (ws : List Wr) (s : RS) : List Ver := s.nm.map (ansF P ws 0 s)
theorem came1_formed {P : Nat} {ws : List Wr} (hw : GoodW ws) {s : RS} (h : Pend s 1) : Formed (came1 P ws s) := formedR_of hw (fun k _ => ans_ofR 0 s k) (ans_key P ws 0 s) h.nd h.l1 h.l2
/-- the first round's end -/
theorem first_end {P : Nat} {ws : List Wr} (hw : GoodW ws) {s : RS} (h : Pend s 1) (g fr st t : Nat) :
    behindO (finS s (ansF P ws g s)) fr st t =
      if needsV (came1 P ws s) = [] then ⟨endS (finS s (ansF P ws 0 s)) 1 (came1 P ws s), [], t⟩
      else ⟨fetS (finS s (ansF P ws 0 s)) (needsV (came1 P ws s)) (came1 P ws s) fr st t, askedR (fetS (finS s (ansF P ws 0 s)) (needsV (came1 P ws s)) (came1 P ws s) fr st t), t + (psR (fetS (finS s (ansF P ws 0 s)) (needsV (came1 P ws s)) (came1 P ws s) fr st t)).length⟩ := by
  rw [ans_one h.rd g]
  unfold behindO
  rw [if_pos (fin_undone _ h.p1), if_pos (show (finS s (ansF P ws 0 s)).round = 1 from h.rd)]
  unfold endFO
  have hc : (finS s (ansF P ws 0 s)).came = came1 P ws s := fin_came s _
  rw [hc]
  have hf : formedB (came1 P ws s) = true := (formedB_iff _).2 (came1_formed hw h)
  rw [hf, if_neg (by decide)]
/-- the second round -/
theorem second_pend {P : Nat} {ws : List Wr} (hw : GoodW ws) {s : RS} (h : Pend s 1) (hn : ¬ needsV (came1 P ws s) = []) (fr st t : Nat) : Pend (fetS (finS s (ansF P ws 0 s)) (needsV (came1 P ws s)) (came1 P ws s) fr st t) 2 ∧ (fetS (finS s (ansF P ws 0 s)) (needsV (came1 P ws s)) (came1 P ws s) fr st t).ws = needsV (came1 P ws s) ∧ (fetS (finS s (ansF P ws 0 s)) (needsV (came1 P ws s)) (came1 P ws s) fr st t).first = came1 P ws s ∧ (fetS (finS s (ansF P ws 0 s)) (needsV (came1 P ws s)) (came1 P ws s) fr st t).nm = (needsV (came1 P ws s)).map Prod.fst := by
  have hfm := came1_formed (P := P) hw h
  have hsub : ((needsV (came1 P ws s)).map Prod.fst).Sublist ((came1 P ws s).map Ver.key) := by
    unfold needsV
    generalize came1 P ws s = l
    have key : ∀ (r : List Ver) (F : Ver → Nat), ((r.filterMap fun y => if y.id < F y then some (y.key, F y) else none).map Prod.fst).Sublist (r.map Ver.key) := by
      intro r F
      induction r with
      | nil => simp
      | cons y r ih =>
        rw [List.filterMap_cons]
        split
        · exact List.Sublist.cons _ ih
        · rename_i b hb
          split at hb
          · cases hb
            exact List.Sublist.cons_cons _ ih
          · cases hb
    exact key l (mostV l)
  have hk : (came1 P ws s).map Ver.key = s.nm := by
    unfold came1
    rw [List.map_map]
    conv => rhs; rw [← List.map_id s.nm]
    exact List.map_congr_left (fun k _ => ans_key _ _ _ _ _)
  rw [hk] at hsub
  refine ⟨⟨h.p1, rfl, h.en, List.Nodup.sublist hsub h.nd, ?_, Nat.le_trans hsub.length_le h.l2, rfl, rfl⟩, rfl, rfl, rfl⟩
  show 1 ≤ ((needsV (came1 P ws s)).map Prod.fst).length
  rw [List.length_map]
  exact List.length_pos_iff.2 hn
/-- the second round's end -/
structure EndTo (R0 Rg : RS) (g : Nat) : Prop where
  ok : R0.ended = 1
  or : (Rg.ended = 1 ∧ Rg.out = R0.out) ∨ (Rg.ended = 2 ∧ Rg.out = [] ∧ 0 < g)
theorem second_end {P : Nat} {ws : List Wr} (hw : GoodW ws) {s2 : RS} {l : List Ver} (h : Pend s2 2) (hws : s2.ws = needsV l) (hfi : s2.first = l) (hnm : s2.nm = (needsV l).map Prod.fst) (hl : ∀ x ∈ l, OfR ws x) (hfm : Formed l) (g : Nat) :
    EndTo (endS2 (finS s2 (ansF P ws 0 s2))) (endS2 (finS s2 (ansF P ws g s2))) g := by
  have hr : ¬ s2.round = 1 := by rw [h.rd]; decide
  have hone : ∀ k ∈ s2.nm, ∃ i, i < ws.length ∧ (k, idP i) ∈ needsV l ∧ hasB ws i k = true ∧ ∀ a, ansF P ws a s2 k = if a ≤ i then verP ws i k else botV' k := by
    intro k hk
    have hm : wantOf s2.ws k ∈ s2.ws := wantOf_mem (by rw [hws, ← hnm]; exact hk)
    obtain ⟨i, hi, e, hh⟩ := needsR_of hl (by rw [← hws]; exact hm)
    rw [wantOf_fst] at hh
    have e2 : wantOf s2.ws k = (k, idP i) := Prod.ext rfl e
    refine ⟨i, hi, by rw [← hws, ← e2]; exact hm, hh, fun a => ?_⟩
    unfold ansF
    rw [if_neg hr, e2]
    exact want_found hi hh
  have hfirst : ∀ f, (finS s2 f).first = l := fun f => hfi
  have hform : formedB l = true := (formedB_iff _).2 hfm
  have hgone0 : goneB (s2.nm.map (ansF P ws 0 s2)) = false := by
    unfold goneB
    rw [List.any_eq_false]
    intro v hv
    obtain ⟨k, hk, rfl⟩ := List.mem_map.1 hv
    obtain ⟨i, hi, _, hh, ha⟩ := hone k hk
    rw [ha 0, if_pos (Nat.zero_le _)]
    have : ¬ (verP ws i k).id = 0 := by show ¬ idP i = 0; unfold idP; omega
    simp [this]
  have hmend : ∃ m, mendV l (s2.nm.map (ansF P ws 0 s2)) = some m := by
    refine mend_some (fun y hy hlt => ?_)
    have hmem : (y.key, mostV l y) ∈ needsV l := (needs_mem l _).2 ⟨y, hy, hlt, rfl⟩
    have hk : y.key ∈ s2.nm := by rw [hnm]; exact List.mem_map.2 ⟨_, hmem, rfl⟩
    obtain ⟨i, hi, hmi, hh, ha⟩ := hone y.key hk
    refine ⟨ansF P ws 0 s2 y.key, List.mem_map.2 ⟨_, hk, rfl⟩, ans_key _ _ _ _ _, ?_⟩
    rw [ha 0, if_pos (Nat.zero_le _)]
    show idP i = mostV l y
    obtain ⟨y2, hy2, hlt2, e⟩ := (needs_mem l _).1 hmi
    have e1 : y.key = y2.key := (Prod.mk.inj e).1
    have e2 : idP i = mostV l y2 := (Prod.mk.inj e).2
    rw [e2]
    obtain ⟨a, hal, ea⟩ := List.getElem_of_mem hy
    obtain ⟨b, hbl, eb⟩ := List.getElem_of_mem hy2
    have ga : l.getD a v0 = y := by rw [List.getD_eq_getElem?_getD, List.getElem?_eq_getElem hal, ea]; rfl
    have gb : l.getD b v0 = y2 := by rw [List.getD_eq_getElem?_getD, List.getElem?_eq_getElem hbl, eb]; rfl
    have hab : a = b := hfm.keys_inj hal hbl (by rw [ga, gb]; exact e1)
    subst hab
    rw [← ga, ← gb]
  obtain ⟨m, hm⟩ := hmend
  have hR0 : endS2 (finS s2 (ansF P ws 0 s2)) = endS (finS s2 (ansF P ws 0 s2)) 1 m := by
    unfold endS2
    rw [fin_came, hgone0, if_neg (by decide), hfirst, hform, if_pos rfl, hm]
  refine ⟨by rw [hR0]; rfl, ?_⟩
  by_cases hall : ∀ k ∈ s2.nm, ansF P ws g s2 k = ansF P ws 0 s2 k
  · left
    rw [fin_congr hall, hR0]
    exact ⟨rfl, rfl⟩
  · right
    obtain ⟨k, hk, hne⟩ : ∃ k, k ∈ s2.nm ∧ ansF P ws g s2 k ≠ ansF P ws 0 s2 k := by
      apply Classical.byContradiction
      intro hc
      exact hall (fun k hk => Classical.byContradiction (fun hne => hc ⟨k, hk, hne⟩))
    obtain ⟨i, hi, _, hh, ha⟩ := hone k hk
    have hgi : ¬ g ≤ i := by
      intro hgi
      exact hne (by rw [ha g, ha 0, if_pos hgi, if_pos (Nat.zero_le _)])
    have hgone : goneB (s2.nm.map (ansF P ws g s2)) = true := by
      unfold goneB
      rw [List.any_eq_true]
      refine ⟨_, List.mem_map.2 ⟨k, hk, rfl⟩, ?_⟩
      rw [ha g, if_neg hgi]
      rfl
    have hRg : endS2 (finS s2 (ansF P ws g s2)) = endS (finS s2 (ansF P ws g s2)) 2 [] := by
      unfold endS2
      rw [fin_came, hgone, if_pos rfl]
    rw [hRg]
    exact ⟨rfl, rfl, by omega⟩
end Go.Proofs.Ytileipnoiocdlaa
/- What 'run' holds: all that was asked, what is asked now, answers on their way. -/
namespace Go.Proofs.Ytileipnoiocdlaa
open Go.RowKit Go.Sort Orl
set_option linter.unusedVariables false
set_option linter.unusedSimpArgs false

/-- as a round begins: what was asked is older than h, what is asked now is not -/
structure Rv (w5 wr : World) (h : Nat) (p cp fr : Nat) (s : RS) (t : Nat) (F : Nat → Prop) (oa : Option Addr) (ca : Nat) (arq : List RQ) (allQ : List Qn) (oo : Option Addr) (co : Nat) (rq : List RQ) (outQ : List Qn) : Prop where
  rc : Rc w5 wr p cp fr 1 s t F
  all : OutS wr (fun i => Zr w5 F cp i ∧ i < h) oa ca arq allQ
  out : OutS wr (fun i => Zr w5 F cp i ∧ h ≤ i) oo co rq outQ
  hi : h ≤ wr.heap.size
/-- while answers are laid on their way -/
structure Rf (w5 wr : World) (p cp fr : Nat) (s : RS) (t : Nat) (F : Nat → Prop) (oa : Option Addr) (ca : Nat) (arq : List RQ) (allQ : List Qn) (oo : Option Addr) (co : Nat) (rq : List RQ) (outQ : List Qn) (ol : Option Addr) (cl : Nat) (rs : List RT) (ts : List Tl) : Prop where
  rc : Rc w5 wr p cp fr 1 s t F
  all : OutS wr (Zr w5 F cp) oa ca arq allQ
  out : OutS wr (Zr w5 F cp) oo co rq outQ
  tls : Tls wr (Zr w5 F cp) ol cl rs ts
/-- while answers are taken -/
structure Ri (w5 wr : World) (hI : Nat) (p cp fr : Nat) (s : RS) (t : Nat) (F : Nat → Prop) (oa : Option Addr) (ca : Nat) (arq : List RQ) (allQ : List Qn) (oo : Option Addr) (co : Nat) (rq : List RQ) (outQ : List Qn) (ol : Option Addr) (cl : Nat) (rs : List RT) (ts : List Tl) : Prop where
  rc : Rc w5 wr p cp fr 1 s t F
  all : OutS wr (fun i => Zr w5 F cp i ∧ i < hI) oa ca arq allQ
  out : OutS wr (fun i => Zr w5 F cp i ∧ hI ≤ i) oo co rq outQ
  tls : Tls wr (fun i => Zr w5 F cp i ∧ ¬ inO oo i) ol cl rs ts
  hi : hI ≤ wr.heap.size
/-- what is asked is put behind what was asked -/
theorem Rv.app {w5 wr w' : World} {h p cp fr : Nat} {s : RS} {t : Nat} {F : Nat → Prop} {oa o' : Option Addr} {ca c' : Nat} {arq : List RQ} {allQ : List Qn} {oo : Option Addr} {co : Nat} {rq : List RQ} {outQ : List Qn} (h1 : Rv w5 wr h p cp fr s t F oa ca arq allQ oo co rq outQ) (ho : Own QE w' o' c' (arq ++ rq)) (ha : Ap wr oa o' w') : Rf w5 w' p cp fr s t F o' c' (arq ++ rq) (allQ ++ outQ) oo co rq outQ none 0 [] [] := by
  have kw : Keeps (inO oa) wr w' := by
    rcases ha with ⟨_, k1⟩ | ⟨_, k1⟩
    · exact k1
    · exact k1.of_no
  have hb : ∀ i, inO oa i → Zr w5 F cp i ∧ i < h := fun i hi => h1.all.blk i (.inl hi)
  have hall := h1.all.mono (Y := Zr w5 F cp) (fun i h2 _ => h2.1)
  have hout := h1.out.mono (Y := Zr w5 F cp) (fun i h2 _ => h2.1)
  exact ⟨h1.rc.keeps kw (fun i hi hz => (hb i hz).1.1 hi) (fun i hz => (hb i hz).1.2), hall.app hout (fun i hi => h1.rc.zr_new i hi) ho ha, (h1.out.keeps kw (fun i h2 _ hz => by have := (hb i hz).2; omega)).mono (fun i h2 _ => h2.1), tls_nil _ _⟩
theorem Rf.keepsN {w5 wr w' : World} {p cp fr : Nat} {s : RS} {t : Nat} {F : Nat → Prop} {oa : Option Addr} {ca : Nat} {arq : List RQ} {allQ : List Qn} {oo : Option Addr} {co : Nat} {rq : List RQ} {outQ : List Qn} {ol : Option Addr} {cl : Nat} {rs : List RT} {ts : List Tl} (h : Rf w5 wr p cp fr s t F oa ca arq allQ oo co rq outQ ol cl rs ts) (k : Keeps no wr w') : Rf w5 w' p cp fr s t F oa ca arq allQ oo co rq outQ ol cl rs ts := ⟨h.rc.keepsN k, h.all.keepsN k, h.out.keepsN k, h.tls.keepsN k⟩
theorem Rf.push {w5 wr w2 w' : World} {p cp fr : Nat} {s : RS} {t : Nat} {F : Nat → Prop} {oa : Option Addr} {ca : Nat} {arq : List RQ} {allQ : List Qn} {oo : Option Addr} {co : Nat} {rq : List RQ} {outQ : List Qn} {ol o' : Option Addr} {cl c' : Nat} {rs : List RT} {ts : List Tl} (h : Rf w5 wr p cp fr s t F oa ca arq allQ oo co rq outQ ol cl rs ts) (k : Keeps no wr w2) {r : RT} {x : Tl} (h1 : r.part = x.part) (h2 : r.req = x.req) (hm : MsgAt w2 (fun i => Zr w5 F cp i ∧ ¬ inO ol i) r.B x.v) (hf : FitV x.v) (ho : OwnT LE w' o' c' (rs ++ [r])) (ha : Ap w2 ol o' w') :
    Rf w5 w' p cp fr s t F oa ca arq allQ oo co rq outQ o' c' (rs ++ [r]) (ts ++ [x]) ∧ Keeps (inO ol) wr w' := by
  have h0 := h.keepsN k
  have kw : Keeps (inO ol) w2 w' := by
    rcases ha with ⟨_, k1⟩ | ⟨_, k1⟩
    · exact k1
    · exact k1.of_no
  have hk : ∀ b, inO ol b → ∃ cur t fz, w2.heap[b]? = some (.cells cur t fz) ∧ t ≠ QE.e ∧ t ≠ TE.e ∧ t ≠ WE.e := fun b hb => by
    obtain ⟨cur, hc⟩ := h0.tls.own.tag b hb
    exact ⟨cur, _, _, hc, by decide, by decide, by decide⟩
  exact ⟨⟨h0.rc.keeps kw (fun i hi hb => (h.tls.blk i hb).1 hi) (fun i hb => (h.tls.blk i hb).2), h0.all.keepsT kw hk, h0.out.keepsT kw hk, h.tls.push k (fun i hi => h0.rc.zr_new i hi) h1 h2 hm hf ho ha⟩, k.of_no.trans kw⟩
/-- the answers' turn begins -/
theorem Rf.ri {w5 wr : World} {p cp fr : Nat} {s : RS} {t : Nat} {F : Nat → Prop} {oa : Option Addr} {ca : Nat} {arq : List RQ} {allQ : List Qn} {oo : Option Addr} {co : Nat} {rq : List RQ} {outQ : List Qn} {ol : Option Addr} {cl : Nat} {rs : List RT} {ts : List Tl} (h : Rf w5 wr p cp fr s t F oa ca arq allQ oo co rq outQ ol cl rs ts) : Ri w5 wr wr.heap.size p cp fr s t F oa ca arq allQ none 0 [] [] ol cl rs ts :=
  ⟨h.rc, h.all.mono (fun i h1 h2 => ⟨h1, h2⟩), outS_nil _ _, h.tls.mono (fun i h1 _ => ⟨h1, fun hi => by obtain ⟨x, e, _⟩ := hi; cases e⟩), Nat.le_refl _⟩
theorem Ri.keepsN {w5 wr w' : World} {hI p cp fr : Nat} {s : RS} {t : Nat} {F : Nat → Prop} {oa : Option Addr} {ca : Nat} {arq : List RQ} {allQ : List Qn} {oo : Option Addr} {co : Nat} {rq : List RQ} {outQ : List Qn} {ol : Option Addr} {cl : Nat} {rs : List RT} {ts : List Tl} (h : Ri w5 wr hI p cp fr s t F oa ca arq allQ oo co rq outQ ol cl rs ts) (k : Keeps no wr w') : Ri w5 w' hI p cp fr s t F oa ca arq allQ oo co rq outQ ol cl rs ts := ⟨h.rc.keepsN k, h.all.keepsN k, h.out.keepsN k, h.tls.keepsN k, Nat.le_trans h.hi k.size⟩
/-- an answer taken out of those on their way: a list of its own -/
theorem Ri.pick {w5 wr w' : World} {hI p cp fr : Nat} {s : RS} {t : Nat} {F : Nat → Prop} {oa : Option Addr} {ca : Nat} {arq : List RQ} {allQ : List Qn} {oo : Option Addr} {co : Nat} {rq : List RQ} {outQ : List Qn} {ol o' : Option Addr} {cl c' : Nat} {rs : List RT} {ts : List Tl} (h : Ri w5 wr hI p cp fr s t F oa ca arq allQ oo co rq outQ ol cl rs ts) (k : Keeps no wr w') {j : Nat} (hj : j < ts.length) (ho : Own LE w' o' c' (rs.eraseIdx j)) (hn : New wr o') : Ri w5 w' hI p cp fr s t F oa ca arq allQ oo co rq outQ o' c' (rs.eraseIdx j) (ts.eraseIdx j) := by
  have h0 := h.keepsN k
  have hjr : j < rs.length := by rw [h.tls.len]; exact hj
  refine ⟨h0.rc, h0.all, h0.out, ⟨ho.t, by rw [List.length_eraseIdx, List.length_eraseIdx, h.tls.len], fun a ha => ?_, fun i hi => ?_⟩, h0.hi⟩
  · rw [List.length_eraseIdx, if_pos hj] at ha
    rw [getD_erase, getD_erase]
    have key : ∀ b, b < ts.length → (rs.getD b rt0).part = (ts.getD b tl0).part ∧ (rs.getD b rt0).req = (ts.getD b tl0).req ∧ MsgAt w' (fun i => (Zr w5 F cp i ∧ ¬ inO oo i) ∧ ¬ inO o' i) (rs.getD b rt0).B (ts.getD b tl0).v ∧ FitV (ts.getD b tl0).v := fun b hb => by
      have h1 := h.tls.each b hb
      refine ⟨h1.1, h1.2.1, ?_, h1.2.2.2⟩
      have h2 := h1.2.2.1.mono (Y := fun i => (Zr w5 F cp i ∧ ¬ inO oo i) ∧ ¬ inO o' i) (fun i h3 h4 => ⟨h3.1, fun h5 => by have := hn i h5; omega⟩)
      exact h2.keepsN k
    by_cases e : a < j
    · rw [if_pos e, if_pos e]; exact key a (by omega)
    · rw [if_neg e, if_neg e]; exact key (a + 1) (by omega)
  · have h1 := hn i hi
    exact ⟨h.rc.zr_new i h1, fun h2 => by have := h.out.own.lt i h2; omega⟩
/-- behind a Receive -/
structure Rx (w5 w' : World) (hI p cp fr : Nat) (O : Out) (G : Nat → Prop) (oa : Option Addr) (ca : Nat) (arq : List RQ) (allQ : List Qn) (oo : Option Addr) (co : Nat) (rq : List RQ) (outQ : List Qn) (ol : Option Addr) (cl : Nat) (rs : List RT) (ts : List Tl) (o2 : Option Addr) (c2 : Nat) (r2 : List RQ) : Prop where
  rc : Rc w5 w' p cp fr 1 O.s O.t G
  all : OutS w' (fun i => Zr w5 G cp i ∧ i < hI) oa ca arq allQ
  out : OutS w' (fun i => Zr w5 G cp i ∧ hI ≤ i) oo co rq outQ
  tls : Tls w' (fun i => Zr w5 G cp i ∧ ¬ inO oo i) ol cl rs ts
  told : OutS w' (fun i => Zr w5 G cp i ∧ hI ≤ i) o2 c2 r2 O.told
  hi : hI ≤ w'.heap.size
theorem Ri.tell {w5 wr w' : World} {hI p cp fr : Nat} {s : RS} {t : Nat} {F G : Nat → Prop} {oa : Option Addr} {ca : Nat} {arq : List RQ} {allQ : List Qn} {oo : Option Addr} {co : Nat} {rq : List RQ} {outQ : List Qn} {ol : Option Addr} {cl : Nat} {rs : List RT} {ts : List Tl} {O : Out} {o2 : Option Addr} {n2 c2 : Nat} {r2 : List RQ} (h : Ri w5 wr hI p cp fr s t F oa ca arq allQ oo co rq outQ ol cl rs ts) (ht : Tell wr p cp fr 1 F O o2 n2 c2 r2 G w') (hw : WfR O.s) (hb : TB2 O t) : Rx w5 w' hI p cp fr O G oa ca arq allQ oo co rq outQ ol cl rs ts o2 c2 r2 := by
  refine ⟨h.rc.tell ht hw, ?_, ?_, ?_, ?_, Nat.le_trans h.hi ht.kp.size⟩
  · have h1 := h.all.mono (Y := fun i => (Zr w5 F cp i ∧ i < hI) ∧ i < wr.heap.size) (fun i h1 h2 => ⟨h1, h2⟩)
    exact (h1.keeps ht.kp (fun i h1 _ => h1.1.1.1)).mono (fun i h1 _ => ⟨h1.1.1.tell h1.2 ht, h1.1.2⟩)
  · have h1 := h.out.mono (Y := fun i => (Zr w5 F cp i ∧ hI ≤ i) ∧ i < wr.heap.size) (fun i h1 h2 => ⟨h1, h2⟩)
    exact (h1.keeps ht.kp (fun i h1 _ => h1.1.1.1)).mono (fun i h1 _ => ⟨h1.1.1.tell h1.2 ht, h1.1.2⟩)
  · have h1 := h.tls.mono (Y := fun i => (Zr w5 F cp i ∧ ¬ inO oo i) ∧ i < wr.heap.size) (fun i h1 h2 => ⟨h1, h2⟩)
    exact (h1.keeps ht.kp (fun i h1 _ => h1.1.1.1)).mono (fun i h1 _ => ⟨h1.1.1.tell h1.2 ht, h1.1.2⟩)
  · exact ht.tq.outS hb.f _ (fun i hi => ⟨⟨ht.far (lt_of_block h.rc.ct) i hi, Nat.le_trans h.rc.kp.size (ht.new i hi)⟩, Nat.le_trans h.hi (ht.new i hi)⟩)
theorem Rx.app {w5 w1 w' : World} {hI p cp fr : Nat} {O : Out} {G : Nat → Prop} {oa : Option Addr} {ca : Nat} {arq : List RQ} {allQ : List Qn} {oo o' : Option Addr} {co c' : Nat} {rq : List RQ} {outQ : List Qn} {ol : Option Addr} {cl : Nat} {rs : List RT} {ts : List Tl} {o2 : Option Addr} {c2 : Nat} {r2 : List RQ} (h : Rx w5 w1 hI p cp fr O G oa ca arq allQ oo co rq outQ ol cl rs ts o2 c2 r2) (ho : Own QE w' o' c' (rq ++ r2)) (ha : Ap w1 oo o' w') : Ri w5 w' hI p cp fr O.s O.t G oa ca arq allQ o' c' (rq ++ r2) (outQ ++ O.told) ol cl rs ts := by
  have kw : Keeps (inO oo) w1 w' := by
    rcases ha with ⟨_, k1⟩ | ⟨_, k1⟩
    · exact k1
    · exact k1.of_no
  have hb : ∀ i, inO oo i → Zr w5 G cp i ∧ hI ≤ i := fun i hi => h.out.blk i (.inl hi)
  refine ⟨h.rc.keeps kw (fun i hi hz => (hb i hz).1.1 hi) (fun i hz => (hb i hz).1.2), h.all.keeps kw (fun i h1 _ hz => by have := (hb i hz).2; omega), h.out.app h.told (fun i hi => ⟨h.rc.zr_new i hi, Nat.le_trans h.hi hi⟩) ho ha, ?_, Nat.le_trans h.hi kw.size⟩
  have h1 := h.tls.mono (Y := fun i => (Zr w5 G cp i ∧ ¬ inO oo i) ∧ i < w1.heap.size) (fun i h1 h2 => ⟨h1, h2⟩)
  refine (h1.keeps kw (fun i h2 _ => h2.1.2)).mono (fun i h2 _ => ⟨h2.1.1, ?_⟩)
  rcases ha with ⟨rfl, _⟩ | ⟨⟨g, rfl, hg⟩, _⟩
  · exact h2.1.2
  · rintro ⟨x, e, rfl⟩
    cases e
    have := h2.2
    simp only at this
    omega
/-- the next round -/
theorem Ri.rv {w5 wr : World} {hI p cp fr : Nat} {s : RS} {t : Nat} {F : Nat → Prop} {oa : Option Addr} {ca : Nat} {arq : List RQ} {allQ : List Qn} {oo : Option Addr} {co : Nat} {rq : List RQ} {outQ : List Qn} {ol : Option Addr} {cl : Nat} {rs : List RT} {ts : List Tl} (h : Ri w5 wr hI p cp fr s t F oa ca arq allQ oo co rq outQ ol cl rs ts) : Rv w5 wr hI p cp fr s t F oa ca arq allQ oo co rq outQ := ⟨h.rc, h.all, h.out, h.hi⟩
end Go.Proofs.Ytileipnoiocdlaa
