import Derived.Test.YtileipnoiocdlaaPz
import Derived.Test.YtileipnoiocdlaaC6
/- One element of a row written over. -/
namespace Go.Proofs.Ytileipnoiocdlaa
open Go.RowKit Go.Sort Orl
set_option linter.unusedVariables false
set_option linter.unusedSimpArgs false

theorem getD_at {α : Type} {l : List α} {j : Nat} (h : j < l.length) (d : α) : l.getD j d = l[j] := by simp [List.getD, h]
theorem blk_setCells {g : Nat} {t : TypeId} {fz : Nat × Nat} : ∀ (vs : List Value) (o : Nat) {w : World} {cur : Array Value}, w.heap[g]? = some (.cells cur t fz) → ∃ cur', (w.setCells g o vs).heap[g]? = some (.cells cur' t fz) ∧ cur'.size = cur.size ∧ ∀ i, cur'[i]? = if o ≤ i ∧ i < o + vs.length ∧ i < cur.size then vs[i - o]? else cur[i]?
  | [], o, w, cur, h => ⟨cur, h, rfl, fun i => by rw [if_neg (by simp; omega)]⟩
  | v :: r, o, w, cur, h => by
    obtain ⟨cur', h1, h2, h3⟩ := blk_setCells r (o + 1) (blk_set h o v)
    refine ⟨cur', h1, by simpa using h2, fun i => ?_⟩
    rw [h3 i]
    simp only [Array.size_setIfInBounds, List.length_cons]
    by_cases e : i = o
    · subst e
      rw [if_neg (by omega)]
      by_cases hi : i < cur.size
      · rw [if_pos ⟨by omega, by omega, hi⟩]
        simp [hi]
      · rw [if_neg (by omega)]
        simp [Array.getElem?_eq_none (Nat.le_of_not_lt hi), hi]
    · by_cases hc : o + 1 ≤ i ∧ i < o + 1 + r.length ∧ i < cur.size
      · rw [if_pos hc, if_pos ⟨by omega, by omega, hc.2.2⟩, show i - o = (i - (o + 1)) + 1 by omega]
        simp
      · rw [if_neg hc, if_neg (by omega)]
        rw [Array.getElem?_setIfInBounds_ne (by omega)]
theorem keeps_setCells {g : Nat} : ∀ (vs : List Value) (o : Nat) (w : World), Keeps (fun b => b = g) w (w.setCells g o vs)
  | [], o, w => Keeps.refl _ _
  | v :: r, o, w => ((Keeps.refl (fun b => b = g) w).setCell (p := ⟨g, o, none⟩) (.inl rfl) v).trans (keeps_setCells r (o + 1) _)
section
variable {α : Type} {E : El α}
theorem cells_setE (hE : E.Ok) (x : α) : ∀ (xs : List α) (j i : Nat), j < xs.length → (E.cells (xs.set j x))[i]? = if j * E.k ≤ i ∧ i < j * E.k + E.k then (E.enc x)[i - j * E.k]? else (E.cells xs)[i]?
  | [], j, i, h => absurd h (by simp)
  | y :: r, 0, i, h => by
    simp only [List.set_cons_zero, El.cells, List.flatMap_cons, Nat.zero_mul, Nat.zero_add, Nat.zero_le, true_and, Nat.sub_zero]
    by_cases hi : i < E.k
    · rw [if_pos hi, List.getElem?_append_left (by rw [hE.len]; exact hi)]
    · rw [if_neg hi, List.getElem?_append_right (by rw [hE.len]; omega), List.getElem?_append_right (by rw [hE.len]; omega), hE.len, hE.len]
  | y :: r, j + 1, i, h => by
    have ih := cells_setE hE x r j (i - E.k) (by simpa using h)
    simp only [El.cells] at ih
    simp only [List.set_cons_succ, El.cells, List.flatMap_cons, Nat.succ_mul]
    have hp := hE.pos
    by_cases hi : i < E.k
    · rw [if_neg (by omega), List.getElem?_append_left (by rw [hE.len]; exact hi), List.getElem?_append_left (by rw [hE.len]; exact hi)]
    · rw [List.getElem?_append_right (by rw [hE.len]; omega), List.getElem?_append_right (by rw [hE.len]; omega), hE.len, ih]
      by_cases hc : j * E.k ≤ i - E.k ∧ i - E.k < j * E.k + E.k
      · rw [if_pos hc, if_pos (by omega)]
        congr 1; omega
      · rw [if_neg hc, if_neg (by omega)]
theorem take_eq {l m : List Value} {N : Nat} (h : l.take N = m) (i : Nat) (hi : i < N) : l[i]? = m[i]? := by
  rw [← h, List.getElem?_take, if_pos hi]
/-- one element written over -/
theorem Own.storeE (hE : E.Ok) {w : World} {o : Option Addr} {c : Nat} {xs : List α} (h : Own E w o c xs) (j : Nat) (hj : j < xs.length) (x : α) :
    ∃ g, o = some ⟨g, 0, none⟩ ∧ (∀ i, w.frozen? ⟨g, i, none⟩ = false) ∧ Own E (w.setCells g (j * E.k) (E.enc x)) o c (xs.set j x) ∧ Keeps (inO o) w (w.setCells g (j * E.k) (E.enc x)) := by
  rcases h.shape with ⟨_, _, e⟩ | ⟨g, cur, rfl, hg, hc, hm, hs, ht⟩
  · rw [e] at hj; simp at hj
  · refine ⟨g, rfl, fun i => frozen_of_blk hg i, ?_, (keeps_setCells _ _ _).mono fun b hb => ⟨_, rfl, hb.symm⟩⟩
    obtain ⟨cur', h1, h2, h3⟩ := blk_setCells (E.enc x) (j * E.k) hg
    refine own_of_shape hE h1 (by simpa using hc) hm (by rw [h2, hs]) ?_
    have hjk : j * E.k + E.k ≤ xs.length * E.k := by rw [← Nat.succ_mul]; exact Nat.mul_le_mul_right _ hj
    have hck : xs.length * E.k ≤ c * E.k := Nat.mul_le_mul_right _ hc
    apply List.ext_getElem?
    intro i
    rw [cells_setE hE x xs j i hj, List.getElem?_take, List.length_set]
    by_cases hi : i < xs.length * E.k
    · rw [if_pos hi, Array.getElem?_toList, h3 i, hE.len]
      by_cases hcs : j * E.k ≤ i ∧ i < j * E.k + E.k
      · rw [if_pos ⟨hcs.1, hcs.2, by omega⟩, if_pos hcs]
      · rw [if_neg (by omega), if_neg hcs, ← take_eq ht i hi, Array.getElem?_toList]
    · rw [if_neg hi, if_neg (by omega)]
      have := cells_length hE xs
      rw [List.getElem?_eq_none (by omega)]
end
end Go.Proofs.Ytileipnoiocdlaa
/- The program's copyOf; a list of versions of the call's own, written over. -/
namespace Go.Proofs.Ytileipnoiocdlaa
open Go.RowKit Go.Sort Orl
set_option linter.unusedVariables false
set_option linter.unusedSimpArgs false

set_option maxRecDepth 10000 in
theorem copy_any (w : World) (r : RV) (v : Ver) (hf : FitV v) (h : VerOf w r v) :
    Calls Try.prog 67 #[.agg #[.string r.key, .int .u64 (r.id : Nat), .string r.val, .slice r.o r.n r.c]] w fun e w' => ∃ u, e = .returned u ∧ GiveV w v u w' := by
  obtain ⟨vk, vi, vv, vks⟩ := v
  obtain ⟨k, i, x, o, n, c⟩ := r
  obtain ⟨h1, h2, h3, hn, hs⟩ := h
  simp only at h1 h2 h3 hn hs ⊢
  subst h1 h2 h3
  obtain ⟨fi, fk, fv, fl, fs⟩ := hf
  simp only at fi fk fv fl fs
  have HN : Hid (n = vks.length) := hn
  go_enter Try.func67, Try.ntmps67
  have HK2 : Hid (Keeps no w ((w.alloc (.cells #[.string k, .int .u64 (i : Nat), .string x, .slice o n c] 46)).alloc (.cells #[.string ⟨#[]⟩, .int .u64 0, .string ⟨#[]⟩, .slice none 0 0] 46))) := ((Keeps.refl no w).alloc _).alloc _
  have HSL : Hid (Sl TE w o c vks) := hs
  clear hs hn
  go_wp2_with (at_builtin; refine wpList_app okT rfl _ _ rfl _ _ _ [] rfl rfl (own_nil _) _ _ _ vks rfl HN.out HSL.out.nil (HSL.out.keepsN HK2.out).row (by simp [TE]; omega) (by simp; omega) ?_; intro os6 cs6 ws6 hos6 haps6; have HKQ : Hid (Keeps no w ws6) := (HK2.out.trans (haps6.new (new_none _) (Keeps.refl no _)).2); have HNQ : Hid (∀ q, inO os6 q → w.heap.size + 2 ≤ q) := (by have h := (haps6.new (new_none _) (Keeps.refl no _)).1; intro q hq; have := h q hq; simpa using this); have hb0 := (haps6.new (new_none _) (Keeps.refl no _)).2.at (blk_alloc (blk_new w (.cells #[.string k, .int .u64 (i : Nat), .string x, .slice o n c] 46)) _) id; have hb1 : ws6.heap[w.heap.size + 1]? = some (.cells #[.string ⟨#[]⟩, .int .u64 0, .string ⟨#[]⟩, .slice none 0 0] 46 (0, 0)) := (by have h := (haps6.new (new_none _) (Keeps.refl no _)).2.at (blk_new (w.alloc (.cells #[.string k, .int .u64 (i : Nat), .string x, .slice o n c] 46)) (.cells #[.string ⟨#[]⟩, .int .u64 0, .string ⟨#[]⟩, .slice none 0 0] 46)) id; simpa using h); obtain ⟨x0, x1, x2, x3⟩ := cells4 hb0; obtain ⟨y0, y1, y2, y3⟩ := cells4 hb1; have f3 := frozen_of_blk hb0 3; have k0 := frozen_of_blk hb1 0; have k1 := frozen_of_blk hb1 1; have k2 := frozen_of_blk hb1 2; have k3 := frozen_of_blk hb1 3; have HBB : Hid (ws6.heap[w.heap.size]? = some (.cells #[.string k, .int .u64 (i : Nat), .string x, .slice o n c] 46 (0, 0)) ∧ ws6.heap[w.heap.size + 1]? = some (.cells #[.string ⟨#[]⟩, .int .u64 0, .string ⟨#[]⟩, .slice none 0 0] 46 (0, 0))) := ⟨hb0, hb1⟩; clear hb0 hb1 haps6)
  have hq := set4 (b0 := .string k) (b1 := .int .u64 (i : Nat)) (b2 := .string x) (b3 := .slice os6 n cs6) (blk_set_ne HBB.out.2 (p := ⟨w.heap.size, 3, none⟩) (by simp) (.slice os6 n cs6))
  have hk9 : Keeps (fun q => q = w.heap.size ∨ q = w.heap.size + 1) ws6 _ := ((Keeps.refl (fun q => q = w.heap.size ∨ q = w.heap.size + 1) ws6).setCell (p := ⟨w.heap.size, 3, none⟩) (.inl (.inl rfl)) (.slice os6 n cs6)).trans (hq.2.mono fun q hq => .inr hq)
  generalize ((((ws6.setCell ⟨w.heap.size, 3, none⟩ (.slice os6 n cs6)).setCell ⟨w.heap.size + 1, 0, none⟩ (.string k)).setCell ⟨w.heap.size + 1, 1, none⟩ (.int .u64 (i : Nat))).setCell ⟨w.heap.size + 1, 2, none⟩ (.string x)).setCell ⟨w.heap.size + 1, 3, none⟩ (.slice os6 n cs6) = w9 at hq hk9 ⊢
  refine bodyPost_ret (results_row1 rfl _ _ (w.heap.size + 1) _ rfl (run_loadVar_row _ _ _ _ _ _ _ hq.1 Try.underlying46 rfl (ver_size _ _ _ _))) rfl ?_
  refine ⟨_, rfl, os6, n, cs6, rfl, HN, ?_, fun q hq => by have := HNQ.out q hq; omega, HKQ.out.then hk9 (fun q hq => .inr (by omega))⟩
  exact hos6.keeps hk9 (fun q hq e => by have := HNQ.out q hq; omega)

/-- four cells written -/
def wset4 (w : World) (g k : Nat) (r : RV) : World := (((w.setCell ⟨g, k * 4, none⟩ (.string r.key)).setCell ⟨g, k * 4 + 1, none⟩ (.int .u64 (r.id : Nat))).setCell ⟨g, k * 4 + 2, none⟩ (.string r.val)).setCell ⟨g, k * 4 + 3, none⟩ (.slice r.o r.n r.c)
/-- a list of versions that was made since w; each list of keys of the call's own, by itself -/
structure NewVo (w : World) (o : Option Addr) (c : Nat) (rs : List RV) (vs : List Ver) (w' : World) : Prop where
  own : Own VE w' o c rs
  len : rs.length = vs.length
  each : ∀ j, j < vs.length → VerN w' (rs.getD j r0) (vs.getD j v0)
  newO : New w o
  newK : ∀ j, j < vs.length → New w (rs.getD j r0).o
  sep : ∀ i j, i < j → j < vs.length → ∀ k, inO (rs.getD i r0).o k → ¬ inO (rs.getD j r0).o k
  kp : Keeps no w w'
theorem NewVo.z {w w' : World} {o : Option Addr} {c : Nat} {rs : List RV} {vs : List Ver} (h : NewVo w o c rs vs w') : NewVz w o c rs vs w' :=
  ⟨h.own, h.len, fun j hj => ⟨(h.each j hj).key, (h.each j hj).id, (h.each j hj).val, (h.each j hj).n, .inl (h.each j hj).own⟩, h.newO, fun j hj k hk => h.newK j hj k hk.2, fun i j hij hj k h1 h2 => h.sep i j hij hj k h1.2 h2.2, h.kp⟩
theorem NewVo.vs {w w' : World} {o : Option Addr} {c : Nat} {rs : List RV} {vs : List Ver} (h : NewVo w o c rs vs w') : NewVs w o c rs vs w' := ⟨h.own, h.len, h.each, h.newO, h.newK, h.kp⟩
theorem NewVo.keepsN {w w' w2 : World} {o : Option Addr} {c : Nat} {rs : List RV} {vs : List Ver} (h : NewVo w o c rs vs w') (k : Keeps no w' w2) : NewVo w o c rs vs w2 :=
  ⟨h.own.keepsN k, h.len, fun j hj => (h.each j hj).keepsN k, h.newO, h.newK, h.sep, h.kp.trans k⟩
theorem NewVo.older {w u w' : World} {o : Option Addr} {c : Nat} {rs : List RV} {vs : List Ver} (h : NewVo u o c rs vs w') (k : Keeps no w u) : NewVo w o c rs vs w' :=
  ⟨h.own, h.len, h.each, h.newO.of_le k.size, fun j hj => (h.newK j hj).of_le k.size, h.sep, k.trans h.kp⟩
theorem getD_setZ {α : Type} (l : List α) (k : Nat) (x d : α) (j : Nat) (hj : j < l.length) : (l.set k x).getD j d = if k = j then x else l.getD j d := by
  simp only [List.getD_eq_getElem?_getD, List.getElem?_set]
  by_cases e : k = j
  · subst e; simp [hj]
  · simp [e]
/-- one written over by a copy -/
theorem NewVo.copy {w wr w5 : World} {o : Option Addr} {c : Nat} {rs : List RV} {vs : List Ver} (h : NewVo w o c rs vs wr) (k : Nat) (hk : k < vs.length) (v : Ver) {o5 : Option Addr} {n5 c5 : Nat} (hn5 : n5 = v.keys.length) (ho5 : Own TE w5 o5 c5 v.keys) (hnw : New wr o5) (kp : Keeps no wr w5) :
    ∃ g, o = some ⟨g, 0, none⟩ ∧ (∀ i, w5.frozen? ⟨g, i, none⟩ = false) ∧ (∃ r' : RV, w5.cell? ⟨g, k * 4, none⟩ = some (.string r'.key) ∧ w5.cell? ⟨g, k * 4 + 1, none⟩ = some (.int .u64 (r'.id : Nat)) ∧ w5.cell? ⟨g, k * 4 + 2, none⟩ = some (.string r'.val) ∧ w5.cell? ⟨g, k * 4 + 3, none⟩ = some (.slice r'.o r'.n r'.c)) ∧ NewVo w o c (rs.set k ⟨v.key, v.id, v.val, o5, n5, c5⟩) (vs.set k v) (wset4 w5 g k ⟨v.key, v.id, v.val, o5, n5, c5⟩) ∧ Keeps (inO o) w5 (wset4 w5 g k ⟨v.key, v.id, v.val, o5, n5, c5⟩) := by
  have hne : TE.e ≠ VE.e := by decide
  have h5 := h.keepsN kp
  have hl := h.len
  obtain ⟨g, e, hf, ho, hkp⟩ := h5.own.storeE okV k (by omega) ⟨v.key, v.id, v.val, o5, n5, c5⟩
  obtain ⟨g2, off2, e2, c0, c1, c2, c3⟩ := h5.own.sl.atV (j := k) (by omega)
  have hge : g2 = g ∧ off2 = 0 := by rw [e] at e2; cases e2; exact ⟨rfl, rfl⟩
  obtain ⟨rfl, rfl⟩ := hge
  simp only [Nat.zero_add] at c0 c1 c2 c3
  have hkp' : Keeps (inO o) w5 (wset4 w5 g2 k ⟨v.key, v.id, v.val, o5, n5, c5⟩) := hkp
  have ho' : Own VE (wset4 w5 g2 k ⟨v.key, v.id, v.val, o5, n5, c5⟩) o c (rs.set k ⟨v.key, v.id, v.val, o5, n5, c5⟩) := ho
  refine ⟨g2, e, hf, ⟨_, c0, c1, c2, c3⟩, ?_, hkp'⟩
  have hr : VerN w5 ⟨v.key, v.id, v.val, o5, n5, c5⟩ v := ⟨rfl, rfl, rfl, hn5, ho5⟩
  generalize hre : (⟨v.key, v.id, v.val, o5, n5, c5⟩ : RV) = r at hr hkp' ho' ⊢
  have hro : ∀ q, inO r.o q → wr.heap.size ≤ q := fun q hq => by subst hre; exact hnw q hq
  have key : ∀ j, j < (vs.set k v).length → VerN (wset4 w5 g2 k r) ((rs.set k r).getD j r0) ((vs.set k v).getD j v0) ∧ New w ((rs.set k r).getD j r0).o := by
    intro j hj
    rw [List.length_set] at hj
    rw [getD_setZ vs k v v0 j hj, getD_setZ rs k r r0 j (by omega)]
    by_cases e : k = j
    · rw [if_pos e, if_pos e]
      exact ⟨hr.keeps hkp' (own_apart hne hr.own h5.own), fun q hq => Nat.le_trans h.kp.size (hro q hq)⟩
    · rw [if_neg e, if_neg e]
      exact ⟨(h5.each j hj).keeps hkp' (own_apart hne (h5.each j hj).own h5.own), h.newK j hj⟩
  refine ⟨ho', by simp [hl], fun j hj => (key j hj).1, h.newO, fun j hj => (key j hj).2, ?_, h5.kp.then hkp' (fun i hi => .inr (h.newO i hi))⟩
  intro i j hij hj q
  rw [List.length_set] at hj
  rw [getD_setZ rs k r r0 i (by omega), getD_setZ rs k r r0 j (by omega)]
  by_cases e1 : k = i
  · rw [if_pos e1, if_neg (show ¬ k = j by omega)]
    intro hq hq2
    have := hro q hq
    have := (h.each j hj).own.lt q hq2
    omega
  · rw [if_neg e1]
    by_cases e2 : k = j
    · rw [if_pos e2]
      intro hq hq2
      have := hro q hq2
      have := (h.each i (by omega)).own.lt q hq
      omega
    · rw [if_neg e2]
      exact h.sep i j hij hj q
/-- other blocks were written -/
theorem NewVo.other {S : Nat → Prop} {w wr w' : World} {o : Option Addr} {c : Nat} {rs : List RV} {vs : List Ver} (h : NewVo w o c rs vs wr) (k : Keeps S wr w') (hS : ∀ i, S i → w.heap.size ≤ i) (ho : ∀ i, S i → ¬ inO o i) (hr : ∀ j, j < vs.length → ∀ i, S i → ¬ inO (rs.getD j r0).o i) : NewVo w o c rs vs w' :=
  ⟨h.own.keeps k (fun i hi hs => ho i hs hi), h.len, fun j hj => (h.each j hj).keeps k (fun i hi hs => hr j hj i hs hi), h.newO, h.newK, h.sep, h.kp.then k (fun i hi => .inr (hS i hi))⟩
/-- a map's block is no slice's -/
theorem mp_own {κ β α : Type} {K : Kk κ} {V : β → Value} {E : El α} {w : World} {b : Nat} {L : List (κ × β)} (h : IsMp K V w b L) {o : Option Addr} {c : Nat} {xs : List α} (ho : Own E w o c xs) : ¬ inO o b := by
  rintro ⟨x, e, rfl⟩
  obtain ⟨es, clock, hh⟩ := h.obj
  rcases ho.shape with ⟨e2, _⟩ | ⟨g, cur, e2, hg, _⟩
  · rw [e] at e2; cases e2
  · rw [e] at e2; cases e2
    rw [hh] at hg; cases hg
theorem NewVo.mapped {κ β : Type} {K : Kk κ} {V : β → Value} {w wr w' : World} {b : Nat} {L : List (κ × β)} {o : Option Addr} {c : Nat} {rs : List RV} {vs : List Ver} (h : NewVo w o c rs vs wr) (hm : IsMp K V wr b L) (hb : w.heap.size ≤ b) (k : Keeps (fun i => i = b) wr w') : NewVo w o c rs vs w' :=
  h.other k (fun i hi => by rw [hi]; exact hb) (fun i hi => by rw [hi]; exact mp_own hm h.own) (fun j hj i hi => by rw [hi]; exact mp_own hm (h.each j hj).own)
/-- a list made of zeros -/
theorem made_cells (n : Nat) : (madeCells #[.string ⟨#[]⟩, .int .u64 0, .string ⟨#[]⟩, .slice none 0 0] (n * 4)).toList = VE.cells (List.replicate n r0) := by
  apply List.ext_getElem?
  intro m
  by_cases hm : m < n * 4
  · have h := cells_at okV r0 (List.replicate n r0) (m / 4) (m % 4) (by rw [List.length_replicate]; omega) (show m % 4 < 4 by omega)
    rw [show m / 4 * VE.k + m % 4 = m from by show m / 4 * 4 + m % 4 = m; omega] at h
    rw [h]
    have e : (List.replicate n r0).getD (m / 4) r0 = r0 := by simp [List.getD_eq_getElem?_getD, List.getElem?_replicate]; split <;> rfl
    rw [e]
    unfold madeCells
    rw [Array.getElem?_toList, Array.getElem?_map, Array.getElem?_range, if_pos hm]
    have h4 : m % 4 = 0 ∨ m % 4 = 1 ∨ m % 4 = 2 ∨ m % 4 = 3 := by omega
    simp only [Option.map_some]
    show some ((#[.string ⟨#[]⟩, .int .u64 0, .string ⟨#[]⟩, .slice none 0 0] : Array Value)[m % 4]!) = _
    rcases h4 with h4 | h4 | h4 | h4 <;> rw [h4] <;> rfl
  · have h1 : (VE.cells (List.replicate n r0)).length = n * 4 := by rw [cells_length okV, List.length_replicate]; rfl
    rw [List.getElem?_eq_none (by rw [Array.length_toList, size_madeCells]; omega), List.getElem?_eq_none (by rw [h1]; omega)]
theorem NewVo.made {w wr w' : World} (n : Nat) (hk : Keeps no w wr) (ho : w'.ownsRow 0 VE.e VE.k (.slice (some ⟨wr.heap.size, 0, none⟩) n n) n (VE.cells (List.replicate n r0))) (k : Keeps no wr w') : NewVo w (some ⟨wr.heap.size, 0, none⟩) n (List.replicate n r0) (List.replicate n v0) w' := by
  have gr : ∀ j, (List.replicate n r0).getD j r0 = r0 := fun j => by simp [List.getD_eq_getElem?_getD, List.getElem?_replicate]; split <;> rfl
  have gv : ∀ j, (List.replicate n v0).getD j v0 = v0 := fun j => by simp [List.getD_eq_getElem?_getD, List.getElem?_replicate]; split <;> rfl
  have nr : ∀ q, ¬ inO r0.o q := fun q h => by obtain ⟨x, e, _⟩ := h; cases e
  refine ⟨?_, by simp, fun j _ => by rw [gr, gv]; exact ⟨rfl, rfl, rfl, rfl, own_nil _⟩, ?_, fun j _ q hq => by rw [gr] at hq; exact absurd hq (nr q), fun i j _ _ q hq => by rw [gr] at hq; exact absurd hq (nr q), hk.trans k⟩
  · unfold Own
    rw [List.length_replicate]
    exact ho
  · rintro q ⟨x, e, rfl⟩
    cases e
    exact hk.size
end Go.Proofs.Ytileipnoiocdlaa
/- The program's Mend. -/
namespace Go.Proofs.Ytileipnoiocdlaa
open Go.RowKit Go.Sort Orl
set_option linter.unusedVariables false
set_option linter.unusedSimpArgs false

/-- where each want's key stands -/
structure Ms (vs : List Ver) (ws : List Wn) (L : List (Wn × Nat)) : Prop where
  iff : ∀ p a, fnd p L = some a ↔ p ∈ ws ∧ a < vs.length ∧ (vs.getD a v0).key = p.1
  le : L.length ≤ ws.length
theorem Ms.nil (vs : List Ver) : Ms vs [] [] := ⟨fun p a => by simp [fnd], Nat.le_refl _⟩
theorem Ms.snoc {vs : List Ver} (hf : Formed vs) {ws : List Wn} {L : List (Wn × Nat)} (h : Ms vs ws L) (p : Wn) {a : Nat} (ha : a < vs.length) (hk : (vs.getD a v0).key = p.1) : Ms vs (ws ++ [p]) (Go.Proofs.Ytileipnoiocdlaa.put p a L) := by
  refine ⟨?_, by have := length_put_le p a L; have := h.le; simp; omega⟩
  intro q b
  rw [fnd_put]
  by_cases e : q = p
  · rw [if_pos e]
    constructor
    · intro hb; cases hb; exact ⟨by simp [e], ha, by rw [e]; exact hk⟩
    · rintro ⟨_, h2, h3⟩
      rw [hf.keys_inj ha h2 (by rw [hk, h3, e])]
  · rw [if_neg e, h.iff q b]
    simp [e]
theorem want_at {vs : List Ver} (hf : Formed vs) {L : List (Tx × Nat)} (hL : Pl vs vs.length L) {p : Wn} (hp : p ∈ needsV vs) : ∃ a, fnd p.1 L = some a ∧ a < vs.length ∧ (vs.getD a v0).key = p.1 := by
  obtain ⟨y, hy, _, rfl⟩ := (needs_mem vs p).1 hp
  obtain ⟨i, hi, rfl⟩ := List.getElem_of_mem hy
  have e : vs.getD i v0 = vs[i] := by simp [hi]
  have := hL.ind hf hi
  rw [e] at this
  exact ⟨i, this, hi, by rw [e]⟩
/-- what stands for y when the first j of got were seen -/
def curA (vs gs : List Ver) (j : Nat) (y : Ver) : Ver := if y.id < mostV vs y then ((gs.take j).find? (hitB (mostV vs y) y.key)).getD y else y
/-- what is still missing then -/
structure Mj (vs gs : List Ver) (j : Nat) (L : List (Wn × Nat)) : Prop where
  iff : ∀ p a, fnd p L = some a ↔ p ∈ needsV vs ∧ a < vs.length ∧ (vs.getD a v0).key = p.1 ∧ (gs.take j).find? (hitB p.2 p.1) = none
  le : L.length ≤ 1024
theorem Mj.zero {vs : List Ver} (gs : List Ver) (hf : Formed vs) {L : List (Wn × Nat)} (h : Ms vs (needsV vs) L) : Mj vs gs 0 L := ⟨fun p a => by rw [h.iff]; simp, by have := h.le; have := needs_len vs; have := hf.most; omega⟩
theorem cur_zero (vs gs : List Ver) : vs.map (curA vs gs 0) = vs := by
  have : ∀ y ∈ vs, curA vs gs 0 y = y := fun y _ => by unfold curA; simp
  rw [List.map_congr_left this, List.map_id'']
  intro x; rfl
theorem find_succ (gs : List Ver) (j : Nat) (hj : j < gs.length) (f : Ver → Bool) : (gs.take (j + 1)).find? f = ((gs.take j).find? f).or (if f (gs.getD j v0) = true then some (gs.getD j v0) else none) := by
  rw [take_succ_getD gs j v0 hj, List.find?_append]
  congr 1
  rw [List.find?_singleton]
theorem hit_iff (p : Wn) (g : Ver) : hitB p.2 p.1 g = true ↔ p = (g.key, g.id) := by
  unfold hitB
  simp only [Bool.and_eq_true, decide_eq_true_eq]
  constructor
  · rintro ⟨h1, h2⟩; cases p; simp at h1 h2; rw [h1, h2]
  · rintro rfl; exact ⟨rfl, rfl⟩
theorem has_place {vs : List Ver} {p : Wn} (hp : p ∈ needsV vs) : ∃ a, a < vs.length ∧ (vs.getD a v0).key = p.1 := by
  obtain ⟨y, hy, _, rfl⟩ := (needs_mem vs p).1 hp
  obtain ⟨i, hi, rfl⟩ := List.getElem_of_mem hy
  exact ⟨i, hi, by simp [hi]⟩
theorem Mj.skip {vs gs : List Ver} {j : Nat} {L : List (Wn × Nat)} (h : Mj vs gs j L) (hj : j < gs.length) (hn : fnd ((gs.getD j v0).key, (gs.getD j v0).id) L = none) : Mj vs gs (j + 1) L ∧ vs.map (curA vs gs (j + 1)) = vs.map (curA vs gs j) := by
  have key : ∀ p ∈ needsV vs, (gs.take (j + 1)).find? (hitB p.2 p.1) = (gs.take j).find? (hitB p.2 p.1) := by
    intro p hp
    rw [find_succ gs j hj]
    by_cases e : hitB p.2 p.1 (gs.getD j v0) = true
    · cases hff : (gs.take j).find? (hitB p.2 p.1) with
      | some x => rfl
      | none =>
        obtain ⟨a, ha, hk⟩ := has_place hp
        have := (h.iff p a).2 ⟨hp, ha, hk, hff⟩
        rw [(hit_iff p _).1 e, hn] at this
        cases this
    · rw [if_neg e, Option.or_none]
  refine ⟨⟨fun p a => ?_, h.le⟩, ?_⟩
  · rw [h.iff]
    constructor
    · rintro ⟨h1, h2, h3, h4⟩; exact ⟨h1, h2, h3, by rw [key p h1]; exact h4⟩
    · rintro ⟨h1, h2, h3, h4⟩; exact ⟨h1, h2, h3, by rw [← key p h1]; exact h4⟩
  · refine List.map_congr_left fun y hy => ?_
    unfold curA
    by_cases e : y.id < mostV vs y
    · rw [if_pos e, if_pos e]
      have := key (y.key, mostV vs y) ((needs_mem vs _).2 ⟨y, hy, e, rfl⟩)
      simp only at this
      rw [this]
    · rw [if_neg e, if_neg e]
theorem Mj.hit {vs gs : List Ver} (hf : Formed vs) {j a : Nat} {L : List (Wn × Nat)} (h : Mj vs gs j L) (hj : j < gs.length) (hn : fnd ((gs.getD j v0).key, (gs.getD j v0).id) L = some a) : Mj vs gs (j + 1) (del ((gs.getD j v0).key, (gs.getD j v0).id) L) ∧ a < vs.length ∧ vs.map (curA vs gs (j + 1)) = (vs.map (curA vs gs j)).set a (gs.getD j v0) := by
  obtain ⟨h1, h2, h3, h4⟩ := (h.iff _ _).1 hn
  simp only at h3 h4
  refine ⟨⟨fun p b => ?_, Nat.le_trans (length_del_le _ _) h.le⟩, h2, ?_⟩
  · rw [fnd_del]
    by_cases e : p = ((gs.getD j v0).key, (gs.getD j v0).id)
    · rw [if_pos e]
      constructor
      · intro hh; cases hh
      · rintro ⟨_, _, _, h8⟩
        rw [find_succ gs j hj, if_pos ((hit_iff p _).2 e)] at h8
        cases hx : (gs.take j).find? (hitB p.2 p.1) with
        | none => rw [hx] at h8; cases h8
        | some x => rw [hx] at h8; cases h8
    · rw [if_neg e, h.iff]
      have : (gs.take (j + 1)).find? (hitB p.2 p.1) = (gs.take j).find? (hitB p.2 p.1) := by
        rw [find_succ gs j hj, if_neg (fun hh => e ((hit_iff p _).1 hh)), Option.or_none]
      rw [this]
  · apply List.ext_getElem?
    intro b
    rw [List.getElem?_set, List.getElem?_map, List.length_map, List.getElem?_map]
    by_cases hb : b < vs.length
    · rw [List.getElem?_eq_getElem hb]
      have eb : vs[b] = vs.getD b v0 := by simp [hb]
      rw [eb]
      simp only [Option.map_some]
      have hbm : vs.getD b v0 ∈ vs := getD_mem_lt v0 hb
      by_cases e : a = b
      · subst e
        rw [if_pos rfl, if_pos h2]
        obtain ⟨z, hz, hlt, hpz⟩ := (needs_mem vs _).1 h1
        have hza : z = vs.getD a v0 := by
          obtain ⟨i, hi, rfl⟩ := List.getElem_of_mem hz
          have ei : vs[i] = vs.getD i v0 := by simp [hi]
          rw [ei] at hpz ⊢
          have : (vs.getD i v0).key = (vs.getD a v0).key := by rw [h3]; exact (congrArg Prod.fst hpz).symm
          rw [hf.keys_inj hi hb this]
        rw [hza] at hlt hpz
        have hid : (gs.getD j v0).id = mostV vs (vs.getD a v0) := congrArg Prod.snd hpz
        unfold curA
        rw [if_pos hlt, ← hid, h3, find_succ gs j hj, h4, if_pos ((hit_iff ((gs.getD j v0).key, (gs.getD j v0).id) _).2 rfl)]
        rfl
      · rw [if_neg e]
        have hne : ¬ (gs.getD j v0).key = (vs.getD b v0).key := fun hh => e (hf.keys_inj h2 hb (by rw [h3, hh]))
        unfold curA
        by_cases e2 : (vs.getD b v0).id < mostV vs (vs.getD b v0)
        · rw [if_pos e2, if_pos e2, find_succ gs j hj, if_neg, Option.or_none]
          unfold hitB
          rw [decide_eq_false hne]; simp
        · rw [if_neg e2, if_neg e2]
    · rw [List.getElem?_eq_none (by omega)]
      by_cases e : a = b
      · omega
      · rw [if_neg e]; rfl
theorem Mj.done {vs gs : List Ver} {L : List (Wn × Nat)} (h : Mj vs gs gs.length L) (h0 : L.length = 0) : mendV vs gs = some (vs.map (curA vs gs gs.length)) := by
  refine mapM_some_of _ _ vs fun y hy => ?_
  unfold placeV curA
  by_cases e : y.id < mostV vs y
  · rw [if_pos e, if_pos e, List.take_length]
    have ee : (fun g : Ver => decide (g.key = y.key) && decide (g.id = mostV vs y)) = hitB (mostV vs y) y.key := rfl
    rw [ee]
    cases hff : gs.find? (hitB (mostV vs y) y.key) with
    | some x => rfl
    | none =>
      have hp := (needs_mem vs (y.key, mostV vs y)).2 ⟨y, hy, e, rfl⟩
      obtain ⟨a, ha, hk⟩ := has_place hp
      have := (h.iff (y.key, mostV vs y) a).2 ⟨hp, ha, hk, by rw [List.take_length]; exact hff⟩
      rw [List.length_eq_zero_iff.1 h0] at this
      cases this
  · rw [if_neg e, if_neg e]
theorem Mj.lack {vs gs : List Ver} {L : List (Wn × Nat)} (h : Mj vs gs gs.length L) (hk : Nk L) (h0 : ¬ L.length = 0) : mendV vs gs = none := by
  cases L with
  | nil => exact absurd rfl h0
  | cons q r =>
    obtain ⟨p, a⟩ := q
    have hm := fnd_of_mem hk (show (p, a) ∈ (p, a) :: r by simp)
    obtain ⟨h1, _, _, h4⟩ := (h.iff p a).1 hm
    rw [List.take_length] at h4
    refine mend_none h1 fun g hg hh => ?_
    have := List.find?_eq_none.1 h4 g hg
    unfold hitB at this
    simp [hh.1, hh.2] at this
theorem take_set (vs : List Ver) (n i : Nat) (hn : n = vs.length) (hi : i < n) : (vs.take i ++ List.replicate (n - i) v0).set i (vs.getD i v0) = vs.take (i + 1) ++ List.replicate (n - (i + 1)) v0 := by
  subst hn
  rw [take_succ_getD vs i v0 hi, List.append_assoc, show vs.length - i = (vs.length - (i + 1)) + 1 by omega, List.replicate_succ]
  have hl : (vs.take i).length = i := by rw [List.length_take]; omega
  rw [List.set_append_right _ _ (by omega), hl, Nat.sub_self]
  rfl
theorem take_rep_len (vs : List Ver) (n i : Nat) (hn : n = vs.length) (hi : i ≤ n) : (vs.take i ++ List.replicate (n - i) v0).length = n := by
  simp; omega
end Go.Proofs.Ytileipnoiocdlaa
