/- The program's copyOf; a list of versions of the call's own, written over. -/
import Derived.Test.YtodblodbeobgeaaC6
import Derived.Test.YtodblodbeobgeaaD4
import Derived.Test.YtodblodbeobgeaaPz
import Derived.Test.YtodblodbeobgeaaQs
namespace Go.Proofs.Ytodblodbeobgeaa
open Go.RowKit Go.Sort Orl
set_option linter.unusedVariables false
set_option linter.unusedSimpArgs false

set_option maxRecDepth 10000 in
theorem copy_any (w : World) (r : RV) (v : Ver) (hf : FitV v) (h : VerOf w r v) :
    Calls Try.prog 30 #[.agg #[.string r.key, .int .u64 (r.id : Nat), .string r.val, .slice r.o r.n r.c]] w fun e w' => ∃ u, e = .returned u ∧ GiveV w v u w' := by
  obtain ⟨vk, vi, vv, vks⟩ := v
  obtain ⟨k, i, x, o, n, c⟩ := r
  obtain ⟨h1, h2, h3, hn, hs⟩ := h
  simp only at h1 h2 h3 hn hs ⊢
  subst h1 h2 h3
  obtain ⟨fi, fk, fv, fl, fs⟩ := hf
  simp only at fi fk fv fl fs
  have HN : Hid (n = vks.length) := hn
  go_enter Try.func30, Try.ntmps30
  have HK2 : Hid (Keeps no w ((w.alloc (.cells #[.string k, .int .u64 (i : Nat), .string x, .slice o n c] 32)).alloc (.cells #[.string ⟨#[]⟩, .int .u64 0, .string ⟨#[]⟩, .slice none 0 0] 32))) := ((Keeps.refl no w).alloc _).alloc _
  have HSL : Hid (Sl TE w o c vks) := hs
  clear hs hn
  go_wp2_with (at_builtin; refine wpList_app okT rfl _ _ rfl _ _ _ [] rfl rfl (own_nil _) _ _ _ vks rfl HN.out HSL.out.nil (HSL.out.keepsN HK2.out).row (by simp [TE]; omega) (by simp; omega) ?_; intro os6 cs6 ws6 hos6 haps6; have HKQ : Hid (Keeps no w ws6) := (HK2.out.trans (haps6.new (new_none _) (Keeps.refl no _)).2); have HNQ : Hid (∀ q, inO os6 q → w.heap.size + 2 ≤ q) := (by have h := (haps6.new (new_none _) (Keeps.refl no _)).1; intro q hq; have := h q hq; simpa using this); have hb0 := (haps6.new (new_none _) (Keeps.refl no _)).2.at (blk_alloc (blk_new w (.cells #[.string k, .int .u64 (i : Nat), .string x, .slice o n c] 32)) _) id; have hb1 : ws6.heap[w.heap.size + 1]? = some (.cells #[.string ⟨#[]⟩, .int .u64 0, .string ⟨#[]⟩, .slice none 0 0] 32 (0, 0)) := (by have h := (haps6.new (new_none _) (Keeps.refl no _)).2.at (blk_new (w.alloc (.cells #[.string k, .int .u64 (i : Nat), .string x, .slice o n c] 32)) (.cells #[.string ⟨#[]⟩, .int .u64 0, .string ⟨#[]⟩, .slice none 0 0] 32)) id; simpa using h); obtain ⟨x0, x1, x2, x3⟩ := cells4 hb0; obtain ⟨y0, y1, y2, y3⟩ := cells4 hb1; have f3 := frozen_of_blk hb0 3; have k0 := frozen_of_blk hb1 0; have k1 := frozen_of_blk hb1 1; have k2 := frozen_of_blk hb1 2; have k3 := frozen_of_blk hb1 3; have HBB : Hid (ws6.heap[w.heap.size]? = some (.cells #[.string k, .int .u64 (i : Nat), .string x, .slice o n c] 32 (0, 0)) ∧ ws6.heap[w.heap.size + 1]? = some (.cells #[.string ⟨#[]⟩, .int .u64 0, .string ⟨#[]⟩, .slice none 0 0] 32 (0, 0))) := ⟨hb0, hb1⟩; clear hb0 hb1 haps6)
  have hq := set4 (b0 := .string k) (b1 := .int .u64 (i : Nat)) (b2 := .string x) (b3 := .slice os6 n cs6) (blk_set_ne HBB.out.2 (p := ⟨w.heap.size, 3, none⟩) (by simp) (.slice os6 n cs6))
  have hk9 : Keeps (fun q => q = w.heap.size ∨ q = w.heap.size + 1) ws6 _ := ((Keeps.refl (fun q => q = w.heap.size ∨ q = w.heap.size + 1) ws6).setCell (p := ⟨w.heap.size, 3, none⟩) (.inl (.inl rfl)) (.slice os6 n cs6)).trans (hq.2.mono fun q hq => .inr hq)
  generalize ((((ws6.setCell ⟨w.heap.size, 3, none⟩ (.slice os6 n cs6)).setCell ⟨w.heap.size + 1, 0, none⟩ (.string k)).setCell ⟨w.heap.size + 1, 1, none⟩ (.int .u64 (i : Nat))).setCell ⟨w.heap.size + 1, 2, none⟩ (.string x)).setCell ⟨w.heap.size + 1, 3, none⟩ (.slice os6 n cs6) = w9 at hq hk9 ⊢
  refine bodyPost_ret (results_row1 rfl _ _ (w.heap.size + 1) _ rfl (run_loadVar_row _ _ _ _ _ _ _ hq.1 Try.underlying32 rfl (ver_size _ _ _ _))) rfl ?_
  refine ⟨_, rfl, os6, n, cs6, rfl, HN, ?_, fun q hq => by have := HNQ.out q hq; omega, HKQ.out.then hk9 (fun q hq => .inr (by omega))⟩
  exact hos6.keeps hk9 (fun q hq e => by have := HNQ.out q hq; omega)

/-- four cells written -/
def wset4 (w : World) (g k : Nat) (r : RV) : World := (((w.setCell ⟨g, k * 4, none⟩ (.string r.key)).setCell ⟨g, k * 4 + 1, none⟩ (.int .u64 (r.id : Nat))).setCell ⟨g, k * 4 + 2, none⟩ (.string r.val)).setCell ⟨g, k * 4 + 3, none⟩ (.slice r.o r.n r.c)
/-- a list of versions that was made since w; each list of keys of the call's own, by itself -/
structure NewVo (w : World) (o : Option Addr) (c : Nat) (rs : List RV) (vs : List Ver) (w' : World) : Prop where
  own : Own VE w' o c rs
  len : rs.length = vs.length
  each : ∀ j, j < vs.length → VerN w' (rs.getD j r0) (vs.getD j v0)
  newO : New w o
  newK : ∀ j, j < vs.length → New w (rs.getD j r0).o
  sep : ∀ i j, i < j → j < vs.length → ∀ k, inO (rs.getD i r0).o k → ¬ inO (rs.getD j r0).o k
  kp : Keeps no w w'
theorem NewVo.z {w w' : World} {o : Option Addr} {c : Nat} {rs : List RV} {vs : List Ver} (h : NewVo w o c rs vs w') : NewVz w o c rs vs w' :=
  ⟨h.own, h.len, fun j hj => ⟨(h.each j hj).key, (h.each j hj).id, (h.each j hj).val, (h.each j hj).n, .inl (h.each j hj).own⟩, h.newO, fun j hj k hk => h.newK j hj k hk.2, fun i j hij hj k h1 h2 => h.sep i j hij hj k h1.2 h2.2, h.kp⟩
theorem NewVo.vs {w w' : World} {o : Option Addr} {c : Nat} {rs : List RV} {vs : List Ver} (h : NewVo w o c rs vs w') : NewVs w o c rs vs w' := ⟨h.own, h.len, h.each, h.newO, h.newK, h.kp⟩
theorem NewVo.keepsN {w w' w2 : World} {o : Option Addr} {c : Nat} {rs : List RV} {vs : List Ver} (h : NewVo w o c rs vs w') (k : Keeps no w' w2) : NewVo w o c rs vs w2 :=
  ⟨h.own.keepsN k, h.len, fun j hj => (h.each j hj).keepsN k, h.newO, h.newK, h.sep, h.kp.trans k⟩
theorem NewVo.older {w u w' : World} {o : Option Addr} {c : Nat} {rs : List RV} {vs : List Ver} (h : NewVo u o c rs vs w') (k : Keeps no w u) : NewVo w o c rs vs w' :=
  ⟨h.own, h.len, h.each, h.newO.of_le k.size, fun j hj => (h.newK j hj).of_le k.size, h.sep, k.trans h.kp⟩
theorem getD_setZ {α : Type} (l : List α) (k : Nat) (x d : α) (j : Nat) (hj : j < l.length) : (l.set k x).getD j d = if k = j then x else l.getD j d := by
  simp only [List.getD_eq_getElem?_getD, List.getElem?_set]
  by_cases e : k = j
  · subst e; simp [hj]
  · simp [e]
/-- one written over by a copy -/
theorem NewVo.copy {w wr w5 : World} {o : Option Addr} {c : Nat} {rs : List RV} {vs : List Ver} (h : NewVo w o c rs vs wr) (k : Nat) (hk : k < vs.length) (v : Ver) {o5 : Option Addr} {n5 c5 : Nat} (hn5 : n5 = v.keys.length) (ho5 : Own TE w5 o5 c5 v.keys) (hnw : New wr o5) (kp : Keeps no wr w5) :
    ∃ g, o = some ⟨g, 0, none⟩ ∧ (∀ i, w5.frozen? ⟨g, i, none⟩ = false) ∧ (∃ r' : RV, w5.cell? ⟨g, k * 4, none⟩ = some (.string r'.key) ∧ w5.cell? ⟨g, k * 4 + 1, none⟩ = some (.int .u64 (r'.id : Nat)) ∧ w5.cell? ⟨g, k * 4 + 2, none⟩ = some (.string r'.val) ∧ w5.cell? ⟨g, k * 4 + 3, none⟩ = some (.slice r'.o r'.n r'.c)) ∧ NewVo w o c (rs.set k ⟨v.key, v.id, v.val, o5, n5, c5⟩) (vs.set k v) (wset4 w5 g k ⟨v.key, v.id, v.val, o5, n5, c5⟩) ∧ Keeps (inO o) w5 (wset4 w5 g k ⟨v.key, v.id, v.val, o5, n5, c5⟩) := by
  have hne : TE.e ≠ VE.e := by decide
  have h5 := h.keepsN kp
  have hl := h.len
  obtain ⟨g, e, hf, ho, hkp⟩ := h5.own.storeE okV k (by omega) ⟨v.key, v.id, v.val, o5, n5, c5⟩
  obtain ⟨g2, off2, e2, c0, c1, c2, c3⟩ := h5.own.sl.atV (j := k) (by omega)
  have hge : g2 = g ∧ off2 = 0 := by rw [e] at e2; cases e2; exact ⟨rfl, rfl⟩
  obtain ⟨rfl, rfl⟩ := hge
  simp only [Nat.zero_add] at c0 c1 c2 c3
  have hkp' : Keeps (inO o) w5 (wset4 w5 g2 k ⟨v.key, v.id, v.val, o5, n5, c5⟩) := hkp
  have ho' : Own VE (wset4 w5 g2 k ⟨v.key, v.id, v.val, o5, n5, c5⟩) o c (rs.set k ⟨v.key, v.id, v.val, o5, n5, c5⟩) := ho
  refine ⟨g2, e, hf, ⟨_, c0, c1, c2, c3⟩, ?_, hkp'⟩
  have hr : VerN w5 ⟨v.key, v.id, v.val, o5, n5, c5⟩ v := ⟨rfl, rfl, rfl, hn5, ho5⟩
  generalize hre : (⟨v.key, v.id, v.val, o5, n5, c5⟩ : RV) = r at hr hkp' ho' ⊢
  have hro : ∀ q, inO r.o q → wr.heap.size ≤ q := fun q hq => by subst hre; exact hnw q hq
  have key : ∀ j, j < (vs.set k v).length → VerN (wset4 w5 g2 k r) ((rs.set k r).getD j r0) ((vs.set k v).getD j v0) ∧ New w ((rs.set k r).getD j r0).o := by
    intro j hj
    rw [List.length_set] at hj
    rw [getD_setZ vs k v v0 j hj, getD_setZ rs k r r0 j (by omega)]
    by_cases e : k = j
    · rw [if_pos e, if_pos e]
      exact ⟨hr.keeps hkp' (own_apart hne hr.own h5.own), fun q hq => Nat.le_trans h.kp.size (hro q hq)⟩
    · rw [if_neg e, if_neg e]
      exact ⟨(h5.each j hj).keeps hkp' (own_apart hne (h5.each j hj).own h5.own), h.newK j hj⟩
  refine ⟨ho', by simp [hl], fun j hj => (key j hj).1, h.newO, fun j hj => (key j hj).2, ?_, h5.kp.then hkp' (fun i hi => .inr (h.newO i hi))⟩
  intro i j hij hj q
  rw [List.length_set] at hj
  rw [getD_setZ rs k r r0 i (by omega), getD_setZ rs k r r0 j (by omega)]
  by_cases e1 : k = i
  · rw [if_pos e1, if_neg (show ¬ k = j by omega)]
    intro hq hq2
    have := hro q hq
    have := (h.each j hj).own.lt q hq2
    omega
  · rw [if_neg e1]
    by_cases e2 : k = j
    · rw [if_pos e2]
      intro hq hq2
      have := hro q hq2
      have := (h.each i (by omega)).own.lt q hq
      omega
    · rw [if_neg e2]
      exact h.sep i j hij hj q
/-- other blocks were written -/
theorem NewVo.other {S : Nat → Prop} {w wr w' : World} {o : Option Addr} {c : Nat} {rs : List RV} {vs : List Ver} (h : NewVo w o c rs vs wr) (k : Keeps S wr w') (hS : ∀ i, S i → w.heap.size ≤ i) (ho : ∀ i, S i → ¬ inO o i) (hr : ∀ j, j < vs.length → ∀ i, S i → ¬ inO (rs.getD j r0).o i) : NewVo w o c rs vs w' :=
  ⟨h.own.keeps k (fun i hi hs => ho i hs hi), h.len, fun j hj => (h.each j hj).keeps k (fun i hi hs => hr j hj i hs hi), h.newO, h.newK, h.sep, h.kp.then k (fun i hi => .inr (hS i hi))⟩
/-- a map's block is no slice's -/
theorem mp_own {κ β α : Type} {K : Kk κ} {V : β → Value} {E : El α} {w : World} {b : Nat} {L : List (κ × β)} (h : IsMp K V w b L) {o : Option Addr} {c : Nat} {xs : List α} (ho : Own E w o c xs) : ¬ inO o b := by
  rintro ⟨x, e, rfl⟩
  obtain ⟨es, clock, hh⟩ := h.obj
  rcases ho.shape with ⟨e2, _⟩ | ⟨g, cur, e2, hg, _⟩
  · rw [e] at e2; cases e2
  · rw [e] at e2; cases e2
    rw [hh] at hg; cases hg
theorem NewVo.mapped {κ β : Type} {K : Kk κ} {V : β → Value} {w wr w' : World} {b : Nat} {L : List (κ × β)} {o : Option Addr} {c : Nat} {rs : List RV} {vs : List Ver} (h : NewVo w o c rs vs wr) (hm : IsMp K V wr b L) (hb : w.heap.size ≤ b) (k : Keeps (fun i => i = b) wr w') : NewVo w o c rs vs w' :=
  h.other k (fun i hi => by rw [hi]; exact hb) (fun i hi => by rw [hi]; exact mp_own hm h.own) (fun j hj i hi => by rw [hi]; exact mp_own hm (h.each j hj).own)
/-- a list made of zeros -/
theorem made_cells (n : Nat) : (madeCells #[.string ⟨#[]⟩, .int .u64 0, .string ⟨#[]⟩, .slice none 0 0] (n * 4)).toList = VE.cells (List.replicate n r0) := by
  apply List.ext_getElem?
  intro m
  by_cases hm : m < n * 4
  · have h := cells_at okV r0 (List.replicate n r0) (m / 4) (m % 4) (by rw [List.length_replicate]; omega) (show m % 4 < 4 by omega)
    rw [show m / 4 * VE.k + m % 4 = m from by show m / 4 * 4 + m % 4 = m; omega] at h
    rw [h]
    have e : (List.replicate n r0).getD (m / 4) r0 = r0 := by simp [List.getD_eq_getElem?_getD, List.getElem?_replicate]; split <;> rfl
    rw [e]
    unfold madeCells
    rw [Array.getElem?_toList, Array.getElem?_map, Array.getElem?_range, if_pos hm]
    have h4 : m % 4 = 0 ∨ m % 4 = 1 ∨ m % 4 = 2 ∨ m % 4 = 3 := by omega
    simp only [Option.map_some]
    show some ((#[.string ⟨#[]⟩, .int .u64 0, .string ⟨#[]⟩, .slice none 0 0] : Array Value)[m % 4]!) = _
    rcases h4 with h4 | h4 | h4 | h4 <;> rw [h4] <;> rfl
  · have h1 : (VE.cells (List.replicate n r0)).length = n * 4 := by rw [cells_length okV, List.length_replicate]; rfl
    rw [List.getElem?_eq_none (by rw [Array.length_toList, size_madeCells]; omega), List.getElem?_eq_none (by rw [h1]; omega)]
theorem NewVo.made {w wr w' : World} (n : Nat) (hk : Keeps no w wr) (ho : w'.ownsRow 0 VE.e VE.k (.slice (some ⟨wr.heap.size, 0, none⟩) n n) n (VE.cells (List.replicate n r0))) (k : Keeps no wr w') : NewVo w (some ⟨wr.heap.size, 0, none⟩) n (List.replicate n r0) (List.replicate n v0) w' := by
  have gr : ∀ j, (List.replicate n r0).getD j r0 = r0 := fun j => by simp [List.getD_eq_getElem?_getD, List.getElem?_replicate]; split <;> rfl
  have gv : ∀ j, (List.replicate n v0).getD j v0 = v0 := fun j => by simp [List.getD_eq_getElem?_getD, List.getElem?_replicate]; split <;> rfl
  have nr : ∀ q, ¬ inO r0.o q := fun q h => by obtain ⟨x, e, _⟩ := h; cases e
  refine ⟨?_, by simp, fun j _ => by rw [gr, gv]; exact ⟨rfl, rfl, rfl, rfl, own_nil _⟩, ?_, fun j _ q hq => by rw [gr] at hq; exact absurd hq (nr q), fun i j _ _ q hq => by rw [gr] at hq; exact absurd hq (nr q), hk.trans k⟩
  · unfold Own
    rw [List.length_replicate]
    exact ho
  · rintro q ⟨x, e, rfl⟩
    cases e
    exact hk.size
end Go.Proofs.Ytodblodbeobgeaa
