import Derived.RangeFuncNested
import Derived.RangeFuncBound
import Derived.RangeFuncCalls
import Derived.RangeFuncLeaves
import Derived.Shelf.Abstract
import Derived.Shelf.RegionOpen
import Derived.OwnWalkIn
import Derived.TacticsInMore
import Derived.LoopNIn
import Derived.LoopIn
import Derived.Sort.MapsRangeIn
import Derived.Test.YtagekdmkidbhpaaOb
/- maps.Keys over the versions: the iterator. -/
namespace Go.Proofs.Ytagekdmkidbhpaa
open Go.RowKit Go.Maps Go.Shelf
set_option linter.unusedVariables false
set_option linter.unusedSimpArgs false

section
variable {κ β : Type} [DecidableEq κ] {w : World} {F : Fence} {nF : Nat} {ops : Array Oper} {rest : List Oper} {o : Oper} {a : Act} {Q : Exit → Act → World → Prop}
theorem wpListIn_mrange (hg : o.guard = none) (m : Operand) (t : TypeId) (hop : o.op = Op.range t m) (K : Kk κ) (hK : K.Law) (V : β → Value) (e : TypeId) (ht : Try.prog.underlying t = some (.map K.t e)) (b : Nat) (L : List (κ × β)) (hm : a.eval m = .map (some b)) (h : IsMp K V w b L)
    (hQ : ∀ w', Rng K V w' b w.heap.size L (fun k => (fnd k L).isSome) → w.grownBy w' none → w'.heap.size = w.heap.size + 1 → wpListIn F nF Try.prog ops Q rest (a.put o.dst (.pointer (some ⟨w.heap.size, 0, none⟩))) w') : wpListIn F nF Try.prog ops Q (o :: rest) a w := by
  refine wpListIn_range_own w hg m t hop K.t e hK.keyed ht rdV b L.length _ hm h.own ?_
  intro w' h1 h2 h3
  exact hQ w' ⟨h.nk, h.ko, _, _, h1, fun k hk => dat_has hK h.ko h.nk hk⟩ h2 h3
theorem wpListIn_mnext (hg : o.guard = none) (it : Operand) (hop : o.op = Op.next it false) (K : Kk κ) (hK : K.Law) (V : β → Value) (b r : Nat) (L : List (κ × β)) (lf : κ → Bool) (hit : a.eval it = .pointer (some ⟨r, 0, none⟩)) (h : Rng K V w b r L lf)
    (hDone : (∀ k, K.ok k → lf k = false) → wpListIn F nF Try.prog ops Q rest (a.put o.dst (.tuple #[.bool false])) w)
    (hMore : ∀ (k : κ) (y : β) (w' : World), K.ok k → lf k = true → fnd k L = some y → Rng K V w' b r L (fun z => lf z && decide (z ≠ k)) → w'.rangeLeft b r < w.rangeLeft b r → w.grownBy w' (some r) → w'.heap.size = w.heap.size →
      (Instr.entry (.pointer (some ⟨r, 0, none⟩))).run Try.prog w' = .ok (.tuple #[K.val k, V y]) w' → wpListIn F nF Try.prog ops Q rest (a.put o.dst (.tuple #[.bool true, K.val k, V y])) w') : wpListIn F nF Try.prog ops Q (o :: rest) a w := by
  obtain ⟨left, cnt, hr, hl⟩ := h.rg
  refine wpListIn_next_ranges w hg it hop K.t hK.keyed rdV K.val id (fun v l hv => ?_) (fun v y _ => ⟨v, rfl⟩) b r L.length _ left cnt hit hr ?_ ?_
  · obtain ⟨k, e, _, _⟩ := hK.inv v l hv
    exact ⟨k, e⟩
  · intro h0 hl0
    exact hDone fun k hk => by rw [← hl k hk]; exact hl0 _
  · intro x c kl y w' cnt' hkey hlk hv hat hrg hlt hgr hsz hen
    obtain ⟨k, e1, rfl, hk⟩ := hK.inv _ _ hkey
    obtain rfl := hK.vinj _ _ e1
    cases hf : fnd x L with
    | none =>
      have h1 := hat .nil
      have h2 := hat (.lit (.bool true))
      rw [dat_at_none hK h.ko h.nk hk hf] at h1 h2
      rw [← h1] at h2
      cases h2
    | some u =>
      have h1 := hat .nil
      rw [dat_at_some hK h.ko h.nk hk hf] at h1
      obtain ⟨y1, y2⟩ := y
      have h2 := rdV_inv hv
      simp only at h1
      rw [h2] at h1
      have h3 : V u = c := held_inj h1
      subst h3
      refine hMore x u w' hk (by rw [← hl x hk]; exact hlk) hf ⟨h.nk, h.ko, _, _, hrg, fun z hz => ?_⟩ (by rw [hrg.left_eq, hr.left_eq]; exact hlt) hgr hsz hen
      have e1 := hl z hz
      suffices hs : (!(K.lit z).sameKey (K.lit x)) = decide (z ≠ x) by
        show (left (K.lit z) && !(K.lit z).sameKey (K.lit x)) = (lf z && decide (z ≠ x))
        rw [e1, hs]
      by_cases e : z = x
      · subst e
        rw [WideAt.sameKey_self (hK.isKey hz)]
        simp
      · have : (K.lit z).sameKey (K.lit x) = false := by
          cases hs : (K.lit z).sameKey (K.lit x)
          · rfl
          · exact absurd (hK.inj hz hk (WideAt.sameKey_eq hs)) e
        simp [this, e]
end
theorem Rng.of_walks {κ β : Type} {K : Kk κ} {V : β → Value} {w w' : World} {b r : Nat} {L : List (κ × β)} {lf : κ → Bool} (h : Rng K V w b r L lf) (hk : KeepsWalks w w') : Rng K V w' b r L lf ∧ w'.rangeLeft b r = w.rangeLeft b r := by
  obtain ⟨left, cnt, hr, hl⟩ := h.rg
  exact ⟨⟨h.nk, h.ko, left, cnt, hr.of_walks hk, hl⟩, by rw [(hr.of_walks hk).left_eq, hr.left_eq]⟩
theorem Rng.walk {κ β : Type} {K : Kk κ} {V : β → Value} {w : World} {b r : Nat} {L : List (κ × β)} {lf : κ → Bool} (h : Rng K V w b r L lf) : ∃ o : Obj, w.heap[r]? = some o ∧ o.isWalk = true := by
  obtain ⟨left, cnt, hr, hl⟩ := h.rg
  exact hr.iter_walk
/-- those that have come -/
structure Came (L : List (Mk × MV)) (lf : Mk → Bool) (ms : List Mk) : Prop where
  nd : ms.Nodup
  sub : ∀ m ∈ ms, (∃ v, fnd m L = some v) ∧ lf m = false
  all : ∀ m v, fnd m L = some v → lf m = true ∨ m ∈ ms
theorem nodup_len {α : Type} [DecidableEq α] : ∀ {l1 l2 : List α}, l1.Nodup → (∀ x ∈ l1, x ∈ l2) → l1.length ≤ l2.length
  | [], _, _, _ => by simp
  | x :: r, l2, hn, hs => by
    obtain ⟨h1, h2⟩ := List.nodup_cons.1 hn
    have hx := hs x (by simp)
    have := nodup_len (l1 := r) (l2 := l2.erase x) h2 (fun y hy => by
      have hne : y ≠ x := fun e => h1 (e ▸ hy)
      exact (List.mem_erase_of_ne hne).2 (hs y (by simp [hy])))
    rw [List.length_erase_of_mem hx] at this
    have : 0 < l2.length := List.length_pos_of_mem hx
    simp
    omega
theorem perm_of {α : Type} [DecidableEq α] : ∀ {l1 l2 : List α}, l1.Nodup → l2.Nodup → (∀ x, x ∈ l1 ↔ x ∈ l2) → l1.Perm l2
  | [], l2, _, _, h => by
    cases l2 with
    | nil => exact List.Perm.refl _
    | cons y r => exact absurd ((h y).2 (by simp)) (by simp)
  | x :: r, l2, h1, h2, h => by
    obtain ⟨a, b⟩ := List.nodup_cons.1 h1
    have hx : x ∈ l2 := (h x).1 (by simp)
    refine (List.Perm.cons x (perm_of b (h2.erase x) fun y => ?_)).trans (List.perm_cons_erase hx).symm
    by_cases e : y = x
    · subst e
      exact ⟨fun hc => absurd hc a, fun hc => absurd hc (h2.not_mem_erase)⟩
    · rw [List.mem_erase_of_ne e, ← h y]; simp [e]
theorem keys_nodup {L : List (Mk × MV)} (h : Nk L) : (L.map (·.1)).Nodup := by
  unfold List.Nodup
  rw [List.pairwise_map]
  exact h
theorem mem_keys {L : List (Mk × MV)} {m : Mk} : m ∈ L.map (·.1) ↔ ∃ v, fnd m L = some v := by
  constructor
  · intro hm
    cases e : fnd m L with
    | some v => exact ⟨v, rfl⟩
    | none =>
      obtain ⟨q, hq, rfl⟩ := List.mem_map.1 hm
      exact absurd rfl (fnd_none.1 e q hq)
  · rintro ⟨v, hv⟩
    exact List.mem_map.2 ⟨_, fnd_mem hv, rfl⟩
theorem Came.len {L : List (Mk × MV)} {lf : Mk → Bool} {ms : List Mk} (h : Came L lf ms) {m : Mk} {v : MV} (hm : fnd m L = some v) (hl : lf m = true) : ms.length < L.length := by
  have hno : m ∉ ms := fun hc => by rw [(h.sub m hc).2] at hl; cases hl
  have := nodup_len (l1 := m :: ms) (l2 := L.map (·.1)) (List.nodup_cons.2 ⟨hno, h.nd⟩) (fun x hx => by
    rcases List.mem_cons.1 hx with rfl | hx
    · exact mem_keys.2 ⟨v, hm⟩
    · exact mem_keys.2 (h.sub x hx).1)
  simp at this
  omega
theorem Came.step {L : List (Mk × MV)} {lf : Mk → Bool} {ms : List Mk} (h : Came L lf ms) {m : Mk} {v : MV} (hm : fnd m L = some v) (hl : lf m = true) : Came L (fun z => lf z && !decide (z = m)) (ms ++ [m]) := by
  have hno : m ∉ ms := fun hc => by rw [(h.sub m hc).2] at hl; cases hl
  refine ⟨?_, fun x hx => ?_, fun x y hx => ?_⟩
  · rw [List.nodup_append]
    exact ⟨h.nd, by simp, fun a ha b hb => by simp at hb; subst hb; rintro rfl; exact hno ha⟩
  · rcases List.mem_append.1 hx with hx | hx
    · exact ⟨(h.sub x hx).1, by simp [(h.sub x hx).2]⟩
    · simp at hx; subst hx; exact ⟨⟨v, hm⟩, by simp⟩
  · rcases h.all x y hx with e | e
    · by_cases c : x = m
      · exact .inr (by simp [c])
      · exact .inl (by simp [e, c])
    · exact .inr (by simp [e])
set_option maxRecDepth 100000 in
set_option maxHeartbeats 1000000 in
theorem keysM1_in (n : Nat) (hn : 1 ≤ n) (l Bm b : Nat) (L : List (Mk × MV)) (J Jx : List Mk → World → Prop)
    (hY : ∀ pre x W, J pre W → pre.length < L.length → YieldAt Fence.wide (n - 1) Try.prog l #[KM.val x] W fun e W' => (e = .returned (.bool true) ∧ J (pre ++ [x]) W' ∧ KeepsWalks W W') ∨ (e = .returned (.bool false) ∧ Jx (pre ++ [x]) W'))
    (W : World) (hJ : AbidesFrom W.heap.size J) (hm : W.cell? ⟨Bm, 0, none⟩ = some (.map (some b))) (hown : IsMp KM vvV W b L) (h0 : J [] W) :
    CallsIn Fence.wide n Try.prog 63 #[.func (.yield l) #[] #[], .pointer (some ⟨Bm, 0, none⟩)] W fun e W' => (∃ v, e = .returned v) ∧ ((∃ ms, ms.Perm (L.map (·.1)) ∧ J ms W') ∨ (∃ pre, True ∧ Jx pre W')) := by
  refine callsIn_of_wp Try.func63 rfl trivial ?_ rfl
  simp only [Try.ntmps63, List.size_toArray, List.length_cons, List.length_nil, Nat.reduceAdd, Nat.reduceSub, Array.replicate_succ, Array.replicate_zero, List.push_toArray, List.append_toArray, List.nil_append, List.cons_append]
  gi_wp2_with (first | (gi_at_range; refine wpListIn_mrange rfl _ 73 rfl KM lawM vvV 90 Try.underlying73 b L rfl hown ?_; intro w0 hrg0 hg0 hs0) | gi_in)
  go_frame
  gi_loopw [3] (fun _ wr => ∃ (lf : Mk → Bool) (ms : List Mk), Rng KM vvV wr b W.heap.size L lf ∧ Came L lf ms ∧ J ms wr) (fun _ wr => wr.rangeLeft b W.heap.size)
  case atStart => exact ⟨_, [], hrg0, ⟨List.nodup_nil, fun m hm => by simp at hm, fun m v hv => .inl (by rw [hv]; rfl)⟩, hJ [] W w0 none h0 hg0 (fun r e => by cases e)⟩
  case round =>
    obtain ⟨lf, ms, hrg, hC, hJs⟩ := hrel
    gi_wp2_with (first | (gi_at_next; refine wpListIn_mnext rfl _ rfl KM lawM vvV b W.heap.size L lf rfl hrg ?_ ?_) | gi_in)
    · intro hd
      gi_wp2
      go_end0
      refine ⟨⟨_, rfl⟩, .inl ⟨ms, perm_of hC.nd (keys_nodup hrg.nk) fun m => ?_, hJs⟩⟩
      rw [mem_keys]
      constructor
      · exact fun hm => (hC.sub m hm).1
      · rintro ⟨v, hv⟩
        rcases hC.all m v hv with h | h
        · rw [hd m.1 m.2 (hrg.ko _ (fnd_mem hv))] at h; cases h
        · exact h
    · intro k i y w2 hok hlf hf hrg2 hlt hg2 hs2 hen
      change (Instr.entry (.pointer (some ⟨W.heap.size, 0, none⟩))).run Try.prog w2 = .ok (.tuple #[.agg #[.string k, .int .u64 ((i : Nat) : Int)], vvV y]) w2 at hen
      have hJ2 : J ms w2 := hJ ms wr w2 (some W.heap.size) hJs hg2 (fun r e => by cases e; exact ⟨Nat.le_refl _, hrg.walk⟩)
      have hJ3 : J ms (w2.alloc (.cells #[.string k, .int .u64 ((i : Nat) : Int)] 87)) := hJ ms w2 _ none hJ2 (World.grownBy_alloc w2 _ none) (fun r e => by cases e)
      obtain ⟨fn, tmps, assign, body, hy, hR⟩ := hY ms (k, i) _ hJ3 (hC.len hf hlf)
      change (Instr.yield l #[.agg #[.string k, .int .u64 ((i : Nat) : Int)]]).run Try.prog _ = _ at hy
      clear hs2
      unfold vvV at hen
      gi_wp2
      refine hR.mono ?_
      rintro e W3 (⟨rfl, hJ4, hk4⟩ | ⟨rfl, hJ4⟩)
      · gi_wp2
        have hk3 : KeepsWalks w2 (w2.alloc (.cells #[.string k, .int .u64 ((i : Nat) : Int)] 87)) := .alloc w2 _
        obtain ⟨h5, e5⟩ := hrg2.of_walks (hk3.trans hk4)
        go_roundw
        refine ⟨_, ms ++ [(k, i)], h5, hC.step hf hlf, hJ4⟩
        · rw [e5]; exact hlt
      · gi_wp2
        refine bodyPost_ret (results_none rfl _ _ _) rfl ?_
        exact ⟨⟨_, rfl⟩, .inr ⟨_, trivial, hJ4⟩⟩
end Go.Proofs.Ytagekdmkidbhpaa
