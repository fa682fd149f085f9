import Derived.RangeFuncNested
import Derived.RangeFuncBound
import Derived.RangeFuncCalls
import Derived.RangeFuncLeaves
import Derived.Shelf.Abstract
import Derived.Shelf.RegionOpen
import Derived.OwnWalkIn
import Derived.TacticsInMore
import Derived.LoopNIn
import Derived.LoopIn
import Derived.Sort.MapsRangeIn
import Derived.Test.YtdemoghlibnooaaGreatDoorB12
import Derived.Shelf.SlIter.Collect
import Derived.Test.YtdemoghlibnooaaGreatDoorB6
namespace Go.Proofs.YtdemoghlibnooaaGreatDoor
open Go.RowKit Go.Maps Go.Shelf
set_option linter.unusedVariables false
set_option linter.unusedSimpArgs false
section
variable {κ β : Type} [DecidableEq κ] {w : World} {F : Fence} {nF : Nat} {ops : Array Oper} {rest : List Oper} {o : Oper} {a : Act} {Q : Exit → Act → World → Prop}
theorem wpListIn_mrange (hg : o.guard = none) (m : Operand) (t : TypeId) (hop : o.op = Op.range t m) (K : Kk κ) (hK : K.Law) (V : β → Value) (e : TypeId) (ht : Tryz.prog.underlying t = some (.map K.t e)) (b : Nat) (L : List (κ × β)) (hm : a.eval m = .map (some b)) (h : IsMp K V w b L)
    (hQ : ∀ w', Rng K V w' b w.heap.size L (fun k => (fnd k L).isSome) → w.grownBy w' none → w'.heap.size = w.heap.size + 1 → wpListIn F nF Tryz.prog ops Q rest (a.put o.dst (.pointer (some ⟨w.heap.size, 0, none⟩))) w') : wpListIn F nF Tryz.prog ops Q (o :: rest) a w := by
  refine wpListIn_range_own w hg m t hop K.t e hK.keyed ht rdV b L.length _ hm h.own ?_
  intro w' h1 h2 h3
  exact hQ w' ⟨h.nk, h.ko, _, _, h1, fun k hk => dat_has hK h.ko h.nk hk⟩ h2 h3
theorem wpListIn_mnext (hg : o.guard = none) (it : Operand) (hop : o.op = Op.next it false) (K : Kk κ) (hK : K.Law) (V : β → Value) (b r : Nat) (L : List (κ × β)) (lf : κ → Bool) (hit : a.eval it = .pointer (some ⟨r, 0, none⟩)) (h : Rng K V w b r L lf)
    (hDone : (∀ k, K.ok k → lf k = false) → wpListIn F nF Tryz.prog ops Q rest (a.put o.dst (.tuple #[.bool false])) w)
    (hMore : ∀ (k : κ) (y : β) (w' : World), K.ok k → lf k = true → fnd k L = some y → Rng K V w' b r L (fun z => lf z && decide (z ≠ k)) → w'.rangeLeft b r < w.rangeLeft b r → w.grownBy w' (some r) → w'.heap.size = w.heap.size →
      (Instr.entry (.pointer (some ⟨r, 0, none⟩))).run Tryz.prog w' = .ok (.tuple #[K.val k, V y]) w' → wpListIn F nF Tryz.prog ops Q rest (a.put o.dst (.tuple #[.bool true, K.val k, V y])) w') : wpListIn F nF Tryz.prog ops Q (o :: rest) a w := by
  obtain ⟨left, cnt, hr, hl⟩ := h.rg
  refine wpListIn_next_ranges w hg it hop K.t hK.keyed rdV K.val id (fun v l hv => ?_) (fun v y _ => ⟨v, rfl⟩) b r L.length _ left cnt hit hr ?_ ?_
  · obtain ⟨k, e, _, _⟩ := hK.inv v l hv
    exact ⟨k, e⟩
  · intro h0 hl0
    exact hDone fun k hk => by rw [← hl k hk]; exact hl0 _
  · intro x c kl y w' cnt' hkey hlk hv hat hrg hlt hgr hsz hen
    obtain ⟨k, e1, rfl, hk⟩ := hK.inv _ _ hkey
    obtain rfl := hK.vinj _ _ e1
    cases hf : fnd x L with
    | none =>
      have h1 := hat .nil
      have h2 := hat (.lit (.bool true))
      rw [dat_at_none hK h.ko h.nk hk hf] at h1 h2
      rw [← h1] at h2
      cases h2
    | some u =>
      have h1 := hat .nil
      rw [dat_at_some hK h.ko h.nk hk hf] at h1
      obtain ⟨y1, y2⟩ := y
      have h2 := rdV_inv hv
      simp only at h1
      rw [h2] at h1
      have h3 : V u = c := held_inj h1
      subst h3
      refine hMore x u w' hk (by rw [← hl x hk]; exact hlk) hf ⟨h.nk, h.ko, _, _, hrg, fun z hz => ?_⟩ (by rw [hrg.left_eq, hr.left_eq]; exact hlt) hgr hsz hen
      have e1 := hl z hz
      suffices hs : (!(K.lit z).sameKey (K.lit x)) = decide (z ≠ x) by
        show (left (K.lit z) && !(K.lit z).sameKey (K.lit x)) = (lf z && decide (z ≠ x))
        rw [e1, hs]
      by_cases e : z = x
      · subst e
        rw [WideAt.sameKey_self (hK.isKey hz)]
        simp
      · have : (K.lit z).sameKey (K.lit x) = false := by
          cases hs : (K.lit z).sameKey (K.lit x)
          · rfl
          · exact absurd (hK.inj hz hk (WideAt.sameKey_eq hs)) e
        simp [this, e]
end
theorem Rng.of_walks {κ β : Type} {K : Kk κ} {V : β → Value} {w w' : World} {b r : Nat} {L : List (κ × β)} {lf : κ → Bool} (h : Rng K V w b r L lf) (hk : KeepsWalks w w') : Rng K V w' b r L lf ∧ w'.rangeLeft b r = w.rangeLeft b r := by
  obtain ⟨left, cnt, hr, hl⟩ := h.rg
  exact ⟨⟨h.nk, h.ko, left, cnt, hr.of_walks hk, hl⟩, by rw [(hr.of_walks hk).left_eq, hr.left_eq]⟩
theorem Rng.walk {κ β : Type} {K : Kk κ} {V : β → Value} {w : World} {b r : Nat} {L : List (κ × β)} {lf : κ → Bool} (h : Rng K V w b r L lf) : ∃ o : Obj, w.heap[r]? = some o ∧ o.isWalk = true := by
  obtain ⟨left, cnt, hr, hl⟩ := h.rg
  exact hr.iter_walk
structure Came (L : List (Mk × MV)) (lf : Mk → Bool) (ms : List Mk) : Prop where
  nd : ms.Nodup
  sub : ∀ m ∈ ms, (∃ v, fnd m L = some v) ∧ lf m = false
  all : ∀ m v, fnd m L = some v → lf m = true ∨ m ∈ ms
theorem nodup_len {α : Type} [DecidableEq α] : ∀ {l1 l2 : List α}, l1.Nodup → (∀ x ∈ l1, x ∈ l2) → l1.length ≤ l2.length
  | [], _, _, _ => by simp
  | x :: r, l2, hn, hs => by
    obtain ⟨h1, h2⟩ := List.nodup_cons.1 hn
    have hx := hs x (by simp)
    have := nodup_len (l1 := r) (l2 := l2.erase x) h2 (fun y hy => by
      have hne : y ≠ x := fun e => h1 (e ▸ hy)
      exact (List.mem_erase_of_ne hne).2 (hs y (by simp [hy])))
    rw [List.length_erase_of_mem hx] at this
    have : 0 < l2.length := List.length_pos_of_mem hx
    simp
    omega
theorem perm_of {α : Type} [DecidableEq α] : ∀ {l1 l2 : List α}, l1.Nodup → l2.Nodup → (∀ x, x ∈ l1 ↔ x ∈ l2) → l1.Perm l2
  | [], l2, _, _, h => by
    cases l2 with
    | nil => exact List.Perm.refl _
    | cons y r => exact absurd ((h y).2 (by simp)) (by simp)
  | x :: r, l2, h1, h2, h => by
    obtain ⟨a, b⟩ := List.nodup_cons.1 h1
    have hx : x ∈ l2 := (h x).1 (by simp)
    refine (List.Perm.cons x (perm_of b (h2.erase x) fun y => ?_)).trans (List.perm_cons_erase hx).symm
    by_cases e : y = x
    · subst e
      exact ⟨fun hc => absurd hc a, fun hc => absurd hc (h2.not_mem_erase)⟩
    · rw [List.mem_erase_of_ne e, ← h y]; simp [e]
theorem keys_nodup {L : List (Mk × MV)} (h : Nk L) : (L.map (·.1)).Nodup := by
  unfold List.Nodup
  rw [List.pairwise_map]
  exact h
theorem mem_keys {L : List (Mk × MV)} {m : Mk} : m ∈ L.map (·.1) ↔ ∃ v, fnd m L = some v := by
  constructor
  · intro hm
    cases e : fnd m L with
    | some v => exact ⟨v, rfl⟩
    | none =>
      obtain ⟨q, hq, rfl⟩ := List.mem_map.1 hm
      exact absurd rfl (fnd_none.1 e q hq)
  · rintro ⟨v, hv⟩
    exact List.mem_map.2 ⟨_, fnd_mem hv, rfl⟩
theorem Came.len {L : List (Mk × MV)} {lf : Mk → Bool} {ms : List Mk} (h : Came L lf ms) {m : Mk} {v : MV} (hm : fnd m L = some v) (hl : lf m = true) : ms.length < L.length := by
  have hno : m ∉ ms := fun hc => by rw [(h.sub m hc).2] at hl; cases hl
  have := nodup_len (l1 := m :: ms) (l2 := L.map (·.1)) (List.nodup_cons.2 ⟨hno, h.nd⟩) (fun x hx => by
    rcases List.mem_cons.1 hx with rfl | hx
    · exact mem_keys.2 ⟨v, hm⟩
    · exact mem_keys.2 (h.sub x hx).1)
  simp at this
  omega
theorem Came.step {L : List (Mk × MV)} {lf : Mk → Bool} {ms : List Mk} (h : Came L lf ms) {m : Mk} {v : MV} (hm : fnd m L = some v) (hl : lf m = true) : Came L (fun z => lf z && !decide (z = m)) (ms ++ [m]) := by
  have hno : m ∉ ms := fun hc => by rw [(h.sub m hc).2] at hl; cases hl
  refine ⟨?_, fun x hx => ?_, fun x y hx => ?_⟩
  · rw [List.nodup_append]
    exact ⟨h.nd, by simp, fun a ha b hb => by simp at hb; subst hb; rintro rfl; exact hno ha⟩
  · rcases List.mem_append.1 hx with hx | hx
    · exact ⟨(h.sub x hx).1, by simp [(h.sub x hx).2]⟩
    · simp at hx; subst hx; exact ⟨⟨v, hm⟩, by simp⟩
  · rcases h.all x y hx with e | e
    · by_cases c : x = m
      · exact .inr (by simp [c])
      · exact .inl (by simp [e, c])
    · exact .inr (by simp [e])
set_option maxRecDepth 100000 in
set_option maxHeartbeats 1000000 in
theorem keysM1_in (n : Nat) (hn : 1 ≤ n) (l Bm b : Nat) (L : List (Mk × MV)) (J Jx : List Mk → World → Prop)
    (hY : ∀ pre x W, J pre W → pre.length < L.length → YieldAt Fence.wide (n - 1) Tryz.prog l #[KM.val x] W fun e W' => (e = .returned (.bool true) ∧ J (pre ++ [x]) W' ∧ KeepsWalks W W') ∨ (e = .returned (.bool false) ∧ Jx (pre ++ [x]) W'))
    (W : World) (hJ : AbidesFrom W.heap.size J) (hm : W.cell? ⟨Bm, 0, none⟩ = some (.map (some b))) (hown : IsMp KM vvV W b L) (h0 : J [] W) :
    CallsIn Fence.wide n Tryz.prog 117 #[.func (.yield l) #[] #[], .pointer (some ⟨Bm, 0, none⟩)] W fun e W' => (∃ v, e = .returned v) ∧ ((∃ ms, ms.Perm (L.map (·.1)) ∧ J ms W') ∨ (∃ pre, True ∧ Jx pre W')) := by
  refine callsIn_of_wp Tryz.func117 rfl trivial ?_ rfl
  simp only [Tryz.ntmps117, List.size_toArray, List.length_cons, List.length_nil, Nat.reduceAdd, Nat.reduceSub, Array.replicate_succ, Array.replicate_zero, List.push_toArray, List.append_toArray, List.nil_append, List.cons_append]
  gi_wp2_with (first | (gi_at_range; refine wpListIn_mrange rfl _ 90 rfl KM lawM vvV 150 Tryz.underlying90 b L rfl hown ?_; intro w0 hrg0 hg0 hs0) | gi_in)
  go_frame
  gi_loopw [3] (fun _ wr => ∃ (lf : Mk → Bool) (ms : List Mk), Rng KM vvV wr b W.heap.size L lf ∧ Came L lf ms ∧ J ms wr) (fun _ wr => wr.rangeLeft b W.heap.size)
  case atStart => exact ⟨_, [], hrg0, ⟨List.nodup_nil, fun m hm => by simp at hm, fun m v hv => .inl (by rw [hv]; rfl)⟩, hJ [] W w0 none h0 hg0 (fun r e => by cases e)⟩
  case round =>
    obtain ⟨lf, ms, hrg, hC, hJs⟩ := hrel
    gi_wp2_with (first | (gi_at_next; refine wpListIn_mnext rfl _ rfl KM lawM vvV b W.heap.size L lf rfl hrg ?_ ?_) | gi_in)
    · intro hd
      gi_wp2
      go_end0
      refine ⟨⟨_, rfl⟩, .inl ⟨ms, perm_of hC.nd (keys_nodup hrg.nk) fun m => ?_, hJs⟩⟩
      rw [mem_keys]
      constructor
      · exact fun hm => (hC.sub m hm).1
      · rintro ⟨v, hv⟩
        rcases hC.all m v hv with h | h
        · rw [hd m.1 m.2 (hrg.ko _ (fnd_mem hv))] at h; cases h
        · exact h
    · intro k i y w2 hok hlf hf hrg2 hlt hg2 hs2 hen
      change (Instr.entry (.pointer (some ⟨W.heap.size, 0, none⟩))).run Tryz.prog w2 = .ok (.tuple #[.agg #[.string k, .int .u64 ((i : Nat) : Int)], vvV y]) w2 at hen
      have hJ2 : J ms w2 := hJ ms wr w2 (some W.heap.size) hJs hg2 (fun r e => by cases e; exact ⟨Nat.le_refl _, hrg.walk⟩)
      have hJ3 : J ms (w2.alloc (.cells #[.string k, .int .u64 ((i : Nat) : Int)] 145)) := hJ ms w2 _ none hJ2 (World.grownBy_alloc w2 _ none) (fun r e => by cases e)
      obtain ⟨fn, tmps, assign, body, hy, hR⟩ := hY ms (k, i) _ hJ3 (hC.len hf hlf)
      change (Instr.yield l #[.agg #[.string k, .int .u64 ((i : Nat) : Int)]]).run Tryz.prog _ = _ at hy
      clear hs2
      unfold vvV at hen
      gi_wp2
      refine hR.mono ?_
      rintro e W3 (⟨rfl, hJ4, hk4⟩ | ⟨rfl, hJ4⟩)
      · gi_wp2
        have hk3 : KeepsWalks w2 (w2.alloc (.cells #[.string k, .int .u64 ((i : Nat) : Int)] 145)) := .alloc w2 _
        obtain ⟨h5, e5⟩ := hrg2.of_walks (hk3.trans hk4)
        go_roundw
        refine ⟨_, ms ++ [(k, i)], h5, hC.step hf hlf, hJ4⟩
        · rw [e5]; exact hlt
      · gi_wp2
        refine bodyPost_ret (results_none rfl _ _ _) rfl ?_
        exact ⟨⟨_, rfl⟩, .inr ⟨_, trivial, hJ4⟩⟩
end Go.Proofs.YtdemoghlibnooaaGreatDoor
namespace Go.Proofs.YtdemoghlibnooaaGreatDoor
open Go.RowKit Go.Maps Go.Shelf
set_option linter.unusedVariables false
set_option linter.unusedSimpArgs false
def ME : El Mk := ⟨145, 142, 2, 24, fun m => [.string m.1, .int .u64 ((m.2 : Nat) : Int)]⟩
theorem infoMk : (Tryz.prog.info? 145).map (fun i => (i.zero, i.size, i.bytes)) = some (some (.agg #[.string ⟨#[]⟩, .int .u64 0]), 2, 24) := by kernel_rfl
theorem okMk : ME.Ok := by
  obtain ⟨i0, hi, hz0, hz1, hz2⟩ := info_parts infoMk
  exact ⟨fun _ => rfl, fun x u hu => by simp [ME] at hu; rcases hu with rfl | rfl <;> rfl, by decide, Tryz.underlying142, i0, _, hi, hz0, hz1, hz2, rfl⟩
theorem keysM_stops (n : Nat) (hn : 1 ≤ n) (Bm b : Nat) (L : List (Mk × MV)) (w0 : World) (hm : w0.cell? ⟨Bm, 0, none⟩ = some (.map (some b))) (hown : IsMp KM vvV w0 b L) :
    SeqStopsK Fence.wide n Tryz.prog 117 #[.pointer (some ⟨Bm, 0, none⟩)] (fun m => #[KM.val m]) KeepsWalks (fun ms => ms.Perm (L.map (·.1))) (fun _ => True) L.length w0 := by
  intro l J Jx W hB hJ hJx hY h0
  have hk := Keeps.of_below hB
  exact keysM1_in n hn l Bm b L J Jx hY W hJ (hk.cellN hm) (hown.keeps hk id) h0
set_option maxRecDepth 100000 in
set_option maxHeartbeats 2000000 in
theorem appendSeqM_in (n : Nat) (hn : 3 ≤ n) (Bm b : Nat) (L : List (Mk × MV)) (hL : L.length ≤ 1954687338211) (w : World) (hm : w.cell? ⟨Bm, 0, none⟩ = some (.map (some b))) (hown : IsMp KM vvV w b L) :
    CallsIn Fence.wide n Tryz.prog 169 #[.slice none 0 0, .func (.func 117) #[] #[.pointer (some ⟨Bm, 0, none⟩)]] w fun e w' => ∃ v ms, e = .returned v ∧ ms.Perm (L.map (·.1)) ∧ w'.ownsRow w.heap.size 145 2 v ms.length (ME.cells ms) ∧ Below w.heap.size w w' := by
  have h1 : 1 ≤ n := by omega
  refine callsIn_of_wp_marks Tryz.func169 rfl trivial ?_ rfl
  simp only [Tryz.ntmps169, List.size_toArray, List.length_cons, List.length_nil, Nat.reduceAdd, Nat.reduceSub, Array.replicate_succ, Array.replicate_zero, List.push_toArray, List.append_toArray, List.nil_append, List.cons_append]
  gi_wp2
  have bB := Boxed.new w 142 (.slice none 0 0)
  have hB0 : Below w.heap.size w (w.alloc (.cells #[.slice none 0 0] 142)) := (Below.refl _ w).alloc (Nat.le_refl _) _
  have hsz : (w.alloc (.cells #[.slice none 0 0] 142)).heap.size = w.heap.size + 1 := by simp
  have hk0 : Keeps no w (w.alloc (.cells #[.slice none 0 0] 142)) := (Keeps.refl no w).alloc _
  obtain ⟨W0, hW0⟩ : ∃ W0, w.alloc (.cells #[.slice none 0 0] 142) = W0 := ⟨_, rfl⟩
  rw [hW0] at bB hB0 hsz hk0 ⊢
  clear hW0
  refine wpIn_rangeFunc_ownH rfl h1 (gf := 117) (lb := #[.pointer (some ⟨Bm, 0, none⟩)]) rfl trivial (enters_of Tryz.func117 (by kernel_rfl) rfl)
    (keysM_stops (n - 1) (by omega) Bm b L W0 (hk0.cellN hm) (hown.keeps hk0 id)) walksK_t walksK_b (Below.refl _ _) (fun _ => rfl)
    (fun pre W => (∃ v, Boxed W w.heap.size 142 v ∧ W.ownsRow w.heap.size 145 2 v pre.length (ME.cells pre) ∧ True) ∧ Below w.heap.size w W)
    (fun _ _ _ => False)
    (OwnFrom.and (Go.Own.from (holdsRow_own _ _ _ _ _ _ _ _) _) (ownFrom_below (Nat.le_refl _) (by omega)))
    (fun c => ownFrom_pure _ _)
    ⟨⟨_, bB, ⟨by simp [El.cells], .inl ⟨rfl, rfl⟩⟩, trivial⟩, hB0⟩
    (fun x a' W => ∃ Bx, w.heap.size < Bx ∧ W.heap[Bx]? = some (.cells #[.string x.1, .int .u64 ((x.2 : Nat) : Int)] 145 (0, 0)) ∧ a' = { tmps := #[.slice none 0 0, .func (.func 117) #[] #[.pointer (some ⟨Bm, 0, none⟩)], .pointer (some ⟨w.heap.size, 0, none⟩), undef, .slice none 0 0, .pointer (some ⟨Bx, 0, none⟩), .func (.func 117) #[] #[.pointer (some ⟨Bm, 0, none⟩)], .agg #[.string x.1, .int .u64 ((x.2 : Nat) : Int)], undef, undef, undef, undef, undef], defers := [] })
    (fun x a' _ X Y row hs hg hr => by
      obtain ⟨Bx, e1, e2, e3⟩ := hs
      refine ⟨Bx, e1, (hg.block Bx (lt_of_block e2) (fun e => ?_)).trans e2, e3⟩
      obtain ⟨_, o, ho, hc⟩ := hr Bx e.symm
      rw [e2] at ho; cases ho; cases hc)
    ?assign ?body ?done ?stop
  case assign =>
    rintro l pre ⟨x, i⟩ W K ⟨⟨v, bv, hv, _⟩, hB1⟩ hK
    rw [show KM.val (x, i) = .agg #[.string x, .int .u64 ((i : Nat) : Int)] from rfl]
    gi_wp2_with gi_round_op_a
    exact hK _ _ ((KeepsOthers.alloc _ _).from _) (KeepsWalks.alloc _ _) ⟨⟨v, bv.alloc _, hv.alloc _, trivial⟩, hB1.alloc hB1.size _⟩ ⟨W.heap.size, bv.lt, blk_new W _, rfl⟩
  case body =>
    rintro l pre ⟨x, i⟩ a' W hl ⟨r, hr⟩ ⟨⟨v, bv, hv, _⟩, hB1⟩ ⟨Bx, hBx, bX, rfl⟩ hlt
    have cB := bv.cell
    have fB := bv.frozen
    have cX0 := cell_of_blk bX 0
    have cX1 := cell_of_blk bX 1
    simp at cX0 cX1
    obtain ⟨i0, hi, hz0, hz1, hz2⟩ := info_parts infoMk
    obtain ⟨o, c, rfl, hpl, hv0⟩ : ∃ o c, v = .slice o pre.length c ∧ True ∧ True := by
      rcases hv.2 with ⟨rfl, h0⟩ | ⟨g, cap, cur, rfl, _⟩
      · exact ⟨none, 0, by rw [h0], trivial, trivial⟩
      · exact ⟨_, _, rfl, trivial, trivial⟩
    have hbnd : Hid (pre.length + 1 ≤ 1954687338211) := by have := hL; exact Nat.le_trans hlt hL
    have hsW := hB1.size
    gi_wp2_with (first
      | (gi_at_builtin; refine wpListIn_append_own _ rfl _ _ 142 rfl w.heap.size 145 i0 (.agg #[.string ⟨#[]⟩, .int .u64 0]) 2 24 Tryz.underlying142 hi hz0 hz1 hz2 rfl (by decide) _ pre.length (ME.cells pre) rfl (hv.alloc _) ⟨W.heap.size, 0, none⟩ 1 1 [.string x, .int .u64 ((i : Nat) : Int)] rfl rfl (fun j u hj => ?_) (by simp [Value.oneCell']) (by have := hbnd; unfold Hid at this; unfold maxLen; omega) (by have := hbnd; unfold Hid at this; omega) (by simp; omega) ?_)
      | gi_round_op_a)
    · intro v' w3 hown' hg3 hnil3
      obtain ⟨b1, b2, b3, b4, b5⟩ := bv.appended (by decide) hv hsW (Nat.le_refl _) hown' hg3
      obtain ⟨g', c', rfl⟩ := ownsRow_succ hown'
      have hc3 := b1.cell
      have hf3 := b1.frozen
      clear hnil3
      gi_wp2_with gi_round_op_a
      refine ⟨b4.from _, b4.walks, ⟨_, b2, ?_, trivial⟩, hB1.trans b5⟩
      rw [cells_append, List.length_append]
      exact b3
  case done =>
    rintro D ms W hD hp ⟨⟨v, bv, hv, _⟩, hB1⟩ hK
    obtain ⟨o, c, rfl⟩ : ∃ o c, v = .slice o ms.length c := by
      rcases hv.2 with ⟨rfl, h0⟩ | ⟨g, cap, cur, rfl, _⟩
      · exact ⟨none, 0, by rw [h0]⟩
      · exact ⟨_, _, rfl⟩
    have cR := bv.cell
    have fR := bv.frozen
    gi_wp2
    refine ⟨by simp, .inl ⟨_, _, rfl, run_takeDeferred hK, ?_⟩⟩
    exact ⟨_, results_tmp rfl _ _ _, _, ms, rfl, hp, ownsRow_putObj hv _ hK rfl, hB1.grown (grownBy_putObj' _ _ _) hB1.size (fun k e => by cases e; omega)⟩
  case stop => exact fun D c pre W _ _ h => h.elim
end Go.Proofs.YtdemoghlibnooaaGreatDoor
namespace Go.Proofs.YtdemoghlibnooaaGreatDoor
open Go.RowKit Go.Maps Go.Sort Orl
set_option linter.unusedVariables false
set_option linter.unusedSimpArgs false
def cmpI (i j : Nat) : Int := if i < j then -1 else if j < i then 1 else 0
def cmpM (a b : Mk) : Int := if cmpT a.1 b.1 ≠ 0 then cmpT a.1 b.1 else cmpI a.2 b.2
theorem isNaN_any (w : World) (i : Nat) : Calls Tryz.prog 172 #[.int .u64 ((i : Nat) : Int)] w fun e w' => e = .returned (.bool false) ∧ w' = w := by
  go_enter Tryz.func172, Tryz.ntmps172
  go_wp2
  go_ret
  exact ⟨rfl, rfl⟩
theorem cmpI_any (w : World) (i j : Nat) : Calls Tryz.prog 120 #[.int .u64 ((i : Nat) : Int), .int .u64 ((j : Nat) : Int)] w fun e w' => e = .returned (.int .i64 (cmpI i j)) ∧ w' = w := by
  unfold cmpI
  rcases Nat.lt_trichotomy i j with h | h | h
  · rw [if_pos h]
    have h1 : (i : Int) < j := by omega
    go_enter Tryz.func120, Tryz.ntmps120
    go_wp2_with (go_at_call 172; refine (isNaN_any _ _).mono ?_; rintro e w' ⟨rfl, rfl⟩)
    go_ret
    exact ⟨rfl, rfl⟩
  · subst h
    rw [if_neg (by omega), if_neg (by omega)]
    go_enter Tryz.func120, Tryz.ntmps120
    go_wp2_with (go_at_call 172; refine (isNaN_any _ _).mono ?_; rintro e w' ⟨rfl, rfl⟩)
    go_ret
    exact ⟨rfl, rfl⟩
  · rw [if_neg (by omega), if_pos h]
    have h1 : ¬ (i : Int) < j := by omega
    have h2 : (j : Int) < i := by omega
    go_enter Tryz.func120, Tryz.ntmps120
    go_wp2_with (go_at_call 172; refine (isNaN_any _ _).mono ?_; rintro e w' ⟨rfl, rfl⟩)
    go_ret
    exact ⟨rfl, rfl⟩
set_option maxHeartbeats 1000000 in
theorem or_any (w : World) (b : Nat) (x y : Int) (h0 : w.cell? ⟨b, 0, none⟩ = some (.int .i64 x)) (h1 : w.cell? ⟨b, 1, none⟩ = some (.int .i64 y)) : Calls Tryz.prog 118 #[.slice (some ⟨b, 0, none⟩) 2 2] w fun e w' => e = .returned (.int .i64 (if x ≠ 0 then x else y)) ∧ w' = w := by
  by_cases hx : x = 0
  · rw [if_neg (by simp [hx])]
    subst hx
    by_cases hy : y = 0
    · subst hy
      go_enter Tryz.func118, Tryz.ntmps118
      go_wp2_with fail
      go_loopw [5, 8] (fun _ i wr => wr = w ∧ ∃ k : Nat, k ≤ 2 ∧ i = .int .i64 (k : Int)) (fun _ i _ => 3 - (intOf i).toNat)
      case atStart => exact ⟨rfl, 0, by omega, rfl⟩
      case round =>
        obtain ⟨rfl, k, hk, rfl⟩ := hrel
        have : k = 0 ∨ k = 1 ∨ k = 2 := by omega
        rcases this with rfl | rfl | rfl
        · go_wp2
          go_roundw
          case rel => exact ⟨trivial, 1, by omega, rfl⟩
          case measure => simp [intOf]
        · go_wp2
          go_roundw
          case rel => exact ⟨trivial, 2, by omega, rfl⟩
          case measure => simp [intOf]
        · go_wp2
          go_ret
          exact ⟨rfl, rfl⟩
    · go_enter Tryz.func118, Tryz.ntmps118
      go_wp2_with fail
      go_loopw [5, 8] (fun _ i wr => wr = w ∧ ∃ k : Nat, k ≤ 1 ∧ i = .int .i64 (k : Int)) (fun _ i _ => 3 - (intOf i).toNat)
      case atStart => exact ⟨rfl, 0, by omega, rfl⟩
      case round =>
        obtain ⟨rfl, k, hk, rfl⟩ := hrel
        have : k = 0 ∨ k = 1 := by omega
        rcases this with rfl | rfl
        · go_wp2
          go_roundw
          case rel => exact ⟨trivial, 1, by omega, rfl⟩
          case measure => simp [intOf]
        · go_wp2
          go_ret
          exact ⟨rfl, rfl⟩
  · rw [if_pos hx]
    go_enter Tryz.func118, Tryz.ntmps118
    go_wp2_with fail
    go_loopw [5, 8] (fun _ i wr => wr = w ∧ i = .int .i64 0) (fun _ i _ => 1)
    case atStart => exact ⟨rfl, rfl⟩
    case round =>
      obtain ⟨rfl, rfl⟩ := hrel
      go_wp2
      go_ret
      exact ⟨rfl, rfl⟩
set_option maxHeartbeats 1000000 in
theorem byKey_any (x y : Mk) (W : World) : Calls Tryz.prog 75 #[.agg #[.string x.1, .int .u64 ((x.2 : Nat) : Int)], .agg #[.string y.1, .int .u64 ((y.2 : Nat) : Int)]] W fun e w' => e = .returned (.int .i64 (cmpM x y)) ∧ ∃ q os', w' = grow (W.drewN q) os' := by
  obtain ⟨x1, x2⟩ := x
  obtain ⟨y1, y2⟩ := y
  have hcon := fun W' => compare_any x1 y1 W'
  have hci := fun W' => cmpI_any W' x2 y2
  unfold cmpM
  simp only
  generalize cmpT x1 y1 = r at hcon ⊢
  generalize cmpI x2 y2 = r2 at hci ⊢
  have hor := fun W' b' h0 h1 => or_any W' b' r r2 h0 h1
  generalize (if r ≠ 0 then r else r2) = R at hor ⊢
  go_enter Tryz.func75, Tryz.ntmps75
  go_wp2_with fail
  obtain ⟨W1, hW1⟩ : ∃ W1, W1 = (W.alloc (.cells #[.string x1, .int .u64 ((x2 : Nat) : Int)] 145)).alloc (.cells #[.string y1, .int .u64 ((y2 : Nat) : Int)] 145) := ⟨_, rfl⟩
  have HW : Hid (W1 = (W.alloc (.cells #[.string x1, .int .u64 ((x2 : Nat) : Int)] 145)).alloc (.cells #[.string y1, .int .u64 ((y2 : Nat) : Int)] 145)) := hW1
  have hb0 : W1.heap[W.heap.size]? = some (.cells #[.string x1, .int .u64 ((x2 : Nat) : Int)] 145 (0, 0)) := by rw [hW1]; exact blk_alloc (blk_new W _) _
  have hb1 : W1.heap[W.heap.size + 1]? = some (.cells #[.string y1, .int .u64 ((y2 : Nat) : Int)] 145 (0, 0)) := by
    have := blk_new (W.alloc (.cells #[.string x1, .int .u64 ((x2 : Nat) : Int)] 145)) (.cells #[.string y1, .int .u64 ((y2 : Nat) : Int)] 145)
    rw [show (W.alloc (.cells #[.string x1, .int .u64 ((x2 : Nat) : Int)] 145)).heap.size = W.heap.size + 1 by simp] at this
    rw [hW1]; exact this
  have HST : Hid (∀ X, Keeps no W1 X → X.cell? ⟨W.heap.size, 0, none⟩ = some (.string x1) ∧ X.cell? ⟨W.heap.size, 1, none⟩ = some (.int .u64 ((x2 : Nat) : Int)) ∧ X.cell? ⟨W.heap.size + 1, 0, none⟩ = some (.string y1) ∧ X.cell? ⟨W.heap.size + 1, 1, none⟩ = some (.int .u64 ((y2 : Nat) : Int))) := fun X hX =>
    ⟨hX.cellN (cell_of_blk hb0 0), hX.cellN (cell_of_blk hb0 1), hX.cellN (cell_of_blk hb1 0), hX.cellN (cell_of_blk hb1 1)⟩
  rw [← hW1]
  clear hb0 hb1 hW1
  go_region_held3 (fun X => X.cell? ⟨W.heap.size, 0, none⟩ = some (.string x1) ∧ X.cell? ⟨W.heap.size, 1, none⟩ = some (.int .u64 ((x2 : Nat) : Int)) ∧ X.cell? ⟨W.heap.size + 1, 0, none⟩ = some (.string y1) ∧ X.cell? ⟨W.heap.size + 1, 1, none⟩ = some (.int .u64 ((y2 : Nat) : Int))) (first | exact HST.out _ (Keeps.refl no _) | exact HST.out _ ((Keeps.refl no _).drew) | exact HST.out _ (((Keeps.refl no _).drew).alloc _) | exact HST.out _ (((Keeps.refl no _).alloc _).drew)) ((first | (go_at_call 119; refine (hcon _).mono ?_; rintro e w' ⟨rfl, rfl⟩) | (go_at_call 120; refine (hci _).mono ?_; rintro e w' ⟨rfl, rfl⟩) | (go_at_call 118; refine (hor _ W1.heap.size (by first | exact cell_of_blk (blk_new W1 _) 0 | exact cell_of_blk (blk_new W1.drew _) 0) (by first | exact cell_of_blk (blk_new W1 _) 1 | exact cell_of_blk (blk_new W1.drew _) 1)).mono ?_; rintro e w' ⟨rfl, rfl⟩)))
  go_wp2_with fail
  go_ret
  refine ⟨rfl, 1, #[.cells #[.string x1, .int .u64 ((x2 : Nat) : Int)] 145, .cells #[.string y1, .int .u64 ((y2 : Nat) : Int)] 145, .cells #[.int .i64 r, .int .i64 r2] 3], ?_⟩
  rw [HW.out]
  rw [alloc_eq_grow, alloc_eq_grow, alloc_eq_grow, grow_grow, grow_grow]
  rfl
end Go.Proofs.YtdemoghlibnooaaGreatDoor
