import Derived.Test.YtagekdmkidbhpaaI1
import Derived.RangeFuncNested
import Derived.RangeFuncCalls
import Derived.Shelf.SlIter.Collect
/- Collect(maps.Keys(versions)). -/
namespace Go.Proofs.Ytagekdmkidbhpaa
open Go.RowKit Go.Maps Go.Shelf
set_option linter.unusedVariables false
set_option linter.unusedSimpArgs false

def ME : El Mk := ⟨87, 119, 2, 24, fun m => [.string m.1, .int .u64 ((m.2 : Nat) : Int)]⟩
theorem infoMk : (Try.prog.info? 87).map (fun i => (i.zero, i.size, i.bytes)) = some (some (.agg #[.string ⟨#[]⟩, .int .u64 0]), 2, 24) := by kernel_rfl
theorem okMk : ME.Ok := by
  obtain ⟨i0, hi, hz0, hz1, hz2⟩ := info_parts infoMk
  exact ⟨fun _ => rfl, fun x u hu => by simp [ME] at hu; rcases hu with rfl | rfl <;> rfl, by decide, Try.underlying119, i0, _, hi, hz0, hz1, hz2, rfl⟩
theorem keysM_stops (n : Nat) (hn : 1 ≤ n) (Bm b : Nat) (L : List (Mk × MV)) (w0 : World) (hm : w0.cell? ⟨Bm, 0, none⟩ = some (.map (some b))) (hown : IsMp KM vvV w0 b L) :
    SeqStopsK Fence.wide n Try.prog 63 #[.pointer (some ⟨Bm, 0, none⟩)] (fun m => #[KM.val m]) KeepsWalks (fun ms => ms.Perm (L.map (·.1))) (fun _ => True) L.length w0 := by
  intro l J Jx W hB hJ hJx hY h0
  have hk := Keeps.of_below hB
  exact keysM1_in n hn l Bm b L J Jx hY W hJ (hk.cellN hm) (hown.keeps hk id) h0

set_option maxRecDepth 100000 in
set_option maxHeartbeats 2000000 in
theorem appendSeqM_in (n : Nat) (hn : 3 ≤ n) (Bm b : Nat) (L : List (Mk × MV)) (hL : L.length ≤ 1954687338211) (w : World) (hm : w.cell? ⟨Bm, 0, none⟩ = some (.map (some b))) (hown : IsMp KM vvV w b L) :
    CallsIn Fence.wide n Try.prog 68 #[.slice none 0 0, .func (.func 63) #[] #[.pointer (some ⟨Bm, 0, none⟩)]] w fun e w' => ∃ v ms, e = .returned v ∧ ms.Perm (L.map (·.1)) ∧ w'.ownsRow w.heap.size 87 2 v ms.length (ME.cells ms) ∧ Below w.heap.size w w' := by
  have h1 : 1 ≤ n := by omega
  refine callsIn_of_wp_marks Try.func68 rfl trivial ?_ rfl
  simp only [Try.ntmps68, List.size_toArray, List.length_cons, List.length_nil, Nat.reduceAdd, Nat.reduceSub, Array.replicate_succ, Array.replicate_zero, List.push_toArray, List.append_toArray, List.nil_append, List.cons_append]
  gi_wp2
  have bB := Boxed.new w 119 (.slice none 0 0)
  have hB0 : Below w.heap.size w (w.alloc (.cells #[.slice none 0 0] 119)) := (Below.refl _ w).alloc (Nat.le_refl _) _
  have hsz : (w.alloc (.cells #[.slice none 0 0] 119)).heap.size = w.heap.size + 1 := by simp
  have hk0 : Keeps no w (w.alloc (.cells #[.slice none 0 0] 119)) := (Keeps.refl no w).alloc _
  obtain ⟨W0, hW0⟩ : ∃ W0, w.alloc (.cells #[.slice none 0 0] 119) = W0 := ⟨_, rfl⟩
  rw [hW0] at bB hB0 hsz hk0 ⊢
  clear hW0
  refine wpIn_rangeFunc_ownH rfl h1 (gf := 63) (lb := #[.pointer (some ⟨Bm, 0, none⟩)]) rfl trivial (enters_of Try.func63 (by kernel_rfl) rfl)
    (keysM_stops (n - 1) (by omega) Bm b L W0 (hk0.cellN hm) (hown.keeps hk0 id)) walksK_t walksK_b (Below.refl _ _) (fun _ => rfl)
    (fun pre W => (∃ v, Boxed W w.heap.size 119 v ∧ W.ownsRow w.heap.size 87 2 v pre.length (ME.cells pre) ∧ True) ∧ Below w.heap.size w W)
    (fun _ _ _ => False)
    (OwnFrom.and (Go.Own.from (holdsRow_own _ _ _ _ _ _ _ _) _) (ownFrom_below (Nat.le_refl _) (by omega)))
    (fun c => ownFrom_pure _ _)
    ⟨⟨_, bB, ⟨by simp [El.cells], .inl ⟨rfl, rfl⟩⟩, trivial⟩, hB0⟩
    (fun x a' W => ∃ Bx, w.heap.size < Bx ∧ W.heap[Bx]? = some (.cells #[.string x.1, .int .u64 ((x.2 : Nat) : Int)] 87 (0, 0)) ∧ a' = { tmps := #[.slice none 0 0, .func (.func 63) #[] #[.pointer (some ⟨Bm, 0, none⟩)], .pointer (some ⟨w.heap.size, 0, none⟩), undef, .slice none 0 0, .pointer (some ⟨Bx, 0, none⟩), .func (.func 63) #[] #[.pointer (some ⟨Bm, 0, none⟩)], .agg #[.string x.1, .int .u64 ((x.2 : Nat) : Int)], undef, undef, undef, undef, undef], defers := [] })
    (fun x a' _ X Y row hs hg hr => by
      obtain ⟨Bx, e1, e2, e3⟩ := hs
      refine ⟨Bx, e1, (hg.block Bx (lt_of_block e2) (fun e => ?_)).trans e2, e3⟩
      obtain ⟨_, o, ho, hc⟩ := hr Bx e.symm
      rw [e2] at ho; cases ho; cases hc)
    ?assign ?body ?done ?stop
  case assign =>
    rintro l pre ⟨x, i⟩ W K ⟨⟨v, bv, hv, _⟩, hB1⟩ hK
    rw [show KM.val (x, i) = .agg #[.string x, .int .u64 ((i : Nat) : Int)] from rfl]
    gi_wp2_with gi_round_op_a
    exact hK _ _ ((KeepsOthers.alloc _ _).from _) (KeepsWalks.alloc _ _) ⟨⟨v, bv.alloc _, hv.alloc _, trivial⟩, hB1.alloc hB1.size _⟩ ⟨W.heap.size, bv.lt, blk_new W _, rfl⟩
  case body =>
    rintro l pre ⟨x, i⟩ a' W hl ⟨r, hr⟩ ⟨⟨v, bv, hv, _⟩, hB1⟩ ⟨Bx, hBx, bX, rfl⟩ hlt
    have cB := bv.cell
    have fB := bv.frozen
    have cX0 := cell_of_blk bX 0
    have cX1 := cell_of_blk bX 1
    simp at cX0 cX1
    obtain ⟨i0, hi, hz0, hz1, hz2⟩ := info_parts infoMk
    obtain ⟨o, c, rfl, hpl, hv0⟩ : ∃ o c, v = .slice o pre.length c ∧ True ∧ True := by
      rcases hv.2 with ⟨rfl, h0⟩ | ⟨g, cap, cur, rfl, _⟩
      · exact ⟨none, 0, by rw [h0], trivial, trivial⟩
      · exact ⟨_, _, rfl, trivial, trivial⟩
    have hbnd : Hid (pre.length + 1 ≤ 1954687338211) := by have := hL; exact Nat.le_trans hlt hL
    have hsW := hB1.size
    gi_wp2_with (first
      | (gi_at_builtin; refine wpListIn_append_own _ rfl _ _ 119 rfl w.heap.size 87 i0 (.agg #[.string ⟨#[]⟩, .int .u64 0]) 2 24 Try.underlying119 hi hz0 hz1 hz2 rfl (by decide) _ pre.length (ME.cells pre) rfl (hv.alloc _) ⟨W.heap.size, 0, none⟩ 1 1 [.string x, .int .u64 ((i : Nat) : Int)] rfl rfl (fun j u hj => ?_) (by simp [Value.oneCell']) (by have := hbnd; unfold Hid at this; unfold maxLen; omega) (by have := hbnd; unfold Hid at this; omega) (by simp; omega) ?_)
      | gi_round_op_a)
    · intro v' w3 hown' hg3 hnil3
      obtain ⟨b1, b2, b3, b4, b5⟩ := bv.appended (by decide) hv hsW (Nat.le_refl _) hown' hg3
      obtain ⟨g', c', rfl⟩ := ownsRow_succ hown'
      have hc3 := b1.cell
      have hf3 := b1.frozen
      clear hnil3
      gi_wp2_with gi_round_op_a
      refine ⟨b4.from _, b4.walks, ⟨_, b2, ?_, trivial⟩, hB1.trans b5⟩
      rw [cells_append, List.length_append]
      exact b3
  case done =>
    rintro D ms W hD hp ⟨⟨v, bv, hv, _⟩, hB1⟩ hK
    obtain ⟨o, c, rfl⟩ : ∃ o c, v = .slice o ms.length c := by
      rcases hv.2 with ⟨rfl, h0⟩ | ⟨g, cap, cur, rfl, _⟩
      · exact ⟨none, 0, by rw [h0]⟩
      · exact ⟨_, _, rfl⟩
    have cR := bv.cell
    have fR := bv.frozen
    gi_wp2
    refine ⟨by simp, .inl ⟨_, _, rfl, run_takeDeferred hK, ?_⟩⟩
    exact ⟨_, results_tmp rfl _ _ _, _, ms, rfl, hp, ownsRow_putObj hv _ hK rfl, hB1.grown (grownBy_putObj' _ _ _) hB1.size (fun k e => by cases e; omega)⟩
  case stop => exact fun D c pre W _ _ h => h.elim
end Go.Proofs.Ytagekdmkidbhpaa
