/- The document's net: put, Send, Twin. -/
import Derived.Test.YtdbejihkliafiaaD3
import Derived.Deep.RegionLaw
import Derived.Deep.RegionHeld3
namespace Go.Proofs.Ytdbejihkliafiaa
open Go.RowKit Go.Sort
set_option linter.unusedVariables false
set_option linter.unusedSimpArgs false

theorem step_app {α : Type} {E : El α} (hE : E.Ok) {w : World} {ops : Array Oper} {o : Oper} {a : Act} {K : Act → World → Prop} {Q : Exit → Act → World → Prop} {Ep : Prop} (hgd : o.guard = none) (s x : Operand)
    (ho : o.op = .call { callee := .builtin .append, args := #[s, x], argTypes := #[E.t, E.t] })
    (oa : Option Addr) (n c : Nat) (xs : List α) (hs : a.eval s = .slice oa n c) (hn : n = xs.length) (hown : Own E w oa c xs)
    (ox : Option Addr) (m d : Nat) (news : List α) (hx : a.eval x = .slice ox m d) (hm : m = news.length) (hd : ox = none → d = 0) (hrow : Row E w ox news)
    (hb : (xs.length + news.length) * E.nb ≤ 140737488355328) (hb2 : xs.length + news.length ≤ 140737488355328)
    (h : ∀ o' c' w', Own E w' o' c' (xs ++ news) → Ap w oa o' w' → K (a.put o.dst (.slice o' (n + m) c')) w') :
    if Region.wanted o (yielded ops a.tmps) = true then Oper.wp Try.prog o a w K Q else Ep := by
  have hw : Region.wanted o (yielded ops a.tmps) = true := by simp [Region.wanted, hgd]
  rw [if_pos hw]
  subst hn hm
  obtain ⟨o', c', w', hr, h1, h2⟩ := run_app hE w o.type oa c xs hown ox d news hd hrow hb hb2
  unfold Oper.wp execOp
  simp only [ho, resolve, invoke, builtin, Sem.run_bind, Sem.run_pure, Result.andThen_ok, List.map_toArray, List.map_cons, List.map_nil, hs, hx, hr]
  exact h o' c' w' h1 h2

set_option maxRecDepth 10000 in
set_option maxHeartbeats 8000000 in
theorem dPut_any (w : World) (p : Nat) (F : Nat → Prop) (s : NS) (K : Nat) (a b : Int) (o0 : Option Addr) (bn c0 : Nat) (bs : List UInt8) (h : IsD w p F s) (hw : NWf s K) (hK : K ≤ 2600000000000) (hn : bn = bs.length) (hl : bs.length ≤ 140737488355328) (hs : ∀ X, Keeps (fun i => i = p) w X → Sl BE X o0 c0 bs) :
    Calls Try.prog 37 #[.pointer (some ⟨p, 0, none⟩), .int .i64 a, .int .i64 b, .slice o0 bn c0] w (NTo IsD w p F (.int .i64 (((s.num + 1 : Nat)) : Int)) (putS s a b bs)) := by
  obtain ⟨o, n, c, rs, h⟩ := h
  obtain ⟨c0', c1', c2, c3⟩ := h.cells
  have f2 := frozen_of_blk h.blk 2
  have hnum : (s.num : Int) ≤ 2600000000000 := by have := hw.num; omega
  obtain ⟨M, hM⟩ : ∃ M, M = s.num + 1 := ⟨_, rfl⟩
  rw [← hM]
  have hMI : (s.num : Int) + 1 = (M : Int) := by omega
  have HW1 : Hid (∀ w1, w1 = w.setCell ⟨p, 2, none⟩ (.int .i64 (M : Int)) → w1.heap[p]? = some (.cells (dC s.parts s.clients M (.slice o n c)) 71 (0, 0)) ∧ Keeps (fun i => i = p) w w1) := by
    rintro w1 rfl
    refine ⟨?_, (Keeps.refl (fun i => i = p) w).setCell (p := ⟨p, 2, none⟩) (.inl (show p = p from rfl)) _⟩
    rw [blk_set h.blk 2]; rfl
  have HL : Hid (NtL DE 71 dC w p F s o n c rs) := h
  have HLL : Hid (s.fl.length ≤ 2600000000000 ∧ n = rs.length ∧ M = s.num + 1) := ⟨by have := hw.len; have := hw.num; omega, by rw [h.n, h.fs.len], hM⟩
  have HB0 : Hid (bn = bs.length ∧ bs.length ≤ 140737488355328 ∧ ∀ X, Keeps (fun i => i = p) w X → Sl BE X o0 c0 bs) := ⟨hn, hl, hs⟩
  clear h hw hK hn hl hs c0' c1' hM
  go_enter Try.func37, Try.ntmps37
  go_upto_region 3 with fail
  have hw1 := HW1.out _ rfl
  generalize w.setCell ⟨p, 2, none⟩ (.int .i64 (M : Int)) = w1 at hw1 ⊢
  have HP1 : Hid (w1.heap[p]? = some (.cells (dC s.parts s.clients M (.slice o n c)) 71 (0, 0)) ∧ Keeps (fun i => i = p) w w1) := hw1
  have HNP : Hid (¬ inO o p ∧ Own DE w1 o c rs) := ⟨fun hi => HL.out.ne (by decide) (by decide) p (.inl hi) rfl, HL.out.fs.own.keeps hw1.2 (fun i hi e => HL.out.ne (by decide) (by decide) i (.inl hi) e)⟩
  have HC3 : Hid (∀ X, Keeps no w1 X → X.cell? ⟨p, 3, none⟩ = some (.slice o n c)) := fun X hX => by
    rw [cell_of_blk (hX.at HP1.out.1 (fun h => h))]; rfl
  have HSX : Hid (∀ X, Keeps (inO o) w1 X → X.cell? ⟨p, 2, none⟩ = some (.int .i64 (M : Nat))) := fun X hX => by
    rw [cell_of_blk (hX.at HP1.out.1 HNP.out.1)]; rfl
  have HBS : Hid (bn = bs.length ∧ Sl BE w1 o0 c0 bs ∧ (([] : List UInt8).length + bs.length) * BE.nb ≤ 140737488355328 ∧ ([] : List UInt8).length + bs.length ≤ 140737488355328) := by
    have h2 := HB0.out.2.1
    refine ⟨HB0.out.1, HB0.out.2.2 w1 HP1.out.2, ?_, by simp; omega⟩
    simp [BE]; omega
  have HLN : Hid (n = rs.length ∧ Own DE w1 o c rs ∧ (rs.length + 1) * DE.nb ≤ 140737488355328 ∧ rs.length + 1 ≤ 140737488355328) := by
    have h1 := HLL.out.1
    have h2 := HLL.out.2.1
    have h3 := HL.out.n
    refine ⟨h2, HNP.out.2, ?_, by omega⟩
    show (rs.length + 1) * 48 ≤ _
    omega
  have HFN : Hid (∀ ob bn' cb o9 c9 wb w9, Own BE wb ob cb bs → bn' = bs.length → New w1 ob → Keeps no w1 wb → Own DE w9 o9 c9 (rs ++ [⟨M, a, b, ob, bn', cb⟩]) → Ap (wb.alloc (.cells #[.int .i64 (M : Nat), .int .i64 a, .int .i64 b, .slice ob bn' cb] 72)) o o9 w9 → w9.cell? ⟨p, 3, none⟩ = some (.slice o n c) ∧ w9.frozen? ⟨p, 3, none⟩ = false ∧ w9.cell? ⟨p, 2, none⟩ = some (.int .i64 (M : Nat)) ∧ (w9.setCell ⟨p, 3, none⟩ (.slice o9 (n + 1) c9)).cell? ⟨p, 2, none⟩ = some (.int .i64 (M : Nat)) ∧ NTo IsD w p F (.int .i64 (M : Nat)) (putS s a b bs) (.returned (.int .i64 (M : Nat))) (w9.setCell ⟨p, 3, none⟩ (.slice o9 (n + 1) c9))) := by
    intro ob bn' cb o9 c9 wb w9 hob hbn hnb hkb ho9 ha9
    have hb9 : w9.heap[p]? = some (.cells (dC s.parts s.clients M (.slice o n c)) 71 (0, 0)) := ha9.keeps.at ((hkb.alloc _).at HP1.out.1 (fun h => h)) HNP.out.1
    have hb10 := blk_set hb9 3 (.slice o9 (n + 1) c9)
    have e10 : (w9.setCell ⟨p, 3, none⟩ (.slice o9 (n + 1) c9)).heap[p]? = some (.cells (dC s.parts s.clients M (.slice o9 (n + 1) c9)) 71 (0, 0)) := by rw [hb10]; rfl
    refine ⟨by rw [cell_of_blk hb9]; rfl, frozen_of_blk hb9 3, by rw [cell_of_blk hb9]; rfl, by rw [cell_of_blk e10]; rfl, rfl, ?_⟩
    have hM := HLL.out.2.2
    subst hM
    exact HL.out.put (by decide) (by decide) (by decide) HP1.out.2 (hkb.alloc _) (hob.keepsN ((Keeps.refl _ _).alloc _)).oz hbn (fun i hi => Nat.le_trans HP1.out.2.size (hnb i hi.2)) ho9 ha9 ⟨_, hb9⟩ ((Keeps.refl (fun i => i = p) w9).setCell (p := ⟨p, 3, none⟩) (.inl (show p = p from rfl)) _) e10
  clear hw1 HW1 HB0 HLL HNP c2 c3 f2 hnum hMI HP1
  refine wp_region_held_drew (S := fun X => X.cell? ⟨p, 2, none⟩ = some (.int .i64 (M : Nat))) (by kernel_rfl) ?_ (fun hHeld => ?_)
  · exact HSX.out _ ((Keeps.refl _ _).drew)
  have HDW : Hid (Keeps no w1 w1.drew) := (Keeps.refl _ _).drew
  generalize w1.drew = zd at HDW hHeld ⊢
  refine wpAnyH_take (i := 0) (v := ?_) (by simp only [List.getElem?_toArray, List.getElem?_cons_succ, List.getElem?_cons_zero]; rfl) (by kernel_rfl) (by kernel_rfl) (by kernel_rfl) (by exact fun _ _ _ h => h) (Or.inl ⟨by rfl, ?_⟩) (by assumption) ?_
  rotate_left
  · (intro _ hSw; (try dsimp only at hSw); go_simp; (try with_reducible rfl))
  try simp only [Act.put, List.setIfInBounds_toArray, List.set_cons_zero, List.set_cons_succ]
  refine wpAnyH_take (i := 1) (v := ?_) (by simp only [List.getElem?_toArray, List.getElem?_cons_succ, List.getElem?_cons_zero]; rfl) (by kernel_rfl) (by kernel_rfl) (by kernel_rfl) (by exact fun _ _ _ h => h) (Or.inl ⟨by rfl, ?_⟩) (by assumption) ?_
  rotate_left
  · (intro _ hSw; (try dsimp only at hSw); go_simp; (try with_reducible rfl))
  try simp only [Act.put, List.setIfInBounds_toArray, List.set_cons_zero, List.set_cons_succ]
  refine wpAnyH_take (i := 2) (v := ?_) (by simp only [List.getElem?_toArray, List.getElem?_cons_succ, List.getElem?_cons_zero]; rfl) (by kernel_rfl) (by kernel_rfl) (by kernel_rfl) (by exact fun _ _ _ h => h) (Or.inl ⟨by rfl, ?_⟩) (by assumption) ?_
  rotate_left
  · (intro _ hSw; (try dsimp only at hSw); go_simp; (try with_reducible rfl))
  try simp only [Act.put, List.setIfInBounds_toArray, List.set_cons_zero, List.set_cons_succ]
  refine wpAnyH_take (i := 3) (v := ?_) (by simp only [List.getElem?_toArray, List.getElem?_cons_succ, List.getElem?_cons_zero]; rfl) (by kernel_rfl) (by kernel_rfl) (by kernel_rfl) (by exact fun _ _ _ h => h) (Or.inl ⟨by rfl, ?_⟩) (by assumption) ?_
  rotate_left
  · (intro _ hSw; (try dsimp only at hSw); go_simp; (try with_reducible rfl))
  try simp only [Act.put, List.setIfInBounds_toArray, List.set_cons_zero, List.set_cons_succ]
  refine wpAnyH_take (i := 5) (v := ?_) (by simp only [List.getElem?_toArray, List.getElem?_cons_succ, List.getElem?_cons_zero]; rfl) (by kernel_rfl) (by kernel_rfl) (by kernel_rfl) (by exact fun _ _ _ h => h) (Or.inl ⟨by rfl, ?_⟩) (by assumption) ?_
  rotate_left
  · (intro _ hSw; (try dsimp only at hSw); go_simp; (try with_reducible rfl))
  try simp only [Act.put, List.setIfInBounds_toArray, List.set_cons_zero, List.set_cons_succ]
  refine wpAnyH_take (i := 6) (v := ?_) (by simp only [List.getElem?_toArray, List.getElem?_cons_succ, List.getElem?_cons_zero]; rfl) (by kernel_rfl) (by kernel_rfl) (by kernel_rfl) (by exact fun _ _ _ h => h) (Or.inl ⟨by rfl, ?_⟩) (by assumption) ?_
  rotate_left
  · (intro _ hSw; (try dsimp only at hSw); go_simp; (try with_reducible rfl))
  try simp only [Act.put, List.setIfInBounds_toArray, List.set_cons_zero, List.set_cons_succ]
  refine wpAnyH_take (i := 7) (v := ?_) (by simp only [List.getElem?_toArray, List.getElem?_cons_succ, List.getElem?_cons_zero]; rfl) (by kernel_rfl) (by kernel_rfl) (by kernel_rfl) (by exact fun _ _ _ h => h) (Or.inl ⟨by rfl, ?_⟩) (by assumption) ?_
  rotate_left
  · (intro _ hSw; (try dsimp only at hSw); go_simp; (try with_reducible rfl))
  try simp only [Act.put, List.setIfInBounds_toArray, List.set_cons_zero, List.set_cons_succ]
  refine wpAnyH_take (i := 8) (v := ?_) (by simp only [List.getElem?_toArray, List.getElem?_cons_succ, List.getElem?_cons_zero]; rfl) (by kernel_rfl) (by kernel_rfl) (by kernel_rfl) (by exact fun _ _ _ h => h) (Or.inl ⟨by rfl, ?_⟩) (by assumption) ?_
  rotate_left
  · (intro _ hSw; (try dsimp only at hSw); go_simp; (try with_reducible rfl))
  try simp only [Act.put, List.setIfInBounds_toArray, List.set_cons_zero, List.set_cons_succ]
  refine wpAnyH_take (i := 9) (v := ?_) (by simp only [List.getElem?_toArray, List.getElem?_cons_succ, List.getElem?_cons_zero]; rfl) (by kernel_rfl) (by kernel_rfl) (by kernel_rfl) (by exact fun _ _ _ h => h) (Or.inl ⟨by rfl, ?_⟩) (by assumption) ?_
  rotate_left
  · (intro _ hSw; (try dsimp only at hSw); go_simp; (try with_reducible rfl))
  try simp only [Act.put, List.setIfInBounds_toArray, List.set_cons_zero, List.set_cons_succ]
  refine wpAnyH_take (i := 10) (v := ?_) (by simp only [List.getElem?_toArray, List.getElem?_cons_succ, List.getElem?_cons_zero]; rfl) (by kernel_rfl) (by kernel_rfl) (by kernel_rfl) (by exact fun _ _ _ h => h) (Or.inl ⟨by rfl, ?_⟩) (by assumption) ?_
  rotate_left
  · (intro _ hSw; (try dsimp only at hSw); go_simp; (try with_reducible rfl))
  try simp only [Act.put, List.setIfInBounds_toArray, List.set_cons_zero, List.set_cons_succ]
  refine wpAnyH_take (i := 11) (v := ?_) (by simp only [List.getElem?_toArray, List.getElem?_cons_succ, List.getElem?_cons_zero]; rfl) (by kernel_rfl) (by kernel_rfl) (by kernel_rfl) (by exact fun _ _ _ h => h) (Or.inl ⟨by rfl, ?_⟩) (by assumption) ?_
  rotate_left
  · (intro _ hSw; (try dsimp only at hSw); go_simp; (try with_reducible rfl))
  try simp only [Act.put, List.setIfInBounds_toArray, List.set_cons_zero, List.set_cons_succ]
  refine wpAnyH_take (i := 12) (v := ?_) (by simp only [List.getElem?_toArray, List.getElem?_cons_succ, List.getElem?_cons_zero]; rfl) (by kernel_rfl) (by kernel_rfl) (by kernel_rfl) (by exact fun _ _ _ h => h) (Or.inl ⟨by rfl, ?_⟩) (by assumption) ?_
  rotate_left
  · (intro _ hSw; (try dsimp only at hSw); go_simp; (try with_reducible rfl))
  try simp only [Act.put, List.setIfInBounds_toArray, List.set_cons_zero, List.set_cons_succ]
  refine wpAnyH_ready (rs := [4, 13]) (by kernel_rfl) (by simp) ?_
  refine AllReadyH.cons (by simp only [List.getElem?_toArray, List.getElem?_cons_succ, List.getElem?_cons_zero]; rfl) (fun Kq hKq => ?_) (AllReadyH.cons (by simp only [List.getElem?_toArray, List.getElem?_cons_succ, List.getElem?_cons_zero]; rfl) (fun Kq hKq => ?_) AllReadyH.nil)
  · have hz2 := HC3.out zd HDW.out
    go_simp
    clear hz2
    refine hKq.out _ _ ?_ (fun hHeldN => ?_)
    · exact HSX.out _ (HDW.out).of_no
    clear hKq Kq hHeld
    have hHeld := hHeldN
    clear hHeldN
    refine wpAnyH_ready (rs := [13]) (by kernel_rfl) (by simp) ?_
    refine AllReadyH.cons (by simp only [List.getElem?_toArray, List.getElem?_cons_succ, List.getElem?_cons_zero]; rfl) (fun Kq hKq => ?_) AllReadyH.nil
    refine step_app okB rfl (.tmp 28) (.tmp 29) rfl none 0 0 [] rfl rfl (own_nil _) o0 bn c0 bs rfl HBS.out.1 HBS.out.2.1.nil ((HBS.out.2.1.keepsN HDW.out).row) HBS.out.2.2.1 HBS.out.2.2.2 ?_
    intro ob cb wb hob hab
    have HW : Hid (Own BE wb ob cb bs ∧ New w1 ob ∧ Keeps no w1 wb) := by
      have h5 := hab.new (w0 := w1) (new_none w1) HDW.out
      exact ⟨by simpa using hob, h5.1, h5.2⟩
    clear hob hab
    try rw [Nat.zero_add]
    refine hKq.out _ _ ?_ (fun hHeldN => ?_)
    · exact HSX.out _ (HW.out.2.2).of_no
    clear hKq Kq hHeld
    have hHeld := hHeldN
    clear hHeldN
    refine wpAnyH_take (i := 14) (v := ?_) (by simp only [List.getElem?_toArray, List.getElem?_cons_succ, List.getElem?_cons_zero]; rfl) (by kernel_rfl) (by kernel_rfl) (by kernel_rfl) (by exact fun _ _ _ h => h) (Or.inl ⟨by rfl, ?_⟩) (by assumption) ?_
    rotate_left
    · (intro _ hSw; (try dsimp only at hSw); go_simp; (try with_reducible rfl))
    try simp only [Act.put, List.setIfInBounds_toArray, List.set_cons_zero, List.set_cons_succ]
    refine wpAnyH_ready (rs := [15]) (by kernel_rfl) (by simp) ?_
    refine AllReadyH.cons (by simp only [List.getElem?_toArray, List.getElem?_cons_succ, List.getElem?_cons_zero]; rfl) (fun Kq hKq => ?_) AllReadyH.nil
    go_simp
    refine hKq.out _ _ ?_ (fun hHeldN => ?_)
    · exact HSX.out _ ((HW.out.2.2).alloc _).of_no
    clear hKq Kq hHeld
    have hHeld := hHeldN
    clear hHeldN
    refine wpAnyH_ready (rs := [16]) (by kernel_rfl) (by simp) ?_
    refine AllReadyH.cons (by simp only [List.getElem?_toArray, List.getElem?_cons_succ, List.getElem?_cons_zero]; rfl) (fun Kq hKq => ?_) AllReadyH.nil
    refine step_app okD rfl (.tmp 21) (.tmp 32) rfl o n c rs rfl HLN.out.1 (HLN.out.2.1.keepsN (HW.out.2.2.alloc _)) (some ⟨wb.heap.size, 0, none⟩) 1 1 [⟨M, a, b, ob, bn, cb⟩] rfl rfl (fun h => by cases h) (lit_row okD wb [⟨M, a, b, ob, bn, cb⟩] _ (0, 0) rfl) HLN.out.2.2.1 HLN.out.2.2.2 ?_
    intro o9 c9 w9 ho9 ha9
    have HE : Hid (w9.cell? ⟨p, 3, none⟩ = some (.slice o n c) ∧ w9.frozen? ⟨p, 3, none⟩ = false ∧ w9.cell? ⟨p, 2, none⟩ = some (.int .i64 (M : Nat)) ∧ (w9.setCell ⟨p, 3, none⟩ (.slice o9 (n + 1) c9)).cell? ⟨p, 2, none⟩ = some (.int .i64 (M : Nat)) ∧ NTo IsD w p F (.int .i64 (M : Nat)) (putS s a b bs) (.returned (.int .i64 (M : Nat))) (w9.setCell ⟨p, 3, none⟩ (.slice o9 (n + 1) c9))) := HFN.out ob bn cb o9 c9 wb w9 HW.out.1 HBS.out.1 HW.out.2.1 HW.out.2.2 ho9 ha9
    clear ho9 ha9
    have e1 := HE.out.1
    have e2 := HE.out.2.1
    have e3 := HE.out.2.2.2.1
    have HFE := HE.out.2.2.2.2
    have HFF : Hid (NTo IsD w p F (.int .i64 (M : Nat)) (putS s a b bs) (.returned (.int .i64 (M : Nat))) (w9.setCell ⟨p, 3, none⟩ (.slice o9 (n + 1) c9))) := HFE
    clear HFE
    refine hKq.out _ _ ?_ (fun hHeldN => ?_)
    · exact HE.out.2.2.1
    clear hKq Kq hHeld
    have hHeld := hHeldN
    clear hHeldN
    refine wpAnyH_take (i := 17) (v := ?_) (by simp only [List.getElem?_toArray, List.getElem?_cons_succ, List.getElem?_cons_zero]; rfl) (by kernel_rfl) (by kernel_rfl) (by kernel_rfl) (by exact fun _ _ _ h => h) (Or.inl ⟨by rfl, ?_⟩) (by assumption) ?_
    rotate_left
    · (intro _ hSw; (try dsimp only at hSw); go_simp; (try with_reducible rfl))
    try simp only [Act.put, List.setIfInBounds_toArray, List.set_cons_zero, List.set_cons_succ]
    refine wpAnyH_take (i := 18) (v := ?_) (by simp only [List.getElem?_toArray, List.getElem?_cons_succ, List.getElem?_cons_zero]; rfl) (by kernel_rfl) (by kernel_rfl) (by kernel_rfl) (by exact fun _ _ _ h => h) (Or.inl ⟨by rfl, ?_⟩) (by assumption) ?_
    rotate_left
    · (intro _ hSw; (try dsimp only at hSw); go_simp; (try with_reducible rfl))
    try simp only [Act.put, List.setIfInBounds_toArray, List.set_cons_zero, List.set_cons_succ]
    refine wpAnyH_ready (rs := [19]) (by kernel_rfl) (by simp) ?_
    refine AllReadyH.cons (by simp only [List.getElem?_toArray, List.getElem?_cons_succ, List.getElem?_cons_zero]; rfl) (fun Kq hKq => ?_) AllReadyH.nil
    go_simp
    refine hKq.out _ _ ?_ (fun hHeldN => ?_)
    · exact HE.out.2.2.2.1
    clear hKq Kq hHeld
    have hHeld := hHeldN
    clear hHeldN
    refine wpAnyH_done (by kernel_rfl) ?_ _
    clear hHeld HE
    go_wp2_with fail
    go_ret
    exact HFF.out
  · refine step_app okB rfl (.tmp 28) (.tmp 29) rfl none 0 0 [] rfl rfl (own_nil _) o0 bn c0 bs rfl HBS.out.1 HBS.out.2.1.nil ((HBS.out.2.1.keepsN HDW.out).row) HBS.out.2.2.1 HBS.out.2.2.2 ?_
    intro ob cb wb hob hab
    have HW : Hid (Own BE wb ob cb bs ∧ New w1 ob ∧ Keeps no w1 wb) := by
      have h5 := hab.new (w0 := w1) (new_none w1) HDW.out
      exact ⟨by simpa using hob, h5.1, h5.2⟩
    clear hob hab
    try rw [Nat.zero_add]
    refine hKq.out _ _ ?_ (fun hHeldN => ?_)
    · exact HSX.out _ (HW.out.2.2).of_no
    clear hKq Kq hHeld
    have hHeld := hHeldN
    clear hHeldN
    refine wpAnyH_take (i := 14) (v := ?_) (by simp only [List.getElem?_toArray, List.getElem?_cons_succ, List.getElem?_cons_zero]; rfl) (by kernel_rfl) (by kernel_rfl) (by kernel_rfl) (by exact fun _ _ _ h => h) (Or.inl ⟨by rfl, ?_⟩) (by assumption) ?_
    rotate_left
    · (intro _ hSw; (try dsimp only at hSw); go_simp; (try with_reducible rfl))
    try simp only [Act.put, List.setIfInBounds_toArray, List.set_cons_zero, List.set_cons_succ]
    refine wpAnyH_ready (rs := [4, 15]) (by kernel_rfl) (by simp) ?_
    refine AllReadyH.cons (by simp only [List.getElem?_toArray, List.getElem?_cons_succ, List.getElem?_cons_zero]; rfl) (fun Kq hKq => ?_) (AllReadyH.cons (by simp only [List.getElem?_toArray, List.getElem?_cons_succ, List.getElem?_cons_zero]; rfl) (fun Kq hKq => ?_) AllReadyH.nil)
    · have hz2 := HC3.out wb HW.out.2.2
      go_simp
      clear hz2
      refine hKq.out _ _ ?_ (fun hHeldN => ?_)
      · exact HSX.out _ (HW.out.2.2).of_no
      clear hKq Kq hHeld
      have hHeld := hHeldN
      clear hHeldN
      refine wpAnyH_ready (rs := [15]) (by kernel_rfl) (by simp) ?_
      refine AllReadyH.cons (by simp only [List.getElem?_toArray, List.getElem?_cons_succ, List.getElem?_cons_zero]; rfl) (fun Kq hKq => ?_) AllReadyH.nil
      go_simp
      refine hKq.out _ _ ?_ (fun hHeldN => ?_)
      · exact HSX.out _ ((HW.out.2.2).alloc _).of_no
      clear hKq Kq hHeld
      have hHeld := hHeldN
      clear hHeldN
      refine wpAnyH_ready (rs := [16]) (by kernel_rfl) (by simp) ?_
      refine AllReadyH.cons (by simp only [List.getElem?_toArray, List.getElem?_cons_succ, List.getElem?_cons_zero]; rfl) (fun Kq hKq => ?_) AllReadyH.nil
      refine step_app okD rfl (.tmp 21) (.tmp 32) rfl o n c rs rfl HLN.out.1 (HLN.out.2.1.keepsN (HW.out.2.2.alloc _)) (some ⟨wb.heap.size, 0, none⟩) 1 1 [⟨M, a, b, ob, bn, cb⟩] rfl rfl (fun h => by cases h) (lit_row okD wb [⟨M, a, b, ob, bn, cb⟩] _ (0, 0) rfl) HLN.out.2.2.1 HLN.out.2.2.2 ?_
      intro o9 c9 w9 ho9 ha9
      have HE : Hid (w9.cell? ⟨p, 3, none⟩ = some (.slice o n c) ∧ w9.frozen? ⟨p, 3, none⟩ = false ∧ w9.cell? ⟨p, 2, none⟩ = some (.int .i64 (M : Nat)) ∧ (w9.setCell ⟨p, 3, none⟩ (.slice o9 (n + 1) c9)).cell? ⟨p, 2, none⟩ = some (.int .i64 (M : Nat)) ∧ NTo IsD w p F (.int .i64 (M : Nat)) (putS s a b bs) (.returned (.int .i64 (M : Nat))) (w9.setCell ⟨p, 3, none⟩ (.slice o9 (n + 1) c9))) := HFN.out ob bn cb o9 c9 wb w9 HW.out.1 HBS.out.1 HW.out.2.1 HW.out.2.2 ho9 ha9
      clear ho9 ha9
      have e1 := HE.out.1
      have e2 := HE.out.2.1
      have e3 := HE.out.2.2.2.1
      have HFE := HE.out.2.2.2.2
      have HFF : Hid (NTo IsD w p F (.int .i64 (M : Nat)) (putS s a b bs) (.returned (.int .i64 (M : Nat))) (w9.setCell ⟨p, 3, none⟩ (.slice o9 (n + 1) c9))) := HFE
      clear HFE
      refine hKq.out _ _ ?_ (fun hHeldN => ?_)
      · exact HE.out.2.2.1
      clear hKq Kq hHeld
      have hHeld := hHeldN
      clear hHeldN
      refine wpAnyH_take (i := 17) (v := ?_) (by simp only [List.getElem?_toArray, List.getElem?_cons_succ, List.getElem?_cons_zero]; rfl) (by kernel_rfl) (by kernel_rfl) (by kernel_rfl) (by exact fun _ _ _ h => h) (Or.inl ⟨by rfl, ?_⟩) (by assumption) ?_
      rotate_left
      · (intro _ hSw; (try dsimp only at hSw); go_simp; (try with_reducible rfl))
      try simp only [Act.put, List.setIfInBounds_toArray, List.set_cons_zero, List.set_cons_succ]
      refine wpAnyH_take (i := 18) (v := ?_) (by simp only [List.getElem?_toArray, List.getElem?_cons_succ, List.getElem?_cons_zero]; rfl) (by kernel_rfl) (by kernel_rfl) (by kernel_rfl) (by exact fun _ _ _ h => h) (Or.inl ⟨by rfl, ?_⟩) (by assumption) ?_
      rotate_left
      · (intro _ hSw; (try dsimp only at hSw); go_simp; (try with_reducible rfl))
      try simp only [Act.put, List.setIfInBounds_toArray, List.set_cons_zero, List.set_cons_succ]
      refine wpAnyH_ready (rs := [19]) (by kernel_rfl) (by simp) ?_
      refine AllReadyH.cons (by simp only [List.getElem?_toArray, List.getElem?_cons_succ, List.getElem?_cons_zero]; rfl) (fun Kq hKq => ?_) AllReadyH.nil
      go_simp
      refine hKq.out _ _ ?_ (fun hHeldN => ?_)
      · exact HE.out.2.2.2.1
      clear hKq Kq hHeld
      have hHeld := hHeldN
      clear hHeldN
      refine wpAnyH_done (by kernel_rfl) ?_ _
      clear hHeld HE
      go_wp2_with fail
      go_ret
      exact HFF.out
    · go_simp
      refine hKq.out _ _ ?_ (fun hHeldN => ?_)
      · exact HSX.out _ ((HW.out.2.2).alloc _).of_no
      clear hKq Kq hHeld
      have hHeld := hHeldN
      clear hHeldN
      refine wpAnyH_ready (rs := [4]) (by kernel_rfl) (by simp) ?_
      refine AllReadyH.cons (by simp only [List.getElem?_toArray, List.getElem?_cons_succ, List.getElem?_cons_zero]; rfl) (fun Kq hKq => ?_) AllReadyH.nil
      have hz2 := HC3.out (wb.alloc (.cells #[.int .i64 (M : Nat), .int .i64 a, .int .i64 b, .slice ob bn cb] 72)) (HW.out.2.2.alloc _)
      go_simp
      clear hz2
      refine hKq.out _ _ ?_ (fun hHeldN => ?_)
      · exact HSX.out _ ((HW.out.2.2.alloc _)).of_no
      clear hKq Kq hHeld
      have hHeld := hHeldN
      clear hHeldN
      refine wpAnyH_ready (rs := [16]) (by kernel_rfl) (by simp) ?_
      refine AllReadyH.cons (by simp only [List.getElem?_toArray, List.getElem?_cons_succ, List.getElem?_cons_zero]; rfl) (fun Kq hKq => ?_) AllReadyH.nil
      refine step_app okD rfl (.tmp 21) (.tmp 32) rfl o n c rs rfl HLN.out.1 (HLN.out.2.1.keepsN (HW.out.2.2.alloc _)) (some ⟨wb.heap.size, 0, none⟩) 1 1 [⟨M, a, b, ob, bn, cb⟩] rfl rfl (fun h => by cases h) (lit_row okD wb [⟨M, a, b, ob, bn, cb⟩] _ (0, 0) rfl) HLN.out.2.2.1 HLN.out.2.2.2 ?_
      intro o9 c9 w9 ho9 ha9
      have HE : Hid (w9.cell? ⟨p, 3, none⟩ = some (.slice o n c) ∧ w9.frozen? ⟨p, 3, none⟩ = false ∧ w9.cell? ⟨p, 2, none⟩ = some (.int .i64 (M : Nat)) ∧ (w9.setCell ⟨p, 3, none⟩ (.slice o9 (n + 1) c9)).cell? ⟨p, 2, none⟩ = some (.int .i64 (M : Nat)) ∧ NTo IsD w p F (.int .i64 (M : Nat)) (putS s a b bs) (.returned (.int .i64 (M : Nat))) (w9.setCell ⟨p, 3, none⟩ (.slice o9 (n + 1) c9))) := HFN.out ob bn cb o9 c9 wb w9 HW.out.1 HBS.out.1 HW.out.2.1 HW.out.2.2 ho9 ha9
      clear ho9 ha9
      have e1 := HE.out.1
      have e2 := HE.out.2.1
      have e3 := HE.out.2.2.2.1
      have HFE := HE.out.2.2.2.2
      have HFF : Hid (NTo IsD w p F (.int .i64 (M : Nat)) (putS s a b bs) (.returned (.int .i64 (M : Nat))) (w9.setCell ⟨p, 3, none⟩ (.slice o9 (n + 1) c9))) := HFE
      clear HFE
      refine hKq.out _ _ ?_ (fun hHeldN => ?_)
      · exact HE.out.2.2.1
      clear hKq Kq hHeld
      have hHeld := hHeldN
      clear hHeldN
      refine wpAnyH_take (i := 17) (v := ?_) (by simp only [List.getElem?_toArray, List.getElem?_cons_succ, List.getElem?_cons_zero]; rfl) (by kernel_rfl) (by kernel_rfl) (by kernel_rfl) (by exact fun _ _ _ h => h) (Or.inl ⟨by rfl, ?_⟩) (by assumption) ?_
      rotate_left
      · (intro _ hSw; (try dsimp only at hSw); go_simp; (try with_reducible rfl))
      try simp only [Act.put, List.setIfInBounds_toArray, List.set_cons_zero, List.set_cons_succ]
      refine wpAnyH_take (i := 18) (v := ?_) (by simp only [List.getElem?_toArray, List.getElem?_cons_succ, List.getElem?_cons_zero]; rfl) (by kernel_rfl) (by kernel_rfl) (by kernel_rfl) (by exact fun _ _ _ h => h) (Or.inl ⟨by rfl, ?_⟩) (by assumption) ?_
      rotate_left
      · (intro _ hSw; (try dsimp only at hSw); go_simp; (try with_reducible rfl))
      try simp only [Act.put, List.setIfInBounds_toArray, List.set_cons_zero, List.set_cons_succ]
      refine wpAnyH_ready (rs := [19]) (by kernel_rfl) (by simp) ?_
      refine AllReadyH.cons (by simp only [List.getElem?_toArray, List.getElem?_cons_succ, List.getElem?_cons_zero]; rfl) (fun Kq hKq => ?_) AllReadyH.nil
      go_simp
      refine hKq.out _ _ ?_ (fun hHeldN => ?_)
      · exact HE.out.2.2.2.1
      clear hKq Kq hHeld
      have hHeld := hHeldN
      clear hHeldN
      refine wpAnyH_done (by kernel_rfl) ?_ _
      clear hHeld HE
      go_wp2_with fail
      go_ret
      exact HFF.out
end Go.Proofs.Ytdbejihkliafiaa
