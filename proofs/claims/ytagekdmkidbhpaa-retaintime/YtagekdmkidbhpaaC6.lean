import Derived.Test.YtagekdmkidbhpaaAd
import Derived.Deep.CutBlock
/- add. -/
namespace Go.Proofs.Ytagekdmkidbhpaa
open Go.RowKit Go.Maps
set_option linter.unusedVariables false
set_option linter.unusedSimpArgs false

theorem IsMp.upd {κ β : Type} [DecidableEq κ] {K : Kk κ} {V : β → Value} {w : World} {b : Nat} {L : List (κ × β)} (h : IsMp K V w b L) (hK : K.Law) {t e : TypeId} (ht : Try.prog.underlying t = some (.map K.t e)) (hl : L.length < maxLen) {k : κ} (hk : K.ok k) (y : β) :
    ∃ w1, (Instr.mapUpdate t (.map (some b)) (K.val k) (V y)).run Try.prog w = .ok () w1 ∧ IsMp K V w1 b (put k y L) ∧ Keeps (fun i => i = b) w w1 ∧ w1.heap.size = w.heap.size := by
  obtain ⟨w1, hr, h1, ht1⟩ := h.own.store hK.keyed ht hl (hK.key k hk) (d := .held (V y)) (ps := []) rfl
  rw [dat_put hK h.ko h.nk hk] at h1
  refine ⟨w1, hr, isMp_of (nk_put h.nk) (fun p hp => ?_) h1, keeps_of_grown ht1.grown, ?_⟩
  · rcases mem_put.1 hp with rfl | hp
    · exact hk
    · exact h.ko p hp.1
  · obtain ⟨_, _, _, _, _, rfl⟩ := ht1; simp [ChangeMaps.setBlock]
theorem updV {w : World} {b : Nat} {L : List (Mk × MV)} (h : IsMp KM vvV w b L) (hl : L.length < maxLen) {k : Tx} {i : Nat} (hk : KM.ok (k, i)) (y : MV) :
    ∃ w1, (Instr.mapUpdate 73 (.map (some b)) (.agg #[.string k, .int .u64 ((i : Nat) : Int)]) (.agg #[.string y.val, .slice y.o y.keys.length y.c, .int .i64 y.stamp])).run Try.prog w = .ok () w1 ∧ IsMp KM vvV w1 b (put (k, i) y L) ∧ Keeps (fun i => i = b) w w1 ∧ w1.heap.size = w.heap.size :=
  h.upd lawM (t := 73) (e := 90) Try.underlying73 hl (k := (k, i)) hk y
theorem updW {w : World} {b : Nat} {L : List (Nat × (Nat × List Tx))} (h : IsMp KI vvW w b L) (hl : L.length < maxLen) {i : Nat} (hk : i < 18446744073709551616) (y : Nat × List Tx) :
    ∃ w1, (Instr.mapUpdate 75 (.map (some b)) (.int .u64 ((i : Nat) : Int)) (.map (some y.1))).run Try.prog w = .ok () w1 ∧ IsMp KI vvW w1 b (put i y L) ∧ Keeps (fun i => i = b) w w1 ∧ w1.heap.size = w.heap.size :=
  h.upd lawI (t := 75) (e := 92) Try.underlying75 hl (k := i) hk y
theorem updL {w : World} {b : Nat} {L : List (Tx × Ln)} (h : IsMp KT vvL w b L) (hl : L.length < maxLen) {k : Tx} (hk : k.size ≤ maxLen) (y : Ln) :
    ∃ w1, (Instr.mapUpdate 74 (.map (some b)) (.string k) (.pointer (some ⟨y.p, 0, none⟩))).run Try.prog w = .ok () w1 ∧ IsMp KT vvL w1 b (put k y L) ∧ Keeps (fun i => i = b) w w1 ∧ w1.heap.size = w.heap.size :=
  h.upd lawT (t := 74) (e := 97) Try.underlying74 hl (k := k) hk y
theorem updS {w : World} {b : Nat} {l : List Tx} (h : IsMp KT vvU w b (setL l)) (hl : l.length < maxLen) {k : Tx} (hk : k.size ≤ maxLen) (hn : k ∉ l) :
    ∃ w1, (Instr.mapUpdate 92 (.map (some b)) (.string k) (.agg #[])).run Try.prog w = .ok () w1 ∧ IsMp KT vvU w1 b (setL (k :: l)) ∧ Keeps (fun i => i = b) w w1 ∧ w1.heap.size = w.heap.size := by
  obtain ⟨w1, h1, h2, h3⟩ := h.upd lawT (t := 92) (e := 113) Try.underlying92 (by simpa [setL] using hl) (k := k) hk ()
  refine ⟨w1, h1, ?_, h3⟩
  have e : put k () (setL l) = setL (k :: l) := by
    show (k, ()) :: del k (setL l) = (k, ()) :: setL l
    rw [del_none (fnd_setL.2 hn)]
  rw [← e]; exact h2
theorem eqMap (q : Option Nat) (w : World) : (binOp .eql 92 (.map q) (.map none)).run Try.prog w = .ok (.bool q.isNone) w := by
  cases q <;> kernel_rfl
theorem eqPtr (q : Option Addr) (w : World) : (binOp .eql 97 (.pointer q) (.pointer none)).run Try.prog w = .ok (.bool q.isNone) w := by
  cases q <;> go_simp
theorem lookWq {w : World} {b : Nat} {L : List (Nat × (Nat × List Tx))} (h : IsMp KI vvW w b L) {i : Nat} (hi : i < 18446744073709551616) : (Instr.lookup 75 (.map (some b)) (.int .u64 ((i : Nat) : Int)) false).run Try.prog w = .ok (.map ((fnd i L).map (·.1))) w := by
  cases hf : fnd i L with
  | none => exact lookW_none h hi hf
  | some x => exact lookW_some h hi hf
theorem lookLq {w : World} {b : Nat} {L : List (Tx × Ln)} (h : IsMp KT vvL w b L) {k : Tx} (hk : k.size ≤ maxLen) : (Instr.lookup 74 (.map (some b)) (.string k) false).run Try.prog w = .ok (.pointer ((fnd k L).map fun x => ⟨x.p, 0, none⟩)) w := by
  cases hf : fnd k L with
  | none => exact lookL_none h hk hf
  | some x => exact lookL_some h hk hf

/-- add has come here: the base W, the three cells, m and v in their boxes -/
structure AB (w : World) (p : Nat) (y : Lay) (k : Tx) (i : Nat) (v : MV) (n : Nat) (B : Nat) (W : World) : Prop where
  keep : Keeps no w W
  hB : B = w.heap.size
  sz : B + 2 ≤ W.heap.size
  bm : W.heap[B]? = some (.cells #[.string k, .int .u64 ((i : Nat) : Int)] 87 (0, 0))
  bv : W.heap[B + 1]? = some (.cells #[.string v.val, .slice v.o n v.c, .int .i64 v.stamp] 90 (0, 0))
/-- all that add loads -/
def ABc (p : Nat) (y : Lay) (k : Tx) (i : Nat) (v : MV) (n : Nat) (B : Nat) (X : World) : Prop :=
  X.cell? ⟨p, 0, none⟩ = some (.map (some y.vm)) ∧ X.cell? ⟨p, 1, none⟩ = some (.map (some y.lm)) ∧ X.cell? ⟨p, 2, none⟩ = some (.map (some y.wm)) ∧ X.cell? ⟨B, 0, none⟩ = some (.string k) ∧ X.cell? ⟨B, 1, none⟩ = some (.int .u64 ((i : Nat) : Int)) ∧ X.cell? ⟨B + 1, 0, none⟩ = some (.string v.val) ∧ X.cell? ⟨B + 1, 1, none⟩ = some (.slice v.o n v.c) ∧ X.cell? ⟨B + 1, 2, none⟩ = some (.int .i64 v.stamp)
theorem AB.cells {w : World} {p : Nat} {T : Nat → Option Ro} {s : St} {N : Nat} {y : Lay} {k : Tx} {i : Nat} {v : MV} {n B : Nat} {W : World} (h : AB w p y k i v n B W) (hs : SL w p T s N y) {X : World} (hX : Keeps (addS y k i) W X) : ABc p y k i v n B X := by
  have hnp : ¬ addS y k i p := addS_not hs hs.tp (by simp) (by simp) (by simp) (by simp) (by simp) (by simp)
  have hnb : ∀ b, w.heap.size ≤ b → ¬ addS y k i b := fun b hb hc => by
    have : T b ≠ none := by rcases addS_tag hs hc with e | e | e | e | e | e <;> rw [e] <;> simp
    have := hs.lt b this
    omega
  have hB := h.hB
  refine ⟨hX.cell (h.keep.cellN hs.c0) hnp, hX.cell (h.keep.cellN hs.c1) hnp, hX.cell (h.keep.cellN hs.c2) hnp, hX.cell (cell_of_blk h.bm 0) (hnb _ (by show _ ≤ B; omega)), hX.cell (cell_of_blk h.bm 1) (hnb _ (by show _ ≤ B; omega)), hX.cell (cell_of_blk h.bv 0) (hnb _ (by show _ ≤ B + 1; omega)), hX.cell (cell_of_blk h.bv 1) (hnb _ (by show _ ≤ B + 1; omega)), hX.cell (cell_of_blk h.bv 2) (hnb _ (by show _ ≤ B + 1; omega))⟩

/-- behind the first test: the write has its set -/
structure AM (w W : World) (y : Lay) (k : Tx) (i : Nat) (v : MV) (sb : Nat) (l : List Tx) (X : World) : Prop where
  kp : Keeps (addS y k i) W X
  mv : IsMp KM vvV X y.vm (put (k, i) v y.V)
  mw : IsMp KI vvW X y.wm (put i (sb, l) y.W)
  st : IsMp KT vvU X sb (setL l)
  wh : fnd i y.W = some (sb, l) ∨ (fnd i y.W = none ∧ l = [] ∧ W.heap.size ≤ sb)
  k2 : Keeps (fun b => b = y.vm ∨ b = y.wm) W X
/-- behind the second: the key has its line -/
structure AN (w W : World) (y : Lay) (k : Tx) (i : Nat) (v : MV) (sb : Nat) (l : List Tx) (x : Ln) (X : World) : Prop where
  kp : Keeps (addS y k i) W X
  mv : IsMp KM vvV X y.vm (put (k, i) v y.V)
  mw : IsMp KI vvW X y.wm (put i (sb, l) y.W)
  st : IsMp KT vvU X sb (setL (k :: l))
  ml : IsMp KT vvL X y.lm (put k x y.L)
  ln : LineAt X x
  wh : fnd i y.W = some (sb, l) ∨ (fnd i y.W = none ∧ l = [] ∧ W.heap.size ≤ sb)
  wl : fnd k y.L = some x ∨ (fnd k y.L = none ∧ x.fr = [] ∧ x.last = 0 ∧ x.o = none ∧ W.heap.size ≤ x.p)
set_option maxRecDepth 10000 in
set_option maxHeartbeats 2000000 in
theorem add_any (w : World) (p : Nat) (T : Nat → Option Ro) (s : St) (N : Nat) (y : Lay) (k : Tx) (i : Nat) (v : MV) (h : SL w p T s N y) (hm : KM.ok (k, i)) (hnew : s.V (k, i) = none) (hok : okKeys v.keys = true) (hin : k ∈ v.keys) (hsl : Sl TE w v.o v.c v.keys) (hky : ∀ b, inO v.o b → T b = some .ky) (hN : N ≤ 2000000000000) :
    Calls Try.prog 32 #[.pointer (some ⟨p, 0, none⟩), .agg #[.string k, .int .u64 ((i : Nat) : Int)], .agg #[.string v.val, .slice v.o v.keys.length v.c, .int .i64 v.stamp]] w fun e w' => e = .returned (.tuple #[]) ∧ ∃ T', IsS w' p T' (s.add (k, i) v.vr) (N + 1) ∧ (∀ b, b < w.heap.size → T' b = T b) ∧ Keeps (Mut T) w w' := by
  obtain ⟨n, hn⟩ : ∃ n, n = v.keys.length := ⟨_, rfl⟩
  rw [← hn]
  have hok' := okKeys_iff.1 hok
  obtain ⟨w0, hw0⟩ : ∃ w0, w0 = (w.alloc (.cells #[.string k, .int .u64 ((i : Nat) : Int)] 87)).alloc (.cells #[.string v.val, .slice v.o n v.c, .int .i64 v.stamp] 90) := ⟨_, rfl⟩
  have hk0 : Keeps no w w0 := by rw [hw0]; exact ((Keeps.refl no w).alloc _).alloc _
  have hb0 : w0.heap[w.heap.size]? = some (.cells #[.string k, .int .u64 ((i : Nat) : Int)] 87 (0, 0)) := by rw [hw0]; exact blk_alloc (blk_new w _) _
  have hb1 : w0.heap[w.heap.size + 1]? = some (.cells #[.string v.val, .slice v.o n v.c, .int .i64 v.stamp] 90 (0, 0)) := by
    rw [hw0]
    have := blk_new (w.alloc (.cells #[.string k, .int .u64 ((i : Nat) : Int)] 87)) (.cells #[.string v.val, .slice v.o n v.c, .int .i64 v.stamp] 90)
    rwa [show (w.alloc (.cells #[.string k, .int .u64 ((i : Nat) : Int)] 87)).heap.size = w.heap.size + 1 by simp] at this
  have HQ := search_any w0 v.o n v.c v.keys k hn (by omega) (hsl.keepsN hk0) hok'.2.2
  have H0 : Hid (Keeps no w w0 ∧ w0.heap[w.heap.size]? = some (.cells #[.string k, .int .u64 ((i : Nat) : Int)] 87 (0, 0)) ∧ w0.heap[w.heap.size + 1]? = some (.cells #[.string v.val, .slice v.o n v.c, .int .i64 v.stamp] 90 (0, 0)) ∧ w.heap.size + 2 ≤ w0.heap.size) := ⟨hk0, hb0, hb1, by rw [hw0]; simp⟩
  have HS : Hid (SL w p T s N y) := h
  have HV : Hid (Sl TE w v.o v.c v.keys ∧ n = v.keys.length ∧ k ∈ v.keys ∧ KM.ok (k, i) ∧ s.V (k, i) = none ∧ N ≤ 2000000000000 ∧ ∀ b, inO v.o b → T b = some .ky) := ⟨hsl, hn, hin, hm, hnew, hN, hky⟩
  have hn1024 : (n : Int) ≤ 1024 := by omega
  generalize inn v.keys k = IB at HQ
  rw [hw0] at HQ H0
  clear hw0 hk0 hb0 hb1 h hm hnew hok hin hsl hky hN hn hok'
  go_enter Try.func32, Try.ntmps32
  go_wp2_with fail
  refine HQ.mono ?_
  rintro e w1 ⟨I, rfl, HI, hk1⟩
  obtain ⟨hI, hIk⟩ := HI.out HV.out.2.2.1
  have hIn : (I : Int) < n := by have := HV.out.2.1; omega
  obtain ⟨kb, koff, hvo, kc⟩ := (HV.out.1.keepsN (H0.out.1.trans hk1)).at hI
  rw [hIk] at kc
  have hb1 := hk1.at H0.out.2.1 id
  have hv1 := hk1.at H0.out.2.2.1 id
  have a0 := cell_of_blk hb1 0
  have f0 := frozen_of_blk hb1 0
  have a1 := cell_of_blk hb1 1
  have v1 := cell_of_blk hv1 1
  rw [hvo] at v1
  have HA : Hid (AB w p y k i v n w.heap.size (w1.setCell ⟨w.heap.size, 0, none⟩ (.string k))) := by
    refine ⟨(H0.out.1.trans hk1).then (keeps_setB w1 w.heap.size 0 (.string k)) (fun b hb => .inr (by have : b = w.heap.size := hb; omega)), rfl, ?_, (blk_set hb1 0 (.string k)).trans rfl, blk_set_ne hv1 (by show w.heap.size + 1 ≠ w.heap.size; omega) _⟩
    have := H0.out.2.2.2
    have := hk1.size
    simp; omega
  clear HQ H0 hI HI hIk hk1 hb1 hv1
  go_upto_region 3 with fail
  generalize w1.setCell ⟨w.heap.size, 0, none⟩ (.string k) = W at HA ⊢
  obtain ⟨B, hB⟩ : ∃ B, B = w.heap.size := ⟨_, rfl⟩
  rw [← hB] at HA ⊢
  clear hB a0 a1 v1 f0 kc hvo hIn
  obtain ⟨W3, hr3, hv3, hk3, hs3⟩ := updV (HS.out.mv.keepsN HA.out.keep.drew) (Nat.lt_of_le_of_lt HS.out.nv (by have := HV.out.2.2.2.2.2.1; unfold maxLen; omega)) HV.out.2.2.2.1 v
  rw [← HV.out.2.1] at hr3
  have HK3 : Hid (Keeps (addS y k i) W W3) := (show _ from ((Keeps.refl _ W).drew).trans (hk3.mono fun b hb => .inl hb))
  have HST : Hid (∀ X, Keeps (addS y k i) W X → ABc p y k i v n B X) := fun X hX => HA.out.cells HS.out hX
  have HV3 : Hid (IsMp KM vvV W3 y.vm (put (k, i) v y.V) ∧ Keeps (fun b => b = y.vm) W W3) := ⟨hv3, (Keeps.refl _ W).drew.trans hk3⟩
  clear hv3 hk3 hs3
  unfold ABc at HST
  go_region_held3 (fun X => X.cell? ⟨p, 0, none⟩ = some (.map (some y.vm)) ∧ X.cell? ⟨p, 1, none⟩ = some (.map (some y.lm)) ∧ X.cell? ⟨p, 2, none⟩ = some (.map (some y.wm)) ∧ X.cell? ⟨B, 0, none⟩ = some (.string k) ∧ X.cell? ⟨B, 1, none⟩ = some (.int .u64 ((i : Nat) : Int)) ∧ X.cell? ⟨B + 1, 0, none⟩ = some (.string v.val) ∧ X.cell? ⟨B + 1, 1, none⟩ = some (.slice v.o n v.c) ∧ X.cell? ⟨B + 1, 2, none⟩ = some (.int .i64 v.stamp)) (first | exact HST.out _ HK3.out | exact HST.out _ ((Keeps.refl _ W).drew) | exact HST.out _ (Keeps.refl _ W)) (fail)
  rename _ ∧ _ => hh
  clear hh hr3
  go_upto_region 4 with fail
  have hvw : y.vm ≠ y.wm := tag_ne HS.out.tv HS.out.tw (by simp)
  have hvl : y.vm ≠ y.lm := tag_ne HS.out.tv HS.out.tl (by simp)
  have hwl : y.wm ≠ y.lm := tag_ne HS.out.tw HS.out.tl (by simp)
  have HNE : Hid (y.vm ≠ y.wm ∧ y.vm ≠ y.lm ∧ y.wm ≠ y.lm) := ⟨hvw, hvl, hwl⟩
  clear hvw hvl hwl
  have HW3 : Hid (IsMp KI vvW W3 y.wm y.W) := (HS.out.mw.keepsN HA.out.keep).keeps HV3.out.2 (fun e => HNE.out.1 e.symm)
  have hl4 : ∀ X, Keeps no W3 X → (Instr.lookup 75 (.map (some y.wm)) (.int .u64 ((i : Nat) : Int)) false).run Try.prog X = .ok (.map ((fnd i y.W).map (·.1))) X := fun X hX => lookWq (HW3.out.keepsN hX) HV.out.2.2.2.1.2
  obtain ⟨q, hq⟩ : ∃ q, q = (fnd i y.W).map (·.1) := ⟨_, rfl⟩
  rw [← hq] at hl4
  have HQ : Hid (q = (fnd i y.W).map (·.1)) := hq
  have HL4 : Hid (∀ X, Keeps no W3 X → (Instr.lookup 75 (.map (some y.wm)) (.int .u64 ((i : Nat) : Int)) false).run Try.prog X = .ok (.map q) X) := hl4
  have HS4 : Hid (∀ X, Keeps no W3 X → (X.cell? ⟨p, 0, none⟩ = some (.map (some y.vm)) ∧ X.cell? ⟨p, 1, none⟩ = some (.map (some y.lm)) ∧ X.cell? ⟨p, 2, none⟩ = some (.map (some y.wm)) ∧ X.cell? ⟨B, 0, none⟩ = some (.string k) ∧ X.cell? ⟨B, 1, none⟩ = some (.int .u64 ((i : Nat) : Int)) ∧ X.cell? ⟨B + 1, 0, none⟩ = some (.string v.val) ∧ X.cell? ⟨B + 1, 1, none⟩ = some (.slice v.o n v.c) ∧ X.cell? ⟨B + 1, 2, none⟩ = some (.int .i64 v.stamp)) ∧ (Instr.lookup 75 (.map (some y.wm)) (.int .u64 ((i : Nat) : Int)) false).run Try.prog X = .ok (.map q) X) := fun X hX => ⟨HST.out X (HK3.out.trans hX.of_no), HL4.out X hX⟩
  have hqe := fun w => eqMap q w
  clear hl4 hq HL4
  simp only [and_assoc] at HS4
  go_region_held3 (fun X => X.cell? ⟨p, 0, none⟩ = some (.map (some y.vm)) ∧ X.cell? ⟨p, 1, none⟩ = some (.map (some y.lm)) ∧ X.cell? ⟨p, 2, none⟩ = some (.map (some y.wm)) ∧ X.cell? ⟨B, 0, none⟩ = some (.string k) ∧ X.cell? ⟨B, 1, none⟩ = some (.int .u64 ((i : Nat) : Int)) ∧ X.cell? ⟨B + 1, 0, none⟩ = some (.string v.val) ∧ X.cell? ⟨B + 1, 1, none⟩ = some (.slice v.o n v.c) ∧ X.cell? ⟨B + 1, 2, none⟩ = some (.int .i64 v.stamp) ∧ (Instr.lookup 75 (.map (some y.wm)) (.int .u64 ((i : Nat) : Int)) false).run Try.prog X = .ok (.map q) X) (first | exact HS4.out _ ((Keeps.refl _ W3).drew) | exact HS4.out _ (Keeps.refl _ W3)) (fail)
  rename _ ∧ _ => hh
  clear hh HS4
  go_upto_if 35 with fail
  generalize hWd : W3.drew = W4
  have HW4 : Hid (Keeps no W3 W4) := (show _ by rw [← hWd]; exact (Keeps.refl _ W3).drew)
  clear hWd
  go_cut [] from 36 to 85 (fun X => ∃ (sb : Nat) (l : List Tx), Hid (AM w W y k i v sb l X))
  case first =>
    have HV4 : Hid (IsMp KM vvV W4 y.vm (put (k, i) v y.V) ∧ IsMp KI vvW W4 y.wm y.W ∧ Keeps (fun b => b = y.vm) W W4) := ⟨HV3.out.1.keepsN HW4.out, HW3.out.keepsN HW4.out, HV3.out.2.trans HW4.out.of_no⟩
    cases hf : fnd i y.W with
    | some x =>
      have hqs : q = some x.1 := by rw [HQ.out, hf]; rfl
      clear HQ
      subst hqs
      have HX : Hid (fnd i y.W = some x) := hf
      clear hf
      go_wp2_with fail
      go_meet
      case rel =>
        have hf := HX.out
        have htx := HS.out.tst _ (fnd_mem hf)
        refine ⟨x.1, x.2, ⟨HV4.out.2.2.mono (fun b hb => .inl hb), HV4.out.1, HV4.out.2.1.same lawI hf rfl, ((HS.out.set _ (fnd_mem hf)).keepsN HA.out.keep).keeps HV4.out.2.2 (fun e => tag_ne htx HS.out.tv (by simp) e),   .inl hf, HV4.out.2.2.mono (fun b hb => .inl hb)⟩⟩
    | none =>
      have hqs : q = none := by rw [HQ.out, hf]; rfl
      clear HQ
      subst hqs
      have HX : Hid (fnd i y.W = none) := hf
      clear hf
      have hmm := @run_makeMap Try.prog
      obtain ⟨sb, hsb⟩ : ∃ sb, sb = W4.heap.size := ⟨_, rfl⟩
      have hKa : Keeps no W4 (W4.alloc (.map #[] 0)).drew := ((Keeps.refl no W4).alloc _).drew
      have hset : IsMp KT vvU (W4.alloc (.map #[] 0)).drew sb (setL []) := by rw [hsb]; exact (isMp_made W4).keepsN (Keeps.refl no _).drew
      obtain ⟨W5, hr5, hw5, hk5, hs5⟩ := updW (HV4.out.2.1.keepsN hKa) (Nat.lt_of_le_of_lt HS.out.nw (by have := HV.out.2.2.2.2.2.1; unfold maxLen; omega)) HV.out.2.2.2.1.2 (sb, [])
      simp only at hr5
      rw [hsb] at hr5
      have hK5 : Keeps (addS y k i) W W5 := (HV4.out.2.2.mono (fun b hb => .inl hb)).trans (hKa.of_no.trans (hk5.mono fun b hb => .inr (.inl hb)))
      have HK5 : Hid (Keeps (addS y k i) W W5) := hK5
      have hne : sb ≠ y.wm := fun e => by have := HV4.out.2.1.lt; omega
      have HR5 : Hid (AM w W y k i v sb [] W5) :=
        ⟨hK5, (HV4.out.1.keepsN hKa).keeps hk5 HNE.out.1, hw5, hset.keeps hk5 hne, .inr ⟨HX.out, rfl, by rw [hsb]; exact HV4.out.2.2.size⟩, (HV4.out.2.2.mono (fun b hb => .inl hb)).trans (hKa.of_no.trans (hk5.mono fun b hb => .inr hb))⟩
      have HKa : Hid (Keeps (addS y k i) W W4 ∧ Keeps (addS y k i) W (W4.alloc (.map #[] 0)).drew ∧ Keeps (addS y k i) W (W4.alloc (.map #[] 0)) ∧ Keeps (addS y k i) W W4.drew) := ⟨HV4.out.2.2.mono (fun b hb => .inl hb), (HV4.out.2.2.mono (fun b hb => .inl hb)).trans hKa.of_no, ((HV4.out.2.2.mono (fun b hb => .inl hb)).alloc _), (HV4.out.2.2.mono (fun b hb => .inl hb)).drew⟩
      clear hset hw5 hk5 hs5 hK5 hne hKa hsb
      go_upto_region 5 with fail
      go_region_held3 (fun X => X.cell? ⟨p, 0, none⟩ = some (.map (some y.vm)) ∧ X.cell? ⟨p, 1, none⟩ = some (.map (some y.lm)) ∧ X.cell? ⟨p, 2, none⟩ = some (.map (some y.wm)) ∧ X.cell? ⟨B, 0, none⟩ = some (.string k) ∧ X.cell? ⟨B, 1, none⟩ = some (.int .u64 ((i : Nat) : Int)) ∧ X.cell? ⟨B + 1, 0, none⟩ = some (.string v.val) ∧ X.cell? ⟨B + 1, 1, none⟩ = some (.slice v.o n v.c) ∧ X.cell? ⟨B + 1, 2, none⟩ = some (.int .i64 v.stamp)) (first | exact HST.out _ HK5.out | exact HST.out _ HKa.out.2.1 | exact HST.out _ HKa.out.2.2.2 | exact HST.out _ HKa.out.1 | exact HST.out _ HKa.out.2.2.1) (fail)
      all_goals (rename _ ∧ _ => hh; clear hh)
      all_goals go_wp2_with fail
      all_goals go_meet
      all_goals exact ⟨sb, [], HR5⟩
  case rest =>
  obtain ⟨sb, l, HM⟩ := hcut
  rename World => X4
  clear HW4 HV3 HW3 HK3 HQ hqe W4 W3
  have hknl : k ∉ l := by
    rcases HM.out.wh with hf | ⟨_, rfl, _⟩
    · intro hc
      have := (HS.out.sw i k).2 ⟨_, hf, hc⟩
      exact this HV.out.2.2.2.2.1
    · simp
  have hll : l.length < maxLen := by
    rcases HM.out.wh with hf | ⟨_, rfl, _⟩
    · exact Nat.lt_of_le_of_lt (HS.out.ns _ (fnd_mem hf)) (by have := HV.out.2.2.2.2.2.1; unfold maxLen; omega)
    · unfold maxLen; simp
  obtain ⟨X5, hr5, hs5, hk5, _⟩ := updS (HM.out.st.keepsN (Keeps.refl no X4).drew) hll HV.out.2.2.2.1.1 hknl
  have HSB : Hid (sb ≠ y.wm ∧ sb ≠ y.vm ∧ sb ≠ y.lm ∧ (∀ X, Keeps (fun b => b = sb) X4 X → Keeps (addS y k i) W X)) := by
    have hlt : ∀ b, T b ≠ none → b < W.heap.size := fun b hb => Nat.lt_of_lt_of_le (HS.out.lt b hb) HA.out.keep.size
    refine ⟨?_, ?_, ?_, fun X hX => HM.out.kp.then hX (fun b hb => ?_)⟩
    · rcases HM.out.wh with hf | ⟨_, _, hs⟩
      · exact tag_ne (HS.out.tst _ (fnd_mem hf)) HS.out.tw (by simp)
      · have := hlt y.wm (by rw [HS.out.tw]; simp); omega
    · rcases HM.out.wh with hf | ⟨_, _, hs⟩
      · exact tag_ne (HS.out.tst _ (fnd_mem hf)) HS.out.tv (by simp)
      · have := hlt y.vm (by rw [HS.out.tv]; simp); omega
    · rcases HM.out.wh with hf | ⟨_, _, hs⟩
      · exact tag_ne (HS.out.tst _ (fnd_mem hf)) HS.out.tl (by simp)
      · have := hlt y.lm (by rw [HS.out.tl]; simp); omega
    · have e : b = sb := hb
      rcases HM.out.wh with hf | ⟨_, _, hs⟩
      · exact .inl (.inr (.inr (.inr (.inl ⟨_, hf, e⟩))))
      · exact .inr (by omega)
  have HK5 : Hid (Keeps (fun b => b = sb) X4 X5 ∧ IsMp KT vvU X5 sb (setL (k :: l))) := ⟨(Keeps.refl _ X4).drew.trans hk5, hs5⟩
  have HS6 : Hid (∀ X, Keeps (fun b => b = sb) X4 X → (X.cell? ⟨p, 0, none⟩ = some (.map (some y.vm)) ∧ X.cell? ⟨p, 1, none⟩ = some (.map (some y.lm)) ∧ X.cell? ⟨p, 2, none⟩ = some (.map (some y.wm)) ∧ X.cell? ⟨B, 0, none⟩ = some (.string k) ∧ X.cell? ⟨B, 1, none⟩ = some (.int .u64 ((i : Nat) : Int)) ∧ X.cell? ⟨B + 1, 0, none⟩ = some (.string v.val) ∧ X.cell? ⟨B + 1, 1, none⟩ = some (.slice v.o n v.c) ∧ X.cell? ⟨B + 1, 2, none⟩ = some (.int .i64 v.stamp)) ∧ (Instr.lookup 75 (.map (some y.wm)) (.int .u64 ((i : Nat) : Int)) false).run Try.prog X = .ok (.map (some sb)) X) := fun X hX => ⟨HST.out X (HSB.out.2.2.2 X hX), lookW_some (HM.out.mw.keeps hX (fun e => HSB.out.1 e.symm)) HV.out.2.2.2.1.2 (by rw [fnd_put, if_pos rfl])⟩
  simp only [and_assoc] at HS6
  clear hs5 hk5 hll hknl
  go_upto_region 6 with fail
  go_region_held3 (fun X => X.cell? ⟨p, 0, none⟩ = some (.map (some y.vm)) ∧ X.cell? ⟨p, 1, none⟩ = some (.map (some y.lm)) ∧ X.cell? ⟨p, 2, none⟩ = some (.map (some y.wm)) ∧ X.cell? ⟨B, 0, none⟩ = some (.string k) ∧ X.cell? ⟨B, 1, none⟩ = some (.int .u64 ((i : Nat) : Int)) ∧ X.cell? ⟨B + 1, 0, none⟩ = some (.string v.val) ∧ X.cell? ⟨B + 1, 1, none⟩ = some (.slice v.o n v.c) ∧ X.cell? ⟨B + 1, 2, none⟩ = some (.int .i64 v.stamp) ∧ (Instr.lookup 75 (.map (some y.wm)) (.int .u64 ((i : Nat) : Int)) false).run Try.prog X = .ok (.map (some sb)) X) (first | exact HS6.out _ HK5.out.1 | exact HS6.out _ ((Keeps.refl _ X4).drew) | exact HS6.out _ (Keeps.refl _ X4)) (fail)
  rename _ ∧ _ => hh
  clear hh hr5 HS6
  -- the line
  have HL5 : Hid (IsMp KT vvL X5 y.lm y.L) := (show _ from ((HS.out.ml.keepsN HA.out.keep).keeps HM.out.k2 (fun e => by rcases e with e | e; exact HNE.out.2.1 e.symm; exact HNE.out.2.2 e.symm)).keeps HK5.out.1 (fun e => HSB.out.2.2.1 e.symm))
  obtain ⟨q7, hq7⟩ : ∃ q7 : Option Addr, q7 = (fnd k y.L).map (fun x => ⟨x.p, 0, none⟩) := ⟨_, rfl⟩
  have HQ7 : Hid (q7 = (fnd k y.L).map (fun x => (⟨x.p, 0, none⟩ : Addr))) := hq7
  have HS7 : Hid (∀ X, Keeps no X5 X → (X.cell? ⟨p, 0, none⟩ = some (.map (some y.vm)) ∧ X.cell? ⟨p, 1, none⟩ = some (.map (some y.lm)) ∧ X.cell? ⟨p, 2, none⟩ = some (.map (some y.wm)) ∧ X.cell? ⟨B, 0, none⟩ = some (.string k) ∧ X.cell? ⟨B, 1, none⟩ = some (.int .u64 ((i : Nat) : Int)) ∧ X.cell? ⟨B + 1, 0, none⟩ = some (.string v.val) ∧ X.cell? ⟨B + 1, 1, none⟩ = some (.slice v.o n v.c) ∧ X.cell? ⟨B + 1, 2, none⟩ = some (.int .i64 v.stamp)) ∧ (Instr.lookup 74 (.map (some y.lm)) (.string k) false).run Try.prog X = .ok (.pointer q7) X) := fun X hX => ⟨HST.out X (HSB.out.2.2.2 X (HK5.out.1.trans hX.of_no)), by rw [hq7]; exact lookLq (HL5.out.keepsN hX) HV.out.2.2.2.1.1⟩
  simp only [and_assoc] at HS7
  have hqe7 := fun w => eqPtr q7 w
  clear hq7
  go_upto_region 7 with fail
  go_region_held3 (fun X => X.cell? ⟨p, 0, none⟩ = some (.map (some y.vm)) ∧ X.cell? ⟨p, 1, none⟩ = some (.map (some y.lm)) ∧ X.cell? ⟨p, 2, none⟩ = some (.map (some y.wm)) ∧ X.cell? ⟨B, 0, none⟩ = some (.string k) ∧ X.cell? ⟨B, 1, none⟩ = some (.int .u64 ((i : Nat) : Int)) ∧ X.cell? ⟨B + 1, 0, none⟩ = some (.string v.val) ∧ X.cell? ⟨B + 1, 1, none⟩ = some (.slice v.o n v.c) ∧ X.cell? ⟨B + 1, 2, none⟩ = some (.int .i64 v.stamp) ∧ (Instr.lookup 74 (.map (some y.lm)) (.string k) false).run Try.prog X = .ok (.pointer q7) X) (first | exact HS7.out _ ((Keeps.refl _ X5).drew) | exact HS7.out _ (Keeps.refl _ X5)) (fail)
  rename _ ∧ _ => hh
  clear hh HS7
  go_upto_if 60 with fail
  generalize hXd : X5.drew = X6
  have HX6 : Hid (Keeps no X5 X6) := (show _ by rw [← hXd]; exact (Keeps.refl _ X5).drew)
  clear hXd
  go_cut [] from 61 to 85 (fun X => ∃ (x : Ln), Hid (AN w W y k i v sb l x X))
  case first =>
    have hK6 : Keeps (addS y k i) W X6 := HSB.out.2.2.2 X6 (HK5.out.1.trans HX6.out.of_no)
    have hk46 : Keeps (fun b => b = sb) X4 X6 := HK5.out.1.trans HX6.out.of_no
    have HV6 : Hid (Keeps (addS y k i) W X6 ∧ IsMp KM vvV X6 y.vm (put (k, i) v y.V) ∧ IsMp KI vvW X6 y.wm (put i (sb, l) y.W) ∧ IsMp KT vvU X6 sb (setL (k :: l)) ∧ IsMp KT vvL X6 y.lm y.L ∧ Keeps (fun b => b = sb) X4 X6) :=
      ⟨hK6, HM.out.mv.keeps hk46 (fun e => HSB.out.2.1 e.symm), HM.out.mw.keeps hk46 (fun e => HSB.out.1 e.symm), HK5.out.2.keepsN HX6.out, HL5.out.keepsN HX6.out, hk46⟩
    clear hK6 hk46
    cases hf : fnd k y.L with
    | some x =>
      have hqs : q7 = some ⟨x.p, 0, none⟩ := by rw [HQ7.out, hf]; rfl
      clear HQ7
      subst hqs
      have HX : Hid (fnd k y.L = some x) := hf
      clear hf
      go_wp2_with fail
      go_meet
      case rel =>
        have hf := HX.out
        have htx := HS.out.tln _ (fnd_mem hf)
        have hnsb : ∀ b r, T b = some r → r ≠ .st i → b ≠ sb := fun b r hb hr e => by
          rcases HM.out.wh with hq | ⟨_, _, hs⟩
          · exact tag_ne hb (HS.out.tst _ (fnd_mem hq)) hr e
          · have := HS.out.lt b (by rw [hb]; simp); have := HA.out.keep.size; omega
        have hln := (((HS.out.line _ (fnd_mem hf)).keeps HA.out.keep id (fun _ _ => id)).keeps HM.out.k2 (fun e => by rcases e with e | e; exact tag_ne htx.1 HS.out.tv (by simp) e; exact tag_ne htx.1 HS.out.tw (by simp) e) (fun b hb e => by rcases e with e | e; exact tag_ne (htx.2 b hb) HS.out.tv (by simp) e; exact tag_ne (htx.2 b hb) HS.out.tw (by simp) e)).keeps HV6.out.2.2.2.2.2 (hnsb _ _ htx.1 (by simp)) (fun b hb => hnsb _ _ (htx.2 b hb) (by simp))
        exact ⟨x, ⟨HV6.out.1, HV6.out.2.1, HV6.out.2.2.1, HV6.out.2.2.2.1, HV6.out.2.2.2.2.1.same lawT hf rfl, hln, HM.out.wh, .inl hf⟩⟩
    | none =>
      have hqs : q7 = none := by rw [HQ7.out, hf]; rfl
      clear HQ7
      subst hqs
      have HX : Hid (fnd k y.L = none) := hf
      clear hf
      obtain ⟨lp, hlp⟩ : ∃ lp, lp = X6.heap.size := ⟨_, rfl⟩
      have hKa : Keeps no X6 (X6.alloc (.cells #[.int .u64 0, .slice none 0 0] 96)).drew := ((Keeps.refl no X6).alloc _).drew
      have hlb : (X6.alloc (.cells #[.int .u64 0, .slice none 0 0] 96)).drew.heap[lp]? = some (.cells #[.int .u64 0, .slice none 0 0] 96 (0, 0)) := by rw [hlp]; exact blk_new X6 _
      obtain ⟨X7, hr7, hm7, hk7, hs7⟩ := updL (HV6.out.2.2.2.2.1.keepsN hKa) (Nat.lt_of_le_of_lt HS.out.nl (by have := HV.out.2.2.2.2.2.1; unfold maxLen; omega)) HV.out.2.2.2.1.1 ⟨lp, 0, none, 0, []⟩
      simp only at hr7
      have hK7 : Keeps (addS y k i) W X7 := HV6.out.1.trans (hKa.of_no.trans (hk7.mono fun b hb => .inr (.inr (.inl hb))))
      have HK7 : Hid (Keeps (addS y k i) W X7) := hK7
      have HKa : Hid (Keeps (addS y k i) W X6 ∧ Keeps (addS y k i) W (X6.alloc (.cells #[.int .u64 0, .slice none 0 0] 96)).drew ∧ Keeps (addS y k i) W (X6.alloc (.cells #[.int .u64 0, .slice none 0 0] 96)) ∧ Keeps (addS y k i) W X6.drew) := ⟨HV6.out.1, HV6.out.1.trans hKa.of_no, HV6.out.1.alloc _, HV6.out.1.drew⟩
      have hnlm : lp ≠ y.lm := fun e => by have := HV6.out.2.2.2.2.1.lt; omega
      have HR7 : Hid (AN w W y k i v sb l ⟨lp, 0, none, 0, []⟩ X7) :=
        ⟨hK7, (HV6.out.2.1.keepsN hKa).keeps hk7 HNE.out.2.1, (HV6.out.2.2.1.keepsN hKa).keeps hk7 HNE.out.2.2, (HV6.out.2.2.2.1.keepsN hKa).keeps hk7 HSB.out.2.2.1, hm7, ⟨hk7.at hlb hnlm, own_nil _⟩, HM.out.wh, .inr ⟨HX.out, rfl, rfl, rfl, by rw [hlp]; exact HV6.out.1.size⟩⟩
      rw [hlp] at hr7
      clear hm7 hk7 hs7 hK7 hnlm hKa hlb hlp
      go_upto_region 8 with fail
      go_region_held3 (fun X => X.cell? ⟨p, 0, none⟩ = some (.map (some y.vm)) ∧ X.cell? ⟨p, 1, none⟩ = some (.map (some y.lm)) ∧ X.cell? ⟨p, 2, none⟩ = some (.map (some y.wm)) ∧ X.cell? ⟨B, 0, none⟩ = some (.string k) ∧ X.cell? ⟨B, 1, none⟩ = some (.int .u64 ((i : Nat) : Int)) ∧ X.cell? ⟨B + 1, 0, none⟩ = some (.string v.val) ∧ X.cell? ⟨B + 1, 1, none⟩ = some (.slice v.o n v.c) ∧ X.cell? ⟨B + 1, 2, none⟩ = some (.int .i64 v.stamp)) (first | exact HST.out _ HK7.out | exact HST.out _ HKa.out.2.1 | exact HST.out _ HKa.out.2.2.2 | exact HST.out _ HKa.out.1 | exact HST.out _ HKa.out.2.2.1) (fail)
      all_goals (rename _ ∧ _ => hh; clear hh)
      all_goals go_wp2_with fail
      all_goals go_meet
      all_goals exact ⟨_, HR7⟩
  case rest =>
  obtain ⟨x, HZ⟩ := hcut
  rename World => X7
  clear HX6 HL5 HQ7 hqe7 HK5 HSB HM
  have HSW : Hid (SL W p T s N y) := HS.out.keeps HA.out.keep (fun _ _ => id)
  have hvs : X7.cell? ⟨B + 1, 2, none⟩ = some (.int .i64 v.stamp) := (HST.out X7 HZ.out.kp).2.2.2.2.2.2.2
  have HFIN : Hid (∀ (X : World) (x' : Ln), x'.p = x.p → x'.last = x.last → (∀ b, inO x'.o b → inO x.o b ∨ X7.heap.size ≤ b) → Hp.Heap x'.fr → x'.fr.Perm (if v.stamp = -1 then x.fr ++ [i] else x.fr) → LineAt X x' → Keeps (fun b => b = x.p ∨ inO x.o b) X7 X →
      ∃ T', IsS X p T' (s.add (k, i) v.vr) (N + 1) ∧ (∀ b, b < w.heap.size → T' b = T b) ∧ Keeps (Mut T) w X) := by
    intro X x' h1 h2 h3 h4 h5 h6 h7
    have hw7 := HZ.out.kp.size
    have hxS : ∀ b, (b = x.p ∨ inO x.o b) → addS y k i b ∨ W.heap.size ≤ b := fun b hb => by
      rcases HZ.out.wl with hf | ⟨hf, _, _, ho, hs⟩
      · exact .inl (.inr (.inr (.inr (.inr ⟨x, hf, hb⟩))))
      · rcases hb with e | ⟨z, e, _⟩
        · exact .inr (by omega)
        · rw [ho] at e; cases e
    have hkX : Keeps (addS y k i) W X := HZ.out.kp.then h7 hxS
    have hnm : ∀ b es cl, X7.heap[b]? = some (.map es cl) → ¬ (b = x.p ∨ inO x.o b) := fun b es cl hb hc => by
      rcases hc with e | e
      · have := HZ.out.ln.blk; rw [← e, hb] at this; cases this
      · obtain ⟨cur, hcc⟩ := HZ.out.ln.own.tag b e; rw [hb] at hcc; cases hcc
    obtain ⟨e1, c1, o1⟩ := HZ.out.mv.obj
    obtain ⟨e2, c2, o2⟩ := HZ.out.mw.obj
    obtain ⟨e3, c3, o3⟩ := HZ.out.st.obj
    obtain ⟨e4, c4, o4⟩ := HZ.out.ml.obj
    have hlp : fnd k (put k x y.L) = some x := by rw [fnd_put, if_pos rfl]
    have hput : ∀ z, put k z (put k x y.L) = put k z y.L := fun z => by
      simp only [put, del, List.filter_cons]
      simp
    have ml' := (HZ.out.ml.keeps h7 (hnm _ _ _ o4)).same lawT hlp (x' := x') (show vvL x' = vvL x by unfold vvL; rw [h1])
    rw [hput] at ml'
    have hiput : ∀ z, put i z (put i (sb, l) y.W) = put i z y.W := fun z => by
      simp only [put, del, List.filter_cons]
      simp
    have mw' := (HZ.out.mw.keeps h7 (hnm _ _ _ o2)).same lawI (x := (sb, l)) (x' := (sb, k :: l)) (by rw [fnd_put, if_pos rfl]) rfl
    rw [hiput] at mw'
    have hkW : ∀ b, inO v.o b → ¬ addS y k i b := fun b hb => addS_not HSW.out (HV.out.2.2.2.2.2.2 b hb) (by simp) (by simp) (by simp) (by simp) (by simp) (by simp)
    obtain ⟨T', hT, hTo⟩ := HSW.out.add (w' := X) HV.out.2.2.2.2.1 HZ.out.wh (x := x) (x' := x') (by
        rcases HZ.out.wl with hf | ⟨hf, a, b, _⟩
        · exact .inl hf
        · exact .inr ⟨hf, a, b⟩) (fun hf => by
        rcases HZ.out.wl with hf' | ⟨_, _, _, ho, hs⟩
        · rw [hf] at hf'; cases hf'
        · refine ⟨by omega, fun b hb => ?_⟩
          rcases h3 b hb with ⟨z, e, _⟩ | h
          · rw [ho] at e; cases e
          · omega) h1 h2 (fun b hb => by rcases h3 b hb with h | h; exact .inl h; exact .inr (by omega)) h4 h5 (HZ.out.mv.keeps h7 (hnm _ _ _ o1)) mw' (HZ.out.st.keeps h7 (hnm _ _ _ o3)) ml' h6 ⟨(HV.out.1.keepsN HA.out.keep).keeps hkX hkW, HV.out.2.2.2.2.2.2⟩ hkX
    refine ⟨T', ⟨_, hT⟩, fun b hb => hTo b (Nat.lt_of_lt_of_le hb HA.out.keep.size), (HA.out.keep.of_no).trans (hkX.mono fun b hb => ?_)⟩
    rcases addS_tag HSW.out hb with e | e | e | e | e | e <;> exact ⟨by rw [e]; simp, by rw [e]; simp⟩
  have hxf := HS.out.line_facts (k := k) (x := x) (by
    rcases HZ.out.wl with hf | ⟨hf, a, b, _⟩
    · exact .inl hf
    · exact .inr ⟨hf, a, b⟩)
  by_cases es : v.stamp = -1
  · have hes : (v.stamp == -1) = true := by simp [es]
    have HE : Hid (v.stamp = -1) := es
    have HP := fun X (hX : LineAt X x) => hpush_any X x i hX hxf.1 (by have := hxf.2.2.2.2.2; have := HV.out.2.2.2.2.2.1; omega)
    have HPU : Hid (∀ X, LineAt X x → Calls Try.prog 47 #[.iface 115 (.pointer (some ⟨x.p, 1, none⟩)), .iface 35 (.int .u64 ((i : Nat) : Int))] X fun e w' => e = .returned (.tuple #[]) ∧ ∃ o' c' l, LineAt w' (x.with o' c' l) ∧ l.Perm (x.fr ++ [i]) ∧ Hp.Heap l ∧ (∀ b, inO o' b → inO x.o b ∨ X.heap.size ≤ b) ∧ Keeps (fun b => b = x.p ∨ inO x.o b) X w') := HP
    have HS9 : Hid (∀ X, Keeps (fun b => b = x.p ∨ inO x.o b) X7 X → (X.cell? ⟨p, 0, none⟩ = some (.map (some y.vm)) ∧ X.cell? ⟨p, 1, none⟩ = some (.map (some y.lm)) ∧ X.cell? ⟨p, 2, none⟩ = some (.map (some y.wm)) ∧ X.cell? ⟨B, 0, none⟩ = some (.string k) ∧ X.cell? ⟨B, 1, none⟩ = some (.int .u64 ((i : Nat) : Int)) ∧ X.cell? ⟨B + 1, 0, none⟩ = some (.string v.val) ∧ X.cell? ⟨B + 1, 1, none⟩ = some (.slice v.o n v.c) ∧ X.cell? ⟨B + 1, 2, none⟩ = some (.int .i64 v.stamp)) ∧ (Instr.lookup 74 (.map (some y.lm)) (.string k) false).run Try.prog X = .ok (.pointer (some ⟨x.p, 0, none⟩)) X) := by
      intro X hX
      have hkX : Keeps (addS y k i) W X := HZ.out.kp.then hX (fun b hb => by
        rcases HZ.out.wl with hf | ⟨hf, _, _, ho, hs⟩
        · exact .inl (.inr (.inr (.inr (.inr ⟨x, hf, hb⟩))))
        · rcases hb with e | ⟨z, e, _⟩
          · exact .inr (by omega)
          · rw [ho] at e; cases e)
      refine ⟨HST.out X hkX, lookL_some (HZ.out.ml.keeps hX ?_) HV.out.2.2.2.1.1 (by rw [fnd_put, if_pos rfl])⟩
      obtain ⟨e4, c4, o4⟩ := HZ.out.ml.obj
      rintro (e | e)
      · have := HZ.out.ln.blk; rw [← e, o4] at this; cases this
      · obtain ⟨cur, hcc⟩ := HZ.out.ln.own.tag _ e; rw [o4] at hcc; cases hcc
    simp only [and_assoc] at HS9
    clear es hxf HP
    go_upto_region 10 with fail
    go_region_held3 (fun X => X.cell? ⟨p, 0, none⟩ = some (.map (some y.vm)) ∧ X.cell? ⟨p, 1, none⟩ = some (.map (some y.lm)) ∧ X.cell? ⟨p, 2, none⟩ = some (.map (some y.wm)) ∧ X.cell? ⟨B, 0, none⟩ = some (.string k) ∧ X.cell? ⟨B, 1, none⟩ = some (.int .u64 ((i : Nat) : Int)) ∧ X.cell? ⟨B + 1, 0, none⟩ = some (.string v.val) ∧ X.cell? ⟨B + 1, 1, none⟩ = some (.slice v.o n v.c) ∧ X.cell? ⟨B + 1, 2, none⟩ = some (.int .i64 v.stamp) ∧ (Instr.lookup 74 (.map (some y.lm)) (.string k) false).run Try.prog X = .ok (.pointer (some ⟨x.p, 0, none⟩)) X) (first | exact HS9.out _ HK9.out.1 | exact HS9.out _ ((Keeps.refl _ X7).drew) | exact HS9.out _ (Keeps.refl _ X7)) ((go_at_call 47; refine (HPU.out _ (HZ.out.ln.keeps (Keeps.refl no X7).drew id (fun _ _ => id))).mono ?_; rintro e X9 ⟨rfl, o9, c9, l9, hl9, hp9, hh9, hn9, hk9⟩; have HK9 : Hid (Keeps (fun b => b = x.p ∨ inO x.o b) X7 X9 ∧ LineAt X9 (x.with o9 c9 l9) ∧ l9.Perm (x.fr ++ [i]) ∧ Hp.Heap l9 ∧ (∀ b, inO o9 b → inO x.o b ∨ X7.heap.size ≤ b)) := ⟨(Keeps.refl _ X7).drew.trans hk9, hl9, hp9, hh9, hn9⟩; clear hl9 hp9 hh9 hn9 hk9))
    rename _ ∧ _ => hh
    clear hh
    go_wp2_with fail
    go_end0
    exact ⟨rfl, HFIN.out X9 (x.with o9 c9 l9) rfl rfl HK9.out.2.2.2.2 HK9.out.2.2.2.1 (by rw [if_pos HE.out]; exact HK9.out.2.2.1) HK9.out.2.1 HK9.out.1⟩
  · have hes : (v.stamp == -1) = false := by simp [es]
    have HEE : Hid (∃ T', IsS X7 p T' (s.add (k, i) v.vr) (N + 1) ∧ (∀ b, b < w.heap.size → T' b = T b) ∧ Keeps (Mut T) w X7) := HFIN.out X7 x rfl rfl (fun b hb => .inl hb) hxf.1 (by rw [if_neg es]) HZ.out.ln (Keeps.refl _ _)
    clear es hxf
    go_wp2_with fail
    go_end0
    exact ⟨rfl, HEE.out⟩
end Go.Proofs.Ytagekdmkidbhpaa
