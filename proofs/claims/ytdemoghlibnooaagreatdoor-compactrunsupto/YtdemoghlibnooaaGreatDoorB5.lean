import Derived.Test.YtdemoghlibnooaaGreatDoorB4
import Derived.Deep.CutBlock
namespace Go.Proofs.YtdemoghlibnooaaGreatDoor
open Go.RowKit Go.Maps
set_option linter.unusedVariables false
set_option linter.unusedSimpArgs false
theorem IsMp.upd {κ β : Type} [DecidableEq κ] {K : Kk κ} {V : β → Value} {w : World} {b : Nat} {L : List (κ × β)} (h : IsMp K V w b L) (hK : K.Law) {t e : TypeId} (ht : Tryz.prog.underlying t = some (.map K.t e)) (hl : L.length < maxLen) {k : κ} (hk : K.ok k) (y : β) :
    ∃ w1, (Instr.mapUpdate t (.map (some b)) (K.val k) (V y)).run Tryz.prog w = .ok () w1 ∧ IsMp K V w1 b (put k y L) ∧ Keeps (fun i => i = b) w w1 ∧ w1.heap.size = w.heap.size := by
  obtain ⟨w1, hr, h1, ht1⟩ := h.own.store hK.keyed ht hl (hK.key k hk) (d := .held (V y)) (ps := []) rfl
  rw [dat_put hK h.ko h.nk hk] at h1
  refine ⟨w1, hr, isMp_of (nk_put h.nk) (fun p hp => ?_) h1, keeps_of_grown ht1.grown, ?_⟩
  · rcases mem_put.1 hp with rfl | hp
    · exact hk
    · exact h.ko p hp.1
  · obtain ⟨_, _, _, _, _, rfl⟩ := ht1; simp [ChangeMaps.setBlock]
theorem updV {w : World} {b : Nat} {L : List (Mk × MV)} (h : IsMp KM vvV w b L) (hl : L.length < maxLen) {k : Tx} {i : Nat} (hk : KM.ok (k, i)) (y : MV) :
    ∃ w1, (Instr.mapUpdate 90 (.map (some b)) (.agg #[.string k, .int .u64 ((i : Nat) : Int)]) (.agg #[.string y.val, .slice y.o y.keys.length y.c, .int .i64 y.stamp])).run Tryz.prog w = .ok () w1 ∧ IsMp KM vvV w1 b (put (k, i) y L) ∧ Keeps (fun i => i = b) w w1 ∧ w1.heap.size = w.heap.size :=
  h.upd lawM (t := 90) (e := 150) Tryz.underlying90 hl (k := (k, i)) hk y
theorem updW {w : World} {b : Nat} {L : List (Nat × (Nat × List Tx))} (h : IsMp KI vvW w b L) (hl : L.length < maxLen) {i : Nat} (hk : i < 18446744073709551616) (y : Nat × List Tx) :
    ∃ w1, (Instr.mapUpdate 92 (.map (some b)) (.int .u64 ((i : Nat) : Int)) (.map (some y.1))).run Tryz.prog w = .ok () w1 ∧ IsMp KI vvW w1 b (put i y L) ∧ Keeps (fun i => i = b) w w1 ∧ w1.heap.size = w.heap.size :=
  h.upd lawI (t := 92) (e := 173) Tryz.underlying92 hl (k := i) hk y
theorem updL {w : World} {b : Nat} {L : List (Tx × Ln)} (h : IsMp KT vvL w b L) (hl : L.length < maxLen) {k : Tx} (hk : k.size ≤ maxLen) (y : Ln) :
    ∃ w1, (Instr.mapUpdate 91 (.map (some b)) (.string k) (.pointer (some ⟨y.p, 0, none⟩))).run Tryz.prog w = .ok () w1 ∧ IsMp KT vvL w1 b (put k y L) ∧ Keeps (fun i => i = b) w w1 ∧ w1.heap.size = w.heap.size :=
  h.upd lawT (t := 91) (e := 178) Tryz.underlying91 hl (k := k) hk y
theorem updS {w : World} {b : Nat} {l : List Tx} (h : IsMp KT vvU w b (setL l)) (hl : l.length < maxLen) {k : Tx} (hk : k.size ≤ maxLen) (hn : k ∉ l) :
    ∃ w1, (Instr.mapUpdate 173 (.map (some b)) (.string k) (.agg #[])).run Tryz.prog w = .ok () w1 ∧ IsMp KT vvU w1 b (setL (k :: l)) ∧ Keeps (fun i => i = b) w w1 ∧ w1.heap.size = w.heap.size := by
  obtain ⟨w1, h1, h2, h3⟩ := h.upd lawT (t := 173) (e := 210) Tryz.underlying173 (by simpa [setL] using hl) (k := k) hk ()
  refine ⟨w1, h1, ?_, h3⟩
  have e : put k () (setL l) = setL (k :: l) := by
    show (k, ()) :: del k (setL l) = (k, ()) :: setL l
    rw [del_none (fnd_setL.2 hn)]
  rw [← e]; exact h2
theorem eqMap (q : Option Nat) (w : World) : (binOp .eql 173 (.map q) (.map none)).run Tryz.prog w = .ok (.bool q.isNone) w := by
  cases q <;> kernel_rfl
theorem eqPtr (q : Option Addr) (w : World) : (binOp .eql 178 (.pointer q) (.pointer none)).run Tryz.prog w = .ok (.bool q.isNone) w := by
  cases q <;> go_simp
theorem lookWq {w : World} {b : Nat} {L : List (Nat × (Nat × List Tx))} (h : IsMp KI vvW w b L) {i : Nat} (hi : i < 18446744073709551616) : (Instr.lookup 92 (.map (some b)) (.int .u64 ((i : Nat) : Int)) false).run Tryz.prog w = .ok (.map ((fnd i L).map (·.1))) w := by
  cases hf : fnd i L with
  | none => exact lookW_none h hi hf
  | some x => exact lookW_some h hi hf
theorem lookLq {w : World} {b : Nat} {L : List (Tx × Ln)} (h : IsMp KT vvL w b L) {k : Tx} (hk : k.size ≤ maxLen) : (Instr.lookup 91 (.map (some b)) (.string k) false).run Tryz.prog w = .ok (.pointer ((fnd k L).map fun x => ⟨x.p, 0, none⟩)) w := by
  cases hf : fnd k L with
  | none => exact lookL_none h hk hf
  | some x => exact lookL_some h hk hf
structure AB (w : World) (p : Nat) (y : Lay) (k : Tx) (i : Nat) (v : MV) (n : Nat) (B : Nat) (W : World) : Prop where
  keep : Keeps no w W
  hB : B = w.heap.size
  sz : B + 2 ≤ W.heap.size
  bm : W.heap[B]? = some (.cells #[.string k, .int .u64 ((i : Nat) : Int)] 145 (0, 0))
  bv : W.heap[B + 1]? = some (.cells #[.string v.val, .slice v.o n v.c, .int .i64 v.stamp] 150 (0, 0))
def ABc (p : Nat) (y : Lay) (k : Tx) (i : Nat) (v : MV) (n : Nat) (B : Nat) (X : World) : Prop :=
  X.cell? ⟨p, 0, none⟩ = some (.map (some y.vm)) ∧ X.cell? ⟨p, 1, none⟩ = some (.map (some y.lm)) ∧ X.cell? ⟨p, 2, none⟩ = some (.map (some y.wm)) ∧ X.cell? ⟨B, 0, none⟩ = some (.string k) ∧ X.cell? ⟨B, 1, none⟩ = some (.int .u64 ((i : Nat) : Int)) ∧ X.cell? ⟨B + 1, 0, none⟩ = some (.string v.val) ∧ X.cell? ⟨B + 1, 1, none⟩ = some (.slice v.o n v.c) ∧ X.cell? ⟨B + 1, 2, none⟩ = some (.int .i64 v.stamp)
theorem AB.cells {w : World} {p : Nat} {T : Nat → Option Ro} {s : St} {N : Nat} {y : Lay} {k : Tx} {i : Nat} {v : MV} {n B : Nat} {W : World} (h : AB w p y k i v n B W) (hs : SL w p T s N y) {X : World} (hX : Keeps (addS y k i) W X) : ABc p y k i v n B X := by
  have hnp : ¬ addS y k i p := addS_not hs hs.tp (by simp) (by simp) (by simp) (by simp) (by simp) (by simp)
  have hnb : ∀ b, w.heap.size ≤ b → ¬ addS y k i b := fun b hb hc => by
    have : T b ≠ none := by rcases addS_tag hs hc with e | e | e | e | e | e <;> rw [e] <;> simp
    have := hs.lt b this
    omega
  have hB := h.hB
  refine ⟨hX.cell (h.keep.cellN hs.c0) hnp, hX.cell (h.keep.cellN hs.c1) hnp, hX.cell (h.keep.cellN hs.c2) hnp, hX.cell (cell_of_blk h.bm 0) (hnb _ (by show _ ≤ B; omega)), hX.cell (cell_of_blk h.bm 1) (hnb _ (by show _ ≤ B; omega)), hX.cell (cell_of_blk h.bv 0) (hnb _ (by show _ ≤ B + 1; omega)), hX.cell (cell_of_blk h.bv 1) (hnb _ (by show _ ≤ B + 1; omega)), hX.cell (cell_of_blk h.bv 2) (hnb _ (by show _ ≤ B + 1; omega))⟩
structure AM (w W : World) (y : Lay) (k : Tx) (i : Nat) (v : MV) (sb : Nat) (l : List Tx) (X : World) : Prop where
  kp : Keeps (addS y k i) W X
  mv : IsMp KM vvV X y.vm (put (k, i) v y.V)
  mw : IsMp KI vvW X y.wm (put i (sb, l) y.W)
  st : IsMp KT vvU X sb (setL l)
  wh : fnd i y.W = some (sb, l) ∨ (fnd i y.W = none ∧ l = [] ∧ W.heap.size ≤ sb)
  k2 : Keeps (fun b => b = y.vm ∨ b = y.wm) W X
structure AN (w W : World) (y : Lay) (k : Tx) (i : Nat) (v : MV) (sb : Nat) (l : List Tx) (x : Ln) (X : World) : Prop where
  kp : Keeps (addS y k i) W X
  mv : IsMp KM vvV X y.vm (put (k, i) v y.V)
  mw : IsMp KI vvW X y.wm (put i (sb, l) y.W)
  st : IsMp KT vvU X sb (setL (k :: l))
  ml : IsMp KT vvL X y.lm (put k x y.L)
  ln : LineAt X x
  wh : fnd i y.W = some (sb, l) ∨ (fnd i y.W = none ∧ l = [] ∧ W.heap.size ≤ sb)
  wl : fnd k y.L = some x ∨ (fnd k y.L = none ∧ x.fr = [] ∧ x.last = 0 ∧ x.o = none ∧ W.heap.size ≤ x.p)
set_option maxRecDepth 10000 in
set_option maxHeartbeats 2000000 in
theorem add_any (w : World) (p : Nat) (T : Nat → Option Ro) (s : St) (N : Nat) (y : Lay) (k : Tx) (i : Nat) (v : MV) (h : SL w p T s N y) (hm : KM.ok (k, i)) (hnew : s.V (k, i) = none) (hok : okKeys v.keys = true) (hin : k ∈ v.keys) (hsl : Sl TE w v.o v.c v.keys) (hky : ∀ b, inO v.o b → T b = some .ky) (hN : N ≤ 2000000000000) :
    Calls Tryz.prog 94 #[.pointer (some ⟨p, 0, none⟩), .agg #[.string k, .int .u64 ((i : Nat) : Int)], .agg #[.string v.val, .slice v.o v.keys.length v.c, .int .i64 v.stamp]] w fun e w' => e = .returned (.tuple #[]) ∧ ∃ T', IsS w' p T' (s.add (k, i) v.vr) (N + 1) ∧ (∀ b, b < w.heap.size → T' b = T b) ∧ Keeps (Mut T) w w' := by
  obtain ⟨n, hn⟩ : ∃ n, n = v.keys.length := ⟨_, rfl⟩
  rw [← hn]
  have hok' := okKeys_iff.1 hok
  obtain ⟨w0, hw0⟩ : ∃ w0, w0 = (w.alloc (.cells #[.string k, .int .u64 ((i : Nat) : Int)] 145)).alloc (.cells #[.string v.val, .slice v.o n v.c, .int .i64 v.stamp] 150) := ⟨_, rfl⟩
  have hk0 : Keeps no w w0 := by rw [hw0]; exact ((Keeps.refl no w).alloc _).alloc _
  have hb0 : w0.heap[w.heap.size]? = some (.cells #[.string k, .int .u64 ((i : Nat) : Int)] 145 (0, 0)) := by rw [hw0]; exact blk_alloc (blk_new w _) _
  have hb1 : w0.heap[w.heap.size + 1]? = some (.cells #[.string v.val, .slice v.o n v.c, .int .i64 v.stamp] 150 (0, 0)) := by
    rw [hw0]
    have := blk_new (w.alloc (.cells #[.string k, .int .u64 ((i : Nat) : Int)] 145)) (.cells #[.string v.val, .slice v.o n v.c, .int .i64 v.stamp] 150)
    rwa [show (w.alloc (.cells #[.string k, .int .u64 ((i : Nat) : Int)] 145)).heap.size = w.heap.size + 1 by simp] at this
  have HQ := search_any w0 v.o n v.c v.keys k hn (by omega) (hsl.keepsN hk0) hok'.2.2
  have H0 : Hid (Keeps no w w0 ∧ w0.heap[w.heap.size]? = some (.cells #[.string k, .int .u64 ((i : Nat) : Int)] 145 (0, 0)) ∧ w0.heap[w.heap.size + 1]? = some (.cells #[.string v.val, .slice v.o n v.c, .int .i64 v.stamp] 150 (0, 0)) ∧ w.heap.size + 2 ≤ w0.heap.size) := ⟨hk0, hb0, hb1, by rw [hw0]; simp⟩
  have HS : Hid (SL w p T s N y) := h
  have HV : Hid (Sl TE w v.o v.c v.keys ∧ n = v.keys.length ∧ k ∈ v.keys ∧ KM.ok (k, i) ∧ s.V (k, i) = none ∧ N ≤ 2000000000000 ∧ ∀ b, inO v.o b → T b = some .ky) := ⟨hsl, hn, hin, hm, hnew, hN, hky⟩
  have hn1024 : (n : Int) ≤ 1024 := by omega
  generalize inn v.keys k = IB at HQ
  rw [hw0] at HQ H0
  clear hw0 hk0 hb0 hb1 h hm hnew hok hin hsl hky hN hn hok'
  go_enter Tryz.func94, Tryz.ntmps94
  go_wp2_with fail
  refine HQ.mono ?_
  rintro e w1 ⟨I, rfl, HI, hk1⟩
  obtain ⟨hI, hIk⟩ := HI.out HV.out.2.2.1
  have hIn : (I : Int) < n := by have := HV.out.2.1; omega
  obtain ⟨kb, koff, hvo, kc⟩ := (HV.out.1.keepsN (H0.out.1.trans hk1)).at hI
  rw [hIk] at kc
  have hb1 := hk1.at H0.out.2.1 id
  have hv1 := hk1.at H0.out.2.2.1 id
  have a0 := cell_of_blk hb1 0
  have f0 := frozen_of_blk hb1 0
  have a1 := cell_of_blk hb1 1
  have v1 := cell_of_blk hv1 1
  rw [hvo] at v1
  have HA : Hid (AB w p y k i v n w.heap.size (w1.setCell ⟨w.heap.size, 0, none⟩ (.string k))) := by
    refine ⟨(H0.out.1.trans hk1).then (keeps_setB w1 w.heap.size 0 (.string k)) (fun b hb => .inr (by have : b = w.heap.size := hb; omega)), rfl, ?_, (blk_set hb1 0 (.string k)).trans rfl, blk_set_ne hv1 (by show w.heap.size + 1 ≠ w.heap.size; omega) _⟩
    have := H0.out.2.2.2
    have := hk1.size
    simp; omega
  clear HQ H0 hI HI hIk hk1 hb1 hv1
  go_upto_region 3 with fail
  generalize w1.setCell ⟨w.heap.size, 0, none⟩ (.string k) = W at HA ⊢
  obtain ⟨B, hB⟩ : ∃ B, B = w.heap.size := ⟨_, rfl⟩
  rw [← hB] at HA ⊢
  clear hB a0 a1 v1 f0 kc hvo hIn
  obtain ⟨W3, hr3, hv3, hk3, hs3⟩ := updV (HS.out.mv.keepsN HA.out.keep.drew) (Nat.lt_of_le_of_lt HS.out.nv (by have := HV.out.2.2.2.2.2.1; unfold maxLen; omega)) HV.out.2.2.2.1 v
  rw [← HV.out.2.1] at hr3
  have HK3 : Hid (Keeps (addS y k i) W W3) := (show _ from ((Keeps.refl _ W).drew).trans (hk3.mono fun b hb => .inl hb))
  have HST : Hid (∀ X, Keeps (addS y k i) W X → ABc p y k i v n B X) := fun X hX => HA.out.cells HS.out hX
  have HV3 : Hid (IsMp KM vvV W3 y.vm (put (k, i) v y.V) ∧ Keeps (fun b => b = y.vm) W W3) := ⟨hv3, (Keeps.refl _ W).drew.trans hk3⟩
  clear hv3 hk3 hs3
  unfold ABc at HST
  go_region_held3 (fun X => X.cell? ⟨p, 0, none⟩ = some (.map (some y.vm)) ∧ X.cell? ⟨p, 1, none⟩ = some (.map (some y.lm)) ∧ X.cell? ⟨p, 2, none⟩ = some (.map (some y.wm)) ∧ X.cell? ⟨B, 0, none⟩ = some (.string k) ∧ X.cell? ⟨B, 1, none⟩ = some (.int .u64 ((i : Nat) : Int)) ∧ X.cell? ⟨B + 1, 0, none⟩ = some (.string v.val) ∧ X.cell? ⟨B + 1, 1, none⟩ = some (.slice v.o n v.c) ∧ X.cell? ⟨B + 1, 2, none⟩ = some (.int .i64 v.stamp)) (first | exact HST.out _ HK3.out | exact HST.out _ ((Keeps.refl _ W).drew) | exact HST.out _ (Keeps.refl _ W)) (fail)
  rename _ ∧ _ => hh
  clear hh hr3
  go_upto_region 4 with fail
  have hvw : y.vm ≠ y.wm := tag_ne HS.out.tv HS.out.tw (by simp)
  have hvl : y.vm ≠ y.lm := tag_ne HS.out.tv HS.out.tl (by simp)
  have hwl : y.wm ≠ y.lm := tag_ne HS.out.tw HS.out.tl (by simp)
  have HNE : Hid (y.vm ≠ y.wm ∧ y.vm ≠ y.lm ∧ y.wm ≠ y.lm) := ⟨hvw, hvl, hwl⟩
  clear hvw hvl hwl
  have HW3 : Hid (IsMp KI vvW W3 y.wm y.W) := (HS.out.mw.keepsN HA.out.keep).keeps HV3.out.2 (fun e => HNE.out.1 e.symm)
  have hl4 : ∀ X, Keeps no W3 X → (Instr.lookup 92 (.map (some y.wm)) (.int .u64 ((i : Nat) : Int)) false).run Tryz.prog X = .ok (.map ((fnd i y.W).map (·.1))) X := fun X hX => lookWq (HW3.out.keepsN hX) HV.out.2.2.2.1.2
  obtain ⟨q, hq⟩ : ∃ q, q = (fnd i y.W).map (·.1) := ⟨_, rfl⟩
  rw [← hq] at hl4
  have HQ : Hid (q = (fnd i y.W).map (·.1)) := hq
  have HL4 : Hid (∀ X, Keeps no W3 X → (Instr.lookup 92 (.map (some y.wm)) (.int .u64 ((i : Nat) : Int)) false).run Tryz.prog X = .ok (.map q) X) := hl4
  have HS4 : Hid (∀ X, Keeps no W3 X → (X.cell? ⟨p, 0, none⟩ = some (.map (some y.vm)) ∧ X.cell? ⟨p, 1, none⟩ = some (.map (some y.lm)) ∧ X.cell? ⟨p, 2, none⟩ = some (.map (some y.wm)) ∧ X.cell? ⟨B, 0, none⟩ = some (.string k) ∧ X.cell? ⟨B, 1, none⟩ = some (.int .u64 ((i : Nat) : Int)) ∧ X.cell? ⟨B + 1, 0, none⟩ = some (.string v.val) ∧ X.cell? ⟨B + 1, 1, none⟩ = some (.slice v.o n v.c) ∧ X.cell? ⟨B + 1, 2, none⟩ = some (.int .i64 v.stamp)) ∧ (Instr.lookup 92 (.map (some y.wm)) (.int .u64 ((i : Nat) : Int)) false).run Tryz.prog X = .ok (.map q) X) := fun X hX => ⟨HST.out X (HK3.out.trans hX.of_no), HL4.out X hX⟩
  have hqe := fun w => eqMap q w
  clear hl4 hq HL4
  simp only [and_assoc] at HS4
  go_region_held3 (fun X => X.cell? ⟨p, 0, none⟩ = some (.map (some y.vm)) ∧ X.cell? ⟨p, 1, none⟩ = some (.map (some y.lm)) ∧ X.cell? ⟨p, 2, none⟩ = some (.map (some y.wm)) ∧ X.cell? ⟨B, 0, none⟩ = some (.string k) ∧ X.cell? ⟨B, 1, none⟩ = some (.int .u64 ((i : Nat) : Int)) ∧ X.cell? ⟨B + 1, 0, none⟩ = some (.string v.val) ∧ X.cell? ⟨B + 1, 1, none⟩ = some (.slice v.o n v.c) ∧ X.cell? ⟨B + 1, 2, none⟩ = some (.int .i64 v.stamp) ∧ (Instr.lookup 92 (.map (some y.wm)) (.int .u64 ((i : Nat) : Int)) false).run Tryz.prog X = .ok (.map q) X) (first | exact HS4.out _ ((Keeps.refl _ W3).drew) | exact HS4.out _ (Keeps.refl _ W3)) (fail)
  rename _ ∧ _ => hh
  clear hh HS4
  go_upto_if 35 with fail
  generalize hWd : W3.drew = W4
  have HW4 : Hid (Keeps no W3 W4) := (show _ by rw [← hWd]; exact (Keeps.refl _ W3).drew)
  clear hWd
  go_cut [] from 36 to 85 (fun X => ∃ (sb : Nat) (l : List Tx), Hid (AM w W y k i v sb l X))
  case first =>
    have HV4 : Hid (IsMp KM vvV W4 y.vm (put (k, i) v y.V) ∧ IsMp KI vvW W4 y.wm y.W ∧ Keeps (fun b => b = y.vm) W W4) := ⟨HV3.out.1.keepsN HW4.out, HW3.out.keepsN HW4.out, HV3.out.2.trans HW4.out.of_no⟩
    cases hf : fnd i y.W with
    | some x =>
      have hqs : q = some x.1 := by rw [HQ.out, hf]; rfl
      clear HQ
      subst hqs
      have HX : Hid (fnd i y.W = some x) := hf
      clear hf
      go_wp2_with fail
      go_meet
      case rel =>
        have hf := HX.out
        have htx := HS.out.tst _ (fnd_mem hf)
        refine ⟨x.1, x.2, ⟨HV4.out.2.2.mono (fun b hb => .inl hb), HV4.out.1, HV4.out.2.1.same lawI hf rfl, ((HS.out.set _ (fnd_mem hf)).keepsN HA.out.keep).keeps HV4.out.2.2 (fun e => tag_ne htx HS.out.tv (by simp) e),   .inl hf, HV4.out.2.2.mono (fun b hb => .inl hb)⟩⟩
    | none =>
      have hqs : q = none := by rw [HQ.out, hf]; rfl
      clear HQ
      subst hqs
      have HX : Hid (fnd i y.W = none) := hf
      clear hf
      have hmm := @run_makeMap Tryz.prog
      obtain ⟨sb, hsb⟩ : ∃ sb, sb = W4.heap.size := ⟨_, rfl⟩
      have hKa : Keeps no W4 (W4.alloc (.map #[] 0)).drew := ((Keeps.refl no W4).alloc _).drew
      have hset : IsMp KT vvU (W4.alloc (.map #[] 0)).drew sb (setL []) := by rw [hsb]; exact (isMp_made W4).keepsN (Keeps.refl no _).drew
      obtain ⟨W5, hr5, hw5, hk5, hs5⟩ := updW (HV4.out.2.1.keepsN hKa) (Nat.lt_of_le_of_lt HS.out.nw (by have := HV.out.2.2.2.2.2.1; unfold maxLen; omega)) HV.out.2.2.2.1.2 (sb, [])
      simp only at hr5
      rw [hsb] at hr5
      have hK5 : Keeps (addS y k i) W W5 := (HV4.out.2.2.mono (fun b hb => .inl hb)).trans (hKa.of_no.trans (hk5.mono fun b hb => .inr (.inl hb)))
      have HK5 : Hid (Keeps (addS y k i) W W5) := hK5
      have hne : sb ≠ y.wm := fun e => by have := HV4.out.2.1.lt; omega
      have HR5 : Hid (AM w W y k i v sb [] W5) :=
        ⟨hK5, (HV4.out.1.keepsN hKa).keeps hk5 HNE.out.1, hw5, hset.keeps hk5 hne, .inr ⟨HX.out, rfl, by rw [hsb]; exact HV4.out.2.2.size⟩, (HV4.out.2.2.mono (fun b hb => .inl hb)).trans (hKa.of_no.trans (hk5.mono fun b hb => .inr hb))⟩
      have HKa : Hid (Keeps (addS y k i) W W4 ∧ Keeps (addS y k i) W (W4.alloc (.map #[] 0)).drew ∧ Keeps (addS y k i) W (W4.alloc (.map #[] 0)) ∧ Keeps (addS y k i) W W4.drew) := ⟨HV4.out.2.2.mono (fun b hb => .inl hb), (HV4.out.2.2.mono (fun b hb => .inl hb)).trans hKa.of_no, ((HV4.out.2.2.mono (fun b hb => .inl hb)).alloc _), (HV4.out.2.2.mono (fun b hb => .inl hb)).drew⟩
      clear hset hw5 hk5 hs5 hK5 hne hKa hsb
      go_upto_region 5 with fail
      go_region_held3 (fun X => X.cell? ⟨p, 0, none⟩ = some (.map (some y.vm)) ∧ X.cell? ⟨p, 1, none⟩ = some (.map (some y.lm)) ∧ X.cell? ⟨p, 2, none⟩ = some (.map (some y.wm)) ∧ X.cell? ⟨B, 0, none⟩ = some (.string k) ∧ X.cell? ⟨B, 1, none⟩ = some (.int .u64 ((i : Nat) : Int)) ∧ X.cell? ⟨B + 1, 0, none⟩ = some (.string v.val) ∧ X.cell? ⟨B + 1, 1, none⟩ = some (.slice v.o n v.c) ∧ X.cell? ⟨B + 1, 2, none⟩ = some (.int .i64 v.stamp)) (first | exact HST.out _ HK5.out | exact HST.out _ HKa.out.2.1 | exact HST.out _ HKa.out.2.2.2 | exact HST.out _ HKa.out.1 | exact HST.out _ HKa.out.2.2.1) (fail)
      all_goals (rename _ ∧ _ => hh; clear hh)
      all_goals go_wp2_with fail
      all_goals go_meet
      all_goals exact ⟨sb, [], HR5⟩
  case rest =>
  obtain ⟨sb, l, HM⟩ := hcut
  rename World => X4
  clear HW4 HV3 HW3 HK3 HQ hqe W4 W3
  have hknl : k ∉ l := by
    rcases HM.out.wh with hf | ⟨_, rfl, _⟩
    · intro hc
      have := (HS.out.sw i k).2 ⟨_, hf, hc⟩
      exact this HV.out.2.2.2.2.1
    · simp
  have hll : l.length < maxLen := by
    rcases HM.out.wh with hf | ⟨_, rfl, _⟩
    · exact Nat.lt_of_le_of_lt (HS.out.ns _ (fnd_mem hf)) (by have := HV.out.2.2.2.2.2.1; unfold maxLen; omega)
    · unfold maxLen; simp
  obtain ⟨X5, hr5, hs5, hk5, _⟩ := updS (HM.out.st.keepsN (Keeps.refl no X4).drew) hll HV.out.2.2.2.1.1 hknl
  have HSB : Hid (sb ≠ y.wm ∧ sb ≠ y.vm ∧ sb ≠ y.lm ∧ (∀ X, Keeps (fun b => b = sb) X4 X → Keeps (addS y k i) W X)) := by
    have hlt : ∀ b, T b ≠ none → b < W.heap.size := fun b hb => Nat.lt_of_lt_of_le (HS.out.lt b hb) HA.out.keep.size
    refine ⟨?_, ?_, ?_, fun X hX => HM.out.kp.then hX (fun b hb => ?_)⟩
    · rcases HM.out.wh with hf | ⟨_, _, hs⟩
      · exact tag_ne (HS.out.tst _ (fnd_mem hf)) HS.out.tw (by simp)
      · have := hlt y.wm (by rw [HS.out.tw]; simp); omega
    · rcases HM.out.wh with hf | ⟨_, _, hs⟩
      · exact tag_ne (HS.out.tst _ (fnd_mem hf)) HS.out.tv (by simp)
      · have := hlt y.vm (by rw [HS.out.tv]; simp); omega
    · rcases HM.out.wh with hf | ⟨_, _, hs⟩
      · exact tag_ne (HS.out.tst _ (fnd_mem hf)) HS.out.tl (by simp)
      · have := hlt y.lm (by rw [HS.out.tl]; simp); omega
    · have e : b = sb := hb
      rcases HM.out.wh with hf | ⟨_, _, hs⟩
      · exact .inl (.inr (.inr (.inr (.inl ⟨_, hf, e⟩))))
      · exact .inr (by omega)
  have HK5 : Hid (Keeps (fun b => b = sb) X4 X5 ∧ IsMp KT vvU X5 sb (setL (k :: l))) := ⟨(Keeps.refl _ X4).drew.trans hk5, hs5⟩
  have HS6 : Hid (∀ X, Keeps (fun b => b = sb) X4 X → (X.cell? ⟨p, 0, none⟩ = some (.map (some y.vm)) ∧ X.cell? ⟨p, 1, none⟩ = some (.map (some y.lm)) ∧ X.cell? ⟨p, 2, none⟩ = some (.map (some y.wm)) ∧ X.cell? ⟨B, 0, none⟩ = some (.string k) ∧ X.cell? ⟨B, 1, none⟩ = some (.int .u64 ((i : Nat) : Int)) ∧ X.cell? ⟨B + 1, 0, none⟩ = some (.string v.val) ∧ X.cell? ⟨B + 1, 1, none⟩ = some (.slice v.o n v.c) ∧ X.cell? ⟨B + 1, 2, none⟩ = some (.int .i64 v.stamp)) ∧ (Instr.lookup 92 (.map (some y.wm)) (.int .u64 ((i : Nat) : Int)) false).run Tryz.prog X = .ok (.map (some sb)) X) := fun X hX => ⟨HST.out X (HSB.out.2.2.2 X hX), lookW_some (HM.out.mw.keeps hX (fun e => HSB.out.1 e.symm)) HV.out.2.2.2.1.2 (by rw [fnd_put, if_pos rfl])⟩
  simp only [and_assoc] at HS6
  clear hs5 hk5 hll hknl
  go_upto_region 6 with fail
  go_region_held3 (fun X => X.cell? ⟨p, 0, none⟩ = some (.map (some y.vm)) ∧ X.cell? ⟨p, 1, none⟩ = some (.map (some y.lm)) ∧ X.cell? ⟨p, 2, none⟩ = some (.map (some y.wm)) ∧ X.cell? ⟨B, 0, none⟩ = some (.string k) ∧ X.cell? ⟨B, 1, none⟩ = some (.int .u64 ((i : Nat) : Int)) ∧ X.cell? ⟨B + 1, 0, none⟩ = some (.string v.val) ∧ X.cell? ⟨B + 1, 1, none⟩ = some (.slice v.o n v.c) ∧ X.cell? ⟨B + 1, 2, none⟩ = some (.int .i64 v.stamp) ∧ (Instr.lookup 92 (.map (some y.wm)) (.int .u64 ((i : Nat) : Int)) false).run Tryz.prog X = .ok (.map (some sb)) X) (first | exact HS6.out _ HK5.out.1 | exact HS6.out _ ((Keeps.refl _ X4).drew) | exact HS6.out _ (Keeps.refl _ X4)) (fail)
  rename _ ∧ _ => hh
  clear hh hr5 HS6
  have HL5 : Hid (IsMp KT vvL X5 y.lm y.L) := (show _ from ((HS.out.ml.keepsN HA.out.keep).keeps HM.out.k2 (fun e => by rcases e with e | e; exact HNE.out.2.1 e.symm; exact HNE.out.2.2 e.symm)).keeps HK5.out.1 (fun e => HSB.out.2.2.1 e.symm))
  obtain ⟨q7, hq7⟩ : ∃ q7 : Option Addr, q7 = (fnd k y.L).map (fun x => ⟨x.p, 0, none⟩) := ⟨_, rfl⟩
  have HQ7 : Hid (q7 = (fnd k y.L).map (fun x => (⟨x.p, 0, none⟩ : Addr))) := hq7
  have HS7 : Hid (∀ X, Keeps no X5 X → (X.cell? ⟨p, 0, none⟩ = some (.map (some y.vm)) ∧ X.cell? ⟨p, 1, none⟩ = some (.map (some y.lm)) ∧ X.cell? ⟨p, 2, none⟩ = some (.map (some y.wm)) ∧ X.cell? ⟨B, 0, none⟩ = some (.string k) ∧ X.cell? ⟨B, 1, none⟩ = some (.int .u64 ((i : Nat) : Int)) ∧ X.cell? ⟨B + 1, 0, none⟩ = some (.string v.val) ∧ X.cell? ⟨B + 1, 1, none⟩ = some (.slice v.o n v.c) ∧ X.cell? ⟨B + 1, 2, none⟩ = some (.int .i64 v.stamp)) ∧ (Instr.lookup 91 (.map (some y.lm)) (.string k) false).run Tryz.prog X = .ok (.pointer q7) X) := fun X hX => ⟨HST.out X (HSB.out.2.2.2 X (HK5.out.1.trans hX.of_no)), by rw [hq7]; exact lookLq (HL5.out.keepsN hX) HV.out.2.2.2.1.1⟩
  simp only [and_assoc] at HS7
  have hqe7 := fun w => eqPtr q7 w
  clear hq7
  go_upto_region 7 with fail
  go_region_held3 (fun X => X.cell? ⟨p, 0, none⟩ = some (.map (some y.vm)) ∧ X.cell? ⟨p, 1, none⟩ = some (.map (some y.lm)) ∧ X.cell? ⟨p, 2, none⟩ = some (.map (some y.wm)) ∧ X.cell? ⟨B, 0, none⟩ = some (.string k) ∧ X.cell? ⟨B, 1, none⟩ = some (.int .u64 ((i : Nat) : Int)) ∧ X.cell? ⟨B + 1, 0, none⟩ = some (.string v.val) ∧ X.cell? ⟨B + 1, 1, none⟩ = some (.slice v.o n v.c) ∧ X.cell? ⟨B + 1, 2, none⟩ = some (.int .i64 v.stamp) ∧ (Instr.lookup 91 (.map (some y.lm)) (.string k) false).run Tryz.prog X = .ok (.pointer q7) X) (first | exact HS7.out _ ((Keeps.refl _ X5).drew) | exact HS7.out _ (Keeps.refl _ X5)) (fail)
  rename _ ∧ _ => hh
  clear hh HS7
  go_upto_if 60 with fail
  generalize hXd : X5.drew = X6
  have HX6 : Hid (Keeps no X5 X6) := (show _ by rw [← hXd]; exact (Keeps.refl _ X5).drew)
  clear hXd
  go_cut [] from 61 to 85 (fun X => ∃ (x : Ln), Hid (AN w W y k i v sb l x X))
  case first =>
    have hK6 : Keeps (addS y k i) W X6 := HSB.out.2.2.2 X6 (HK5.out.1.trans HX6.out.of_no)
    have hk46 : Keeps (fun b => b = sb) X4 X6 := HK5.out.1.trans HX6.out.of_no
    have HV6 : Hid (Keeps (addS y k i) W X6 ∧ IsMp KM vvV X6 y.vm (put (k, i) v y.V) ∧ IsMp KI vvW X6 y.wm (put i (sb, l) y.W) ∧ IsMp KT vvU X6 sb (setL (k :: l)) ∧ IsMp KT vvL X6 y.lm y.L ∧ Keeps (fun b => b = sb) X4 X6) :=
      ⟨hK6, HM.out.mv.keeps hk46 (fun e => HSB.out.2.1 e.symm), HM.out.mw.keeps hk46 (fun e => HSB.out.1 e.symm), HK5.out.2.keepsN HX6.out, HL5.out.keepsN HX6.out, hk46⟩
    clear hK6 hk46
    cases hf : fnd k y.L with
    | some x =>
      have hqs : q7 = some ⟨x.p, 0, none⟩ := by rw [HQ7.out, hf]; rfl
      clear HQ7
      subst hqs
      have HX : Hid (fnd k y.L = some x) := hf
      clear hf
      go_wp2_with fail
      go_meet
      case rel =>
        have hf := HX.out
        have htx := HS.out.tln _ (fnd_mem hf)
        have hnsb : ∀ b r, T b = some r → r ≠ .st i → b ≠ sb := fun b r hb hr e => by
          rcases HM.out.wh with hq | ⟨_, _, hs⟩
          · exact tag_ne hb (HS.out.tst _ (fnd_mem hq)) hr e
          · have := HS.out.lt b (by rw [hb]; simp); have := HA.out.keep.size; omega
        have hln := (((HS.out.line _ (fnd_mem hf)).keeps HA.out.keep id (fun _ _ => id)).keeps HM.out.k2 (fun e => by rcases e with e | e; exact tag_ne htx.1 HS.out.tv (by simp) e; exact tag_ne htx.1 HS.out.tw (by simp) e) (fun b hb e => by rcases e with e | e; exact tag_ne (htx.2 b hb) HS.out.tv (by simp) e; exact tag_ne (htx.2 b hb) HS.out.tw (by simp) e)).keeps HV6.out.2.2.2.2.2 (hnsb _ _ htx.1 (by simp)) (fun b hb => hnsb _ _ (htx.2 b hb) (by simp))
        exact ⟨x, ⟨HV6.out.1, HV6.out.2.1, HV6.out.2.2.1, HV6.out.2.2.2.1, HV6.out.2.2.2.2.1.same lawT hf rfl, hln, HM.out.wh, .inl hf⟩⟩
    | none =>
      have hqs : q7 = none := by rw [HQ7.out, hf]; rfl
      clear HQ7
      subst hqs
      have HX : Hid (fnd k y.L = none) := hf
      clear hf
      obtain ⟨lp, hlp⟩ : ∃ lp, lp = X6.heap.size := ⟨_, rfl⟩
      have hKa : Keeps no X6 (X6.alloc (.cells #[.int .u64 0, .slice none 0 0] 177)).drew := ((Keeps.refl no X6).alloc _).drew
      have hlb : (X6.alloc (.cells #[.int .u64 0, .slice none 0 0] 177)).drew.heap[lp]? = some (.cells #[.int .u64 0, .slice none 0 0] 177 (0, 0)) := by rw [hlp]; exact blk_new X6 _
      obtain ⟨X7, hr7, hm7, hk7, hs7⟩ := updL (HV6.out.2.2.2.2.1.keepsN hKa) (Nat.lt_of_le_of_lt HS.out.nl (by have := HV.out.2.2.2.2.2.1; unfold maxLen; omega)) HV.out.2.2.2.1.1 ⟨lp, 0, none, 0, []⟩
      simp only at hr7
      have hK7 : Keeps (addS y k i) W X7 := HV6.out.1.trans (hKa.of_no.trans (hk7.mono fun b hb => .inr (.inr (.inl hb))))
      have HK7 : Hid (Keeps (addS y k i) W X7) := hK7
      have HKa : Hid (Keeps (addS y k i) W X6 ∧ Keeps (addS y k i) W (X6.alloc (.cells #[.int .u64 0, .slice none 0 0] 177)).drew ∧ Keeps (addS y k i) W (X6.alloc (.cells #[.int .u64 0, .slice none 0 0] 177)) ∧ Keeps (addS y k i) W X6.drew) := ⟨HV6.out.1, HV6.out.1.trans hKa.of_no, HV6.out.1.alloc _, HV6.out.1.drew⟩
      have hnlm : lp ≠ y.lm := fun e => by have := HV6.out.2.2.2.2.1.lt; omega
      have HR7 : Hid (AN w W y k i v sb l ⟨lp, 0, none, 0, []⟩ X7) :=
        ⟨hK7, (HV6.out.2.1.keepsN hKa).keeps hk7 HNE.out.2.1, (HV6.out.2.2.1.keepsN hKa).keeps hk7 HNE.out.2.2, (HV6.out.2.2.2.1.keepsN hKa).keeps hk7 HSB.out.2.2.1, hm7, ⟨hk7.at hlb hnlm, own_nil _⟩, HM.out.wh, .inr ⟨HX.out, rfl, rfl, rfl, by rw [hlp]; exact HV6.out.1.size⟩⟩
      rw [hlp] at hr7
      clear hm7 hk7 hs7 hK7 hnlm hKa hlb hlp
      go_upto_region 8 with fail
      go_region_held3 (fun X => X.cell? ⟨p, 0, none⟩ = some (.map (some y.vm)) ∧ X.cell? ⟨p, 1, none⟩ = some (.map (some y.lm)) ∧ X.cell? ⟨p, 2, none⟩ = some (.map (some y.wm)) ∧ X.cell? ⟨B, 0, none⟩ = some (.string k) ∧ X.cell? ⟨B, 1, none⟩ = some (.int .u64 ((i : Nat) : Int)) ∧ X.cell? ⟨B + 1, 0, none⟩ = some (.string v.val) ∧ X.cell? ⟨B + 1, 1, none⟩ = some (.slice v.o n v.c) ∧ X.cell? ⟨B + 1, 2, none⟩ = some (.int .i64 v.stamp)) (first | exact HST.out _ HK7.out | exact HST.out _ HKa.out.2.1 | exact HST.out _ HKa.out.2.2.2 | exact HST.out _ HKa.out.1 | exact HST.out _ HKa.out.2.2.1) (fail)
      all_goals (rename _ ∧ _ => hh; clear hh)
      all_goals go_wp2_with fail
      all_goals go_meet
      all_goals exact ⟨_, HR7⟩
  case rest =>
  obtain ⟨x, HZ⟩ := hcut
  rename World => X7
  clear HX6 HL5 HQ7 hqe7 HK5 HSB HM
  have HSW : Hid (SL W p T s N y) := HS.out.keeps HA.out.keep (fun _ _ => id)
  have hvs : X7.cell? ⟨B + 1, 2, none⟩ = some (.int .i64 v.stamp) := (HST.out X7 HZ.out.kp).2.2.2.2.2.2.2
  have HFIN : Hid (∀ (X : World) (x' : Ln), x'.p = x.p → x'.last = x.last → (∀ b, inO x'.o b → inO x.o b ∨ X7.heap.size ≤ b) → Hp.Heap x'.fr → x'.fr.Perm (if v.stamp = -1 then x.fr ++ [i] else x.fr) → LineAt X x' → Keeps (fun b => b = x.p ∨ inO x.o b) X7 X →
      ∃ T', IsS X p T' (s.add (k, i) v.vr) (N + 1) ∧ (∀ b, b < w.heap.size → T' b = T b) ∧ Keeps (Mut T) w X) := by
    intro X x' h1 h2 h3 h4 h5 h6 h7
    have hw7 := HZ.out.kp.size
    have hxS : ∀ b, (b = x.p ∨ inO x.o b) → addS y k i b ∨ W.heap.size ≤ b := fun b hb => by
      rcases HZ.out.wl with hf | ⟨hf, _, _, ho, hs⟩
      · exact .inl (.inr (.inr (.inr (.inr ⟨x, hf, hb⟩))))
      · rcases hb with e | ⟨z, e, _⟩
        · exact .inr (by omega)
        · rw [ho] at e; cases e
    have hkX : Keeps (addS y k i) W X := HZ.out.kp.then h7 hxS
    have hnm : ∀ b es cl, X7.heap[b]? = some (.map es cl) → ¬ (b = x.p ∨ inO x.o b) := fun b es cl hb hc => by
      rcases hc with e | e
      · have := HZ.out.ln.blk; rw [← e, hb] at this; cases this
      · obtain ⟨cur, hcc⟩ := HZ.out.ln.own.tag b e; rw [hb] at hcc; cases hcc
    obtain ⟨e1, c1, o1⟩ := HZ.out.mv.obj
    obtain ⟨e2, c2, o2⟩ := HZ.out.mw.obj
    obtain ⟨e3, c3, o3⟩ := HZ.out.st.obj
    obtain ⟨e4, c4, o4⟩ := HZ.out.ml.obj
    have hlp : fnd k (put k x y.L) = some x := by rw [fnd_put, if_pos rfl]
    have hput : ∀ z, put k z (put k x y.L) = put k z y.L := fun z => by
      simp only [put, del, List.filter_cons]
      simp
    have ml' := (HZ.out.ml.keeps h7 (hnm _ _ _ o4)).same lawT hlp (x' := x') (show vvL x' = vvL x by unfold vvL; rw [h1])
    rw [hput] at ml'
    have hiput : ∀ z, put i z (put i (sb, l) y.W) = put i z y.W := fun z => by
      simp only [put, del, List.filter_cons]
      simp
    have mw' := (HZ.out.mw.keeps h7 (hnm _ _ _ o2)).same lawI (x := (sb, l)) (x' := (sb, k :: l)) (by rw [fnd_put, if_pos rfl]) rfl
    rw [hiput] at mw'
    have hkW : ∀ b, inO v.o b → ¬ addS y k i b := fun b hb => addS_not HSW.out (HV.out.2.2.2.2.2.2 b hb) (by simp) (by simp) (by simp) (by simp) (by simp) (by simp)
    obtain ⟨T', hT, hTo⟩ := HSW.out.add (w' := X) HV.out.2.2.2.2.1 HZ.out.wh (x := x) (x' := x') (by
        rcases HZ.out.wl with hf | ⟨hf, a, b, _⟩
        · exact .inl hf
        · exact .inr ⟨hf, a, b⟩) (fun hf => by
        rcases HZ.out.wl with hf' | ⟨_, _, _, ho, hs⟩
        · rw [hf] at hf'; cases hf'
        · refine ⟨by omega, fun b hb => ?_⟩
          rcases h3 b hb with ⟨z, e, _⟩ | h
          · rw [ho] at e; cases e
          · omega) h1 h2 (fun b hb => by rcases h3 b hb with h | h; exact .inl h; exact .inr (by omega)) h4 h5 (HZ.out.mv.keeps h7 (hnm _ _ _ o1)) mw' (HZ.out.st.keeps h7 (hnm _ _ _ o3)) ml' h6 ⟨(HV.out.1.keepsN HA.out.keep).keeps hkX hkW, HV.out.2.2.2.2.2.2⟩ hkX
    refine ⟨T', ⟨_, hT⟩, fun b hb => hTo b (Nat.lt_of_lt_of_le hb HA.out.keep.size), (HA.out.keep.of_no).trans (hkX.mono fun b hb => ?_)⟩
    rcases addS_tag HSW.out hb with e | e | e | e | e | e <;> exact ⟨by rw [e]; simp, by rw [e]; simp⟩
  have hxf := HS.out.line_facts (k := k) (x := x) (by
    rcases HZ.out.wl with hf | ⟨hf, a, b, _⟩
    · exact .inl hf
    · exact .inr ⟨hf, a, b⟩)
  by_cases es : v.stamp = -1
  · have hes : (v.stamp == -1) = true := by simp [es]
    have HE : Hid (v.stamp = -1) := es
    have HP := fun X (hX : LineAt X x) => hpush_any X x i hX hxf.1 (by have := hxf.2.2.2.2.2; have := HV.out.2.2.2.2.2.1; omega)
    have HPU : Hid (∀ X, LineAt X x → Calls Tryz.prog 138 #[.iface 212 (.pointer (some ⟨x.p, 1, none⟩)), .iface 43 (.int .u64 ((i : Nat) : Int))] X fun e w' => e = .returned (.tuple #[]) ∧ ∃ o' c' l, LineAt w' (x.with o' c' l) ∧ l.Perm (x.fr ++ [i]) ∧ Hp.Heap l ∧ (∀ b, inO o' b → inO x.o b ∨ X.heap.size ≤ b) ∧ Keeps (fun b => b = x.p ∨ inO x.o b) X w') := HP
    have HS9 : Hid (∀ X, Keeps (fun b => b = x.p ∨ inO x.o b) X7 X → (X.cell? ⟨p, 0, none⟩ = some (.map (some y.vm)) ∧ X.cell? ⟨p, 1, none⟩ = some (.map (some y.lm)) ∧ X.cell? ⟨p, 2, none⟩ = some (.map (some y.wm)) ∧ X.cell? ⟨B, 0, none⟩ = some (.string k) ∧ X.cell? ⟨B, 1, none⟩ = some (.int .u64 ((i : Nat) : Int)) ∧ X.cell? ⟨B + 1, 0, none⟩ = some (.string v.val) ∧ X.cell? ⟨B + 1, 1, none⟩ = some (.slice v.o n v.c) ∧ X.cell? ⟨B + 1, 2, none⟩ = some (.int .i64 v.stamp)) ∧ (Instr.lookup 91 (.map (some y.lm)) (.string k) false).run Tryz.prog X = .ok (.pointer (some ⟨x.p, 0, none⟩)) X) := by
      intro X hX
      have hkX : Keeps (addS y k i) W X := HZ.out.kp.then hX (fun b hb => by
        rcases HZ.out.wl with hf | ⟨hf, _, _, ho, hs⟩
        · exact .inl (.inr (.inr (.inr (.inr ⟨x, hf, hb⟩))))
        · rcases hb with e | ⟨z, e, _⟩
          · exact .inr (by omega)
          · rw [ho] at e; cases e)
      refine ⟨HST.out X hkX, lookL_some (HZ.out.ml.keeps hX ?_) HV.out.2.2.2.1.1 (by rw [fnd_put, if_pos rfl])⟩
      obtain ⟨e4, c4, o4⟩ := HZ.out.ml.obj
      rintro (e | e)
      · have := HZ.out.ln.blk; rw [← e, o4] at this; cases this
      · obtain ⟨cur, hcc⟩ := HZ.out.ln.own.tag _ e; rw [o4] at hcc; cases hcc
    simp only [and_assoc] at HS9
    clear es hxf HP
    go_upto_region 10 with fail
    go_region_held3 (fun X => X.cell? ⟨p, 0, none⟩ = some (.map (some y.vm)) ∧ X.cell? ⟨p, 1, none⟩ = some (.map (some y.lm)) ∧ X.cell? ⟨p, 2, none⟩ = some (.map (some y.wm)) ∧ X.cell? ⟨B, 0, none⟩ = some (.string k) ∧ X.cell? ⟨B, 1, none⟩ = some (.int .u64 ((i : Nat) : Int)) ∧ X.cell? ⟨B + 1, 0, none⟩ = some (.string v.val) ∧ X.cell? ⟨B + 1, 1, none⟩ = some (.slice v.o n v.c) ∧ X.cell? ⟨B + 1, 2, none⟩ = some (.int .i64 v.stamp) ∧ (Instr.lookup 91 (.map (some y.lm)) (.string k) false).run Tryz.prog X = .ok (.pointer (some ⟨x.p, 0, none⟩)) X) (first | exact HS9.out _ HK9.out.1 | exact HS9.out _ ((Keeps.refl _ X7).drew) | exact HS9.out _ (Keeps.refl _ X7)) ((go_at_call 138; refine (HPU.out _ (HZ.out.ln.keeps (Keeps.refl no X7).drew id (fun _ _ => id))).mono ?_; rintro e X9 ⟨rfl, o9, c9, l9, hl9, hp9, hh9, hn9, hk9⟩; have HK9 : Hid (Keeps (fun b => b = x.p ∨ inO x.o b) X7 X9 ∧ LineAt X9 (x.with o9 c9 l9) ∧ l9.Perm (x.fr ++ [i]) ∧ Hp.Heap l9 ∧ (∀ b, inO o9 b → inO x.o b ∨ X7.heap.size ≤ b)) := ⟨(Keeps.refl _ X7).drew.trans hk9, hl9, hp9, hh9, hn9⟩; clear hl9 hp9 hh9 hn9 hk9))
    rename _ ∧ _ => hh
    clear hh
    go_wp2_with fail
    go_end0
    exact ⟨rfl, HFIN.out X9 (x.with o9 c9 l9) rfl rfl HK9.out.2.2.2.2 HK9.out.2.2.2.1 (by rw [if_pos HE.out]; exact HK9.out.2.2.1) HK9.out.2.1 HK9.out.1⟩
  · have hes : (v.stamp == -1) = false := by simp [es]
    have HEE : Hid (∃ T', IsS X7 p T' (s.add (k, i) v.vr) (N + 1) ∧ (∀ b, b < w.heap.size → T' b = T b) ∧ Keeps (Mut T) w X7) := HFIN.out X7 x rfl rfl (fun b hb => .inl hb) hxf.1 (by rw [if_neg es]) HZ.out.ln (Keeps.refl _ _)
    clear es hxf
    go_wp2_with fail
    go_end0
    exact ⟨rfl, HEE.out⟩
end Go.Proofs.YtdemoghlibnooaaGreatDoor
namespace Go.Proofs.YtdemoghlibnooaaGreatDoor
open Go.RowKit Go.Maps Go.Sort Orl
set_option linter.unusedVariables false
set_option linter.unusedSimpArgs false
def miss (s : St) (i : Nat) (ps : List Pr) : List Pr := ps.filter fun p => (s.V (p.1, i)).isNone
def stampOf (s : St) (i : Nat) (now : Int) (k : Tx) : Int := if i < s.last k then now else -1
def put1 (i : Nat) (keys : List Tx) (now : Int) (s : St) (p : Pr) : St := s.add (p.1, i) ⟨p.2, keys, stampOf s i now p.1⟩
def putAll (i : Nat) (keys : List Tx) (now : Int) (s : St) (ps : List Pr) : St := ps.foldl (put1 i keys now) s
theorem putAll_last (i : Nat) (keys : List Tx) (now : Int) : ∀ (ps : List Pr) (s : St), (putAll i keys now s ps).last = s.last
  | [], s => rfl
  | p :: r, s => by
    show (putAll i keys now (put1 i keys now s p) r).last = _
    rw [putAll_last i keys now r]; rfl
theorem putAll_snoc (i : Nat) (keys : List Tx) (now : Int) (s : St) (ps : List Pr) (p : Pr) : putAll i keys now s (ps ++ [p]) = put1 i keys now (putAll i keys now s ps) p := by simp [putAll]
theorem putAll_V (i : Nat) (keys : List Tx) (now : Int) : ∀ (ps : List Pr) (s : St) (m : Mk), (∀ p ∈ ps, (p.1, i) ≠ m) → (putAll i keys now s ps).V m = s.V m
  | [], s, m, _ => rfl
  | p :: r, s, m, h => by
    show (putAll i keys now (put1 i keys now s p) r).V m = _
    rw [putAll_V i keys now r _ m (fun q hq => h q (by simp [hq]))]
    show (if m = (p.1, i) then _ else s.V m) = s.V m
    rw [if_neg (fun e => h p (by simp) e.symm)]
theorem inc_apart {ps : List Pr} (h : Inc ltp ps) : ps.Pairwise (fun p q => p.1 ≠ q.1) := List.Pairwise.imp (fun {a b} hab e => by
  unfold ltp at hab; rw [e, swoT.irrefl] at hab; cases hab) h
theorem swoP : SWO ltp where
  irrefl x := swoT.irrefl _
  trans x y z h1 h2 := swoT.trans _ _ _ h1 h2
  ntrans x y z h1 h2 := swoT.ntrans _ _ _ h1 h2
theorem okPairs_iff {l : List Pr} {keys : List Tx} : okPairs l keys = true ↔ (∀ p ∈ l, p.2.size ≤ 65535 ∧ p.1 ∈ keys) ∧ 0 < l.length ∧ Inc ltp l := by
  unfold okPairs
  simp only [Bool.and_eq_true, decide_eq_true_eq, List.all_eq_true, rising_iff swoP, inn_iff]
set_option maxRecDepth 10000 in
theorem missing_any (w : World) (p : Nat) (T : Nat → Option Ro) (s : St) (N : Nat) (i : Nat) (a : Option Addr) (n c : Nat) (ps : List Pr) (h : IsS w p T s N) (hn : n = ps.length) (hl : ps.length ≤ 100000) (hs : Sl PE w a c ps) (hk : ∀ q ∈ ps, KM.ok (q.1, i)) :
    Calls Tryz.prog 92 #[.pointer (some ⟨p, 0, none⟩), .int .u64 ((i : Nat) : Int), .slice a n c] w fun e w' => ∃ v, e = .returned v ∧ Gives PE w (miss s i ps) v w' := by
  have HA : Hid (n = ps.length) := hn
  have hA : (n : Int) ≤ 100000 := by omega
  have HL : Hid (ps.length ≤ 100000) := hl
  have HS : Hid (IsS w p T s N) := h
  have HP : Hid (Sl PE w a c ps) := hs
  have HK : Hid (∀ q ∈ ps, KM.ok (q.1, i)) := hk
  clear hn hl h hs hk
  go_enter Tryz.func92, Tryz.ntmps92
  go_wp2_with fail
  go_loopw [7, 12] (fun s3 v wr => ∃ (k : Nat) (u : Value), k ≤ n ∧ v = .int .i64 k ∧ s3 = u ∧ Hid (Gives PE w (miss s i (ps.take k)) u wr)) (fun _ v _ => n - (intOf v).toNat)
  case atStart => exact ⟨0, _, by omega, rfl, rfl, ⟨none, 0, 0, rfl, (show 0 = _ by simp [miss]), own_nil _, new_none _, Keeps.refl _ _⟩⟩
  case round =>
    obtain ⟨k, u, hk, rfl, rfl, HG⟩ := hrel
    obtain ⟨o, m, d, rfl, hm, ho, hnw, hkp⟩ := HG.out
    by_cases h2 : k < n
    · have hka : k < ps.length := by have := HA.out; omega
      obtain ⟨b1, off1, rfl, d1, d2⟩ := (HP.out.keepsN hkp).atP hka
      obtain ⟨x, hx⟩ : ∃ x, x = ps.getD k p0 := ⟨_, rfl⟩
      rw [← hx] at d1 d2
      obtain ⟨x1, x2⟩ := x
      simp only at d1 d2
      have HX : Hid ((x1, x2) = ps.getD k p0 ∧ k < ps.length) := ⟨hx, hka⟩
      have HLen : Hid ((miss s i (ps.take k)).length ≤ 100000) := (show _ ≤ _ by have h1 := List.length_filter_le (fun p => (s.V (p.1, i)).isNone) (ps.take k); have := HL.out; unfold miss; rw [List.length_take] at h1; omega)
      have hkx : KM.ok (x1, i) := by have := HK.out _ (getD_mem_lt p0 hka); rwa [← hx] at this
      have hcall := fun X (hX : Keeps no w X) => has_any X p T s N (x1, i) (HS.out.keepsN hX) hkx
      have ht : miss s i (ps.take (k + 1)) = miss s i (ps.take k) ++ (if (s.V (x1, i)).isNone then [(x1, x2)] else []) := by
        rw [take_succ_getD ps k p0 hka, ← hx]
        unfold miss
        rw [List.filter_append]
        congr 1
        simp only [List.filter_cons, List.filter_nil]
      have HT : Hid (miss s i (ps.take (k + 1)) = miss s i (ps.take k) ++ (if (s.V (x1, i)).isNone then [(x1, x2)] else [])) := ht
      have h3 : (k : Int) < n := by omega
      clear hx hka hkx ht
      cases hv : s.V (x1, i) with
      | none =>
        rw [hv] at hcall HT
        have HC : Hid (∀ X, Keeps no w X → Calls Tryz.prog 136 #[.pointer (some ⟨p, 0, none⟩), .agg #[.string x1, .int .u64 ((i : Nat) : Int)]] X fun e w' => e = .returned (.bool false) ∧ Keeps no X w') := hcall
        clear hcall hv
        go_wp2_with fail
        refine (HC.out _ (hkp.alloc _)).mono ?_
        rintro e w2 ⟨rfl, hk2⟩
        have HO2 : Hid (Own PE w2 o d (miss s i (ps.take k)) ∧ Keeps no w w2 ∧ w2.heap[wr.heap.size]? = some (.cells #[.string x1, .string x2] 85 (0, 0))) := ⟨(ho.keepsN ((Keeps.refl no wr).alloc _)).keepsN hk2, (hkp.alloc _).trans hk2, hk2.at (blk_new wr _) id⟩
        have q0 := cell_of_blk HO2.out.2.2 0
        have q1 := cell_of_blk HO2.out.2.2 1
        clear hk2
        go_wp2_with (at_builtin; refine wpList_app okP rfl _ _ rfl _ _ _ (miss s i (ps.take k)) rfl hm.out (HO2.out.1.keepsN ((Keeps.refl _ _).alloc _)) _ _ _ [(x1, x2)] rfl rfl (fun h => by cases h) (own_oneP _ x1 x2).row (by have := HLen.out; simp [PE]; omega) (by have := HLen.out; simp; omega) ?_; intro o1 c1 w3 ho3 hap3)
        go_roundw
        case rel =>
          have k4 := hap3.new (w0 := w) hnw (HO2.out.2.1.alloc _)
          refine ⟨k + 1, _, by omega, by go_num, rfl, ?_⟩
          show Gives PE w (miss s i (ps.take (k + 1))) _ _
          rw [HT.out]
          exact ⟨o1, _, c1, rfl, (show _ = _ by have h := hm.out; rw [List.length_append, ← h]; simp), ho3, k4.1, k4.2⟩
        case measure => simp [intOf] <;> omega
      | some vr =>
        rw [hv] at hcall HT
        have HC : Hid (∀ X, Keeps no w X → Calls Tryz.prog 136 #[.pointer (some ⟨p, 0, none⟩), .agg #[.string x1, .int .u64 ((i : Nat) : Int)]] X fun e w' => e = .returned (.bool true) ∧ Keeps no X w') := hcall
        clear hcall hv
        go_wp2_with fail
        refine (HC.out _ (hkp.alloc _)).mono ?_
        rintro e w2 ⟨rfl, hk2⟩
        have HO2 : Hid (Own PE w2 o d (miss s i (ps.take k)) ∧ Keeps no w w2) := ⟨(ho.keepsN ((Keeps.refl no wr).alloc _)).keepsN hk2, (hkp.alloc _).trans hk2⟩
        clear hk2
        go_wp2_with fail
        go_roundw
        case rel =>
          refine ⟨k + 1, _, by omega, by go_num, rfl, ?_⟩
          show Gives PE w (miss s i (ps.take (k + 1))) _ _
          rw [HT.out]
          refine ⟨o, m, d, rfl, (show _ = _ by have := hm.out; simpa using this), by simpa using HO2.out.1, hnw, HO2.out.2⟩
        case measure => simp [intOf] <;> omega
    · have h3 : ¬ (k : Int) < n := by omega
      go_wp2_with fail
      go_ret
      have he : ps.take k = ps := List.take_of_length_le (by have := HA.out; omega)
      rw [he] at hm ho
      exact ⟨_, rfl, o, m, d, rfl, hm, ho, hnw, hkp⟩
def okPut (i : Nat) (ps : List Pr) (keys : List Tx) (now : Int) : Bool := decide (65536 ≤ i) && (okKeys keys && (okPairs ps keys && tickB now))
structure PL (W : World) (p : Nat) (T : Nat → Option Ro) (s : St) (N : Nat) (i : Nat) (keys : List Tx) (now : Int) (ms : List Pr) (J : Nat) (wr : World) : Prop where
  is : ∃ Tj, IsS wr p Tj (putAll i keys now s (ms.take J)) (N + J) ∧ ∀ b, b < W.heap.size → Tj b = T b
  kp : Keeps (Mut T) W wr
set_option maxRecDepth 10000 in
set_option maxHeartbeats 2000000 in
theorem put_good (w : World) (p : Nat) (T : Nat → Option Ro) (s : St) (N : Nat) (i : Nat) (ps : List Pr) (keys : List Tx) (now : Int) (ap : Option Addr) (np cp : Nat) (ak : Option Addr) (nk ck : Nat) (h : IsS w p T s N) (hi : i < 18446744073709551616) (hnp : np = ps.length) (hnk : nk = keys.length) (hlp : ps.length ≤ 100000) (hlk : keys.length ≤ 140737488355328) (hsp : Sl PE w ap cp ps) (hsk : Sl TE w ak ck keys) (hok : okPut i ps keys now = true) (hN : N ≤ 900000000) :
    Calls Tryz.prog 42 #[.pointer (some ⟨p, 0, none⟩), .int .u64 ((i : Nat) : Int), .slice ap np cp, .slice ak nk ck, .int .i64 now] w fun e w' => e = .returned (.tuple #[.bool (decide (0 < (miss s i ps).length)), .int .i64 0]) ∧ ∃ T', IsS w' p T' (putAll i keys now s (miss s i ps)) (N + (miss s i ps).length) ∧ (∀ b, b < w.heap.size → T' b = T b) ∧ Keeps (Mut T) w w' := by
  have h1 := isWrite_any w i hi
  have h2 := areKeys_any w ak nk ck keys hnk hlk hsk
  unfold okPut at hok
  simp only [Bool.and_eq_true] at hok
  obtain ⟨e1, e2, e3, e4⟩ := hok
  have hkk := okKeys_iff.1 e2
  have hpp := okPairs_iff.1 e3
  have h3 := fun X (hX : Keeps no w X) => arePairs_any X ap np cp ps hnp (by omega) (hsp.keepsN hX) ak nk ck keys hnk hlk (hsk.keepsN hX) hkk.2.2
  have h4 := fun X => isTick_any X now
  rw [e1] at h1
  rw [e2] at h2
  rw [e3] at h3
  rw [e4] at h4
  have hks : ∀ q ∈ ps, q.1.size ≤ 65535 := fun q hq => hkk.2.1 _ (hpp.1 q hq).2
  have h5 := fun X (hX : Keeps no w X) => missing_any X p T s N i ap np cp ps (h.keepsN hX) hnp hlp (hsp.keepsN hX) (fun q hq => ⟨by have := hks q hq; show q.1.size ≤ maxLen; unfold maxLen; omega, hi⟩)
  have h6 := fun X (hX : Keeps no w X) => copied_any X ak nk ck keys hnk (by omega) (fun x hx => by have := hkk.2.1 x hx; omega) (hsk.keepsN hX)
  obtain ⟨ms, hms⟩ : ∃ ms, ms = miss s i ps := ⟨_, rfl⟩
  rw [← hms] at h5 ⊢
  have hsub : ∀ q ∈ ms, q ∈ ps ∧ s.V (q.1, i) = none := fun q hq => by
    rw [hms] at hq
    have := List.mem_filter.1 hq
    exact ⟨this.1, by simpa using this.2⟩
  have HM : Hid ((∀ q ∈ ms, q.1 ∈ keys ∧ q.1.size ≤ 65535 ∧ q.2.size ≤ 65535 ∧ s.V (q.1, i) = none) ∧ ms.Pairwise (fun p q => p.1 ≠ q.1) ∧ ms.length ≤ 100000) :=
    ⟨fun q hq => ⟨(hpp.1 q (hsub q hq).1).2, hks q (hsub q hq).1, (hpp.1 q (hsub q hq).1).1, (hsub q hq).2⟩, by rw [hms]; exact List.Pairwise.filter _ (inc_apart hpp.2.2), by rw [hms]; exact Nat.le_trans (List.length_filter_le _ _) hlp⟩
  have HI : Hid (i < 18446744073709551616 ∧ okKeys keys = true ∧ N ≤ 900000000 ∧ IsS w p T s N) := ⟨hi, e2, hN, h⟩
  have H3 : Hid (∀ X, Keeps no w X → Calls Tryz.prog 90 #[.slice ap np cp, .slice ak nk ck] X fun e w' => e = .returned (.bool true) ∧ Keeps no X w') := h3
  have H4 : Hid (∀ X, Calls Tryz.prog 91 #[.int .i64 now] X fun e w' => e = .returned (.bool true) ∧ w' = X) := h4
  have H5 : Hid (∀ X, Keeps no w X → Calls Tryz.prog 92 #[.pointer (some ⟨p, 0, none⟩), .int .u64 ((i : Nat) : Int), .slice ap np cp] X fun e w' => ∃ v, e = .returned v ∧ Gives PE X ms v w') := h5
  have H6 : Hid (∀ X, Keeps no w X → Calls Tryz.prog 93 #[.slice ak nk ck] X fun e w' => ∃ v, e = .returned v ∧ Gives TE X keys v w') := h6
  clear e1 e2 e3 e4 hkk hpp hms hsub h3 h4 h5 h6 hi hN hnp hnk hlp hlk hsp hsk h hks
  go_enter Tryz.func42, Tryz.ntmps42
  go_wp2_with fail
  refine h1.mono ?_
  rintro e w1 ⟨rfl, hw⟩
  subst w1
  go_wp2_with fail
  refine h2.mono ?_
  rintro e w2 ⟨rfl, hk2⟩
  have K2 : Hid (Keeps no w w2) := hk2
  clear hk2 h1 h2
  go_wp2_with fail
  refine (H3.out w2 K2.out).mono ?_
  rintro e w3 ⟨rfl, hk3⟩
  have K3 : Hid (Keeps no w w3) := K2.out.trans hk3
  clear hk3 K2
  go_wp2_with fail
  refine (H4.out w3).mono ?_
  rintro e w4 ⟨rfl, hw⟩
  subst w4
  go_wp2_with fail
  refine (H5.out w3 K3.out).mono ?_
  rintro e w4 ⟨v4, rfl, om, nm, cm, rfl, hnm, hom, hnewm, hk4⟩
  have K4 : Hid (Keeps no w w4 ∧ Own PE w4 om cm ms ∧ New w om ∧ nm = ms.length) := ⟨K3.out.trans hk4, hom, hnewm.of_le K3.out.size, hnm.out⟩
  have hnb : (nm : Int) ≤ 100000 := by have := hnm.out; have := HM.out.2.2; omega
  clear hnm hom hnewm hk4 K3 H3 H4 H5
  by_cases h0 : nm = 0
  · have HE : Hid (ms = []) := List.length_eq_zero_iff.1 (by rw [← K4.out.2.2.2, h0])
    subst h0
    clear hnb
    go_wp2_with fail
    go_ret2
    rw [HE.out]
    exact ⟨rfl, T, HI.out.2.2.2.keepsN K4.out.1, fun b _ => rfl, K4.out.1.of_no⟩
  have h0' : ((nm : Int) == 0) = false := by simp; omega
  have HD : Hid (decide (0 < ms.length) = true) := (show _ = _ by have := K4.out.2.2.2; simp; omega)
  clear h0
  go_wp2_with fail
  refine (H6.out w4 K4.out.1).mono ?_
  rintro e w5 ⟨v5, rfl, oo, no', co, rfl, hno, hoo, hnewo, hk5⟩
  have hext : ∃ T1 : Nat → Option Ro, (∀ b, T b ≠ none → T1 b = T b) ∧ (∀ b, inO oo b → T1 b = some .ky) ∧ (∀ b, T1 b ≠ none → T b ≠ none ∨ inO oo b) := by
    classical
    refine ⟨fun b => if inO oo b then some .ky else T b, fun b hb => ?_, fun b hb => by simp [hb], fun b hb => ?_⟩
    · have : ¬ inO oo b := fun hc => by
        have := hnewo b hc
        have := HI.out.2.2.2.lt b hb
        have := K4.out.1.size
        omega
      simp [this]
    · by_cases hc : inO oo b
      · exact .inr hc
      · simp [hc] at hb; exact .inl hb
  obtain ⟨T1, t1, t2, t3⟩ := hext
  have hnm : ∀ b, inO om b → T1 b = none := fun b hb => by
    cases e : T1 b with
    | none => rfl
    | some r =>
      exfalso
      rcases t3 b (by rw [e]; simp) with hc | hc
      · have := HI.out.2.2.2.lt b hc; have := K4.out.2.2.1 b hb; omega
      · have := hnewo b hc; have := K4.out.2.1.lt b hb; omega
  have H0 : Hid (PL w5 p T1 s N i keys now ms 0 w5) := by
    refine ⟨⟨T1, ?_, fun b _ => rfl⟩, Keeps.refl _ _⟩
    obtain ⟨y, hy⟩ := HI.out.2.2.2
    refine ⟨y, (SL.retag ((hy.keeps (K4.out.1.trans hk5) (fun _ _ => id))) t1 (fun b hb => ?_))⟩
    rcases t3 b hb with hc | hc
    · exact Nat.lt_of_lt_of_le (hy.lt b hc) (K4.out.1.trans hk5).size
    · exact hoo.lt b hc
  have K5 : Hid (Keeps no w w5 ∧ Own PE w5 om cm ms ∧ nm = ms.length ∧ Own TE w5 oo co keys ∧ no' = keys.length ∧ (∀ b, inO om b → T1 b = none) ∧ (∀ b, inO oo b → T1 b = some .ky) ∧ (∀ b, T1 b ≠ none → T b ≠ none ∨ w.heap.size ≤ b) ∧ (∀ b, b < w.heap.size → T1 b = T b)) :=
    ⟨K4.out.1.trans hk5, K4.out.2.1.keepsN hk5, K4.out.2.2.2, hoo, hno.out, hnm, t2, fun b hb => by
      rcases t3 b hb with hc | hc
      · exact .inl hc
      · have := hnewo b hc; have := K4.out.1.size; exact .inr (by omega), fun b hb => by
      by_cases e : T b = none
      · cases e1 : T1 b with
        | none => rw [e]
        | some r =>
          exfalso
          rcases t3 b (by rw [e1]; simp) with hc | hc
          · exact hc e
          · have := hnewo b hc; have := K4.out.1.size; omega
      · exact t1 b e⟩
  clear hno hoo hnewo hk5 t1 t2 t3 hnm K4 H6
  go_wp2_with fail
  go_loopw [15, 16, 47] (fun _ _ v wr => ∃ J : Nat, v = .int .i64 (J : Int) ∧ (J : Int) ≤ nm ∧ Hid (PL w5 p T1 s N i keys now ms J wr)) (fun _ _ v _ => nm - (intOf v).toNat)
  case atStart => exact ⟨0, rfl, by omega, H0⟩
  case round =>
    obtain ⟨J, rfl, hJ, HP⟩ := hrel
    by_cases h2 : J < nm
    · have h3 : (J : Int) < nm := by omega
      have hka : J < ms.length := by have := K5.out.2.2.1; omega
      obtain ⟨Tj, hS, hTj⟩ := HP.out.is
      have hom : Own PE wr om cm ms := K5.out.2.1.keeps HP.out.kp (fun b hb e => e.1 (K5.out.2.2.2.2.2.1 b hb))
      have hoo : Own TE wr oo co keys := K5.out.2.2.2.1.keeps HP.out.kp (fun b hb e => e.2 (K5.out.2.2.2.2.2.2.1 b hb))
      obtain ⟨b1, off1, hob, d1, d2⟩ := hom.sl.atP hka
      obtain ⟨x, hx⟩ : ∃ x, x = ms.getD J p0 := ⟨_, rfl⟩
      rw [← hx] at d1 d2
      obtain ⟨x1, x2⟩ := x
      simp only at d1 d2
      have hmem := HM.out.1 _ (getD_mem_lt p0 hka)
      rw [← hx] at hmem
      simp only at hmem
      have hnone : (putAll i keys now s (ms.take J)).V (x1, i) = none := by
        rw [putAll_V]
        · exact hmem.2.2.2
        · intro q hq e
          have hlt : x1 ≠ q.1 := by
            obtain ⟨j, hj, rfl⟩ := List.getElem_of_mem hq
            simp at hj
            have hap := List.pairwise_iff_getElem.1 HM.out.2.1 j J (by omega) hka (by omega)
            intro e2
            apply hap
            rw [List.getElem_take] at e2
            rw [← e2]
            have : ms.getD J p0 = ms[J] := by simp [List.getD_eq_getElem?_getD, hka]
            rw [← this, ← hx]
          injection e with e _
          exact hlt e.symm
      have HX : Hid ((x1, x2) = ms.getD J p0 ∧ J < ms.length ∧ x1 ∈ keys ∧ x1.size ≤ 65535 ∧ x2.size ≤ 281474976710656 ∧ (putAll i keys now s (ms.take J)).V (x1, i) = none) := ⟨hx, hka, hmem.1, hmem.2.1, by have := hmem.2.2.1; omega, hnone⟩
      have HS : Hid (IsS wr p Tj (putAll i keys now s (ms.take J)) (N + J) ∧ (∀ b, b < w5.heap.size → Tj b = T1 b) ∧ (∀ b, inO oo b → Tj b = some .ky) ∧ Own TE wr oo co keys) := ⟨hS, hTj, fun b hb => by rw [hTj b (K5.out.2.2.2.1.lt b hb)]; exact K5.out.2.2.2.2.2.2.1 b hb, hoo⟩
      have hla := fun X (hX : Keeps no wr X) => last_any X p Tj _ (N + J) x1 (hS.keepsN hX) (by have := hmem.2.1; unfold maxLen; omega)
      rw [putAll_last] at hla
      have HLA : Hid (∀ X, Keeps no wr X → Calls Tryz.prog 44 #[.pointer (some ⟨p, 0, none⟩), .string x1] X fun e w' => e = .returned (.int .u64 ((s.last x1 : Nat) : Int)) ∧ w' = X) := hla
      have hbb := blk_new wr (.cells #[.string x1, .string x2] 85)
      have HBX : Hid (∀ X, Keeps (Mut Tj) (wr.alloc (.cells #[.string x1, .string x2] 85)) X → X.cell? ⟨wr.heap.size, 0, none⟩ = some (.string x1) ∧ X.cell? ⟨wr.heap.size, 1, none⟩ = some (.string x2)) := fun X hX => by
        have hno : ¬ Mut Tj wr.heap.size := fun e => by have := hS.lt _ e.1; omega
        exact ⟨hX.cell (cell_of_blk hbb 0) hno, hX.cell (cell_of_blk hbb 1) hno⟩
      clear hx hka hmem hnone hS hTj hom hoo hla hbb
      subst hob
      by_cases hlt : i < s.last x1
      · have hlt' : (i : Int) < (s.last x1 : Nat) := by omega
        have HE : Hid (stampOf s i now x1 = now) := (show _ = _ by unfold stampOf; simp [hlt])
        clear hlt
        have HADD : Hid (∀ X, Keeps no wr X → Calls Tryz.prog 94 #[.pointer (some ⟨p, 0, none⟩), .agg #[.string x1, .int .u64 ((i : Nat) : Int)], .agg #[.string x2, .slice oo no' co, .int .i64 now]] X fun e w' => e = .returned (.tuple #[]) ∧ ∃ T', IsS w' p T' (putAll i keys now s (ms.take (J + 1))) (N + (J + 1)) ∧ (∀ b, b < X.heap.size → T' b = Tj b) ∧ Keeps (Mut Tj) X w') := by
          intro X hX
          obtain ⟨y, hy⟩ := HS.out.1.keepsN hX
          have := add_any X p Tj _ (N + J) y x1 i ⟨x2, oo, co, keys, now⟩ hy ⟨by have := HX.out.2.2.2.1; show x1.size ≤ maxLen; unfold maxLen; omega, HI.out.1⟩ HX.out.2.2.2.2.2 HI.out.2.1 HX.out.2.2.1 (HS.out.2.2.2.sl.keepsN hX) HS.out.2.2.1 (by have := HI.out.2.2.1; have := HM.out.2.2; have := HX.out.2.1; omega)
          simp only [← K5.out.2.2.2.2.1] at this
          refine this.mono ?_
          rintro e w' ⟨he, T', hT, h1, h2⟩
          refine ⟨he, T', ?_, h1, h2⟩
          rw [take_succ_getD ms J p0 HX.out.2.1, ← HX.out.1, putAll_snoc]
          show IsS w' p T' (put1 i keys now (putAll i keys now s (ms.take J)) (x1, x2)) (N + J + 1)
          unfold put1
          have e1 : stampOf (putAll i keys now s (ms.take J)) i now x1 = now := by unfold stampOf; rw [putAll_last]; exact HE.out
          simp only
          rw [e1]
          exact hT
        go_wp2_with fail
        refine (HLA.out _ ((Keeps.refl no wr).alloc _)).mono ?_
        rintro e wl ⟨rfl, hw⟩
        subst wl
        go_wp2_with fail
        go_region_held3 (fun X => X.cell? ⟨wr.heap.size, 0, none⟩ = some (.string x1) ∧ X.cell? ⟨wr.heap.size, 1, none⟩ = some (.string x2)) (first | exact HBX.out _ KA.out.1 | exact HBX.out _ KS.out.of_no | exact HBX.out _ (Keeps.refl _ _) | exact HBX.out _ ((Keeps.refl _ _).drew)) ((first | (go_at_call 94; refine (HADD.out _ (((Keeps.refl no wr).alloc _).trans KS.out)).mono ?_; rintro e wa ⟨rfl, Ta, hIa, hTa, hka⟩; have KA : Hid (Keeps (Mut Tj) (wr.alloc (.cells #[.string x1, .string x2] 85)) wa ∧ IsS wa p Ta (putAll i keys now s (ms.take (J + 1))) (N + (J + 1)) ∧ (∀ b, b < wr.heap.size → Ta b = Tj b)) := ⟨KS.out.of_no.trans hka, hIa, fun b hb => hTa b (Nat.lt_of_lt_of_le hb (((Keeps.refl no wr).alloc _).trans KS.out).size)⟩; clear hIa hTa hka) | (go_at_call 95; refine (sclone_any _ x2 HX.out.2.2.2.2.1).mono ?_; rintro e ws ⟨rfl, hks⟩; have KS : Hid (Keeps no (wr.alloc (.cells #[.string x1, .string x2] 85)) ws) := (Keeps.refl no _).drew.trans hks; clear hks)))
        rename _ ∧ _ => hh
        clear hh
        have HR : Hid (PL w5 p T1 s N i keys now ms (J + 1) wa) := by
          have hsz := HP.out.kp.size
          refine ⟨⟨Ta, KA.out.2.1, fun b hb => (KA.out.2.2 b (by omega)).trans (HS.out.2.1 b hb)⟩, HP.out.kp.then ((Keeps.refl _ wr).alloc _ |>.trans KA.out.1) (fun b hb => ?_)⟩
          by_cases e : b < w5.heap.size
          · left
            unfold Mut at hb ⊢
            rw [← HS.out.2.1 b e]
            exact hb
          · exact .inr (by omega)
        go_wp2_with fail
        go_roundw
        case rel => exact ⟨J + 1, by go_num, by omega, HR⟩
        case measure => simp [intOf] <;> omega
      · have hlt' : ¬ (i : Int) < (s.last x1 : Nat) := by omega
        have HE : Hid (stampOf s i now x1 = (-1)) := (show _ = _ by unfold stampOf; simp [hlt])
        clear hlt
        have HADD : Hid (∀ X, Keeps no wr X → Calls Tryz.prog 94 #[.pointer (some ⟨p, 0, none⟩), .agg #[.string x1, .int .u64 ((i : Nat) : Int)], .agg #[.string x2, .slice oo no' co, .int .i64 (-1)]] X fun e w' => e = .returned (.tuple #[]) ∧ ∃ T', IsS w' p T' (putAll i keys now s (ms.take (J + 1))) (N + (J + 1)) ∧ (∀ b, b < X.heap.size → T' b = Tj b) ∧ Keeps (Mut Tj) X w') := by
          intro X hX
          obtain ⟨y, hy⟩ := HS.out.1.keepsN hX
          have := add_any X p Tj _ (N + J) y x1 i ⟨x2, oo, co, keys, (-1)⟩ hy ⟨by have := HX.out.2.2.2.1; show x1.size ≤ maxLen; unfold maxLen; omega, HI.out.1⟩ HX.out.2.2.2.2.2 HI.out.2.1 HX.out.2.2.1 (HS.out.2.2.2.sl.keepsN hX) HS.out.2.2.1 (by have := HI.out.2.2.1; have := HM.out.2.2; have := HX.out.2.1; omega)
          simp only [← K5.out.2.2.2.2.1] at this
          refine this.mono ?_
          rintro e w' ⟨he, T', hT, h1, h2⟩
          refine ⟨he, T', ?_, h1, h2⟩
          rw [take_succ_getD ms J p0 HX.out.2.1, ← HX.out.1, putAll_snoc]
          show IsS w' p T' (put1 i keys now (putAll i keys now s (ms.take J)) (x1, x2)) (N + J + 1)
          unfold put1
          have e1 : stampOf (putAll i keys now s (ms.take J)) i now x1 = (-1) := by unfold stampOf; rw [putAll_last]; exact HE.out
          simp only
          rw [e1]
          exact hT
        go_wp2_with fail
        refine (HLA.out _ ((Keeps.refl no wr).alloc _)).mono ?_
        rintro e wl ⟨rfl, hw⟩
        subst wl
        go_wp2_with fail
        go_region_held3 (fun X => X.cell? ⟨wr.heap.size, 0, none⟩ = some (.string x1) ∧ X.cell? ⟨wr.heap.size, 1, none⟩ = some (.string x2)) (first | exact HBX.out _ KA.out.1 | exact HBX.out _ KS.out.of_no | exact HBX.out _ (Keeps.refl _ _) | exact HBX.out _ ((Keeps.refl _ _).drew)) ((first | (go_at_call 94; refine (HADD.out _ (((Keeps.refl no wr).alloc _).trans KS.out)).mono ?_; rintro e wa ⟨rfl, Ta, hIa, hTa, hka⟩; have KA : Hid (Keeps (Mut Tj) (wr.alloc (.cells #[.string x1, .string x2] 85)) wa ∧ IsS wa p Ta (putAll i keys now s (ms.take (J + 1))) (N + (J + 1)) ∧ (∀ b, b < wr.heap.size → Ta b = Tj b)) := ⟨KS.out.of_no.trans hka, hIa, fun b hb => hTa b (Nat.lt_of_lt_of_le hb (((Keeps.refl no wr).alloc _).trans KS.out).size)⟩; clear hIa hTa hka) | (go_at_call 95; refine (sclone_any _ x2 HX.out.2.2.2.2.1).mono ?_; rintro e ws ⟨rfl, hks⟩; have KS : Hid (Keeps no (wr.alloc (.cells #[.string x1, .string x2] 85)) ws) := (Keeps.refl no _).drew.trans hks; clear hks)))
        rename _ ∧ _ => hh
        clear hh
        have HR : Hid (PL w5 p T1 s N i keys now ms (J + 1) wa) := by
          have hsz := HP.out.kp.size
          refine ⟨⟨Ta, KA.out.2.1, fun b hb => (KA.out.2.2 b (by omega)).trans (HS.out.2.1 b hb)⟩, HP.out.kp.then ((Keeps.refl _ wr).alloc _ |>.trans KA.out.1) (fun b hb => ?_)⟩
          by_cases e : b < w5.heap.size
          · left
            unfold Mut at hb ⊢
            rw [← HS.out.2.1 b e]
            exact hb
          · exact .inr (by omega)
        go_wp2_with fail
        go_roundw
        case rel => exact ⟨J + 1, by go_num, by omega, HR⟩
        case measure => simp [intOf] <;> omega
    · have h3 : ¬ (J : Int) < nm := by omega
      have HE : Hid (∃ T', IsS wr p T' (putAll i keys now s ms) (N + ms.length) ∧ (∀ b, b < w.heap.size → T' b = T b) ∧ Keeps (Mut T) w wr) := by
        obtain ⟨Tj, hS, hTj⟩ := HP.out.is
        have e : ms.take J = ms := List.take_of_length_le (by have := K5.out.2.2.1; omega)
        have eJ : J = ms.length := by have := K5.out.2.2.1; omega
        rw [e, eJ] at hS
        have hsz := K5.out.1.size
        refine ⟨Tj, hS, fun b hb => (hTj b (by omega)).trans (K5.out.2.2.2.2.2.2.2.2 b hb), K5.out.1.of_no.then HP.out.kp (fun b hb => ?_)⟩
        by_cases e2 : b < w.heap.size
        · left
          unfold Mut at hb ⊢
          rw [← K5.out.2.2.2.2.2.2.2.2 b e2]
          exact hb
        · exact .inr (by omega)
      go_wp2_with fail
      go_ret2
      rw [HD.out]
      exact ⟨rfl, HE.out⟩
end Go.Proofs.YtdemoghlibnooaaGreatDoor
namespace Go.Proofs.YtdemoghlibnooaaGreatDoor
open Go.RowKit Go.Maps
set_option linter.unusedVariables false
set_option linter.unusedSimpArgs false
def Vr.at (v : Vr) (t : Int) : Vr := ⟨v.val, v.keys, t⟩
def MV.at (v : MV) (t : Int) : MV := ⟨v.val, v.o, v.c, v.keys, t⟩
def stS (s : St) (k : Tx) (i : Nat) (now : Int) (D : Nat → Bool) : St := ⟨fun m => if m.1 = k ∧ D m.2 = true then (s.V m).map (fun v => v.at now) else s.V m, fun z => if z = k then i else s.last z⟩
def raiseS (s : St) (k : Tx) (i : Nat) (now : Int) : St := ⟨fun m => if m.1 = k ∧ m.2 < i then (s.V m).map (fun v => if v.stamp = -1 then v.at now else v) else s.V m, fun z => if z = k then i else s.last z⟩
theorem st_ext {a b : St} (h1 : ∀ m, a.V m = b.V m) (h2 : ∀ k, a.last k = b.last k) : a = b := by
  obtain ⟨V, l⟩ := a
  obtain ⟨V', l'⟩ := b
  have e1 : V = V' := funext h1
  have e2 : l = l' := funext h2
  rw [e1, e2]
theorem SL.turn {w w' : World} {p : Nat} {T : Nat → Option Ro} {s s' : St} {N : Nat} {y : Lay} (h : SL w p T s N y) {k : Tx} {x x' : Ln} (hx : fnd k y.L = some x) (hp : x'.p = x.p) (ho : ∀ b, inO x'.o b → inO x.o b) (hh : Hp.Heap x'.fr) (hnd : x'.fr.Nodup) (hla : x'.last < 18446744073709551616) (hnf : x'.fr.length ≤ N)
    {V' : List (Mk × MV)} (mv' : IsMp KM vvV w' y.vm V') (hV' : V'.length ≤ N) (hVk : ∀ q ∈ V', ∃ q' ∈ y.V, q.2.o = q'.2.o ∧ q.2.c = q'.2.c ∧ q.2.keys = q'.2.keys) (line' : LineAt w' x') (hk : Keeps (fun b => b = y.vm ∨ b = x.p ∨ inO x.o b) w w')
    (sv : ∀ m, s'.V m = (fnd m V').map MV.vr) (sn : ∀ m, s'.V m ≠ none ↔ s.V m ≠ none) (sl : ∀ z, s'.last z = if z = k then x'.last else s.last z) (hfr : ∀ i, i ∈ x'.fr ↔ ∃ v, s'.V (k, i) = some v ∧ v.stamp = -1) (hoth : ∀ z i, z ≠ k → s'.V (z, i) = s.V (z, i)) :
    SL w' p T s' N ⟨y.vm, y.lm, y.wm, V', put k x' y.L, y.W⟩ := by
  have htx := h.tln _ (fnd_mem hx)
  have hno : ∀ {b r}, T b = some r → r ≠ .vm → r ≠ .ln k → r ≠ .fr k → ¬ (b = y.vm ∨ b = x.p ∨ inO x.o b) := by
    intro b r hb h1 h2 h3 hc
    rcases hc with e | e | e
    · exact tag_ne hb h.tv h1 e
    · exact tag_ne hb htx.1 h2 e
    · have := htx.2 b e
      rw [hb] at this
      injection this with this
      exact h3 this
  refine { blk := hk.at h.blk (hno h.tp (by simp) (by simp) (by simp)), mv := mv', ml := ?_, mw := h.mw.keeps hk (hno h.tw (by simp) (by simp) (by simp)), line := ?_, set := ?_, key := ?_, tp := h.tp, tv := h.tv, tl := h.tl, tw := h.tw, tln := ?_, tst := h.tst, lt := fun b hb => Nat.lt_of_lt_of_le (h.lt b hb) hk.size, sv := sv, sl := ?_, hv := ?_, fr := ?_, sw := ?_, wn := h.wn, la := ?_, nv := hV', nl := ?_, nw := h.nw, ns := h.ns, nf := ?_ }
  · exact (h.ml.keeps hk (hno h.tl (by simp) (by simp) (by simp))).same lawT hx (by unfold vvL; rw [hp])
  · intro q hq
    rcases mem_put.1 hq with rfl | ⟨hq, hne⟩
    · exact line'
    · exact (h.line q hq).keeps hk (hno (h.tln q hq).1 (by simp) (by simp [hne]) (by simp)) (fun b hb => hno ((h.tln q hq).2 b hb) (by simp) (by simp) (by simp [hne]))
  · intro q hq
    exact (h.set q hq).keeps hk (hno (h.tst q hq) (by simp) (by simp) (by simp))
  · intro q hq
    obtain ⟨q', hq', e1, e2, e3⟩ := hVk q hq
    rw [e1, e2, e3]
    exact ⟨(h.key q' hq').1.keeps hk (fun b hb => hno ((h.key q' hq').2 b hb) (by simp) (by simp) (by simp)), (h.key q' hq').2⟩
  · intro q hq
    rcases mem_put.1 hq with rfl | ⟨hq, hne⟩
    · exact ⟨by show T x'.p = _; rw [hp]; exact htx.1, fun b hb => htx.2 b (ho b hb)⟩
    · exact h.tln q hq
  · intro z
    rw [sl z]
    show _ = lastOf (put k x' y.L) z
    unfold lastOf
    rw [fnd_put]
    by_cases e : z = k
    · rw [if_pos e, if_pos e]
    · rw [if_neg e, if_neg e, h.sl z]; rfl
  · intro z i hv
    rw [fnd_put]
    by_cases e : z = k
    · exact ⟨x', by rw [if_pos e]⟩
    · rw [if_neg e]; exact h.hv z i ((sn _).1 hv)
  · intro q hq
    rcases mem_put.1 hq with rfl | ⟨hq, hne⟩
    · exact ⟨hh, hnd, hfr⟩
    · obtain ⟨a, b, c⟩ := h.fr q hq
      exact ⟨a, b, fun i => by rw [c i, hoth _ _ hne]⟩
  · intro i z
    rw [sn]; exact h.sw i z
  · intro q hq
    rcases mem_put.1 hq with rfl | ⟨hq, hne⟩
    · exact hla
    · exact h.la q hq
  · show (put k x' y.L).length ≤ N
    rw [length_put_some h.ml.nk hx]; exact h.nl
  · intro q hq
    rcases mem_put.1 hq with rfl | ⟨hq, hne⟩
    · exact hnf
    · exact h.nf q hq
theorem SL.setLast {w : World} {p : Nat} {T : Nat → Option Ro} {s : St} {N : Nat} {y : Lay} (h : SL w p T s N y) {k : Tx} {x : Ln} (hx : fnd k y.L = some x) {i : Nat} (hi : i < 18446744073709551616) (now : Int) :
    SL (w.setCell ⟨x.p, 0, none⟩ (.int .u64 ((i : Nat) : Int))) p T (stS s k i now (fun _ => false)) N ⟨y.vm, y.lm, y.wm, y.V, put k ⟨x.p, i, x.o, x.c, x.fr⟩ y.L, y.W⟩ := by
  have hm := fnd_mem hx
  have hk := keeps_setB w x.p 0 (.int .u64 ((i : Nat) : Int))
  have hln := h.line _ hm
  have htx := h.tln _ hm
  have hV : ∀ m, (stS s k i now (fun _ => false)).V m = s.V m := fun m => by simp [stS]
  refine h.turn hx (x' := ⟨x.p, i, x.o, x.c, x.fr⟩) rfl (fun b hb => hb) (h.fr _ hm).1 (h.fr _ hm).2.1 hi (h.nf _ hm) (h.mv.keeps hk (fun e => tag_ne h.tv htx.1 (by simp) e)) h.nv (fun q hq => ⟨q, hq, rfl, rfl, rfl⟩) ⟨?_, hln.own.keeps hk (fun b hb e => hln.o_p hln b hb e)⟩ (hk.mono fun b hb => .inr (.inl hb)) (fun m => by rw [hV]; exact h.sv m) (fun m => by rw [hV]) (fun z => rfl) (fun j => by rw [hV]; exact (h.fr _ hm).2.2 j) (fun z j _ => hV _)
  refine (blk_set hln.blk 0 _).trans ?_
  simp [lcells]
theorem SL.popped {w w' : World} {p : Nat} {T : Nat → Option Ro} {s : St} {N : Nat} {y : Lay} {k : Tx} {i : Nat} {now : Int} {D : Nat → Bool} (h : SL w p T (stS s k i now D) N y) (hnow : now ≠ -1) {x : Ln} (hx : fnd k y.L = some x) {z : Nat} {l : List Nat} (hp : (z :: l).Perm x.fr) (hh : Hp.Heap l) {v : MV} (hv : fnd (k, z) y.V = some v) (mv' : IsMp KM vvV w' y.vm (put (k, z) (v.at now) y.V)) (line' : LineAt w' (x.with x.o x.c l)) (hk : Keeps (fun b => b = y.vm ∨ b = x.p ∨ inO x.o b) w w') :
    SL w' p T (stS s k i now (fun j => D j || decide (j = z))) N ⟨y.vm, y.lm, y.wm, put (k, z) (v.at now) y.V, put k (x.with x.o x.c l) y.L, y.W⟩ ∧ D z = false ∧ ∃ u, s.V (k, z) = some u ∧ u.stamp = -1 := by
  have hm := fnd_mem hx
  have hzf : z ∈ x.fr := hp.mem_iff.1 (by simp)
  obtain ⟨u, hu, hus⟩ := ((h.fr _ hm).2.2 z).1 hzf
  have hD : D z = false := by
    cases e : D z with
    | false => rfl
    | true =>
      exfalso
      simp [stS, e] at hu
      obtain ⟨a, _, rfl⟩ := hu
      exact hnow hus
  have hu0 : s.V (k, z) = some u := by simpa [stS, hD] using hu
  have hnd := (h.fr _ hm).2.1
  have hnd' : (z :: l).Nodup := hp.nodup_iff.2 hnd
  have hvu : u = v.vr := by
    have := h.sv (k, z)
    rw [hu, hv] at this
    simpa using this
  have hsl := h.sl k
  have hlast : x.last = i := by
    simp [stS, lastOf, hx] at hsl
    exact hsl.symm
  have hVm : ∀ m, m ≠ (k, z) → (stS s k i now (fun j => D j || decide (j = z))).V m = (stS s k i now D).V m := fun m hm => by
    obtain ⟨a, b⟩ := m
    simp only [stS]
    by_cases ea : a = k
    · subst ea
      have : b ≠ z := fun e => hm (by rw [e])
      simp [this]
    · simp [ea]
  have hVz : (stS s k i now (fun j => D j || decide (j = z))).V (k, z) = some (u.at now) := by simp [stS, hu0]
  refine ⟨h.turn hx (x' := x.with x.o x.c l) rfl (fun b hb => hb) hh (List.nodup_cons.1 hnd').2 (h.la _ hm) ?_ mv' ?_ ?_ line' hk ?_ ?_ ?_ ?_ ?_, hD, u, hu0, hus⟩
  · have h1 := hp.length_eq
    have h2 := h.nf _ hm
    show l.length ≤ N
    simp at h1 h2
    omega
  · rw [length_put_some h.mv.nk hv]; exact h.nv
  · intro q hq
    rcases mem_put.1 hq with rfl | ⟨hq, hne⟩
    · exact ⟨((k, z), v), fnd_mem hv, rfl, rfl, rfl⟩
    · exact ⟨q, hq, rfl, rfl, rfl⟩
  · intro m
    rw [fnd_put]
    by_cases e : m = (k, z)
    · rw [if_pos e, e, hVz, hvu]; rfl
    · rw [if_neg e, hVm m e]; exact h.sv m
  · intro m
    by_cases e : m = (k, z)
    · rw [e, hVz, hu]; simp
    · rw [hVm m e]
  · intro a
    show (if a = k then i else s.last a) = if a = k then x.last else (if a = k then i else s.last a)
    rw [hlast]
    split <;> rfl
  · intro j
    have hj := (h.fr _ hm).2.2 j
    simp only at hj
    by_cases e : j = z
    · subst e
      rw [hVz]
      have : j ∉ l := (List.nodup_cons.1 hnd').1
      constructor
      · intro hc; exact absurd hc this
      · rintro ⟨v', hv', hs'⟩
        cases hv'
        exact absurd hs' hnow
    · rw [hVm _ (fun ee => e (by injection ee))]
      rw [← hj, ← hp.mem_iff]
      simp [e, Ln.with]
  · intro a j ha
    exact hVm _ (fun ee => ha (by injection ee))
theorem raise_end {s : St} {k : Tx} {i : Nat} {now : Int} {D : Nat → Bool} (h1 : ∀ z, D z = true → z < i ∧ ∃ u, s.V (k, z) = some u ∧ u.stamp = -1) (h2 : ∀ z u, s.V (k, z) = some u → u.stamp = -1 → z < i → D z = true) : stS s k i now D = raiseS s k i now := by
  refine st_ext (fun m => ?_) (fun z => rfl)
  obtain ⟨a, z⟩ := m
  simp only [stS, raiseS]
  by_cases ea : a = k
  · subst ea
    cases hv : s.V (a, z) with
    | none => simp
    | some u =>
      by_cases hs : u.stamp = -1
      · by_cases hz : z < i
        · simp [hz, hs, h2 z u hv hs hz]
        · have : D z = false := by
            cases e : D z with
            | false => rfl
            | true => exact absurd (h1 z e).1 hz
          simp [hz, this]
      · have : D z = false := by
          cases e : D z with
          | false => rfl
          | true =>
            obtain ⟨_, u', hu', hs'⟩ := h1 z e
            rw [hv] at hu'; cases hu'
            exact absurd hs' hs
        simp [this, hs]
  · simp [ea]
end Go.Proofs.YtdemoghlibnooaaGreatDoor
