import Derived.Test.YtdemoghlibnooaaGreatDoorB5
import Derived.Laws.IdiomRangeMap
namespace Go.Proofs.YtdemoghlibnooaaGreatDoor
open Go.RowKit Go.Maps
set_option linter.unusedVariables false
set_option linter.unusedSimpArgs false
def lenAt (w : World) (p : Nat) : Nat := match w.cell? ⟨p, 1, none⟩ with | some (.slice _ n _) => n | _ => 0
theorem lenAt_eq {w : World} {p n c : Nat} {o : Option Addr} (h : w.cell? ⟨p, 1, none⟩ = some (.slice o n c)) : lenAt w p = n := by unfold lenAt; rw [h]
def RaT (T : Nat → Option Ro) (k : Tx) (b : Nat) : Prop := T b = some .vm ∨ T b = some (.ln k) ∨ T b = some (.fr k)
theorem RaT.ne {T : Nat → Option Ro} {k : Tx} {b : Nat} (h : RaT T k b) : T b ≠ none := by rcases h with h | h | h <;> rw [h] <;> simp
theorem RaT.mut {T : Nat → Option Ro} {k : Tx} {b : Nat} (h : RaT T k b) : Mut T b := by rcases h with h | h | h <;> exact ⟨by rw [h]; simp, by rw [h]; simp⟩
structure RI (W : World) (p : Nat) (T : Nat → Option Ro) (s : St) (N : Nat) (k : Tx) (i : Nat) (now : Int) (P : Nat) (wr : World) (y : Lay) (x : Ln) (D : Nat → Bool) : Prop where
  sl : SL wr p T (stS s k i now D) N y
  hx : fnd k y.L = some x
  hp : x.p = P
  hD : ∀ z, D z = true → z < i ∧ ∃ u, s.V (k, z) = some u ∧ u.stamp = -1
  kp : Keeps (RaT T k) W wr
structure RZ (wr : World) (k : Tx) (z : Nat) (x : Ln) (mb : Nat) (l : List Nat) (X : World) : Prop where
  ln : LineAt X (x.with x.o x.c l)
  pm : (z :: l).Perm x.fr
  hp : Hp.Heap l
  kp : Keeps (fun b => b = x.p ∨ inO x.o b) wr X
  bm : X.heap[mb]? = some (.cells #[.string k, .int .u64 ((z : Nat) : Int)] 145 (0, 0))
  new : wr.heap.size ≤ mb
theorem RZ.set {wr : World} {k : Tx} {z : Nat} {x : Ln} {mb : Nat} {l : List Nat} {X : World} {a b : Value} (hl : LineAt X (x.with x.o x.c l)) (pm : (z :: l).Perm x.fr) (hp : Hp.Heap l) (kp : Keeps (fun b => b = x.p ∨ inO x.o b) wr X) (bm : X.heap[mb]? = some (.cells #[a, b] 145 (0, 0))) (hn : wr.heap.size ≤ mb) : RZ wr k z x mb l ((X.setCell ⟨mb, 0, none⟩ (.string k)).setCell ⟨mb, 1, none⟩ (.int .u64 ((z : Nat) : Int))) := by
  have hk : Keeps (fun b => b = mb) X ((X.setCell ⟨mb, 0, none⟩ (.string k)).setCell ⟨mb, 1, none⟩ (.int .u64 ((z : Nat) : Int))) := (keeps_setB X mb 0 _).trans (keeps_setB _ mb 1 _)
  have hne : x.p ≠ mb := fun e => by have := hl.blk; change X.heap[x.p]? = _ at this; rw [e, bm] at this; injection this with this; injection this with _ this _; cases this
  have hno : ∀ b, inO x.o b → b ≠ mb := fun b hb e => by obtain ⟨cur, hc⟩ := hl.own.tag b hb; rw [e, bm] at hc; injection hc with hc; injection hc with _ hc _; cases hc
  refine ⟨hl.keeps hk hne hno, pm, hp, kp.then hk (fun b hb => .inr (by have : b = mb := hb; omega)), ?_, hn⟩
  refine (blk_set (blk_set bm 0 _) 1 _).trans ?_
  simp
theorem RZ.all {wr : World} {k : Tx} {z : Nat} {x : Ln} {l : List Nat} {X : World} (hl : LineAt X (x.with x.o x.c l)) (pm : (z :: l).Perm x.fr) (hp : Hp.Heap l) (kp : Keeps (fun b => b = x.p ∨ inO x.o b) wr X) : RZ wr k z x X.heap.size l (X.alloc (.cells #[.string k, .int .u64 ((z : Nat) : Int)] 145)) :=
  ⟨hl.keeps ((Keeps.refl no X).alloc _) id (fun _ _ => id), pm, hp, kp.alloc _, blk_new X _, kp.size⟩
set_option maxRecDepth 10000 in
set_option maxHeartbeats 2000000 in
theorem raise_any (w : World) (p : Nat) (T : Nat → Option Ro) (s : St) (N : Nat) (k : Tx) (i : Nat) (now : Int) (v : Vr) (h : IsS w p T s N) (hv : s.V (k, i) = some v) (hvs : v.stamp = -1) (hnow : 0 ≤ now) (hN : N ≤ 2000000000000) :
    Calls Tryz.prog 96 #[.pointer (some ⟨p, 0, none⟩), .agg #[.string k, .int .u64 ((i : Nat) : Int)], .int .i64 now] w fun e w' => e = .returned (.tuple #[]) ∧ IsS w' p T (raiseS s k i now) N ∧ Keeps (RaT T k) w w' := by
  obtain ⟨y, h⟩ := h
  have hm : KM.ok (k, i) := h.okM (by rw [hv]; simp)
  obtain ⟨x, hx⟩ := h.hv k i (by rw [hv]; simp)
  obtain ⟨W, hW⟩ : ∃ W, W = w.alloc (.cells #[.string k, .int .u64 ((i : Nat) : Int)] 145) := ⟨_, rfl⟩
  have hk0 : Keeps no w W := by rw [hW]; exact (Keeps.refl no w).alloc _
  have hb0 : W.heap[w.heap.size]? = some (.cells #[.string k, .int .u64 ((i : Nat) : Int)] 145 (0, 0)) := by rw [hW]; exact blk_new w _
  have hS : SL W p T s N y := h.keeps hk0 (fun _ _ => id)
  have HS : Hid (SL W p T s N y ∧ fnd k y.L = some x ∧ KM.ok (k, i) ∧ N ≤ 2000000000000 ∧ s.V (k, i) = some v ∧ v.stamp = -1 ∧ 0 ≤ now ∧ Keeps no w W) := ⟨hS, hx, hm, hN, hv, hvs, hnow, hk0⟩
  have hlt : ∀ b, RaT T k b → b < w.heap.size := fun b hb => h.lt b hb.ne
  have HBX : Hid (∀ X, Keeps (RaT T k) W X → X.heap[w.heap.size]? = some (.cells #[.string k, .int .u64 ((i : Nat) : Int)] 145 (0, 0))) := fun X hX => hX.at hb0 (fun e => by have := hlt _ e; omega)
  have HS1 : Hid (∀ X, Keeps no W X → X.cell? ⟨p, 1, none⟩ = some (.map (some y.lm)) ∧ X.cell? ⟨w.heap.size, 0, none⟩ = some (.string k) ∧ X.cell? ⟨w.heap.size, 1, none⟩ = some (.int .u64 ((i : Nat) : Int)) ∧ (Instr.lookup 91 (.map (some y.lm)) (.string k) false).run Tryz.prog X = .ok (.pointer (some ⟨x.p, 0, none⟩)) X) := fun X hX =>
    ⟨hX.cellN hS.c1, hX.cellN (cell_of_blk hb0 0), hX.cellN (cell_of_blk hb0 1), lookL_some (hS.ml.keepsN hX) hm.1 hx⟩
  have hln := hS.line _ (fnd_mem hx)
  have g0 : W.cell? ⟨x.p, 0, none⟩ = some (.int .u64 ((x.last : Nat) : Int)) := cell_of_blk hln.blk 0
  have gf := frozen_of_blk hln.blk 0
  have htx := hS.tln _ (fnd_mem hx)
  have H0 : Hid (RI W p T s N k i now x.p (W.setCell ⟨x.p, 0, none⟩ (.int .u64 ((i : Nat) : Int))).drew ⟨y.vm, y.lm, y.wm, y.V, put k ⟨x.p, i, x.o, x.c, x.fr⟩ y.L, y.W⟩ ⟨x.p, i, x.o, x.c, x.fr⟩ (fun _ => false)) := by
    refine ⟨(hS.setLast hx hm.2 now).keeps (Keeps.refl no _).drew (fun _ _ => id), by show fnd k (put k _ y.L) = _; rw [fnd_put, if_pos rfl], rfl, (fun z hz => by cases hz), ((keeps_setB W x.p 0 _).mono fun b hb => ?_).drew⟩
    have e : b = x.p := hb
    rw [e]
    exact .inr (.inl htx.1)
  obtain ⟨P, hP⟩ : ∃ P, P = x.p := ⟨_, rfl⟩
  rw [← hP] at H0 HS1 g0 gf
  obtain ⟨B, hB⟩ : ∃ B, B = w.heap.size := ⟨_, rfl⟩
  have HBB : Hid (B = w.heap.size ∧ ∀ b, RaT T k b → b < B) := ⟨hB, by rw [hB]; exact hlt⟩
  rw [← hB] at HBX HS1
  rw [hW] at HS1 g0 gf
  have HWe : Hid (W = w.alloc (.cells #[.string k, .int .u64 ((i : Nat) : Int)] 145)) := hW
  have hBw : w.heap.size = B := hB.symm
  clear h hv hvs hnow hm hx hN hk0 hb0 hS hlt hln htx hP hB hW
  go_enter Tryz.func96, Tryz.ntmps96
  go_wp2_with fail
  rw [← HWe.out] at HS1 g0 gf ⊢
  clear hBw
  go_region_held3 (fun X => X.cell? ⟨p, 1, none⟩ = some (.map (some y.lm)) ∧ X.cell? ⟨B, 0, none⟩ = some (.string k) ∧ X.cell? ⟨B, 1, none⟩ = some (.int .u64 ((i : Nat) : Int)) ∧ (Instr.lookup 91 (.map (some y.lm)) (.string k) false).run Tryz.prog X = .ok (.pointer (some ⟨P, 0, none⟩)) X) (first | exact HS1.out _ ((Keeps.refl no W).drew) | exact HS1.out _ (Keeps.refl no W)) (fail)
  rename _ ∧ _ => hh
  clear hh
  have hz := (HS1.out _ ((Keeps.refl no W).drew)).2.2.1
  go_wp2_with fail
  clear hz g0 gf HS1
  generalize (W.setCell ⟨P, 0, none⟩ (.int .u64 ((i : Nat) : Int))).drew = W0 at H0 ⊢
  go_loopw [7, 8] (fun _ _ wr => ∃ (y : Lay) (x : Ln) (D : Nat → Bool), Hid (RI W p T s N k i now P wr y x D)) (fun _ _ wr => lenAt wr P)
  case atStart => exact ⟨_, _, _, H0⟩
  case round =>
    clear H0
    obtain ⟨y, x, D, HR⟩ := hrel
    have hD_i : D i = false := by
      cases e : D i with
      | false => rfl
      | true => have := (HR.out.hD i e).1; omega
    have hm := fnd_mem HR.out.hx
    have hln := HR.out.sl.line _ hm
    have hif : i ∈ x.fr := by
      refine ((HR.out.sl.fr _ hm).2.2 i).2 ⟨v, ?_, HS.out.2.2.2.2.2.1⟩
      simp [stS, hD_i, HS.out.2.2.2.2.1]
    have hl0 : 0 < x.fr.length := List.length_pos_of_mem hif
    obtain ⟨g, hg⟩ := hln.own.g0 hl0
    obtain ⟨n, hn⟩ : ∃ n, n = x.fr.length := ⟨_, rfl⟩
    have c1 : wr.cell? ⟨P, 1, none⟩ = some (.slice (some ⟨g, 0, none⟩) n x.c) := by rw [hn, ← HR.out.hp, ← hg]; exact cell_of_blk hln.blk 1
    have c2 : wr.cell? ⟨g, 0, none⟩ = some (.int .u64 ((x.fr.getD 0 0 : Nat) : Int)) := by
      have := hln.own
      rw [hg] at this
      exact (ownI_cell this hl0).1
    have hbB := HBX.out wr HR.out.kp
    have c3 : wr.cell? ⟨B, 0, none⟩ = some (.string k) := cell_of_blk hbB 0
    have c4 : wr.cell? ⟨B, 1, none⟩ = some (.int .u64 ((i : Nat) : Int)) := cell_of_blk hbB 1
    obtain ⟨z, hz⟩ : ∃ z, z = x.fr.getD 0 0 := ⟨_, rfl⟩
    rw [← hz] at c2
    have hn0 : (0 : Int) < n := by omega
    have hzf : z ∈ x.fr := by rw [hz]; exact Orl.getD_mem_lt 0 hl0
    have HZ : Hid (z = x.fr.getD 0 0 ∧ z ∈ x.fr ∧ i ∈ x.fr ∧ n = x.fr.length ∧ x.o = some ⟨g, 0, none⟩ ∧ 0 < x.fr.length) := ⟨hz, hzf, hif, hn, hg, hl0⟩
    by_cases hlt : z < i
    · have hlt' : (z : Int) < i := by omega
      obtain ⟨u, hu, hus⟩ := ((HR.out.sl.fr _ hm).2.2 z).1 hzf
      have hfv : ∃ mv, fnd (k, z) y.V = some mv := by
        have := HR.out.sl.sv (k, z)
        rw [hu] at this
        cases e : fnd (k, z) y.V with
        | none => rw [e] at this; cases this
        | some mv => exact ⟨mv, rfl⟩
      obtain ⟨mv, hmv⟩ := hfv
      have hokz : KM.ok (k, z) := HR.out.sl.mv.ko _ (fnd_mem hmv)
      have HU : Hid (fnd (k, z) y.V = some mv ∧ KM.ok (k, z) ∧ z < i) := ⟨hmv, hokz, hlt⟩
      have HPOP : Hid (∀ X, Keeps no wr X → Calls Tryz.prog 140 #[.iface 212 (.pointer (some ⟨P, 1, none⟩))] X fun e w' => e = .returned (.iface 43 (.int .u64 ((z : Nat) : Int))) ∧ ∃ l, LineAt w' (x.with x.o x.c l) ∧ (z :: l).Perm x.fr ∧ Hp.Heap l ∧ Keeps (fun b => b = x.p ∨ inO x.o b) X w') := by
        intro X hX
        have := hpop_any X x (hln.keeps hX id (fun _ _ => id)) (HR.out.sl.fr _ hm).1 hl0 (by have h1 := HR.out.sl.nf _ hm; have h2 := HS.out.2.2.2.1; simp only at h1; omega)
        rw [HR.out.hp, ← hz] at this
        rw [HR.out.hp]
        exact this
      clear hD_i hm hln hif hl0 hn hbB hz hzf hlt hu hus hmv hokz
      go_wp2_with fail
      go_quiet (fail)
      generalize hw1 : wr.drewN nq = w1
      have K1 : Hid (Keeps no wr w1) := (show _ by rw [← hw1]; exact (Keeps.refl no wr).drewN _)
      have hsz : w1.heap.size = wr.heap.size := by rw [← hw1]; rfl
      have HSZ : Hid (w1.heap.size = wr.heap.size) := hsz
      clear hw1 c1 c2 c3 c4 hsz
      have HBK : Hid (∀ X, Keeps (fun b => b = x.p ∨ inO x.o b) wr X → X.cell? ⟨B, 0, none⟩ = some (.string k)) := by
        intro X hX
        refine cell_of_blk (HBX.out X (HR.out.kp.trans (hX.mono fun b hb => ?_))) 0
        have htx := HR.out.sl.tln _ (fnd_mem HR.out.hx)
        rcases hb with e | e
        · rw [e]; exact .inr (.inl htx.1)
        · exact .inr (.inr (htx.2 b e))
      have hta := fun w => assertI (.int .u64 ((z : Nat) : Int)) w
      go_upto_region 4 with fail
      go_cut [7] from 30 to 52 (fun t7 X => ∃ (mb : Nat) (l : List Nat), t7 = .pointer (some ⟨mb, 0, none⟩) ∧ Hid (RZ wr k z x mb l X))
      case first =>
        go_region_held3 (fun X => X.cell? ⟨B, 0, none⟩ = some (.string k)) (first | exact HBK.out _ KP.out.2.2.2.1 | exact HBK.out _ KQ.out | exact HBK.out _ (((KP.out.2.2.2.1).alloc _)) | exact HBK.out _ K1.out.of_no.drew | exact HBK.out _ ((K1.out.of_no.alloc _).drew) | exact HBK.out _ K1.out.of_no) ((first | (go_at_call 140; refine (HPOP.out _ K1.out.drew).mono ?_; rintro e wp ⟨rfl, l, hl, hpm, hhp, hkp⟩; have KP : Hid (LineAt wp (x.with x.o x.c l) ∧ (z :: l).Perm x.fr ∧ Hp.Heap l ∧ Keeps (fun b => b = x.p ∨ inO x.o b) wr wp ∧ True) := ⟨hl, hpm, hhp, K1.out.of_no.drew.trans hkp, trivial⟩; clear hl hpm hhp hkp) | (go_at_call 140; refine (HPOP.out _ ((K1.out.alloc _).drew)).mono ?_; rintro e wp ⟨rfl, l, hl, hpm, hhp, hkp⟩; have hmb := hkp.at (blk_new w1 (.cells #[.string ⟨#[]⟩, .int .u64 0] 145)) (fun e => by have h1 := HR.out.sl.lt x.p (by rw [(HR.out.sl.tln _ (fnd_mem HR.out.hx)).1]; simp); have h2 := HSZ.out; rcases e with e | e; omega; have h3 := (HR.out.sl.line _ (fnd_mem HR.out.hx)).own.lt _ e; omega); have KP : Hid (LineAt wp (x.with x.o x.c l) ∧ (z :: l).Perm x.fr ∧ Hp.Heap l ∧ Keeps (fun b => b = x.p ∨ inO x.o b) wr wp ∧ wp.heap[w1.heap.size]? = some (.cells #[.string ⟨#[]⟩, .int .u64 0] 145 (0, 0))) := ⟨hl, hpm, hhp, (K1.out.of_no.alloc _).drew.trans hkp, hmb⟩; have KQ : Hid (Keeps (fun b => b = x.p ∨ inO x.o b) wr ((wp.setCell ⟨w1.heap.size, 0, none⟩ (.string k)).setCell ⟨w1.heap.size, 1, none⟩ (.int .u64 ((z : Nat) : Int)))) := (RZ.set (k := k) hl hpm hhp KP.out.2.2.2.1 hmb (by have := HSZ.out; omega)).kp; have y0 := cell_of_blk hmb 0; have y1 := cell_of_blk hmb 1; have z0 := frozen_of_blk hmb 0; have z1 := frozen_of_blk hmb 1; clear hl hpm hhp hkp hmb)))
        all_goals (go_wp2_with fail)
        all_goals go_meet
        all_goals first | exact ⟨_, _, rfl, RZ.all KP.out.1 KP.out.2.1 KP.out.2.2.1 KP.out.2.2.2.1⟩ | exact ⟨_, _, rfl, RZ.set KP.out.1 KP.out.2.1 KP.out.2.2.1 KP.out.2.2.2.1 KP.out.2.2.2.2 (by have := HSZ.out; omega)⟩
      case rest =>
      obtain ⟨mb, l, rfl, HZ2⟩ := hcut
      rename World => Xp
      have hvmp : ¬ (y.vm = x.p ∨ inO x.o y.vm) := fun e => by
        have htx := HR.out.sl.tln _ (fnd_mem HR.out.hx)
        rcases e with e | e
        · exact tag_ne HR.out.sl.tv htx.1 (by simp) e
        · have := htx.2 _ e; rw [HR.out.sl.tv] at this; cases this
      have hpp : ¬ (p = x.p ∨ inO x.o p) := fun e => by
        have htx := HR.out.sl.tln _ (fnd_mem HR.out.hx)
        rcases e with e | e
        · exact tag_ne HR.out.sl.tp htx.1 (by simp) e
        · have := htx.2 _ e; rw [HR.out.sl.tp] at this; cases this
      have hMV : IsMp KM vvV Xp y.vm y.V := HR.out.sl.mv.keeps HZ2.out.kp hvmp
      have hc0 : Xp.cell? ⟨p, 0, none⟩ = some (.map (some y.vm)) := HZ2.out.kp.cell HR.out.sl.c0 hpp
      obtain ⟨n, hn⟩ : ∃ n, n = mv.keys.length := ⟨_, rfl⟩
      have HS5 : Hid (∀ X, Keeps no Xp X → X.cell? ⟨p, 0, none⟩ = some (.map (some y.vm)) ∧ X.cell? ⟨mb, 0, none⟩ = some (.string k) ∧ X.cell? ⟨mb, 1, none⟩ = some (.int .u64 ((z : Nat) : Int)) ∧ (Instr.lookup 90 (.map (some y.vm)) (.agg #[.string k, .int .u64 ((z : Nat) : Int)]) false).run Tryz.prog X = .ok (.agg #[.string mv.val, .slice mv.o n mv.c, .int .i64 mv.stamp]) X) := fun X hX =>
        ⟨hX.cellN hc0, hX.cellN (cell_of_blk HZ2.out.bm 0), hX.cellN (cell_of_blk HZ2.out.bm 1), by rw [hn]; exact lookV_some (hMV.keepsN hX) HU.out.2.1 HU.out.1⟩
      have HN : Hid (n = mv.keys.length) := hn
      have HMV : Hid (IsMp KM vvV Xp y.vm y.V) := hMV
      clear hvmp hpp hMV hc0 hn K1 HPOP HBK hta
      go_upto_region 5 with fail
      go_cut [8] from 39 to 52 (fun t8 X => t8 = .pointer (some ⟨Xp.heap.size, 0, none⟩) ∧ X = (Xp.alloc (.cells #[.string mv.val, .slice mv.o n mv.c, .int .i64 mv.stamp] 150)).drew)
      case first =>
        go_region_held3 (fun X => X.cell? ⟨p, 0, none⟩ = some (.map (some y.vm)) ∧ X.cell? ⟨mb, 0, none⟩ = some (.string k) ∧ X.cell? ⟨mb, 1, none⟩ = some (.int .u64 ((z : Nat) : Int)) ∧ (Instr.lookup 90 (.map (some y.vm)) (.agg #[.string k, .int .u64 ((z : Nat) : Int)]) false).run Tryz.prog X = .ok (.agg #[.string mv.val, .slice mv.o n mv.c, .int .i64 mv.stamp]) X) (first | exact HS5.out _ (Keeps.refl no _) | exact HS5.out _ ((Keeps.refl no _).drew) | exact HS5.out _ (((Keeps.refl no _).drew).alloc _) | exact HS5.out _ (((Keeps.refl no _).alloc _).drew)) (fail)
        all_goals (rename _ ∧ _ => hh; clear hh)
        all_goals (go_wp2_with fail)
        all_goals go_meet
        all_goals exact ⟨rfl, rfl⟩
      case rest =>
      obtain ⟨rfl, hX⟩ := hcut
      rename World => Xq
      obtain ⟨vb, hvb⟩ : ∃ vb, vb = Xp.heap.size := ⟨_, rfl⟩
      have hbv : Xq.heap[vb]? = some (.cells #[.string mv.val, .slice mv.o n mv.c, .int .i64 mv.stamp] 150 (0, 0)) := by rw [hX, hvb]; exact blk_new Xp _
      have KQ : Hid (Keeps no Xp Xq ∧ Xq.heap[vb]? = some (.cells #[.string mv.val, .slice mv.o n mv.c, .int .i64 mv.stamp] 150 (0, 0)) ∧ vb = Xp.heap.size) := ⟨by rw [hX]; exact ((Keeps.refl no Xp).alloc _).drew, hbv, hvb⟩
      have q2 := cell_of_blk hbv 2
      have f2 := frozen_of_blk hbv 2
      rw [← hvb]
      clear hX hbv hvb
      go_upto_region 7 with fail
      have hK : Keeps no Xp (Xq.setCell ⟨vb, 2, none⟩ (.int .i64 now)) := KQ.out.1.then (keeps_setB Xq vb 2 _) (fun b hb => .inr (by have : b = vb := hb; have := KQ.out.2.2; omega))
      have hbw : (Xq.setCell ⟨vb, 2, none⟩ (.int .i64 now)).heap[vb]? = some (.cells #[.string mv.val, .slice mv.o n mv.c, .int .i64 now] 150 (0, 0)) := (blk_set KQ.out.2.1 2 _).trans (by simp)
      generalize Xq.setCell ⟨vb, 2, none⟩ (.int .i64 now) = Xr at hK hbw ⊢
      obtain ⟨X7, hr7, hm7, hk7, hs7⟩ := updV ((HMV.out.keepsN hK).keepsN (Keeps.refl no Xr).drew) (Nat.lt_of_le_of_lt HR.out.sl.nv (by have := HS.out.2.2.2.1; unfold maxLen; omega)) HU.out.2.1 (mv.at now)
      simp only [MV.at] at hr7
      rw [← HN.out] at hr7
      have hall : ∀ X, Keeps (fun b => b = y.vm) Xr X → X.cell? ⟨p, 0, none⟩ = some (.map (some y.vm)) ∧ X.cell? ⟨mb, 0, none⟩ = some (.string k) ∧ X.cell? ⟨mb, 1, none⟩ = some (.int .u64 ((z : Nat) : Int)) ∧ X.cell? ⟨vb, 0, none⟩ = some (.string mv.val) ∧ X.cell? ⟨vb, 1, none⟩ = some (.slice mv.o n mv.c) ∧ X.cell? ⟨vb, 2, none⟩ = some (.int .i64 now) := by
        intro X hX
        obtain ⟨es, cl, hobj⟩ := HMV.out.obj
        have hobj' := hK.at hobj id
        have nm : mb ≠ y.vm := fun e => by have := hK.at HZ2.out.bm id; rw [e, hobj'] at this; cases this
        have nv : vb ≠ y.vm := fun e => by rw [e, hobj'] at hbw; cases hbw
        have hpb := HZ2.out.kp.at HR.out.sl.blk (fun e => by
          have htx := HR.out.sl.tln _ (fnd_mem HR.out.hx)
          rcases e with e | e
          · exact tag_ne HR.out.sl.tp htx.1 (by simp) e
          · have := htx.2 _ e; rw [HR.out.sl.tp] at this; cases this)
        have np : p ≠ y.vm := fun e => by rw [e, hobj] at hpb; cases hpb
        have hb1 := hX.at (hK.at hpb id) np
        have hb2 := hX.at (hK.at HZ2.out.bm id) nm
        have hb3 := hX.at hbw nv
        exact ⟨cell_of_blk hb1 0, cell_of_blk hb2 0, cell_of_blk hb2 1, cell_of_blk hb3 0, cell_of_blk hb3 1, cell_of_blk hb3 2⟩
      have HS7 : Hid (∀ X, Keeps (fun b => b = y.vm) Xr X → X.cell? ⟨p, 0, none⟩ = some (.map (some y.vm)) ∧ X.cell? ⟨mb, 0, none⟩ = some (.string k) ∧ X.cell? ⟨mb, 1, none⟩ = some (.int .u64 ((z : Nat) : Int)) ∧ X.cell? ⟨vb, 0, none⟩ = some (.string mv.val) ∧ X.cell? ⟨vb, 1, none⟩ = some (.slice mv.o n mv.c) ∧ X.cell? ⟨vb, 2, none⟩ = some (.int .i64 now)) := hall
      have HK7 : Hid (Keeps (fun b => b = y.vm) Xr X7) := (Keeps.refl _ Xr).drew.trans hk7
      have HE : Hid (RI W p T s N k i now P X7 ⟨y.vm, y.lm, y.wm, put (k, z) (mv.at now) y.V, put k (x.with x.o x.c l) y.L, y.W⟩ (x.with x.o x.c l) (fun j => D j || decide (j = z)) ∧ lenAt X7 P < lenAt wr P) := by
        have hkk : Keeps (fun b => b = y.vm ∨ b = x.p ∨ inO x.o b) wr X7 := ((HZ2.out.kp.mono fun b hb => .inr hb).trans hK.of_no).trans (HK7.out.mono fun b hb => .inl hb)
        obtain ⟨es, cl, hobj⟩ := HMV.out.obj
        have hln : LineAt X7 (x.with x.o x.c l) := (HZ2.out.ln.keeps hK id (fun _ _ => id)).keeps HK7.out (fun e => by
            have := (HZ2.out.ln.keeps hK id (fun _ _ => id)).blk
            rw [e, hK.at hobj id] at this; cases this) (fun b hb e => by
            obtain ⟨cur, hcc⟩ := (HZ2.out.ln.keeps hK id (fun _ _ => id)).own.tag b hb
            have e' : b = y.vm := e
            rw [e', hK.at hobj id] at hcc; cases hcc)
        have hpo := HR.out.sl.popped (w' := X7) (by have := HS.out.2.2.2.2.2.2.1; omega) HR.out.hx HZ2.out.pm HZ2.out.hp HU.out.1 hm7 hln hkk
        refine ⟨⟨hpo.1, by show fnd k (put k _ y.L) = _; rw [fnd_put, if_pos rfl], HR.out.hp, fun j hj => ?_, HR.out.kp.trans (hkk.mono fun b hb => ?_)⟩, ?_⟩
        · simp only [Bool.or_eq_true, decide_eq_true_eq] at hj
          rcases hj with hj | hj
          · exact HR.out.hD j hj
          · rw [hj]; exact ⟨HU.out.2.2, hpo.2.2⟩
        · have htx := HR.out.sl.tln _ (fnd_mem HR.out.hx)
          rcases hb with e | e | e
          · rw [e]; exact .inl HR.out.sl.tv
          · rw [e]; exact .inr (.inl htx.1)
          · exact .inr (.inr (htx.2 b e))
        · have e1 : X7.cell? ⟨P, 1, none⟩ = some (.slice x.o l.length x.c) := by rw [← HR.out.hp]; exact cell_of_blk hln.blk 1
          have e2 : wr.cell? ⟨P, 1, none⟩ = some (.slice x.o x.fr.length x.c) := by rw [← HR.out.hp]; exact cell_of_blk (HR.out.sl.line _ (fnd_mem HR.out.hx)).blk 1
          rw [lenAt_eq e1, lenAt_eq e2]
          have := HZ2.out.pm.length_eq
          simp at this
          omega
      clear hall hm7 hk7 hs7 hK hbw q2 f2
      go_region_held3 (fun X => X.cell? ⟨p, 0, none⟩ = some (.map (some y.vm)) ∧ X.cell? ⟨mb, 0, none⟩ = some (.string k) ∧ X.cell? ⟨mb, 1, none⟩ = some (.int .u64 ((z : Nat) : Int)) ∧ X.cell? ⟨vb, 0, none⟩ = some (.string mv.val) ∧ X.cell? ⟨vb, 1, none⟩ = some (.slice mv.o n mv.c) ∧ X.cell? ⟨vb, 2, none⟩ = some (.int .i64 now)) (first | exact HS7.out _ HK7.out | exact HS7.out _ ((Keeps.refl _ Xr).drew) | exact HS7.out _ (Keeps.refl _ Xr)) (fail)
      rename _ ∧ _ => hh
      clear hh
      go_wp2_with fail
      go_roundw
      case rel => exact ⟨_, _, _, HE.out.1⟩
      case measure => exact HE.out.2
    · have hlt' : ¬ (z : Int) < i := by omega
      have HE : Hid (IsS wr p T (raiseS s k i now) N ∧ Keeps (RaT T k) w wr) := by
        refine ⟨⟨y, ?_⟩, HS.out.2.2.2.2.2.2.2.of_no.trans HR.out.kp⟩
        rw [← raise_end HR.out.hD (D := D)]
        · exact HR.out.sl
        · intro j u hu hus hj
          cases e : D j with
          | true => rfl
          | false =>
            exfalso
            have : j ∈ x.fr := ((HR.out.sl.fr _ hm).2.2 j).2 ⟨u, by simp [stS, e, hu], hus⟩
            have := Hp.heap_min_mem (HR.out.sl.fr _ hm).1 this
            simp only at this
            omega
      clear hD_i hm hln hif hl0 hn hbB hz hzf hlt
      go_wp2_with fail
      go_quiet (fail)
      go_wp2_with fail
      go_end0
      exact ⟨rfl, HE.out.1.keepsN ((Keeps.refl no wr).drewN _), HE.out.2.drewN _⟩
end Go.Proofs.YtdemoghlibnooaaGreatDoor
namespace Go.Proofs.YtdemoghlibnooaaGreatDoor
open Go.RowKit Go.Maps
set_option linter.unusedVariables false
set_option linter.unusedSimpArgs false
def upB (s : St) (i : Nat) (k : Tx) : Bool := (s.V (k, i)).isSome && decide (s.last k < i)
def stamped (now : Int) (v : Vr) : Vr := if v.stamp = -1 then v.at now else v
def comD (s : St) (i : Nat) (now : Int) (D : Tx → Bool) : St := ⟨fun m => if (D m.1 && upB s i m.1) = true ∧ m.2 < i then (s.V m).map (stamped now) else s.V m, fun k => if (D k && upB s i k) = true then i else s.last k⟩
def commitS (s : St) (i : Nat) (now : Int) : St := comD s i now (fun _ => true)
theorem comD_congr {s : St} {i : Nat} {now : Int} {D D' : Tx → Bool} (h : ∀ k, upB s i k = true → D k = D' k) : comD s i now D = comD s i now D' := by
  have e : ∀ k, (D k && upB s i k) = (D' k && upB s i k) := fun k => by
    cases hu : upB s i k with
    | false => simp
    | true => rw [h k hu]
  refine st_ext (fun m => ?_) (fun k => ?_)
  · simp only [comD, e]
  · simp only [comD, e]
theorem comD_none {s : St} {i : Nat} {now : Int} {D : Tx → Bool} (h : ∀ k, upB s i k = true → D k = false) : comD s i now D = s := by
  refine st_ext (fun m => ?_) (fun k => ?_)
  · simp only [comD]
    cases hu : upB s i m.1 with
    | false => simp
    | true => simp [h m.1 hu]
  · simp only [comD]
    cases hu : upB s i k with
    | false => simp
    | true => simp [h k hu]
theorem comD_raise {s : St} {i : Nat} {now : Int} {D : Tx → Bool} {k : Tx} (hD : D k = false) (hu : upB s i k = true) : raiseS (comD s i now D) k i now = comD s i now (fun z => D z || decide (z = k)) := by
  refine st_ext (fun m => ?_) (fun z => ?_)
  · obtain ⟨a, j⟩ := m
    simp only [raiseS, comD]
    by_cases ea : a = k
    · subst ea
      simp [hD, hu]
      rfl
    · simp [ea]
  · simp only [raiseS, comD]
    by_cases ez : z = k
    · subst ez; simp [hu]
    · simp [ez]
theorem comD_skip {s : St} {i : Nat} {now : Int} {D : Tx → Bool} {k : Tx} (hu : upB s i k = false) : comD s i now D = comD s i now (fun z => D z || decide (z = k)) :=
  comD_congr fun z hz => by
    have : z ≠ k := fun e => by rw [e, hu] at hz; cases hz
    simp [this]
structure CI (W : World) (p : Nat) (T : Nat → Option Ro) (s : St) (N : Nat) (i : Nat) (now : Int) (sb r : Nat) (l : List Tx) (lf : Tx → Bool) (wr : World) : Prop where
  is : IsS wr p T (comD s i now (fun z => !lf z)) N
  rg : Rng KT vvU wr sb r (setL l) lf
  kp : Keeps (Mut T) W wr
def CountOf (s : St) (i n : Nat) : Prop := ∃ l : List Tx, n = l.length ∧ l.Nodup ∧ ∀ k, k ∈ l ↔ s.V (k, i) ≠ none
theorem comD_iff {s : St} {i : Nat} {now : Int} {D : Tx → Bool} (m : Mk) : (comD s i now D).V m ≠ none ↔ s.V m ≠ none := by
  simp only [comD]
  split
  · simp
  · rfl
set_option maxRecDepth 10000 in
set_option maxHeartbeats 2000000 in
theorem commit_good (w : World) (p : Nat) (T : Nat → Option Ro) (s : St) (N : Nat) (i : Nat) (now : Int) (h : IsS w p T s N) (hok : Ok s) (hi : i < 18446744073709551616) (hi2 : 65536 ≤ i) (ht : tickB now = true) (hN : N ≤ 2000000000000) :
    Calls Tryz.prog 43 #[.pointer (some ⟨p, 0, none⟩), .int .u64 ((i : Nat) : Int), .int .i64 now] w fun e w' => ∃ n : Nat, e = .returned (.tuple #[.int .i64 ((n : Nat) : Int), .int .i64 0]) ∧ Hid (CountOf s i n) ∧ IsS w' p T (commitS s i now) N ∧ Keeps (Mut T) w w' := by
  have h1 := isWrite_any w i hi
  have h2 := isTick_any w now
  rw [show decide (65536 ≤ i) = true by simpa using hi2] at h1
  rw [ht] at h2
  have hnow : 0 ≤ now := by simp [tickB] at ht; exact ht.1
  obtain ⟨y, hy⟩ := h
  have c2 := hy.c2
  have HH : Hid (SL w p T s N y ∧ Ok s ∧ i < 18446744073709551616 ∧ 65536 ≤ i ∧ 0 ≤ now ∧ N ≤ 2000000000000) := ⟨hy, hok, hi, hi2, hnow, hN⟩
  have HHAS : Hid (∀ X s', IsS X p T s' N → (∀ m, s'.V m ≠ none ↔ s.V m ≠ none) → Calls Tryz.prog 97 #[.pointer (some ⟨p, 0, none⟩), .int .u64 ((i : Nat) : Int)] X fun e w' => (∃ n : Nat, e = .returned (.int .i64 ((n : Nat) : Int)) ∧ Hid (CountOf s i n)) ∧ w' = X) := by
    intro X s' hX hs
    refine (hasN_any X p T s' N i hX hi).mono ?_
    rintro e w' ⟨⟨n, he, l, h1, h2, h3⟩, hw⟩
    exact ⟨⟨n, he, l, h1, h2, fun k => (h3 k).trans (hs _)⟩, hw⟩
  cases hf : fnd i y.W with
  | none =>
    have hl := lookW_none hy.mw hi hf
    have hnone : ∀ k, upB s i k = false := fun k => by
      unfold upB
      cases hv : s.V (k, i) with
      | none => rfl
      | some v =>
        obtain ⟨q, hq, _⟩ := (hy.sw i k).1 (by rw [hv]; simp)
        rw [hf] at hq; cases hq
    have HE : Hid (commitS s i now = s) := comD_none (fun k hk => by rw [hnone k] at hk; cases hk)
    have hrn := fun w => run_range_nilMap (P := Tryz.prog) w 173 9 210 Tryz.underlying173
    have hnn := fun w ty a b s => run_next_nilMap (P := Tryz.prog) w ty a b s
    clear hf hy hok hi hi2 ht hN hnow hnone
    go_enter Tryz.func43, Tryz.ntmps43
    go_wp2_with fail
    refine h1.mono ?_
    rintro e w1 ⟨rfl, hw⟩
    subst w1
    go_wp2_with fail
    refine h2.mono ?_
    rintro e w1 ⟨rfl, hw⟩
    subst w1
    go_wp2_with fail
    have HI : Hid (IsS (w.alloc (.mapIter none 0 #[] 0)) p T s N) := (show _ from ⟨y, HH.out.1.keeps ((Keeps.refl no w).alloc _) (fun _ _ => id)⟩)
    go_loopw [8] (fun _ wr => wr = w.alloc (.mapIter none 0 #[] 0)) (fun _ _ => 0)
    case atStart => rfl
    case round =>
      subst hrel
      have hhas := HHAS.out _ s HI.out (fun _ => Iff.rfl)
      go_wp2_with fail
      refine hhas.mono ?_
      rintro e w2 ⟨⟨n, rfl, hn⟩, hw⟩
      subst w2
      go_wp2_with fail
      go_ret2
      refine ⟨n, rfl, hn, ?_, (Keeps.refl _ w).alloc _⟩
      rw [HE.out]
      exact HI.out
  | some q =>
    obtain ⟨sb, l⟩ := q
    have hl := lookW_some hy.mw hi hf
    simp only at hl
    have hset := hy.set _ (fnd_mem hf)
    simp only at hset
    have htsb := hy.tst _ (fnd_mem hf)
    simp only at htsb
    have HSET : Hid (IsMp KT vvU w sb (setL l) ∧ T sb = some (.st i) ∧ ∀ k, k ∈ l ↔ s.V (k, i) ≠ none) := ⟨hset, htsb, fun k => by rw [hy.sw i k, hf]; simp⟩
    have hmap := hset
    clear hf hy hok hi hi2 ht hN hnow hset htsb
    go_enter Tryz.func43, Tryz.ntmps43
    go_wp2_with fail
    refine h1.mono ?_
    rintro e w1 ⟨rfl, hw⟩
    subst w1
    go_wp2_with fail
    refine h2.mono ?_
    rintro e w1 ⟨rfl, hw⟩
    subst w1
    go_wp2_with (first | (at_range; refine wpList_mrange rfl _ 173 rfl KT lawT vvU 210 Tryz.underlying173 sb (setL l) rfl hmap ?_; intro w0 hrg0 hk0 hs0) | go_in)
    go_frame
    have H0 : Hid (CI w p T s N i now sb w.heap.size l (fun k => (fnd k (setL l)).isSome) w0) := by
      refine ⟨?_, hrg0, hk0.of_no⟩
      have e : comD s i now (fun z => !(fnd z (setL l)).isSome) = s := comD_none (fun k hk => by
        have : k ∈ l := (HSET.out.2.2 k).2 (by unfold upB at hk; intro e; rw [e] at hk; cases hk)
        rw [fnd_setL_some this]; rfl)
      rw [e]
      exact ⟨y, HH.out.1.keeps hk0 (fun _ _ => id)⟩
    obtain ⟨r, hr⟩ : ∃ r, r = w.heap.size := ⟨_, rfl⟩
    rw [← hr] at H0 ⊢
    have HR : Hid (r = w.heap.size) := hr
    clear hrg0 hk0 hs0 hl hr hmap h1 h2
    go_loopw [8] (fun _ wr => ∃ lf : Tx → Bool, Hid (CI w p T s N i now sb r l lf wr)) (fun _ wr => wr.rangeLeft sb r)
    case atStart => exact ⟨_, H0⟩
    case round =>
      clear H0
      obtain ⟨lf, HC⟩ := hrel
      have hrg := HC.out.rg
      go_wp2_with (first | (at_next; refine wpList_mnext rfl _ rfl KT lawT vvU sb r (setL l) lf rfl hrg ?_ ?_) | go_in)
      · intro hdone
        have HE : Hid (IsS wr p T (commitS s i now) N ∧ Keeps (Mut T) w wr) := by
          refine ⟨?_, HC.out.kp⟩
          have e : comD s i now (fun z => !lf z) = commitS s i now := comD_congr fun k hk => by
            have hv : s.V (k, i) ≠ none := by unfold upB at hk; intro e; rw [e] at hk; cases hk
            have := hdone k (HH.out.1.okM hv).1
            simp [this]
          rw [← e]; exact HC.out.is
        have hhas := HHAS.out wr _ HE.out.1 (fun m => comD_iff m)
        clear hdone hrg
        go_wp2_with fail
        refine hhas.mono ?_
        rintro e w2 ⟨⟨n, rfl, hn⟩, hw⟩
        subst w2
        go_wp2_with fail
        go_ret2
        exact ⟨n, rfl, hn, HE.out⟩
      · intro k u w1 hok hlf hfk hrg1 hlt hk1 hs1 hen
        change (Instr.entry (.pointer (some ⟨r, 0, none⟩))).run Tryz.prog w1 = .ok (.tuple #[.string k, .agg #[]]) w1 at hen
        have hkl : k ∈ l := by
          have := fnd_mem hfk
          simp [setL] at this
          exact this
        have hv := (HSET.out.2.2 k).1 hkl
        obtain ⟨v, hv⟩ : ∃ v, s.V (k, i) = some v := by
          cases e : s.V (k, i) with
          | none => exact absurd e hv
          | some v => exact ⟨v, rfl⟩
        have his : IsS w1 p T (comD s i now (fun z => !lf z)) N := HC.out.is.keeps hk1 (fun b hb e => by
          have e' : b = r := e
          have h1 := HH.out.1.lt b hb
          have h2 := HR.out
          omega)
        obtain ⟨y1, hy1⟩ := his
        have hlast : (comD s i now (fun z => !lf z)).last k = s.last k := by simp [comD, hlf]
        obtain ⟨x, hx⟩ := hy1.hv k i ((comD_iff _).2 (by rw [hv]; simp))
        have hsl := hy1.sl k
        rw [hlast] at hsl
        simp only [lastOf, hx] at hsl
        have c1 := hy1.c1
        have hlk := lookL_some hy1.ml hok hx
        have d0 : w1.cell? ⟨x.p, 0, none⟩ = some (.int .u64 ((s.last k : Nat) : Int)) := by rw [hsl]; exact cell_of_blk (hy1.line _ (fnd_mem hx)).blk 0
        have K1 : Hid (IsS w1 p T (comD s i now (fun z => !lf z)) N ∧ Rng KT vvU w1 sb r (setL l) (fun z => lf z && !decide (z = k)) ∧ w1.rangeLeft sb r < wr.rangeLeft sb r ∧ Keeps (Mut T) w w1 ∧ s.V (k, i) = some v ∧ lf k = true) := ⟨⟨y1, hy1⟩, hrg1, hlt, HC.out.kp.then hk1 (fun b hb => .inr (by have : b = r := hb; have := HR.out; omega)), hv, hlf⟩
        have hlf2 : (fun z => !(lf z && !decide (z = k))) = (fun z => (!lf z) || decide (z = k)) := by
          funext z
          by_cases e : z = k <;> simp [e]
        have HLF : Hid ((fun z => !(lf z && !decide (z = k))) = (fun z => (!lf z) || decide (z = k))) := hlf2
        clear hrg hok hlf hfk hrg1 hlt hk1 hs1 hkl hv hy1 hlast hx hsl hlf2
        by_cases hup : s.last k < i
        · have hup' : ((s.last k : Nat) : Int) < i := by omega
          have hst : v.stamp = -1 := (HH.out.2.1.st (k, i) v K1.out.2.2.2.2.1).2 (by simp only; omega)
          have hubt : upB s i k = true := by unfold upB; rw [K1.out.2.2.2.2.1]; simp [hup]
          have hra := raise_any w1 p T _ N k i now v K1.out.1 (by simp [comD, K1.out.2.2.2.2.1, K1.out.2.2.2.2.2]) hst HH.out.2.2.2.2.1 HH.out.2.2.2.2.2
          rw [comD_raise (by simp [K1.out.2.2.2.2.2]) hubt] at hra
          clear hst hubt hup
          go_wp2_with fail
          refine hra.mono ?_
          rintro e w2 ⟨rfl, hi2, hk2⟩
          have hnr : ∀ b, (b = sb ∨ b = r) → ¬ RaT T k b := fun b hb hc => by
            rcases hb with e | e
            · rw [e] at hc
              have := HSET.out.2.1
              rcases hc with hc | hc | hc <;> rw [this] at hc <;> cases hc
            · have := HH.out.1.lt b hc.ne
              have := HR.out
              omega
          have HE : Hid (CI w p T s N i now sb r l (fun z => lf z && !decide (z = k)) w2 ∧ w2.rangeLeft sb r < wr.rangeLeft sb r) := by
            refine ⟨⟨by rw [HLF.out]; exact hi2, K1.out.2.1.keeps hk2 (hnr sb (.inl rfl)) (hnr r (.inr rfl)), K1.out.2.2.2.1.trans (hk2.mono fun b hb => hb.mut)⟩, ?_⟩
            rw [K1.out.2.1.left_keeps hk2 (hnr sb (.inl rfl)) (hnr r (.inr rfl))]
            exact K1.out.2.2.1
          clear hi2 hk2 hnr hra
          go_wp2_with fail
          go_roundw
          case rel => exact ⟨_, HE.out.1⟩
          case measure => exact HE.out.2
        · have hup' : ¬ ((s.last k : Nat) : Int) < i := by omega
          have HE : Hid (CI w p T s N i now sb r l (fun z => lf z && !decide (z = k)) w1) := by
            refine ⟨?_, K1.out.2.1, K1.out.2.2.2.1⟩
            rw [HLF.out, ← comD_skip (by unfold upB; simp [hup])]
            exact K1.out.1
          clear hup
          go_wp2_with fail
          go_roundw
          case rel => exact ⟨_, HE⟩
          case measure => exact K1.out.2.2.1
end Go.Proofs.YtdemoghlibnooaaGreatDoor
namespace Go.Proofs.YtdemoghlibnooaaGreatDoor
open Go.RowKit Go.Maps
set_option linter.unusedVariables false
set_option linter.unusedSimpArgs false
end Go.Proofs.YtdemoghlibnooaaGreatDoor
namespace Go.Proofs.YtdemoghlibnooaaGreatDoor
open Go.RowKit Go.Maps Go.Sort Orl
set_option linter.unusedVariables false
set_option linter.unusedSimpArgs false
theorem ok_new : Ok St.new := ⟨⟨(fun m v h => by cases h), (fun m v h => by cases h)⟩, (fun m v h => by cases h), fun k h => absurd rfl h⟩
theorem tick_iff {t : Int} : tickB t = true ↔ 0 ≤ t ∧ t ≤ 1099511627776 := by simp [tickB]
theorem ok_put1 {s : St} (h : Ok s) {i : Nat} {keys : List Tx} {now : Int} {p : Pr} (hi : 65536 ≤ i ∧ i < 18446744073709551616) (hk : okKeys keys = true) (hp : p.2.size ≤ 65535 ∧ p.1 ∈ keys) (ht : tickB now = true) : Ok (put1 i keys now s p) := by
  have hV : ∀ m, (put1 i keys now s p).V m = if m = (p.1, i) then some ⟨p.2, keys, stampOf s i now p.1⟩ else s.V m := fun _ => rfl
  have hL : (put1 i keys now s p).last = s.last := rfl
  refine ⟨⟨fun m v hv => ?_, fun m v hv => ?_⟩, fun m v hv => ?_, fun k hk' => ?_⟩
  · rw [hV] at hv
    split at hv
    · rename_i e; subst e; injection hv with hv; subst hv
      exact ⟨hk, hp.2, hp.1⟩
    · exact h.v.keys m v hv
  · rw [hV] at hv
    split at hv
    · rename_i e; subst e; exact hi
    · exact h.v.id m v hv
  · rw [hL]
    rw [hV] at hv
    split at hv
    · rename_i e; subst e; injection hv with hv; subst hv
      simp only [stampOf]
      rw [tick_iff] at ht
      constructor
      · intro hl; rw [if_pos hl]; exact ht
      · intro hl; rw [if_neg hl]
    · exact h.st m v hv
  · rw [hV]
    rw [hL] at hk' ⊢
    split
    · simp
    · exact h.la k hk'
theorem ok_putAll {i : Nat} {keys : List Tx} {now : Int} (hi : 65536 ≤ i ∧ i < 18446744073709551616) (hk : okKeys keys = true) (ht : tickB now = true) : ∀ {ps : List Pr} {s : St}, Ok s → (∀ p ∈ ps, p.2.size ≤ 65535 ∧ p.1 ∈ keys) → Ok (putAll i keys now s ps)
  | [], s, h, _ => h
  | p :: r, s, h, hp => by
    show Ok (putAll i keys now (put1 i keys now s p) r)
    exact ok_putAll hi hk ht (ok_put1 h hi hk (hp p (by simp)) ht) (fun q hq => hp q (by simp [hq]))
theorem okPut_iff {i : Nat} {ps : List Pr} {keys : List Tx} {now : Int} : okPut i ps keys now = true ↔ 65536 ≤ i ∧ okKeys keys = true ∧ okPairs ps keys = true ∧ tickB now = true := by
  simp [okPut]
theorem ok_put {s : St} (h : Ok s) {i : Nat} {ps : List Pr} {keys : List Tx} {now : Int} (hi : i < 18446744073709551616) (ho : okPut i ps keys now = true) : Ok (putAll i keys now s (miss s i ps)) := by
  obtain ⟨h1, h2, h3, h4⟩ := okPut_iff.1 ho
  exact ok_putAll ⟨h1, hi⟩ h2 h4 h (fun p hp => (okPairs_iff.1 h3).1 p (List.mem_filter.1 hp |>.1))
theorem com_V (s : St) (i : Nat) (now : Int) (m : Mk) : (commitS s i now).V m = if upB s i m.1 = true ∧ m.2 < i then (s.V m).map (stamped now) else s.V m := by simp [commitS, comD]
theorem com_last (s : St) (i : Nat) (now : Int) (k : Tx) : (commitS s i now).last k = if upB s i k = true then i else s.last k := by simp [commitS, comD]
theorem upB_iff {s : St} {i : Nat} {k : Tx} : upB s i k = true ↔ s.V (k, i) ≠ none ∧ s.last k < i := by
  unfold upB
  cases s.V (k, i) <;> simp
theorem stamped_keys (now : Int) (v : Vr) : (stamped now v).keys = v.keys ∧ (stamped now v).val = v.val := by
  unfold stamped
  split <;> exact ⟨rfl, rfl⟩
theorem com_some {s : St} {i : Nat} {now : Int} {m : Mk} {v : Vr} (h : (commitS s i now).V m = some v) : ∃ u, s.V m = some u ∧ v.keys = u.keys ∧ v.val = u.val ∧ (v.stamp = u.stamp ∨ (u.stamp = -1 ∧ v.stamp = now)) := by
  rw [com_V] at h
  split at h
  · cases hu : s.V m with
    | none => rw [hu] at h; cases h
    | some u =>
      rw [hu] at h
      injection h with h
      subst h
      refine ⟨u, rfl, (stamped_keys now u).1, (stamped_keys now u).2, ?_⟩
      unfold stamped
      split
      · rename_i e; exact .inr ⟨e, rfl⟩
      · exact .inl rfl
  · exact ⟨v, h, rfl, rfl, .inl rfl⟩
theorem ok_commit {s : St} (h : Ok s) {i : Nat} {now : Int} (ht : tickB now = true) : Ok (commitS s i now) := by
  rw [tick_iff] at ht
  refine ⟨⟨fun m v hv => ?_, fun m v hv => ?_⟩, fun m v hv => ?_, fun k hk => ?_⟩
  · obtain ⟨u, hu, h1, h2, _⟩ := com_some hv
    rw [h1, h2]; exact h.v.keys m u hu
  · obtain ⟨u, hu, _⟩ := com_some hv
    exact h.v.id m u hu
  · rw [com_last]
    rw [com_V] at hv
    by_cases hu : upB s i m.1 = true
    · rw [if_pos hu]
      obtain ⟨h1, h2⟩ := upB_iff.1 hu
      by_cases hm : m.2 < i
      · rw [if_pos ⟨hu, hm⟩] at hv
        refine ⟨fun _ => ?_, fun hc => absurd hm hc⟩
        cases hx : s.V m with
        | none => rw [hx] at hv; cases hv
        | some u =>
          rw [hx] at hv; injection hv with hv; subst hv
          unfold stamped
          split
          · exact ht
          · rename_i hne
            have := h.st m u hx
            by_cases hl : m.2 < s.last m.1
            · exact this.1 hl
            · exact absurd (this.2 hl) hne
      · rw [if_neg (fun e => hm e.2)] at hv
        exact ⟨fun hc => absurd hc hm, fun _ => (h.st m v hv).2 (by omega)⟩
    · rw [if_neg hu]
      rw [if_neg (fun e => hu e.1)] at hv
      exact h.st m v hv
  · rw [com_last] at hk ⊢
    rw [com_V]
    by_cases hu : upB s i k = true
    · rw [if_pos hu, if_neg (fun e => Nat.lt_irrefl _ e.2)]
      exact (upB_iff.1 hu).1
    · rw [if_neg hu] at hk ⊢
      rw [if_neg (fun e => hu e.1)]
      exact h.la k hk
structure Ows (w0 w : World) (p : Nat) (T : Nat → Option Ro) (s : St) (N : Nat) : Prop where
  is : IsS w p T s N
  ok : Ok s
  new : ∀ b, T b ≠ none → w0.heap.size ≤ b
  keep : Keeps no w0 w
theorem Ows.go {w0 w w' : World} {p : Nat} {T : Nat → Option Ro} {s : St} {N : Nat} (h : Ows w0 w p T s N) (hk : Keeps no w w') : Ows w0 w' p T s N :=
  ⟨h.is.keepsN hk, h.ok, h.new, h.keep.trans hk⟩
theorem own_new (w : World) : Calls Tryz.prog 8 #[] w fun e w' => ∃ p, e = .returned (.pointer (some ⟨p, 0, none⟩)) ∧ Hid (∃ T, Ows w w' p T St.new 0) := by
  refine (new_any w).mono ?_
  rintro e w' ⟨p, T, he, hI, hT, hk⟩
  exact ⟨p, he, T, hI, ok_new, hT, hk⟩
end Go.Proofs.YtdemoghlibnooaaGreatDoor
