import Derived.Test.YtagekdmkidbhpaaC9
/- Drop. -/
namespace Go.Proofs.Ytagekdmkidbhpaa
open Go.RowKit Go.Maps
set_option linter.unusedVariables false
set_option linter.unusedSimpArgs false
def dropS (s : St) (m : Mk) : St := { s with V := fun z => if z = m then none else s.V z }
theorem IsMp.dele {κ β : Type} [DecidableEq κ] {K : Kk κ} {V : β → Value} {w : World} {b : Nat} {L : List (κ × β)} (h : IsMp K V w b L) (hK : K.Law) {t e : TypeId} (ht : Try.prog.underlying t = some (.map K.t e)) {k : κ} (hk : K.ok k) (ty : TypeId) :
    ∃ w1, (Builtin.delete_ #[t, K.t] ty #[.map (some b), K.val k]).run Try.prog w = .ok (.tuple #[]) w1 ∧ IsMp K V w1 b (del k L) ∧ Keeps (fun i => i = b) w w1 := by
  obtain ⟨w1, hr, h1, ht1⟩ := h.own.drop hK.keyed ht (hK.key k hk) ty
  rw [dat_del hK h.ko h.nk hk] at h1
  exact ⟨w1, hr, isMp_of (nk_del h.nk) (fun p hp => h.ko p (mem_del.1 hp).1) h1, keeps_of_grown ht1.grown⟩
theorem delV {w : World} {b : Nat} {L : List (Mk × MV)} (h : IsMp KM vvV w b L) {k : Tx} {i : Nat} (hk : KM.ok (k, i)) :
    ∃ w1, (Builtin.delete_ #[73, 87] 0 #[.map (some b), .agg #[.string k, .int .u64 ((i : Nat) : Int)]]).run Try.prog w = .ok (.tuple #[]) w1 ∧ IsMp KM vvV w1 b (del (k, i) L) ∧ Keeps (fun i => i = b) w w1 :=
  h.dele lawM (t := 73) (e := 90) Try.underlying73 (k := (k, i)) hk 0
theorem delW {w : World} {b : Nat} {L : List (Nat × (Nat × List Tx))} (h : IsMp KI vvW w b L) {i : Nat} (hk : i < 18446744073709551616) :
    ∃ w1, (Builtin.delete_ #[75, 35] 0 #[.map (some b), .int .u64 ((i : Nat) : Int)]).run Try.prog w = .ok (.tuple #[]) w1 ∧ IsMp KI vvW w1 b (del i L) ∧ Keeps (fun i => i = b) w w1 :=
  h.dele lawI (t := 75) (e := 92) Try.underlying75 (k := i) hk 0
def less (l : List Tx) (k : Tx) : List Tx := l.filter fun z => decide (z ≠ k)
theorem delS {w : World} {b : Nat} {l : List Tx} (h : IsMp KT vvU w b (setL l)) {k : Tx} (hk : k.size ≤ maxLen) :
    ∃ w1, (Builtin.delete_ #[92, 9] 0 #[.map (some b), .string k]).run Try.prog w = .ok (.tuple #[]) w1 ∧ IsMp KT vvU w1 b (setL (less l k)) ∧ Keeps (fun i => i = b) w w1 := by
  obtain ⟨w1, h1, h2, h3⟩ := h.dele lawT (t := 92) (e := 113) Try.underlying92 (k := k) hk 0
  refine ⟨w1, h1, ?_, h3⟩
  have e : del k (setL l) = setL (less l k) := by
    unfold del setL less
    rw [List.filter_map]
    rfl
  rw [← e]; exact h2
/-- a version less -/
theorem SL.drop {w w' : World} {p : Nat} {T : Nat → Option Ro} {s : St} {N : Nat} {y : Lay} (h : SL w p T s N y) {k : Tx} {i : Nat} {v : Vr} (hv : s.V (k, i) = some v) (hs : v.stamp ≠ -1) (hj : ∃ j, j ≠ i ∧ s.V (k, j) ≠ none) {sb : Nat} {l : List Tx} (hW : fnd i y.W = some (sb, l)) {W' : List (Nat × (Nat × List Tx))}
    (hWe : (less l k = [] ∧ W' = del i y.W) ∨ (less l k ≠ [] ∧ W' = put i (sb, less l k) y.W))
    (mv' : IsMp KM vvV w' y.vm (del (k, i) y.V)) (mw' : IsMp KI vvW w' y.wm W') (set' : IsMp KT vvU w' sb (setL (less l k))) (hk : Keeps (fun b => b = y.vm ∨ b = y.wm ∨ b = sb) w w') :
    SL w' p T (dropS s (k, i)) N ⟨y.vm, y.lm, y.wm, del (k, i) y.V, y.L, W'⟩ := by
  have htsb := h.tst _ (fnd_mem hW)
  have hno : ∀ {b r}, T b = some r → r ≠ .vm → r ≠ .wm → r ≠ .st i → ¬ (b = y.vm ∨ b = y.wm ∨ b = sb) := by
    intro b r hb h1 h2 h3 hc
    rcases hc with e | e | e
    · exact tag_ne hb h.tv h1 e
    · exact tag_ne hb h.tw h2 e
    · exact tag_ne hb htsb h3 e
  have hin : ∀ q ∈ W', (q.1 ≠ i ∧ q ∈ y.W) ∨ (q = (i, (sb, less l k)) ∧ less l k ≠ []) := fun q hq => by
    rcases hWe with ⟨_, e⟩ | ⟨hne, e⟩
    · rw [e] at hq
      exact .inl ⟨(mem_del.1 hq).2, (mem_del.1 hq).1⟩
    · rw [e] at hq
      rcases mem_put.1 hq with hq | hq
      · exact .inr ⟨hq, hne⟩
      · exact .inl ⟨hq.2, hq.1⟩
  have hVm : ∀ m, (dropS s (k, i)).V m = if m = (k, i) then none else s.V m := fun m => rfl
  refine { blk := hk.at h.blk (hno h.tp (by simp) (by simp) (by simp)), mv := mv', ml := h.ml.keeps hk (hno h.tl (by simp) (by simp) (by simp)), mw := mw', line := ?_, set := ?_, key := ?_, tp := h.tp, tv := h.tv, tl := h.tl, tw := h.tw, tln := h.tln, tst := ?_, lt := fun b hb => Nat.lt_of_lt_of_le (h.lt b hb) hk.size, sv := ?_, sl := h.sl, hv := ?_, fr := ?_, sw := ?_, wn := ?_, la := h.la, lv := ?_, nv := Nat.le_trans (length_del_le _ _) h.nv, nl := h.nl, nw := ?_, ns := ?_, nf := h.nf }
  · intro q hq
    exact (h.line q hq).keeps hk (hno (h.tln q hq).1 (by simp) (by simp) (by simp)) (fun b hb => hno ((h.tln q hq).2 b hb) (by simp) (by simp) (by simp))
  · intro q hq
    rcases hin q hq with ⟨hne, hq⟩ | ⟨rfl, _⟩
    · exact (h.set q hq).keeps hk (hno (h.tst q hq) (by simp) (by simp) (by simp [hne]))
    · exact set'
  · intro q hq
    have hq' := (mem_del.1 hq).1
    exact ⟨(h.key q hq').1.keeps hk (fun b hb => hno ((h.key q hq').2 b hb) (by simp) (by simp) (by simp)), (h.key q hq').2⟩
  · intro q hq
    rcases hin q hq with ⟨hne, hq⟩ | ⟨rfl, _⟩
    · exact h.tst q hq
    · exact htsb
  · intro m
    rw [hVm, fnd_del]
    split
    · rfl
    · exact h.sv m
  · intro z j hz
    refine h.hv z j ?_
    rw [hVm] at hz
    split at hz
    · exact absurd rfl hz
    · exact hz
  · intro q hq
    obtain ⟨a, b, c⟩ := h.fr q hq
    refine ⟨a, b, fun j => ?_⟩
    rw [c j, hVm]
    by_cases e : (q.1, j) = (k, i)
    · rw [if_pos e, e, hv]
      constructor
      · rintro ⟨u, hu, hus⟩; cases hu; exact absurd hus hs
      · rintro ⟨u, hu, _⟩; cases hu
    · rw [if_neg e]
  · intro j z
    rw [hVm]
    by_cases ej : j = i
    · subst ej
      have hold := h.sw j z
      rw [hW] at hold
      simp only [Option.some.injEq, exists_eq_left'] at hold
      rcases hWe with ⟨he, e⟩ | ⟨hne, e⟩
      · rw [e, fnd_del, if_pos rfl]
        constructor
        · intro hz
          exfalso
          by_cases ez : z = k
          · subst ez; rw [if_pos rfl] at hz; exact hz rfl
          · rw [if_neg (fun ee => ez (by injection ee))] at hz
            have : z ∈ less l k := List.mem_filter.2 ⟨hold.1 hz, by simpa using ez⟩
            rw [he] at this; cases this
        · rintro ⟨x, hx, _⟩; cases hx
      · rw [e, fnd_put, if_pos rfl]
        simp only [Option.some.injEq, exists_eq_left']
        by_cases ez : z = k
        · subst ez
          rw [if_pos rfl]
          simp [less]
        · rw [if_neg (fun ee => ez (by injection ee)), hold]
          simp [less, ez]
    · rw [if_neg (fun ee => ej (by injection ee)), h.sw j z]
      rcases hWe with ⟨_, e⟩ | ⟨_, e⟩
      · rw [e, fnd_del, if_neg ej]
      · rw [e, fnd_put, if_neg ej]
  · intro q hq
    rcases hin q hq with ⟨hne, hq⟩ | ⟨rfl, hne⟩
    · exact h.wn q hq
    · exact hne
  · intro q hq
    obtain ⟨j, hj1⟩ := h.lv q hq
    by_cases e : (q.1, j) = (k, i)
    · injection e with e1 e2
      obtain ⟨j', hj', hv'⟩ := hj
      refine ⟨j', ?_⟩
      rw [hVm, if_neg (fun ee => hj' (by injection ee)), e1]
      exact hv'
    · refine ⟨j, ?_⟩
      rw [hVm, if_neg e]
      exact hj1
  · rcases hWe with ⟨_, e⟩ | ⟨_, e⟩
    · show W'.length ≤ N
      rw [e]; exact Nat.le_trans (length_del_le _ _) h.nw
    · show W'.length ≤ N
      rw [e, length_put_some h.mw.nk hW]; exact h.nw
  · intro q hq
    rcases hin q hq with ⟨hne, hq⟩ | ⟨rfl, hne⟩
    · exact h.ns q hq
    · exact Nat.le_trans (List.length_filter_le _ _) (h.ns _ (fnd_mem hW))
theorem field2 (a b c : Value) (w : World) : (Instr.field 90 (.agg #[a, b, c]) 2).run Try.prog w = .ok c w := by kernel_rfl
theorem drop_none (w : World) (p : Nat) (T : Nat → Option Ro) (s : St) (N : Nat) (k : Tx) (i : Nat) (h : IsS w p T s N) (hm : KM.ok (k, i)) (hv : s.V (k, i) = none) :
    Calls Try.prog 23 #[.pointer (some ⟨p, 0, none⟩), .string k, .int .u64 ((i : Nat) : Int)] w fun e w' => e = .returned (.int .i64 110) ∧ Keeps no w w' := by
  have hc := has_any _ p T s N (k, i) (h.keepsN ((Keeps.refl no w).alloc (.cells #[.string k, .int .u64 ((i : Nat) : Int)] 87))) hm
  rw [hv] at hc
  simp only at hc
  clear h hm hv
  go_enter Try.func23, Try.ntmps23
  go_wp2_with fail
  refine hc.mono ?_
  rintro e w1 ⟨rfl, hk1⟩
  go_wp2_with fail
  go_ret
  exact ⟨rfl, ((Keeps.refl no w).alloc _).trans hk1⟩
set_option maxRecDepth 10000 in
set_option maxHeartbeats 1000000 in
theorem drop_some (w : World) (p : Nat) (T : Nat → Option Ro) (s : St) (N : Nat) (k : Tx) (i : Nat) (v : Vr) (h : IsS w p T s N) (hv : s.V (k, i) = some v) (hj : v.stamp ≠ -1 → ∃ j, j ≠ i ∧ s.V (k, j) ≠ none) :
    Calls Try.prog 23 #[.pointer (some ⟨p, 0, none⟩), .string k, .int .u64 ((i : Nat) : Int)] w fun e w' => (v.stamp = -1 → e = .returned (.int .i64 1) ∧ Keeps no w w') ∧ (v.stamp ≠ -1 → e = .returned (.int .i64 0) ∧ IsS w' p T (dropS s (k, i)) N ∧ Keeps (Mut T) w w') := by
  obtain ⟨y, hy⟩ := h
  have hm := hy.okM (m := (k, i)) (by rw [hv]; simp)
  have HJ : Hid (v.stamp ≠ -1 → ∃ j, j ≠ i ∧ s.V (k, j) ≠ none) := hj
  clear hj
  have hc := has_any _ p T s N (k, i) (show IsS (w.alloc (.cells #[.string k, .int .u64 ((i : Nat) : Int)] 87)) p T s N from ⟨y, hy.keeps ((Keeps.refl no w).alloc _) (fun _ _ => id)⟩) hm
  rw [hv] at hc
  simp only at hc
  have hsv := hy.sv (k, i)
  rw [hv] at hsv
  obtain ⟨mv, hmv⟩ : ∃ mv, fnd (k, i) y.V = some mv := by
    cases e : fnd (k, i) y.V with
    | none => rw [e] at hsv; cases hsv
    | some mv => exact ⟨mv, rfl⟩
  rw [hmv] at hsv
  have hvm : v = mv.vr := by simpa using hsv
  obtain ⟨q, hq, hkq⟩ := (hy.sw i k).1 (by rw [hv]; simp)
  obtain ⟨sb, l⟩ := q
  obtain ⟨W, hW⟩ : ∃ W, W = w.alloc (.cells #[.string k, .int .u64 ((i : Nat) : Int)] 87) := ⟨_, rfl⟩
  have hbm : W.heap[w.heap.size]? = some (.cells #[.string k, .int .u64 ((i : Nat) : Int)] 87 (0, 0)) := by rw [hW]; exact blk_new w _
  have HW : Hid (Keeps no w W ∧ W.heap[w.heap.size]? = some (.cells #[.string k, .int .u64 ((i : Nat) : Int)] 87 (0, 0))) := ⟨by rw [hW]; exact (Keeps.refl no w).alloc _, hbm⟩
  have HY : Hid (SL w p T s N y ∧ s.V (k, i) = some v ∧ KM.ok (k, i) ∧ fnd (k, i) y.V = some mv ∧ v = mv.vr ∧ fnd i y.W = some (sb, l)) := ⟨hy, hv, hm, hmv, hvm, hq⟩
  obtain ⟨B, hB⟩ : ∃ B, B = w.heap.size := ⟨_, rfl⟩
  have HB : Hid (B = w.heap.size) := hB
  rw [hW] at HW
  rw [← hB] at HW
  have hBw := hB.symm
  clear hy hm hsv hmv hvm hq hkq hW hbm hv hB
  go_enter Try.func23, Try.ntmps23
  go_wp2_with fail
  refine hc.mono ?_
  rintro e w1 ⟨rfl, hk1⟩
  have K1 : Hid (Keeps no w w1 ∧ w1.heap[B]? = some (.cells #[.string k, .int .u64 ((i : Nat) : Int)] 87 (0, 0))) := ⟨HW.out.1.trans hk1, hk1.at HW.out.2 id⟩
  have b0 := cell_of_blk K1.out.2 0
  have b1 := cell_of_blk K1.out.2 1
  clear hk1 hc HW
  obtain ⟨n, hn⟩ : ∃ n, n = mv.keys.length := ⟨_, rfl⟩
  have HN : Hid (n = mv.keys.length) := hn
  have HS4 : Hid (∀ X, Keeps no w1 X → X.cell? ⟨p, 0, none⟩ = some (.map (some y.vm)) ∧ X.cell? ⟨B, 0, none⟩ = some (.string k) ∧ X.cell? ⟨B, 1, none⟩ = some (.int .u64 ((i : Nat) : Int)) ∧ (Instr.lookup 73 (.map (some y.vm)) (.agg #[.string k, .int .u64 ((i : Nat) : Int)]) false).run Try.prog X = .ok (.agg #[.string mv.val, .slice mv.o n mv.c, .int .i64 mv.stamp]) X) := fun X hX =>
    ⟨(K1.out.1.trans hX).cellN HY.out.1.c0, hX.cellN b0, hX.cellN b1, by rw [hn]; exact lookV_some (HY.out.1.mv.keepsN (K1.out.1.trans hX)) HY.out.2.2.1 HY.out.2.2.2.1⟩
  have hfd := fun w => field2 (.string mv.val) (.slice mv.o n mv.c) (.int .i64 mv.stamp) w
  clear hn
  go_upto_region 4 with fail
  go_region_held3 (fun X => X.cell? ⟨p, 0, none⟩ = some (.map (some y.vm)) ∧ X.cell? ⟨B, 0, none⟩ = some (.string k) ∧ X.cell? ⟨B, 1, none⟩ = some (.int .u64 ((i : Nat) : Int)) ∧ (Instr.lookup 73 (.map (some y.vm)) (.agg #[.string k, .int .u64 ((i : Nat) : Int)]) false).run Try.prog X = .ok (.agg #[.string mv.val, .slice mv.o n mv.c, .int .i64 mv.stamp]) X) (first | exact HS4.out _ ((Keeps.refl no w1).drew) | exact HS4.out _ (Keeps.refl no w1)) (fail)
  rename _ ∧ _ => hh
  clear hh
  have hst : v.stamp = mv.stamp := by rw [HY.out.2.2.2.2.1]; rfl
  have HST : Hid (v.stamp = mv.stamp) := hst
  generalize hw2 : w1.drew = w2
  have K2 : Hid (Keeps no w1 w2) := (show _ by rw [← hw2]; exact (Keeps.refl no w1).drew)
  clear hw2 hst
  by_cases es : mv.stamp = -1
  · have es' : (mv.stamp == -1) = true := by simp [es]
    go_wp2_with fail
    go_ret
    exact ⟨fun _ => ⟨rfl, K1.out.1.trans K2.out⟩, fun hc => absurd (HST.out.trans es) hc⟩
  have es' : (mv.stamp == -1) = false := by simp [es]
  have HES : Hid (v.stamp ≠ -1) := (show _ ≠ _ by rw [HST.out]; exact es)
  clear es
  -- the deletes
  obtain ⟨w3, hr3, hv3, hk3⟩ := delV ((HY.out.1.mv.keepsN (K1.out.1.trans K2.out)).keepsN (Keeps.refl no w2).drew) HY.out.2.2.1
  have ne1 : y.vm ≠ y.wm := tag_ne HY.out.1.tv HY.out.1.tw (by simp)
  have htsb := HY.out.1.tst _ (fnd_mem HY.out.2.2.2.2.2)
  simp only at htsb
  have ne2 : sb ≠ y.vm := tag_ne htsb HY.out.1.tv (by simp)
  have ne3 : sb ≠ y.wm := tag_ne htsb HY.out.1.tw (by simp)
  have K3 : Hid (Keeps (fun b => b = y.vm) w w3) := (show _ from ((K1.out.1.trans K2.out).drew.of_no).trans hk3)
  have nep : p ≠ y.vm := tag_ne HY.out.1.tp HY.out.1.tv (by simp)
  have nep2 : p ≠ sb := tag_ne HY.out.1.tp htsb (by simp)
  have hw3 : IsMp KI vvW w3 y.wm y.W := HY.out.1.mw.keeps K3.out (fun e => ne1 e.symm)
  have hs3 : IsMp KT vvU w3 sb (setL l) := (HY.out.1.set _ (fnd_mem HY.out.2.2.2.2.2)).keeps K3.out ne2
  have hl3 := lookW_some hw3 HY.out.2.2.1.2 HY.out.2.2.2.2.2
  simp only at hl3
  obtain ⟨w4, hr4, hs4, hk4⟩ := delS hs3 HY.out.2.2.1.1
  have hw4 : IsMp KI vvW w4 y.wm y.W := hw3.keeps hk4 (fun e => ne3 e.symm)
  have hl4 := lookW_some hw4 HY.out.2.2.1.2 HY.out.2.2.2.2.2
  simp only at hl4
  have hlen := fun ty => hs4.len (t := 92) (e := 113) Try.underlying92 ty
  rw [show (setL (less l k)).length = (less l k).length by simp [setL]] at hlen
  obtain ⟨m, hm⟩ : ∃ m, m = (less l k).length := ⟨_, rfl⟩
  rw [← hm] at hlen
  have K4 : Hid (Keeps (fun b => b = y.vm ∨ b = sb) w w4) := (show _ from (K3.out.mono fun b hb => .inl hb).trans (hk4.mono fun b hb => .inr hb))
  have c3 : w3.cell? ⟨p, 2, none⟩ = some (.map (some y.wm)) := K3.out.cell HY.out.1.c2 nep
  have c4 : w4.cell? ⟨p, 2, none⟩ = some (.map (some y.wm)) := hk4.cell c3 nep2
  have HV4 : Hid (IsMp KM vvV w4 y.vm (del (k, i) y.V) ∧ IsMp KI vvW w4 y.wm y.W ∧ IsMp KT vvU w4 sb (setL (less l k))) := ⟨hv3.keeps hk4 (fun e => ne2 e.symm), hw4, hs4⟩
  have HNE : Hid (y.vm ≠ y.wm ∧ sb ≠ y.wm ∧ T sb = some (.st i)) := ⟨ne1, ne3, htsb⟩
  have hmut : ∀ b, (b = y.vm ∨ b = y.wm ∨ b = sb) → Mut T b := fun b hb => by
    rcases hb with e | e | e <;> rw [e]
    · exact ⟨by rw [HY.out.1.tv]; simp, by rw [HY.out.1.tv]; simp⟩
    · exact ⟨by rw [HY.out.1.tw]; simp, by rw [HY.out.1.tw]; simp⟩
    · exact ⟨by rw [HNE.out.2.2]; simp, by rw [HNE.out.2.2]; simp⟩
  have HMT : Hid (∀ b, (b = y.vm ∨ b = y.wm ∨ b = sb) → Mut T b) := hmut
  have nBv : B ≠ y.vm := fun e => by have := HY.out.1.mv.lt; have := HB.out; omega
  have HS6 : Hid (∀ X, Keeps (fun b => b = y.vm) w2 X → X.cell? ⟨p, 0, none⟩ = some (.map (some y.vm)) ∧ X.cell? ⟨B, 0, none⟩ = some (.string k) ∧ X.cell? ⟨B, 1, none⟩ = some (.int .u64 ((i : Nat) : Int))) := fun X hX =>
    ⟨hX.cell ((K1.out.1.trans K2.out).cellN HY.out.1.c0) nep, hX.cell (K2.out.cellN b0) nBv, hX.cell (K2.out.cellN b1) nBv⟩
  have K32 : Hid (Keeps (fun b => b = y.vm) w2 w3) := (Keeps.refl _ w2).drew.trans hk3
  clear ne1 ne2 ne3 htsb nep nep2 hw3 hs3 hw4 hs4 hk4 hk3 hv3 hmut nBv HS4 b0 b1
  go_upto_region 6 with fail
  go_region_held3 (fun X => X.cell? ⟨p, 0, none⟩ = some (.map (some y.vm)) ∧ X.cell? ⟨B, 0, none⟩ = some (.string k) ∧ X.cell? ⟨B, 1, none⟩ = some (.int .u64 ((i : Nat) : Int))) (first | exact HS6.out _ K32.out | exact HS6.out _ ((Keeps.refl _ w2).drew) | exact HS6.out _ (Keeps.refl _ w2)) (fail)
  rename _ ∧ _ => hh
  clear hh
  by_cases em : m = 0
  · have HEm : Hid (less l k = []) := List.length_eq_zero_iff.1 (by rw [← hm, em])
    subst em
    obtain ⟨w5, hr5, hw5, hk5⟩ := delW HV4.out.2.1 HY.out.2.2.1.2
    have HE : Hid (IsS w5 p T (dropS s (k, i)) N ∧ Keeps (Mut T) w w5) := by
      have hkk : Keeps (fun b => b = y.vm ∨ b = y.wm ∨ b = sb) w w5 := (K4.out.mono fun b hb => by rcases hb with h | h; exact .inl h; exact .inr (.inr h)).trans (hk5.mono fun b hb => .inr (.inl hb))
      exact ⟨⟨_, HY.out.1.drop HY.out.2.1 HES.out (HJ.out HES.out) HY.out.2.2.2.2.2 (.inl ⟨HEm.out, rfl⟩) (HV4.out.1.keeps hk5 HNE.out.1) hw5 (HV4.out.2.2.keeps hk5 HNE.out.2.1) hkk⟩, hkk.mono HMT.out⟩
    clear hk5 hw5 hm
    go_wp2_with fail
    go_ret
    exact ⟨fun hc => absurd hc HES.out, fun _ => ⟨rfl, HE.out⟩⟩
  · have em' : ((m : Int) == 0) = false := by simp; omega
    have HE : Hid (IsS w4 p T (dropS s (k, i)) N ∧ Keeps (Mut T) w w4) := by
      have hkk : Keeps (fun b => b = y.vm ∨ b = y.wm ∨ b = sb) w w4 := K4.out.mono fun b hb => by rcases hb with h | h; exact .inl h; exact .inr (.inr h)
      exact ⟨⟨_, HY.out.1.drop HY.out.2.1 HES.out (HJ.out HES.out) HY.out.2.2.2.2.2 (.inr ⟨fun e => em (by rw [hm, e]; rfl), rfl⟩) HV4.out.1 (HV4.out.2.1.same lawI HY.out.2.2.2.2.2 rfl) HV4.out.2.2 hkk⟩, hkk.mono HMT.out⟩
    clear em hm
    go_wp2_with fail
    go_ret
    exact ⟨fun hc => absurd hc HES.out, fun _ => ⟨rfl, HE.out⟩⟩
end Go.Proofs.Ytagekdmkidbhpaa
