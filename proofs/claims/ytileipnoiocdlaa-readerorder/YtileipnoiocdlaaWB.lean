import Derived.Test.YtileipnoiocdlaaRU
/- A message with lists of its own. -/
namespace Go.Proofs.Ytileipnoiocdlaa
open Go.RowKit Go.Sort Orl
set_option linter.unusedVariables false
set_option linter.unusedSimpArgs false

abbrev Pr := Tx × Tx
def PE : El Pr := ⟨181, 38, 2, 32, fun p => [.string p.1, .string p.2]⟩
theorem infoP : (Try.prog.info? 181).map (fun i => (i.zero, i.size, i.bytes)) = some (some (.agg #[.string ⟨#[]⟩, .string ⟨#[]⟩]), 2, 32) := by kernel_rfl
theorem okP : PE.Ok := by
  obtain ⟨i0, hi, hz0, hz1, hz2⟩ := info_parts infoP
  exact ⟨fun _ => rfl, fun x u hu => by simp [PE] at hu; rcases hu with rfl | rfl <;> rfl, by decide, Try.underlying38, i0, _, hi, hz0, hz1, hz2, rfl⟩
/-- a message's box and the result's, while its lists are copied -/
structure Ow (w W : World) (M : Nat) (cs : List Value) : Prop where
  blk : W.heap[M]? = some (.cells cs.toArray 42 (0, 0))
  res : W.heap[M + 1]? = some (.cells #[.int .i64 0, .int .i64 0, .int .u64 0, .int .u64 0, .slice none 0 0, .slice none 0 0, .slice none 0 0, .slice none 0 0] 42 (0, 0))
  kp : Keeps no w W
theorem Ow.step {w W w5 : World} {M : Nat} {cs : List Value} {t : TypeId} {o5 : Option Addr} (h : Ow w W M cs) (hM : w.heap.size ≤ M) (ha : Ap (W.alloc (.cells #[] t)) (some ⟨W.heap.size, 0, none⟩) o5 w5) : Ow w w5 M cs ∧ ∀ (i : Nat) (v : Value), Ow w (w5.setCell ⟨M, i, none⟩ v) M (cs.set i v) := by
  have h3 := ha.new (w0 := W) (new_fresh _ _ (Nat.le_refl _) _) ((Keeps.refl _ _).alloc _)
  have b := h3.2.at h.blk (fun h => h)
  have r := h3.2.at h.res (fun h => h)
  refine ⟨⟨b, r, h.kp.trans h3.2⟩, fun i v => ⟨?_, ?_, (h.kp.trans h3.2).then (keeps_one w5 M i v) (fun j e => .inr (by rw [e]; exact hM))⟩⟩
  · have := blk_set b i v
    simpa using this
  · exact blk_set_ne r (p := ⟨M, i, none⟩) (show M + 1 ≠ M by omega) v
theorem own0 {α : Type} {E : El α} (hE : E.Ok) (W : World) : Own E (W.alloc (.cells #[] E.e)) (some ⟨W.heap.size, 0, none⟩) 0 [] := own_of_shape hE (blk_new W _) (Nat.le_refl _) (by unfold maxLen; omega) (by simp) (by simp [El.cells])
def OwnTo (w : World) (kind cl : Int) (req id : Nat) (n4 n5 n6 n7 : Nat) (l : List Ver) (e : Ending) (w' : World) : Prop := ∃ o4 o5 o6 o7 c4 c5 c6 c7 rs, e = .returned (aggC kind cl req id o4 o5 o6 o7 n4 n5 n6 n7 c4 c5 c6 c7) ∧ n7 = l.length ∧ Vers w' o7 c7 rs l ∧ (∀ i, VB o7 rs l.length i → w.heap.size ≤ i) ∧ Keeps no w w'
set_option maxRecDepth 10000 in
set_option maxHeartbeats 2000000 in
theorem own_any (w : World) (kind cl : Int) (req id : Nat) (a4 a5 a6 a7 : Option Addr) (n4 n5 n6 n7 d4 d5 d6 d7 : Nat) (ps : List Pr) (ks : List Tx) (ws : List Wn) (vs : List RV) (l : List Ver)
    (h4 : n4 = ps.length) (h5 : n5 = ks.length) (h6 : n6 = ws.length) (h7 : n7 = l.length) (b4 : n4 ≤ 1000000) (b5 : n5 ≤ 1000000) (b6 : n6 ≤ 1000000) (b7 : n7 ≤ 1000000) (s4 : Sl PE w a4 d4 ps) (s5 : Sl TE w a5 d5 ks) (s6 : Sl WE w a6 d6 ws) (s7 : Vers w a7 d7 vs l) (hf : FitL l) :
    Calls Try.prog 41 #[aggC kind cl req id a4 a5 a6 a7 n4 n5 n6 n7 d4 d5 d6 d7] w (OwnTo w kind cl req id n4 n5 n6 n7 l) := by
  have HL : Hid (n4 = ps.length ∧ n5 = ks.length ∧ n6 = ws.length ∧ n4 ≤ 1000000 ∧ n5 ≤ 1000000 ∧ n6 ≤ 1000000) := ⟨h4, h5, h6, b4, b5, b6⟩
  have HS : Hid (Sl PE w a4 d4 ps ∧ Sl TE w a5 d5 ks ∧ Sl WE w a6 d6 ws) := ⟨s4, s5, s6⟩
  have HC7 : Hid (∀ X, Keeps no w X → Calls Try.prog 57 #[.slice a7 n7 d7] X (VersTo X l)) := fun X hX => copies_any X a7 n7 d7 vs l h7 b7 (s7.keepsN hX) hf
  have H7 : Hid (n7 = l.length) := h7
  obtain ⟨M, hM⟩ : ∃ M, M = w.heap.size := ⟨_, rfl⟩
  have HM : Hid (w.heap.size ≤ M) := Nat.le_of_eq hM.symm
  have H0 : Hid (∀ W, W = (w.alloc (.cells #[.int .i64 kind, .int .i64 cl, .int .u64 (req : Nat), .int .u64 (id : Nat), .slice a4 n4 d4, .slice a5 n5 d5, .slice a6 n6 d6, .slice a7 n7 d7] 42)).alloc (.cells #[.int .i64 0, .int .i64 0, .int .u64 0, .int .u64 0, .slice none 0 0, .slice none 0 0, .slice none 0 0, .slice none 0 0] 42) → Ow w W M [.int .i64 kind, .int .i64 cl, .int .u64 (req : Nat), .int .u64 (id : Nat), .slice a4 n4 d4, .slice a5 n5 d5, .slice a6 n6 d6, .slice a7 n7 d7]) := by
    rintro W rfl
    have h := two_blk w (.cells #[.int .i64 kind, .int .i64 cl, .int .u64 (req : Nat), .int .u64 (id : Nat), .slice a4 n4 d4, .slice a5 n5 d5, .slice a6 n6 d6, .slice a7 n7 d7] 42) (.cells #[.int .i64 0, .int .i64 0, .int .u64 0, .int .u64 0, .slice none 0 0, .slice none 0 0, .slice none 0 0, .slice none 0 0] 42)
    rw [← hM] at h
    exact ⟨h.1, h.2, ((Keeps.refl _ _).alloc _).alloc _⟩
  clear h4 h5 h6 h7 b4 b5 b6 b7 s4 s5 s6 s7 hf
  unfold aggC
  go_enter Try.func41, Try.ntmps41
  go_upto_region 1 with fail
  have hW := H0.out _ rfl
  rw [← hM]
  generalize (w.alloc (.cells #[.int .i64 kind, .int .i64 cl, .int .u64 (req : Nat), .int .u64 (id : Nat), .slice a4 n4 d4, .slice a5 n5 d5, .slice a6 n6 d6, .slice a7 n7 d7] 42)).alloc (.cells #[.int .i64 0, .int .i64 0, .int .u64 0, .int .u64 0, .slice none 0 0, .slice none 0 0, .slice none 0 0, .slice none 0 0] 42) = w1 at hW ⊢
  have K1 : Hid (Ow w w1 M [.int .i64 kind, .int .i64 cl, .int .u64 (req : Nat), .int .u64 (id : Nat), .slice a4 n4 d4, .slice a5 n5 d5, .slice a6 n6 d6, .slice a7 n7 d7]) := hW
  clear hW H0 hM
  have z2 : ∀ o, (w1.alloc o).cell? ⟨M, 4, none⟩ = some (.slice a4 n4 d4) := fun o => ((Keeps.refl no w1).alloc o).cellN (by rw [cell_of_blk K1.out.blk]; rfl)
  have P2 : Hid (Own PE (w1.alloc (.cells #[] PE.e)) (some ⟨w1.heap.size, 0, none⟩) 0 [] ∧ (a4 = none → d4 = 0) ∧ Row PE (w1.alloc (.cells #[] PE.e)) a4 ps ∧ (([] : List Pr).length + ps.length) * PE.nb ≤ 140737488355328 ∧ ([] : List Pr).length + ps.length ≤ 140737488355328 ∧ n4 = ps.length) := by
    have h1 := HS.out.1
    have h2 := HL.out
    exact ⟨own0 okP w1, h1.nil, ((h1.keepsN K1.out.kp).keepsN ((Keeps.refl _ _).alloc _)).row, by simp [PE]; omega, by simp; omega, h2.1⟩
  have Q2 : Hid (∀ W ou, Ap (w1.alloc (.cells #[] PE.e)) (some ⟨w1.heap.size, 0, none⟩) ou W → W.frozen? ⟨M, 4, none⟩ = false ∧ W.cell? ⟨M, 4, none⟩ = some (.slice a4 n4 d4) ∧ Hid (∀ cu, Ow w (W.setCell ⟨M, 4, none⟩ (.slice ou n4 cu)) M [.int .i64 kind, .int .i64 cl, .int .u64 (req : Nat), .int .u64 (id : Nat), .slice ou n4 cu, .slice a5 n5 d5, .slice a6 n6 d6, .slice a7 n7 d7])) := fun W ou ha => by
    have h := K1.out.step HM.out ha
    exact ⟨frozen_of_blk h.1.blk 4, by rw [cell_of_blk h.1.blk]; rfl, fun cu => h.2 4 _⟩
  go_upto_region 2 with (at_builtin; refine wpList_app okP rfl _ _ rfl (some ⟨w1.heap.size, 0, none⟩) 0 0 [] rfl rfl P2.out.1 a4 n4 d4 ps rfl P2.out.2.2.2.2.2 P2.out.2.1 P2.out.2.2.1 P2.out.2.2.2.1 P2.out.2.2.2.2.1 ?_; intro o4 c4 v4 ho hap; obtain ⟨f4, e4, G4⟩ := Q2.out v4 o4 hap; clear ho hap)
  have hn4 := G4.out c4
  generalize v4.setCell ⟨M, 4, none⟩ (.slice o4 n4 c4) = w2 at hn4 ⊢
  have K2 : Hid (Ow w w2 M [.int .i64 kind, .int .i64 cl, .int .u64 (req : Nat), .int .u64 (id : Nat), .slice o4 n4 c4, .slice a5 n5 d5, .slice a6 n6 d6, .slice a7 n7 d7]) := hn4
  clear hn4 f4 e4 G4 z2 P2 Q2
  have z3 : ∀ o, (w2.alloc o).cell? ⟨M, 5, none⟩ = some (.slice a5 n5 d5) := fun o => ((Keeps.refl no w2).alloc o).cellN (by rw [cell_of_blk K2.out.blk]; rfl)
  have P3 : Hid (Own TE (w2.alloc (.cells #[] TE.e)) (some ⟨w2.heap.size, 0, none⟩) 0 [] ∧ (a5 = none → d5 = 0) ∧ Row TE (w2.alloc (.cells #[] TE.e)) a5 ks ∧ (([] : List Tx).length + ks.length) * TE.nb ≤ 140737488355328 ∧ ([] : List Tx).length + ks.length ≤ 140737488355328 ∧ n5 = ks.length) := by
    have h1 := HS.out.2.1
    have h2 := HL.out
    exact ⟨own0 okT w2, h1.nil, ((h1.keepsN K2.out.kp).keepsN ((Keeps.refl _ _).alloc _)).row, by simp [TE]; omega, by simp; omega, h2.2.1⟩
  have Q3 : Hid (∀ W ou, Ap (w2.alloc (.cells #[] TE.e)) (some ⟨w2.heap.size, 0, none⟩) ou W → W.frozen? ⟨M, 5, none⟩ = false ∧ W.cell? ⟨M, 5, none⟩ = some (.slice a5 n5 d5) ∧ Hid (∀ cu, Ow w (W.setCell ⟨M, 5, none⟩ (.slice ou n5 cu)) M [.int .i64 kind, .int .i64 cl, .int .u64 (req : Nat), .int .u64 (id : Nat), .slice o4 n4 c4, .slice ou n5 cu, .slice a6 n6 d6, .slice a7 n7 d7])) := fun W ou ha => by
    have h := K2.out.step HM.out ha
    exact ⟨frozen_of_blk h.1.blk 5, by rw [cell_of_blk h.1.blk]; rfl, fun cu => h.2 5 _⟩
  go_upto_region 3 with (at_builtin; refine wpList_app okT rfl _ _ rfl (some ⟨w2.heap.size, 0, none⟩) 0 0 [] rfl rfl P3.out.1 a5 n5 d5 ks rfl P3.out.2.2.2.2.2 P3.out.2.1 P3.out.2.2.1 P3.out.2.2.2.1 P3.out.2.2.2.2.1 ?_; intro o5 c5 v5 ho hap; obtain ⟨f5, e5, G5⟩ := Q3.out v5 o5 hap; clear ho hap)
  have hn5 := G5.out c5
  generalize v5.setCell ⟨M, 5, none⟩ (.slice o5 n5 c5) = w3 at hn5 ⊢
  have K3 : Hid (Ow w w3 M [.int .i64 kind, .int .i64 cl, .int .u64 (req : Nat), .int .u64 (id : Nat), .slice o4 n4 c4, .slice o5 n5 c5, .slice a6 n6 d6, .slice a7 n7 d7]) := hn5
  clear hn5 f5 e5 G5 z3 P3 Q3
  have z4 : ∀ o, (w3.alloc o).cell? ⟨M, 6, none⟩ = some (.slice a6 n6 d6) := fun o => ((Keeps.refl no w3).alloc o).cellN (by rw [cell_of_blk K3.out.blk]; rfl)
  have P4 : Hid (Own WE (w3.alloc (.cells #[] WE.e)) (some ⟨w3.heap.size, 0, none⟩) 0 [] ∧ (a6 = none → d6 = 0) ∧ Row WE (w3.alloc (.cells #[] WE.e)) a6 ws ∧ (([] : List Wn).length + ws.length) * WE.nb ≤ 140737488355328 ∧ ([] : List Wn).length + ws.length ≤ 140737488355328 ∧ n6 = ws.length) := by
    have h1 := HS.out.2.2
    have h2 := HL.out
    exact ⟨own0 okW w3, h1.nil, ((h1.keepsN K3.out.kp).keepsN ((Keeps.refl _ _).alloc _)).row, by simp [WE]; omega, by simp; omega, h2.2.2.1⟩
  have Q4 : Hid (∀ W ou, Ap (w3.alloc (.cells #[] WE.e)) (some ⟨w3.heap.size, 0, none⟩) ou W → W.frozen? ⟨M, 6, none⟩ = false ∧ W.cell? ⟨M, 6, none⟩ = some (.slice a6 n6 d6) ∧ Hid (∀ cu, Ow w (W.setCell ⟨M, 6, none⟩ (.slice ou n6 cu)) M [.int .i64 kind, .int .i64 cl, .int .u64 (req : Nat), .int .u64 (id : Nat), .slice o4 n4 c4, .slice o5 n5 c5, .slice ou n6 cu, .slice a7 n7 d7])) := fun W ou ha => by
    have h := K3.out.step HM.out ha
    exact ⟨frozen_of_blk h.1.blk 6, by rw [cell_of_blk h.1.blk]; rfl, fun cu => h.2 6 _⟩
  go_upto_region 4 with (at_builtin; refine wpList_app okW rfl _ _ rfl (some ⟨w3.heap.size, 0, none⟩) 0 0 [] rfl rfl P4.out.1 a6 n6 d6 ws rfl P4.out.2.2.2.2.2 P4.out.2.1 P4.out.2.2.1 P4.out.2.2.2.1 P4.out.2.2.2.2.1 ?_; intro o6 c6 v6 ho hap; obtain ⟨f6, e6, G6⟩ := Q4.out v6 o6 hap; clear ho hap)
  have hn6 := G6.out c6
  generalize v6.setCell ⟨M, 6, none⟩ (.slice o6 n6 c6) = w4 at hn6 ⊢
  have K4 : Hid (Ow w w4 M [.int .i64 kind, .int .i64 cl, .int .u64 (req : Nat), .int .u64 (id : Nat), .slice o4 n4 c4, .slice o5 n5 c5, .slice o6 n6 c6, .slice a7 n7 d7]) := hn6
  clear hn6 f6 e6 G6 z4 P4 Q4
  have z7 : w4.cell? ⟨M, 7, none⟩ = some (.slice a7 n7 d7) := by rw [cell_of_blk K4.out.blk]; rfl
  go_wp2_with fail
  refine (HC7.out w4 K4.out.kp).mono ?_
  rintro e w5 ⟨o7, n7', c7, rs, rfl, hn7, hnv⟩
  have e7 : n7' = n7 := by rw [hn7, H7.out]
  subst e7
  have b5' := hnv.kp.at K4.out.blk (fun h => h)
  have r5 := hnv.kp.at K4.out.res (fun h => h)
  have V5 : Hid (NewVo w4 o7 c7 rs l w5 ∧ n7' = l.length) := ⟨hnv, hn7⟩
  have y7 := cell_of_blk b5' 7
  have f7 := frozen_of_blk b5' 7
  simp only [List.getElem?_toArray, List.getElem?_cons_succ, List.getElem?_cons_zero] at y7
  have HB6 : Hid (∀ W, W = w5.setCell ⟨M, 7, none⟩ (.slice o7 n7' c7) → Ow w W M [.int .i64 kind, .int .i64 cl, .int .u64 (req : Nat), .int .u64 (id : Nat), .slice o4 n4 c4, .slice o5 n5 c5, .slice o6 n6 c6, .slice o7 n7' c7] ∧ Vers W o7 c7 rs l) := by
    rintro W rfl
    have hMl := lt_of_block K4.out.blk
    refine ⟨⟨?_, blk_set_ne r5 (p := ⟨M, 7, none⟩) (show M + 1 ≠ M by omega) _, (K4.out.kp.trans hnv.kp).then (keeps_one w5 M 7 _) (fun j e => .inr (by rw [e]; exact HM.out))⟩, hnv.vers.keeps (keeps_one w5 M 7 _) (fun i hi e => by have := (hnv.vb i hi).1; omega)⟩
    have := blk_set b5' 7 (.slice o7 n7' c7)
    simpa using this
  have HVB : Hid (∀ i, VB o7 rs l.length i → w4.heap.size ≤ i) := fun i hi => (hnv.vb i hi).1
  clear hnv hn7 b5' r5 z7
  go_upto_region 5 with fail
  have h6 := HB6.out _ rfl
  generalize w5.setCell ⟨M, 7, none⟩ (.slice o7 n7' c7) = w6 at h6 ⊢
  have K6 : Hid (Ow w w6 M [.int .i64 kind, .int .i64 cl, .int .u64 (req : Nat), .int .u64 (id : Nat), .slice o4 n4 c4, .slice o5 n5 c5, .slice o6 n6 c6, .slice o7 n7' c7] ∧ Vers w6 o7 c7 rs l) := h6
  have d0 := cell_of_blk h6.1.blk 0
  have d1 := cell_of_blk h6.1.blk 1
  have d2 := cell_of_blk h6.1.blk 2
  have d3 := cell_of_blk h6.1.blk 3
  have d4' := cell_of_blk h6.1.blk 4
  have d5' := cell_of_blk h6.1.blk 5
  have d6' := cell_of_blk h6.1.blk 6
  have d7' := cell_of_blk h6.1.blk 7
  have g0 := frozen_of_blk h6.1.res 0
  have g1 := frozen_of_blk h6.1.res 1
  have g2 := frozen_of_blk h6.1.res 2
  have g3 := frozen_of_blk h6.1.res 3
  have g4 := frozen_of_blk h6.1.res 4
  have g5 := frozen_of_blk h6.1.res 5
  have g6 := frozen_of_blk h6.1.res 6
  have g7 := frozen_of_blk h6.1.res 7
  have r0 := cell_of_blk h6.1.res 0
  have r1 := cell_of_blk h6.1.res 1
  have r2 := cell_of_blk h6.1.res 2
  have r3 := cell_of_blk h6.1.res 3
  have r4 := cell_of_blk h6.1.res 4
  have r5 := cell_of_blk h6.1.res 5
  have r6 := cell_of_blk h6.1.res 6
  have r7 := cell_of_blk h6.1.res 7
  simp only [List.getElem?_toArray, List.getElem?_cons_succ, List.getElem?_cons_zero] at d0 d1 d2 d3 d4' d5' d6' d7' r0 r1 r2 r3 r4 r5 r6 r7
  have HE : Hid (∀ vv, vv = [Value.int .i64 kind, .int .i64 cl, .int .u64 (req : Nat), .int .u64 (id : Nat), .slice o4 n4 c4, .slice o5 n5 c5, .slice o6 n6 c6, .slice o7 n7' c7] → ∀ W, W = w6.setCells (M + 1) 0 vv → W.heap[M + 1]? = some (.cells vv.toArray 42 (0, 0)) ∧ Keeps no w W ∧ Vers W o7 c7 rs l) := by
    rintro vv rfl W rfl
    have k1 : Keeps (fun i => i = M + 1) w6 (w6.setCells (M + 1) 0 [Value.int .i64 kind, .int .i64 cl, .int .u64 (req : Nat), .int .u64 (id : Nat), .slice o4 n4 c4, .slice o5 n5 c5, .slice o6 n6 c6, .slice o7 n7' c7]) := keeps_setCells _ _ _
    have hM1 := lt_of_block K4.out.res
    refine ⟨blk_whole K6.out.1.res _ rfl, K6.out.1.kp.then k1 (fun i e => .inr (by rw [e]; have := HM.out; omega)), K6.out.2.keeps k1 (fun i hi e => by have := HVB.out i hi; omega)⟩
  clear h6 HB6
  go_wp2_with fail
  have hE := HE.out _ rfl _ rfl
  (try simp only [Exit.inBlock, Exit.then])
  refine bodyPost_ret (results_row1 rfl _ _ (M + 1) _ rfl (run_loadVar_row _ _ _ _ _ _ _ hE.1 Try.underlying42 rfl (msg_size _ _ _ _ _ _ _ _))) rfl ?_
  exact ⟨o4, o5, o6, o7, c4, c5, c6, c7, rs, rfl, V5.out.2, hE.2.2, fun i hi => Nat.le_trans K4.out.kp.size (HVB.out i hi), hE.2.1⟩
end Go.Proofs.Ytileipnoiocdlaa
/- A reader with its counter, side by side with other things. -/
namespace Go.Proofs.Ytileipnoiocdlaa
open Go.RowKit Go.Sort Orl
set_option linter.unusedVariables false
set_option linter.unusedSimpArgs false

/-- a reader with its counter; all its blocks are new since w0 -/
structure Rc (w0 w : World) (p cp fr st : Nat) (s : RS) (t : Nat) (F : Nat → Prop) : Prop where
  is : IsRd w p cp F s
  wf : WfR s
  ct : IsCt w cp fr st t
  cF : ¬ F cp
  new : ∀ i, (F i ∨ i = cp) → w0.heap.size ≤ i
  kp : Keeps no w0 w
theorem Rc.lt {w0 w : World} {p cp fr st : Nat} {s : RS} {t : Nat} {F : Nat → Prop} (h : Rc w0 w p cp fr st s t F) : ∀ i, (F i ∨ i = cp) → i < w.heap.size := by
  rintro i (hi | rfl)
  · exact h.is.lt i hi
  · exact lt_of_block h.ct
theorem Rc.tell {w0 w w' : World} {p cp fr st : Nat} {s : RS} {t : Nat} {F G : Nat → Prop} {out : Out} {o : Option Addr} {n c : Nat} {rs : List RQ} (h : Rc w0 w p cp fr st s t F) (ht : Tell w p cp fr st F out o n c rs G w') (hw : WfR out.s) : Rc w0 w' p cp fr st out.s out.t G := by
  have hlt := lt_of_block h.ct
  refine ⟨ht.is, hw, ht.ct, ?_, ?_, h.kp.then ht.kp (fun i hi => .inr (h.new i hi))⟩
  · intro hg
    rcases ht.foot cp hg with h1 | h1
    · exact h.cF h1
    · omega
  · rintro i (hi | hi)
    · rcases ht.foot i hi with h1 | h1
      · exact h.new i (.inl h1)
      · exact Nat.le_trans h.kp.size h1
    · exact h.new i (.inr hi)
theorem Rc.keeps {S : Nat → Prop} {w0 w w' : World} {p cp fr st : Nat} {s : RS} {t : Nat} {F : Nat → Prop} (h : Rc w0 w p cp fr st s t F) (k : Keeps S w w') (hs : ∀ i, (F i ∨ i = cp) → ¬ S i) (h0 : ∀ i, S i → w0.heap.size ≤ i) : Rc w0 w' p cp fr st s t F :=
  ⟨h.is.keeps k (fun i hi => hs i (.inl hi)), h.wf, h.ct.keeps k (hs cp (.inr rfl)), h.cF, h.new, h.kp.then k (fun i hi => .inr (h0 i hi))⟩
theorem Rc.keepsN {w0 w w' : World} {p cp fr st : Nat} {s : RS} {t : Nat} {F : Nat → Prop} (h : Rc w0 w p cp fr st s t F) (k : Keeps no w w') : Rc w0 w' p cp fr st s t F := h.keeps k (fun _ _ => id) (fun _ h => h.elim)
theorem Rc.give {w0 w w' : World} {p cp fr st : Nat} {s : RS} {t : Nat} {F : Nat → Prop} (h : Rc w0 w p cp fr st s t F) (h1 : IsRd w' p cp F (giveS s)) (k : Keeps F w w') : Rc w0 w' p cp fr st (giveS s) t F :=
  ⟨h1, h.wf.give, h.ct.keeps k h.cF, h.cF, h.new, h.kp.then k (fun i hi => .inr (h.new i (.inl hi)))⟩
/-- a list that was told stays, whatever the reader does -/
theorem Tq.tell {w w' : World} {p cp fr st : Nat} {F G : Nat → Prop} {out : Out} {o o1 : Option Addr} {n c c1 : Nat} {rs r1 : List RQ} {qs : List Qn} (h : Tq w o1 c1 r1 qs) (hF : ∀ i, TB o1 r1 qs.length i → ¬ (F i ∨ i = cp)) (t : Tell w p cp fr st F out o n c rs G w') : Tq w' o1 c1 r1 qs ∧ ∀ i, TB o1 r1 qs.length i → ¬ (G i ∨ i = cp) := by
  refine ⟨h.keeps t.kp hF, fun i hi hg => ?_⟩
  rcases hg with hg | hg
  · rcases t.foot i hg with h1 | h1
    · exact hF i hi (.inl h1)
    · have := h.lt i hi; omega
  · exact hF i hi (.inr hg)
theorem Tell.far {w w' : World} {p cp fr st : Nat} {F G : Nat → Prop} {out : Out} {o : Option Addr} {n c : Nat} {rs : List RQ} (h : Tell w p cp fr st F out o n c rs G w') (hcp : cp < w.heap.size) : ∀ i, TB o rs out.told.length i → ¬ (G i ∨ i = cp) := by
  rintro i hi (hg | rfl)
  · exact h.apart i hi hg
  · have := h.new _ hi; omega
/-- blocks of others -/
structure Oth (w : World) (F : Nat → Prop) (cp : Nat) (B : Nat → Prop) : Prop where
  lt : ∀ i, B i → i < w.heap.size
  far : ∀ i, B i → ¬ (F i ∨ i = cp)
theorem Oth.keeps {S : Nat → Prop} {w w' : World} {F : Nat → Prop} {cp : Nat} {B : Nat → Prop} (h : Oth w F cp B) (k : Keeps S w w') : Oth w' F cp B := ⟨fun i hi => Nat.lt_of_lt_of_le (h.lt i hi) k.size, h.far⟩
theorem Oth.tell {w w' : World} {p cp fr st : Nat} {F G : Nat → Prop} {out : Out} {o : Option Addr} {n c : Nat} {rs : List RQ} {B : Nat → Prop} (h : Oth w F cp B) (t : Tell w p cp fr st F out o n c rs G w') : Oth w' G cp B := by
  refine ⟨fun i hi => Nat.lt_of_lt_of_le (h.lt i hi) t.kp.size, fun i hi hg => ?_⟩
  rcases hg with hg | hg
  · rcases t.foot i hg with h1 | h1
    · exact h.far i hi (.inl h1)
    · have := h.lt i hi; omega
  · exact h.far i hi (.inr hg)
/-- what is asked is as samePosts bears it -/
theorem asked_fit {s : RS} (h : WfR s) : FitQs (askedR s) := by
  have hP : (psR s).length ≤ 64 := Nat.le_trans (ps_le s) h.p2
  refine ⟨?_, fun q hq => ?_⟩
  · rw [askedR_len]; have := undone_le s; omega
  · unfold askedR at hq
    obtain ⟨i, hi, rfl⟩ := List.mem_map.1 hq
    have hi2 : i < (psR s).length := List.mem_range.1 (List.mem_filter.1 hi).1
    have h1 := (ps_keys hi2).2.2.1
    have h2 := qAt_fit h hi2
    have h3 := h.p2
    refine ⟨?_, by omega, by omega⟩
    show (0 : Int) ≤ (((psR s).getD i pp0).1 : Nat) ∧ ((((psR s).getD i pp0).1 : Nat) : Int) ≤ 64
    omega
end Go.Proofs.Ytileipnoiocdlaa
/- alive, in pure lists. -/
namespace Go.Proofs.Ytileipnoiocdlaa
open Go.RowKit Go.Sort Orl
set_option linter.unusedVariables false
set_option linter.unusedSimpArgs false

theorem pl_one (s : Tx) : pl 1 s = 0 := Nat.mod_one _
theorem own_one1 (l : List Tx) : ownOf 1 idT l 0 = l := by
  unfold ownOf
  rw [List.filter_eq_self]
  intro a _
  rw [pl_one]; rfl
theorem prt_one (l : List Tx) (h : l ≠ []) : prt 1 idT l 1 = [(0, l)] := by
  rw [prt, prt, own_one1]
  cases l with
  | nil => exact absurd rfl h
  | cons a r => rfl
def kA : Tx := ⟨#[97]⟩
def kB : Tx := ⟨#[98]⟩
def xA1 : Ver := ⟨kA, 65536, ⟨#[49]⟩, [kA, kB]⟩
def xB0 : Ver := ⟨kB, 0, e0, []⟩
def xB2 : Ver := ⟨kB, 65536, ⟨#[50]⟩, [kA, kB]⟩
def sA1 : RS := ⟨[kA, kB], 1, 3, 1, [kA, kB], [], [1], [botV' kA, botV' kB], [false, false], [], 0, []⟩
def sA2 : RS := ⟨[kA, kB], 1, 3, 1, [kA, kB], [], [1], [xA1, botV' kB], [true, false], [], 0, []⟩
def sA3 : RS := ⟨[kA, kB], 1, 3, 1, [kA, kB], [], [1], [xA1, xB0], [true, true], [], 0, []⟩
def sA4 : RS := ⟨[kA, kB], 1, 3, 2, [kB], [(kB, 65536)], [2], [botV' kB], [false], [xA1, xB0], 0, []⟩
def sA5 : RS := ⟨[kA, kB], 1, 3, 2, [kB], [(kB, 65536)], [2], [xB2], [true], [xA1, xB0], 0, []⟩
def sA6 : RS := endS sA5 1 [xA1, xB2]
def qA1 : Qn := ⟨0, 3, 3, 1, [kA, kB], []⟩
def qA4 : Qn := ⟨0, 4, 3, 2, [], [(kB, 65536)]⟩
theorem ps_A1 : psR sA1 = [(0, [kA, kB])] := prt_one _ (by decide)
theorem ps_A2 : psR sA2 = [(0, [kA, kB])] := prt_one _ (by decide)
theorem ps_A3 : psR sA3 = [(0, [kA, kB])] := prt_one _ (by decide)
theorem ps_A4 : psR sA4 = [(0, [kB])] := prt_one _ (by decide)
theorem ps_A5 : psR sA5 = [(0, [kB])] := prt_one _ (by decide)
theorem kAB : decide (kA = kB) = false := by decide
theorem kBA : decide (kB = kA) = false := by decide
theorem und_A1 : undone sA1 = [0] := by unfold undone doneQ; rw [ps_A1]; decide
theorem und_A2 : undone sA2 = [0] := by unfold undone doneQ; rw [ps_A2]; decide
theorem und_A3 : undone sA3 = [] := by unfold undone doneQ; rw [ps_A3]; decide
theorem und_A4 : undone sA4 = [0] := by unfold undone doneQ; rw [ps_A4]; decide
theorem und_A5 : undone sA5 = [] := by unfold undone doneQ; rw [ps_A5]; decide
theorem ask_A1 : askedR sA1 = [qA1] := by unfold askedR; rw [und_A1]; unfold qAt; rw [ps_A1]; rfl
theorem ask_A2 : askedR sA2 = [qA1] := by unfold askedR; rw [und_A2]; unfold qAt; rw [ps_A2]; rfl
theorem ask_A4 : askedR sA4 = [qA4] := by unfold askedR; rw [und_A4]; unfold qAt; rw [ps_A4]; rfl
theorem ask_A5 : askedR sA5 = [] := by unfold askedR; rw [und_A5]; rfl
theorem begs_A : begS (newR [kA, kB] 1 3) 1 1 0 = sA1 := by
  unfold begS roundS newR
  simp only
  rw [prt_one [kA, kB] (by simp)]
  rfl
theorem begin_A : beginO (newR [kA, kB] 1 3) 1 1 0 = ⟨sA1, [qA1], 1⟩ := by
  unfold beginO
  rw [if_pos ⟨rfl, rfl⟩, begs_A, ask_A1, ps_A1]
  rfl
theorem took_A1 : tookS sA1 xA1 = sA2 := by kernel_rfl
theorem took_A2 : tookS sA2 xB0 = sA3 := by kernel_rfl
theorem took_A4 : tookS sA4 xB2 = sA5 := by kernel_rfl
theorem recv_A1 : recvO sA1 0 7 1 [xA1] 1 1 1 = ⟨sA2, [], 1⟩ := by
  unfold recvO
  rw [if_pos ⟨rfl, rfl, rfl⟩, ask_A1]
  have e : idxQ (hitR 0 1) [qA1] = some 0 := by decide
  rw [e]
  show (if inn ((psR sA1).getD ((undone sA1).getD 0 0) pp0).2 xA1.key = true ∧ isOpn sA1 xA1.key = true then behindO (tookS sA1 xA1) 1 1 1 else ⟨sA1, [], 1⟩) = _
  rw [und_A1, ps_A1, if_pos (by decide), took_A1]
  unfold behindO
  rw [und_A2, if_neg (by decide)]
theorem formed_A : formedB sA3.came = true := by
  rw [formedB_iff]
  refine ⟨by decide, by decide, fun j hj => ?_, fun j k hj hk => ?_⟩
  · have : j = 0 ∨ j = 1 := by have : j < 2 := hj; omega
    rcases this with rfl | rfl
    · show oneB xA1 = true; kernel_rfl
    · show oneB xB0 = true; kernel_rfl
  · have : j = 1 ∧ k = 0 := by have : j < 2 := hj; omega
    obtain ⟨rfl, rfl⟩ := this; show badB xA1 xB0 = false; kernel_rfl
theorem needs_A : needsV sA3.came = [(kB, 65536)] := by decide
theorem recv_A2 : recvO sA2 0 7 1 [xB0] 1 1 1 = ⟨sA4, [qA4], 2⟩ := by
  unfold recvO
  rw [if_pos ⟨rfl, rfl, rfl⟩, ask_A2]
  have e : idxQ (hitR 0 1) [qA1] = some 0 := by decide
  rw [e]
  show (if inn ((psR sA2).getD ((undone sA2).getD 0 0) pp0).2 xB0.key = true ∧ isOpn sA2 xB0.key = true then behindO (tookS sA2 xB0) 1 1 1 else ⟨sA2, [], 1⟩) = _
  rw [und_A2, ps_A2, if_pos (by decide), took_A2]
  unfold behindO
  rw [und_A3, if_pos rfl, if_pos (by rfl)]
  unfold endFO
  rw [formed_A, needs_A, if_neg (by decide), if_neg (by decide)]
  have h : fetS sA3 [(kB, 65536)] sA3.came 1 1 1 = sA4 := by
    unfold fetS roundS
    have e2 : prt sA3.parts idT (List.map Prod.fst [(kB, 65536)]) sA3.parts = [(0, [kB])] := prt_one [kB] (by simp)
    simp only [e2]
    rfl
  rw [h, ask_A4, ps_A4]
  rfl
theorem mend_A : mendV sA5.first sA5.came = some [xA1, xB2] := by
  unfold mendV
  have h1 : placeV sA5.first sA5.came xA1 = some xA1 := by decide
  have h2 : placeV sA5.first sA5.came xB0 = some xB2 := by decide
  show [xA1, xB0].mapM (placeV sA5.first sA5.came) = _
  rw [List.mapM_cons, h1, List.mapM_cons, h2]
  rfl
theorem recv_A4 : recvO sA4 0 7 2 [xB2] 1 1 2 = ⟨sA6, [], 2⟩ := by
  unfold recvO
  rw [if_pos ⟨rfl, rfl, rfl⟩, ask_A4]
  have e : idxQ (hitR 0 2) [qA4] = some 0 := by decide
  rw [e]
  show (if inn ((psR sA4).getD ((undone sA4).getD 0 0) pp0).2 xB2.key = true ∧ isOpn sA4 xB2.key = true then behindO (tookS sA4 xB2) 1 1 2 else ⟨sA4, [], 2⟩) = _
  rw [und_A4, ps_A4, if_pos (by decide), took_A4]
  unfold behindO
  rw [und_A5, if_pos rfl, if_neg (by decide)]
  unfold endS2
  have g : goneB sA5.came = false := by decide
  have f : formedB sA5.first = true := formed_A
  rw [g, if_neg (by decide), if_pos f, mend_A]
  rfl
theorem val_A : valK [kA, kB] = true := by
  rw [valK_iff]
  exact ⟨⟨by decide, by decide⟩, by decide, by decide⟩
theorem fitV_A (v : Ver) (h : v = xA1 ∨ v = xB0 ∨ v = xB2) : FitV v := by
  rcases h with rfl | rfl | rfl
  · exact ⟨by decide, by decide, by decide, by decide, by decide⟩
  · exact ⟨by decide, by decide, by decide, by decide, by decide⟩
  · exact ⟨by decide, by decide, by decide, by decide, by decide⟩
theorem fitL_A (v : Ver) (h : v = xA1 ∨ v = xB0 ∨ v = xB2) : FitL [v] := ⟨by simp, fun u hu => by rcases List.mem_cons.1 hu with rfl | hu; exact fitV_A u h; cases hu⟩
theorem wf_A0 : WfR (newR [kA, kB] 1 3) := newR_wf ⟨by decide, by decide, by decide, by decide⟩ val_A
theorem wf_A1 : WfR sA1 := by have := wf_A0.begin (fr := 1) (st := 1) (t := 0); rw [begin_A] at this; exact this
theorem wf_A2 : WfR sA2 := by have := wf_A1.recv (part := 0) (kind := 7) (req := 1) (l := [xA1]) (fr := 1) (st := 1) (t := 1) (fitL_A _ (.inl rfl)); rw [recv_A1] at this; exact this
theorem wf_A4 : WfR sA4 := by have := wf_A2.recv (part := 0) (kind := 7) (req := 1) (l := [xB0]) (fr := 1) (st := 1) (t := 1) (fitL_A _ (.inr (.inl rfl))); rw [recv_A2] at this; exact this
theorem wf_A6 : WfR sA6 := by have := wf_A4.recv (part := 0) (kind := 7) (req := 2) (l := [xB2]) (fr := 1) (st := 1) (t := 2) (fitL_A _ (.inr (.inr rfl))); rw [recv_A4] at this; exact this
end Go.Proofs.Ytileipnoiocdlaa
