/- The law's own: fit. -/
import Derived.Test.YtjkljljmjjnneaaGreatDoorS4
import Derived.Test.YtjkljljmjjnneaaGreatDoorRt
import Derived.Test.YtjkljljmjjnneaaGreatDoorP6
import Derived.Deep.RegionHeld3
namespace Go.Proofs.YtjkljljmjjnneaaGreatDoor
open Go.RowKit Go.Sort Orl
set_option linter.unusedVariables false
set_option linter.unusedSimpArgs false

def fitV (v : Ver) : Ver := if v.id = 0 then ⟨v.key, 0, e0, []⟩ else v
def fitR (r : RV) : RV := if r.id = 0 then ⟨r.key, 0, e0, none, 0, 0⟩ else r
def kindF (e : Ev) : Nat := rst (IntKind.i64.wrap (e.kind - 1)) 2
/-- an event that may be, made of any -/
def fitE (e : Ev) : Ev :=
  let C : Int := (rst e.client 15 : Nat)
  let T : Int := 1 + (rst e.txn 1099511627776 : Nat)
  if kindF e = 0 then ⟨1, C, T, e.id, e.pairs, [], 0, 0, 0, []⟩
  else if kindF e = 1 then ⟨2, C, T, 0, [], e.keys, 0, 0, 0, []⟩
  else ⟨3, C, T, 0, [], [], T, 1 + (rst (IntKind.i64.wrap (e.ares - 1)) 5 : Nat), e.aid, e.vers.map fitV⟩
/-- an event whose versions are its own, its other lists those of an elder world -/
def EvS (w0 W : World) (r : RE) (e : Ev) : Prop := (∀ q, inO r.vo q → ∃ cur, W.heap[q]? = some (.cells cur 56 (0, 0))) ∧ ∀ w'', Keeps (fun q => w0.heap.size ≤ q ∧ ¬ inO r.vo q) W w'' → EvOf w'' r e
structure F3 (w W : World) (B : Nat) (r : RE) (cs : Array Value) : Prop where
  b1 : W.heap[B]? = some (.cells (cellsE r).toArray 36 (0, 0))
  b2 : W.heap[B + 1]? = some (.cells c0E 36 (0, 0))
  b3 : W.heap[B + 2]? = some (.cells cs 36 (0, 0))
  kp : Keeps no w W
  ge : w.heap.size ≤ B
theorem F3.keepsN {w W W' : World} {B : Nat} {r : RE} {cs : Array Value} (h : F3 w W B r cs) (k : Keeps no W W') : F3 w W' B r cs := ⟨k.at h.b1 id, k.at h.b2 id, k.at h.b3 id, h.kp.trans k, h.ge⟩
theorem F3.set {w W : World} {B : Nat} {r : RE} {cs : Array Value} (h : F3 w W B r cs) (j : Nat) (v : Value) : F3 w (W.setCell ⟨B + 2, j, none⟩ v) B r (cs.setIfInBounds j v) :=
  ⟨blk_set_ne h.b1 (show B ≠ B + 2 by omega) v, blk_set_ne h.b2 (show B + 1 ≠ B + 2 by omega) v, blk_set h.b3 j v, h.kp.setCell (p := ⟨B + 2, j, none⟩) (.inr (by have := h.ge; show w.heap.size ≤ B + 2; omega)) v, h.ge⟩
theorem F3.ap {w W W' : World} {B : Nat} {r : RE} {cs : Array Value} (h : F3 w W B r cs) {o o' : Option Addr} (ha : Ap W o o' W') (hn : New w o) (ht : ∀ k, inO o k → ∃ cur t, W.heap[k]? = some (.cells cur t (0, 0)) ∧ t ≠ 36) : F3 w W' B r cs := by
  have hne : ∀ k c, W.heap[k]? = some (.cells c 36 (0, 0)) → ¬ inO o k := fun k c hk hi => by
    obtain ⟨cur, t, h1, h2⟩ := ht k hi
    rw [h1] at hk; injection hk with e; injection e with _ e _; exact h2 e
  have hk := (ha.new (w0 := w) hn h.kp).2
  rcases ha with ⟨_, k⟩ | ⟨_, k⟩
  · exact ⟨k.at h.b1 (hne _ _ h.b1), k.at h.b2 (hne _ _ h.b2), k.at h.b3 (hne _ _ h.b3), hk, h.ge⟩
  · exact ⟨k.at h.b1 id, k.at h.b2 id, k.at h.b3 id, hk, h.ge⟩
theorem F3.fin {w W : World} {B : Nat} {r : RE} {cs : Array Value} (h : F3 w W B r cs) (s : RE) : (set10 W (B + 1) s).heap[B + 1]? = some (.cells (cellsE s).toArray 36 (0, 0)) ∧ Keeps no w (set10 W (B + 1) s) ∧ Keeps (fun k => k = B + 1) W (set10 W (B + 1) s) :=
  E2.fin (cs := (cellsE r).toArray) ⟨h.b1, h.b2, h.kp, h.ge⟩ s
set_option maxRecDepth 10000 in
set_option maxHeartbeats 8000000 in
theorem fit_any (w0 w : World) (hw0 : Keeps no w0 w) (r : RE) (e : Ev) (he0 : EvOf w0 r e) (hz : SzE e) (hk : I64 e.kind) (hcl : I64 e.client) (htx : I64 e.txn) (har : I64 e.ares) :
    Calls Tryz.prog 15 #[aggE r] w fun E w' => ∃ s, E = .returned (aggE s) ∧ EvS w0 w' s (fitE e) ∧ Keeps no w w' := by
  have he := he0.keepsN hw0
  have HW0 : Hid (EvOf w0 r e ∧ Keeps no w0 w) := ⟨he0, hw0⟩
  clear he0 hw0
  obtain ⟨B, hB⟩ : ∃ B, B = w.heap.size := ⟨_, rfl⟩
  have HE : Hid (EvOf w r e ∧ SzE e ∧ kindF e ≤ 2) := ⟨he, hz, rst_le _ _⟩
  have HFE : Hid (fitE e = if kindF e = 0 then ⟨1, (rst e.client 15 : Nat), 1 + (rst e.txn 1099511627776 : Nat), e.id, e.pairs, [], 0, 0, 0, []⟩
    else if kindF e = 1 then ⟨2, (rst e.client 15 : Nat), 1 + (rst e.txn 1099511627776 : Nat), 0, [], e.keys, 0, 0, 0, []⟩
    else ⟨3, (rst e.client 15 : Nat), 1 + (rst e.txn 1099511627776 : Nat), 0, [], [], 1 + (rst e.txn 1099511627776 : Nat), 1 + (rst (IntKind.i64.wrap (e.ares - 1)) 5 : Nat), e.aid, e.vers.map fitV⟩) := rfl
  have hik : I64 (IntKind.i64.wrap (e.kind - 1)) := by rw [IntKind.wrap_i64]; unfold I64; omega
  have hia : I64 (IntKind.i64.wrap (e.ares - 1)) := by rw [IntKind.wrap_i64]; unfold I64; omega
  have HR : Hid ((∀ W, Calls Tryz.prog 9 #[.int .i64 (IntKind.i64.wrap (e.kind - 1)), .int .i64 2] W fun E w' => E = .returned (.int .i64 ((kindF e : Nat) : Int)) ∧ w' = W) ∧ (∀ W, Calls Tryz.prog 9 #[.int .i64 e.client, .int .i64 15] W fun E w' => E = .returned (.int .i64 ((rst e.client 15 : Nat) : Int)) ∧ w' = W) ∧ (∀ W, Calls Tryz.prog 9 #[.int .i64 e.txn, .int .i64 1099511627776] W fun E w' => E = .returned (.int .i64 ((rst e.txn 1099511627776 : Nat) : Int)) ∧ w' = W) ∧ (∀ W, Calls Tryz.prog 9 #[.int .i64 (IntKind.i64.wrap (e.ares - 1)), .int .i64 5] W fun E w' => E = .returned (.int .i64 ((rst (IntKind.i64.wrap (e.ares - 1)) 5 : Nat) : Int)) ∧ w' = W)) :=
    ⟨fun W => rest_any _ 2 W hik (by decide), fun W => rest_any _ 15 W hcl (by decide), fun W => rest_any _ 1099511627776 W htx (by decide), fun W => rest_any _ 5 W hia (by decide)⟩
  have hT := rst_le e.txn 1099511627776
  have hA := rst_le (IntKind.i64.wrap (e.ares - 1)) 5
  have hK := rst_le (IntKind.i64.wrap (e.kind - 1)) 2
  rw [show rst (IntKind.i64.wrap (e.kind - 1)) 2 = kindF e from rfl] at hK
  generalize rst e.client 15 = C at HFE HR
  generalize rst e.txn 1099511627776 = T at HFE HR hT
  generalize rst (IntKind.i64.wrap (e.ares - 1)) 5 = A at HFE HR hA
  generalize kindF e = K at HFE HR hK HE
  rw [← he.kind, ← he.client, ← he.txn, ← he.ares] at HR
  have har' : I64 r.ares := by rw [he.ares]; exact har
  have hk' : I64 r.kind := by rw [he.kind]; exact hk
  obtain ⟨ek, ecl, et, ei, po, pn, pc, ko, kn, kc, ax, ar, ai, vo, vn, vc⟩ := r
  unfold aggE cellsE
  simp only at HR har' hk'
  clear he hz hk hcl htx har hik hia
  have H0 : Hid (∀ W, W = (w.alloc (.cells #[.int .i64 ek, .int .i64 ecl, .int .i64 et, .int .u64 (ei : Nat), .slice po pn pc, .slice ko kn kc, .int .i64 ax, .int .i64 ar, .int .u64 (ai : Nat), .slice vo vn vc] 36)).alloc (.cells c0E 36) → E2 w W B #[.int .i64 ek, .int .i64 ecl, .int .i64 et, .int .u64 (ei : Nat), .slice po pn pc, .slice ko kn kc, .int .i64 ax, .int .i64 ar, .int .u64 (ai : Nat), .slice vo vn vc]) := by
    rintro W rfl
    refine ⟨?_, ?_, ((Keeps.refl _ _).alloc _).alloc _, Nat.le_of_eq hB.symm⟩
    · rw [hB]; exact blk_alloc (blk_new w _) _
    · have e' : (w.alloc (.cells #[.int .i64 ek, .int .i64 ecl, .int .i64 et, .int .u64 (ei : Nat), .slice po pn pc, .slice ko kn kc, .int .i64 ax, .int .i64 ar, .int .u64 (ai : Nat), .slice vo vn vc] 36)).heap.size = B + 1 := by rw [hB]; exact Array.size_push _
      rw [← e']; exact blk_new _ _
  have HS0 : Hid (∀ W, W = (w.alloc (.cells #[.int .i64 ek, .int .i64 ecl, .int .i64 et, .int .u64 (ei : Nat), .slice po pn pc, .slice ko kn kc, .int .i64 ax, .int .i64 ar, .int .u64 (ai : Nat), .slice vo vn vc] 36)).alloc (.cells c0E 36) → W.heap.size = B + 2) := by
    rintro W rfl
    rw [hB]
    show ((w.heap.push _).push _).size = _
    rw [Array.size_push, Array.size_push]
  go_enter Tryz.func15, Tryz.ntmps15
  go_upto_region 1 with fail
  have h1 := H0.out _ rfl
  have hs1 := HS0.out _ rfl
  generalize (w.alloc (.cells #[.int .i64 ek, .int .i64 ecl, .int .i64 et, .int .u64 (ei : Nat), .slice po pn pc, .slice ko kn kc, .int .i64 ax, .int .i64 ar, .int .u64 (ai : Nat), .slice vo vn vc] 36)).alloc (.cells c0E 36) = w1 at h1 hs1 ⊢
  rw [← hB]
  have H1 : Hid (E2 w w1 B #[.int .i64 ek, .int .i64 ecl, .int .i64 et, .int .u64 (ei : Nat), .slice po pn pc, .slice ko kn kc, .int .i64 ax, .int .i64 ar, .int .u64 (ai : Nat), .slice vo vn vc] ∧ w1.heap.size = B + 2) := ⟨h1, hs1⟩
  clear H0 HS0 hB hs1
  have z0 := cell_of_blk h1.b1 0
  have z1 := cell_of_blk h1.b1 1
  have z2 := cell_of_blk h1.b1 2
  simp only [List.getElem?_toArray, List.getElem?_cons_succ, List.getElem?_cons_zero] at z0 z1 z2
  clear h1
  have HSL : Hid (∀ W, Keeps no w1 W → W.cell? ⟨B, 0, none⟩ = some (.int .i64 ek) ∧ W.cell? ⟨B, 1, none⟩ = some (.int .i64 ecl) ∧ W.cell? ⟨B, 2, none⟩ = some (.int .i64 et)) := fun W hW => ⟨hW.cellN z0, hW.cellN z1, hW.cellN z2⟩
  have hTI : (T : Int) ≤ 1099511627776 := by omega
  have hKI : (K : Int) ≤ 2 := by omega
  have hw1 : IntKind.i64.wrap (1 + (K : Int)) = 1 + (K : Int) := by rw [IntKind.wrap_i64]; omega
  have hw2 : IntKind.i64.wrap (1 + (T : Int)) = 1 + (T : Int) := by rw [IntKind.wrap_i64]; omega
  have hAI : (A : Int) ≤ 5 := by omega
  clear hT hK hA
  have HF3 : Hid (∀ W, W = (w1.alloc (.cells #[.int .i64 (1 + (K : Nat)), .int .i64 (C : Nat), .int .i64 (1 + (T : Nat)), .int .u64 0, .slice none 0 0, .slice none 0 0, .int .i64 0, .int .i64 0, .int .u64 0, .slice none 0 0] 36)).drew → F3 w W B ⟨ek, ecl, et, ei, po, pn, pc, ko, kn, kc, ax, ar, ai, vo, vn, vc⟩ #[.int .i64 (1 + (K : Nat)), .int .i64 (C : Nat), .int .i64 (1 + (T : Nat)), .int .u64 0, .slice none 0 0, .slice none 0 0, .int .i64 0, .int .i64 0, .int .u64 0, .slice none 0 0]) := by
    rintro W rfl
    have k : Keeps no w1 (w1.alloc (.cells #[.int .i64 (1 + (K : Nat)), .int .i64 (C : Nat), .int .i64 (1 + (T : Nat)), .int .u64 0, .slice none 0 0, .slice none 0 0, .int .i64 0, .int .i64 0, .int .u64 0, .slice none 0 0] 36)).drew := ((Keeps.refl _ _).alloc _).drew
    have h := (blk_new w1 (.cells #[.int .i64 (1 + (K : Nat)), .int .i64 (C : Nat), .int .i64 (1 + (T : Nat)), .int .u64 0, .slice none 0 0, .slice none 0 0, .int .i64 0, .int .i64 0, .int .u64 0, .slice none 0 0] 36))
    rw [H1.out.2] at h
    exact ⟨k.at H1.out.1.b1 id, k.at H1.out.1.b2 id, h, H1.out.1.kp.trans k, H1.out.1.ge⟩
  go_cut [3] from 6 to 18 (fun s3 wx => s3 = .pointer (some ⟨B + 2, 0, none⟩) ∧ Hid (F3 w wx B ⟨ek, ecl, et, ei, po, pn, pc, ko, kn, kc, ax, ar, ai, vo, vn, vc⟩ #[.int .i64 (1 + (K : Nat)), .int .i64 (C : Nat), .int .i64 (1 + (T : Nat)), .int .u64 0, .slice none 0 0, .slice none 0 0, .int .i64 0, .int .i64 0, .int .u64 0, .slice none 0 0]))
  case first =>
    as_aux_lemma =>
    go_region_held3 (fun W => W.cell? ⟨B, 0, none⟩ = some (.int .i64 ek) ∧ W.cell? ⟨B, 1, none⟩ = some (.int .i64 ecl) ∧ W.cell? ⟨B, 2, none⟩ = some (.int .i64 et)) (first | exact HSL.out _ (Keeps.refl no w1) | exact HSL.out _ ((Keeps.refl no w1).drew) | exact HSL.out _ ((Keeps.refl no w1).alloc _) | exact HSL.out _ (((Keeps.refl no w1).alloc _).drew)) (first | (with_reducible refine (HR.out.1 _).mono ?_; rintro E wq ⟨rfl, rfl⟩) | (with_reducible refine (HR.out.2.1 _).mono ?_; rintro E wq ⟨rfl, rfl⟩) | (with_reducible refine (HR.out.2.2.1 _).mono ?_; rintro E wq ⟨rfl, rfl⟩))
    all_goals (go_wp2_with fail; go_meet; exact ⟨by rw [H1.out.2], HF3.out _ rfl⟩)
  case rest =>
    rename World => w2
    obtain ⟨rfl, H2⟩ := hcut
    clear H1 HF3 HSL z0 z1 z2 hw1
    have hK3 : K = 0 ∨ K = 1 ∨ K = 2 := by omega
    rcases hK3 with rfl | rfl | rfl
    · have H2 : Hid (F3 w w2 B ⟨ek, ecl, et, ei, po, pn, pc, ko, kn, kc, ax, ar, ai, vo, vn, vc⟩ #[.int .i64 1, .int .i64 (C : Nat), .int .i64 (1 + (T : Nat)), .int .u64 0, .slice none 0 0, .slice none 0 0, .int .i64 0, .int .i64 0, .int .u64 0, .slice none 0 0]) := H2
      have hEV : Hid (fitE e = ⟨1, (C : Nat), 1 + (T : Nat), e.id, e.pairs, [], 0, 0, 0, []⟩) := HFE.out
      have z3 := cell_of_blk H2.out.b1 3
      have z4 := cell_of_blk H2.out.b1 4
      simp only [cellsE, List.getElem?_toArray, List.getElem?_cons_succ, List.getElem?_cons_zero] at z3 z4
      have x3 := cell_of_blk H2.out.b3 3
      have x4 := cell_of_blk H2.out.b3 4
      simp only [List.getElem?_toArray, List.getElem?_cons_succ, List.getElem?_cons_zero] at x3 x4
      have x0 := cell_of_blk H2.out.b3 0
      simp only [List.getElem?_toArray, List.getElem?_cons_zero] at x0
      have f3 := frozen_of_blk H2.out.b3 3
      have f4 := frozen_of_blk H2.out.b3 4
      have H3 : Hid (∀ W, W = (w2.setCell ⟨B + 2, 3, none⟩ (.int .u64 (ei : Nat))).setCell ⟨B + 2, 4, none⟩ (.slice po pn pc) → F3 w W B ⟨ek, ecl, et, ei, po, pn, pc, ko, kn, kc, ax, ar, ai, vo, vn, vc⟩ #[.int .i64 1, .int .i64 (C : Nat), .int .i64 (1 + (T : Nat)), .int .u64 (ei : Nat), .slice po pn pc, .slice none 0 0, .int .i64 0, .int .i64 0, .int .u64 0, .slice none 0 0]) := by
        rintro W rfl
        have h := (H2.out.set 3 (.int .u64 (ei : Nat))).set 4 (.slice po pn pc)
        simp only [List.setIfInBounds_toArray, List.set_cons_zero, List.set_cons_succ] at h
        exact h
      have hb3 := H2.out.set 3 (.int .u64 (ei : Nat))
      have x4b := cell_of_blk hb3.b3 4
      simp only [List.setIfInBounds_toArray, List.set_cons_zero, List.set_cons_succ, List.getElem?_toArray, List.getElem?_cons_succ, List.getElem?_cons_zero] at x4b
      have f4b := frozen_of_blk hb3.b3 4
      have z4b := cell_of_blk hb3.b1 4
      simp only [cellsE, List.getElem?_toArray, List.getElem?_cons_succ, List.getElem?_cons_zero] at z4b
      clear hb3
      go_upto_region 17 with fail
      have h3 := H3.out _ rfl
      generalize (w2.setCell ⟨B + 2, 3, none⟩ (.int .u64 (ei : Nat))).setCell ⟨B + 2, 4, none⟩ (.slice po pn pc) = WW at h3 ⊢
      have H4 : Hid (F3 w WW B ⟨ek, ecl, et, ei, po, pn, pc, ko, kn, kc, ax, ar, ai, vo, vn, vc⟩ #[.int .i64 1, .int .i64 (C : Nat), .int .i64 (1 + (T : Nat)), .int .u64 (ei : Nat), .slice po pn pc, .slice none 0 0, .int .i64 0, .int .i64 0, .int .u64 0, .slice none 0 0]) := h3
      clear h3 H3 H2 z3 z4 x3 x4 x0 f3 f4 x4b f4b z4b
      have x0 := cell_of_blk H4.out.b3 0
      have x1 := cell_of_blk H4.out.b3 1
      have x2 := cell_of_blk H4.out.b3 2
      have x3 := cell_of_blk H4.out.b3 3
      have x4 := cell_of_blk H4.out.b3 4
      have x5 := cell_of_blk H4.out.b3 5
      have x6 := cell_of_blk H4.out.b3 6
      have x7 := cell_of_blk H4.out.b3 7
      have x8 := cell_of_blk H4.out.b3 8
      have x9 := cell_of_blk H4.out.b3 9
      simp only [List.getElem?_toArray, List.getElem?_cons_succ, List.getElem?_cons_zero] at x0 x1 x2 x3 x4 x5 x6 x7 x8 x9
      have y0 := cell_of_blk H4.out.b2 0
      have y1 := cell_of_blk H4.out.b2 1
      have y2 := cell_of_blk H4.out.b2 2
      have y3 := cell_of_blk H4.out.b2 3
      have y4 := cell_of_blk H4.out.b2 4
      have y5 := cell_of_blk H4.out.b2 5
      have y6 := cell_of_blk H4.out.b2 6
      have y7 := cell_of_blk H4.out.b2 7
      have y8 := cell_of_blk H4.out.b2 8
      have y9 := cell_of_blk H4.out.b2 9
      simp only [List.getElem?_toArray, List.getElem?_cons_succ, List.getElem?_cons_zero] at y0 y1 y2 y3 y4 y5 y6 y7 y8 y9
      have fy0 := frozen_of_blk H4.out.b2 0
      have fy1 := frozen_of_blk H4.out.b2 1
      have fy2 := frozen_of_blk H4.out.b2 2
      have fy3 := frozen_of_blk H4.out.b2 3
      have fy4 := frozen_of_blk H4.out.b2 4
      have fy5 := frozen_of_blk H4.out.b2 5
      have fy6 := frozen_of_blk H4.out.b2 6
      have fy7 := frozen_of_blk H4.out.b2 7
      have fy8 := frozen_of_blk H4.out.b2 8
      have fy9 := frozen_of_blk H4.out.b2 9
      have HF : Hid (∀ W', W' = set10 WW (B + 1) (⟨1, (C : Nat), 1 + (T : Nat), ei, po, pn, pc, none, 0, 0, 0, 0, 0, none, 0, 0⟩ : RE) → W'.heap[B + 1]? = some (.cells (cellsE (⟨1, (C : Nat), 1 + (T : Nat), ei, po, pn, pc, none, 0, 0, 0, 0, 0, none, 0, 0⟩ : RE)).toArray 36 (0, 0)) ∧ Keeps no w W' ∧ Keeps (fun k => k = B + 1) WW W') := by
        rintro W' rfl
        exact H4.out.fin (⟨1, (C : Nat), 1 + (T : Nat), ei, po, pn, pc, none, 0, 0, 0, 0, 0, none, 0, 0⟩ : RE)
      unfold set10 at HF
      simp only at HF
      go_wp2_with fail
      refine bodyPost_ret (results_row1 rfl _ _ (B + 1) _ rfl (run_loadVar_row _ _ _ _ _ _ _ (HF.out _ rfl).1 Tryz.underlying36 rfl (ev_size _ _ _ _ _ _ _ _ _ _))) rfl ?_
      exact ⟨(⟨1, (C : Nat), 1 + (T : Nat), ei, po, pn, pc, none, 0, 0, 0, 0, 0, none, 0, 0⟩ : RE), rfl, ⟨fun k hk => (by obtain ⟨x, e', _⟩ := hk; cases e'), fun w'' hk'' => by
        rw [hEV.out]
        have h := HW0.out.1.keepsN ((HW0.out.2.trans (HF.out _ rfl).2.1).then hk'' (fun i hi => .inr hi.1))
        exact ⟨rfl, rfl, rfl, h.id, h.pn, h.ps, rfl, sl_nil _, rfl, rfl, rfl, rfl, [], sl_nil _, rfl, fun j hj => absurd hj (Nat.not_lt_zero _)⟩⟩, (HF.out _ rfl).2.1⟩
    · have H2 : Hid (F3 w w2 B ⟨ek, ecl, et, ei, po, pn, pc, ko, kn, kc, ax, ar, ai, vo, vn, vc⟩ #[.int .i64 2, .int .i64 (C : Nat), .int .i64 (1 + (T : Nat)), .int .u64 0, .slice none 0 0, .slice none 0 0, .int .i64 0, .int .i64 0, .int .u64 0, .slice none 0 0]) := H2
      have hEV : Hid (fitE e = ⟨2, (C : Nat), 1 + (T : Nat), 0, [], e.keys, 0, 0, 0, []⟩) := HFE.out
      have z5 := cell_of_blk H2.out.b1 5
      simp only [cellsE, List.getElem?_toArray, List.getElem?_cons_succ, List.getElem?_cons_zero] at z5
      have x5 := cell_of_blk H2.out.b3 5
      simp only [List.getElem?_toArray, List.getElem?_cons_succ, List.getElem?_cons_zero] at x5
      have x0 := cell_of_blk H2.out.b3 0
      simp only [List.getElem?_toArray, List.getElem?_cons_zero] at x0
      have f5 := frozen_of_blk H2.out.b3 5
      have H3 : Hid (∀ W, W = w2.setCell ⟨B + 2, 5, none⟩ (.slice ko kn kc) → F3 w W B ⟨ek, ecl, et, ei, po, pn, pc, ko, kn, kc, ax, ar, ai, vo, vn, vc⟩ #[.int .i64 2, .int .i64 (C : Nat), .int .i64 (1 + (T : Nat)), .int .u64 0, .slice none 0 0, .slice ko kn kc, .int .i64 0, .int .i64 0, .int .u64 0, .slice none 0 0]) := by
        rintro W rfl
        have h := H2.out.set 5 (.slice ko kn kc)
        simp only [List.setIfInBounds_toArray, List.set_cons_zero, List.set_cons_succ] at h
        exact h
      go_upto_region 17 with fail
      have h3 := H3.out _ rfl
      generalize w2.setCell ⟨B + 2, 5, none⟩ (.slice ko kn kc) = WW at h3 ⊢
      have H4 : Hid (F3 w WW B ⟨ek, ecl, et, ei, po, pn, pc, ko, kn, kc, ax, ar, ai, vo, vn, vc⟩ #[.int .i64 2, .int .i64 (C : Nat), .int .i64 (1 + (T : Nat)), .int .u64 0, .slice none 0 0, .slice ko kn kc, .int .i64 0, .int .i64 0, .int .u64 0, .slice none 0 0]) := h3
      clear h3 H3 H2 z5 x5 x0 f5
      have x0 := cell_of_blk H4.out.b3 0
      have x1 := cell_of_blk H4.out.b3 1
      have x2 := cell_of_blk H4.out.b3 2
      have x3 := cell_of_blk H4.out.b3 3
      have x4 := cell_of_blk H4.out.b3 4
      have x5 := cell_of_blk H4.out.b3 5
      have x6 := cell_of_blk H4.out.b3 6
      have x7 := cell_of_blk H4.out.b3 7
      have x8 := cell_of_blk H4.out.b3 8
      have x9 := cell_of_blk H4.out.b3 9
      simp only [List.getElem?_toArray, List.getElem?_cons_succ, List.getElem?_cons_zero] at x0 x1 x2 x3 x4 x5 x6 x7 x8 x9
      have y0 := cell_of_blk H4.out.b2 0
      have y1 := cell_of_blk H4.out.b2 1
      have y2 := cell_of_blk H4.out.b2 2
      have y3 := cell_of_blk H4.out.b2 3
      have y4 := cell_of_blk H4.out.b2 4
      have y5 := cell_of_blk H4.out.b2 5
      have y6 := cell_of_blk H4.out.b2 6
      have y7 := cell_of_blk H4.out.b2 7
      have y8 := cell_of_blk H4.out.b2 8
      have y9 := cell_of_blk H4.out.b2 9
      simp only [List.getElem?_toArray, List.getElem?_cons_succ, List.getElem?_cons_zero] at y0 y1 y2 y3 y4 y5 y6 y7 y8 y9
      have fy0 := frozen_of_blk H4.out.b2 0
      have fy1 := frozen_of_blk H4.out.b2 1
      have fy2 := frozen_of_blk H4.out.b2 2
      have fy3 := frozen_of_blk H4.out.b2 3
      have fy4 := frozen_of_blk H4.out.b2 4
      have fy5 := frozen_of_blk H4.out.b2 5
      have fy6 := frozen_of_blk H4.out.b2 6
      have fy7 := frozen_of_blk H4.out.b2 7
      have fy8 := frozen_of_blk H4.out.b2 8
      have fy9 := frozen_of_blk H4.out.b2 9
      have HF : Hid (∀ W', W' = set10 WW (B + 1) (⟨2, (C : Nat), 1 + (T : Nat), 0, none, 0, 0, ko, kn, kc, 0, 0, 0, none, 0, 0⟩ : RE) → W'.heap[B + 1]? = some (.cells (cellsE (⟨2, (C : Nat), 1 + (T : Nat), 0, none, 0, 0, ko, kn, kc, 0, 0, 0, none, 0, 0⟩ : RE)).toArray 36 (0, 0)) ∧ Keeps no w W' ∧ Keeps (fun k => k = B + 1) WW W') := by
        rintro W' rfl
        exact H4.out.fin (⟨2, (C : Nat), 1 + (T : Nat), 0, none, 0, 0, ko, kn, kc, 0, 0, 0, none, 0, 0⟩ : RE)
      unfold set10 at HF
      simp only at HF
      go_wp2_with fail
      refine bodyPost_ret (results_row1 rfl _ _ (B + 1) _ rfl (run_loadVar_row _ _ _ _ _ _ _ (HF.out _ rfl).1 Tryz.underlying36 rfl (ev_size _ _ _ _ _ _ _ _ _ _))) rfl ?_
      exact ⟨(⟨2, (C : Nat), 1 + (T : Nat), 0, none, 0, 0, ko, kn, kc, 0, 0, 0, none, 0, 0⟩ : RE), rfl, ⟨fun k hk => (by obtain ⟨x, e', _⟩ := hk; cases e'), fun w'' hk'' => by
        rw [hEV.out]
        have h := HW0.out.1.keepsN ((HW0.out.2.trans (HF.out _ rfl).2.1).then hk'' (fun i hi => .inr hi.1))
        exact ⟨rfl, rfl, rfl, rfl, rfl, sl_nil _, h.kn, h.ks, rfl, rfl, rfl, rfl, [], sl_nil _, rfl, fun j hj => absurd hj (Nat.not_lt_zero _)⟩⟩, (HF.out _ rfl).2.1⟩
    · have H2 : Hid (F3 w w2 B ⟨ek, ecl, et, ei, po, pn, pc, ko, kn, kc, ax, ar, ai, vo, vn, vc⟩ #[.int .i64 3, .int .i64 (C : Nat), .int .i64 (1 + (T : Nat)), .int .u64 0, .slice none 0 0, .slice none 0 0, .int .i64 0, .int .i64 0, .int .u64 0, .slice none 0 0]) := H2
      have hEV : Hid (fitE e = ⟨3, (C : Nat), 1 + (T : Nat), 0, [], [], 1 + (T : Nat), 1 + (A : Nat), e.aid, e.vers.map fitV⟩) := HFE.out
      have z7 := cell_of_blk H2.out.b1 7
      have z8 := cell_of_blk H2.out.b1 8
      simp only [cellsE, List.getElem?_toArray, List.getElem?_cons_succ, List.getElem?_cons_zero] at z7 z8
      have x2 := cell_of_blk H2.out.b3 2
      have x6 := cell_of_blk H2.out.b3 6
      have x7 := cell_of_blk H2.out.b3 7
      have x8 := cell_of_blk H2.out.b3 8
      have x9 := cell_of_blk H2.out.b3 9
      simp only [List.getElem?_toArray, List.getElem?_cons_succ, List.getElem?_cons_zero] at x2 x6 x7 x8 x9
      have x0 := cell_of_blk H2.out.b3 0
      simp only [List.getElem?_toArray, List.getElem?_cons_zero] at x0
      have f2 := frozen_of_blk H2.out.b3 2
      have f6 := frozen_of_blk H2.out.b3 6
      have f7 := frozen_of_blk H2.out.b3 7
      have f8 := frozen_of_blk H2.out.b3 8
      have f9 := frozen_of_blk H2.out.b3 9
      have hw3 : IntKind.i64.wrap (1 + (A : Int)) = 1 + (A : Int) := by rw [IntKind.wrap_i64]; omega
      have H9 : Hid (F3 w ((((w2.setCell ⟨B + 2, 6, none⟩ (.int .i64 (1 + (T : Nat)))).setCell ⟨B + 2, 7, none⟩ (.int .i64 (1 + (A : Nat)))).setCell ⟨B + 2, 8, none⟩ (.int .u64 (ai : Nat))).setCell ⟨B + 2, 9, none⟩ (.slice none 0 0)) B ⟨ek, ecl, et, ei, po, pn, pc, ko, kn, kc, ax, ar, ai, vo, vn, vc⟩ #[.int .i64 3, .int .i64 (C : Nat), .int .i64 (1 + (T : Nat)), .int .u64 0, .slice none 0 0, .slice none 0 0, .int .i64 (1 + (T : Nat)), .int .i64 (1 + (A : Nat)), .int .u64 (ai : Nat), .slice none 0 0]) := by
        have h := (((H2.out.set 6 (.int .i64 (1 + (T : Nat)))).set 7 (.int .i64 (1 + (A : Nat)))).set 8 (.int .u64 (ai : Nat))).set 9 (.slice none 0 0)
        simp only [List.setIfInBounds_toArray, List.set_cons_zero, List.set_cons_succ] at h
        exact h
      have HS9 : Hid (∀ W, Keeps no w2 W → W.cell? ⟨B, 7, none⟩ = some (.int .i64 ar) ∧ W.cell? ⟨B, 8, none⟩ = some (.int .u64 (ai : Nat)) ∧ W.cell? ⟨B + 2, 2, none⟩ = some (.int .i64 (1 + (T : Nat)))) := fun W hW => ⟨hW.cellN z7, hW.cellN z8, hW.cellN x2⟩
      have HT9 : Hid (((((w2.setCell ⟨B + 2, 6, none⟩ (.int .i64 (1 + (T : Nat)))).setCell ⟨B + 2, 7, none⟩ (.int .i64 (1 + (A : Nat)))).setCell ⟨B + 2, 8, none⟩ (.int .u64 (ai : Nat))).setCell ⟨B + 2, 9, none⟩ (.slice none 0 0)).cell? ⟨B, 7, none⟩ = some (.int .i64 ar) ∧ ((((w2.setCell ⟨B + 2, 6, none⟩ (.int .i64 (1 + (T : Nat)))).setCell ⟨B + 2, 7, none⟩ (.int .i64 (1 + (A : Nat)))).setCell ⟨B + 2, 8, none⟩ (.int .u64 (ai : Nat))).setCell ⟨B + 2, 9, none⟩ (.slice none 0 0)).cell? ⟨B, 8, none⟩ = some (.int .u64 (ai : Nat)) ∧ ((((w2.setCell ⟨B + 2, 6, none⟩ (.int .i64 (1 + (T : Nat)))).setCell ⟨B + 2, 7, none⟩ (.int .i64 (1 + (A : Nat)))).setCell ⟨B + 2, 8, none⟩ (.int .u64 (ai : Nat))).setCell ⟨B + 2, 9, none⟩ (.slice none 0 0)).cell? ⟨B + 2, 2, none⟩ = some (.int .i64 (1 + (T : Nat)))) := by
        have c7 := cell_of_blk H9.out.b1 7
        have c8 := cell_of_blk H9.out.b1 8
        have c2 := cell_of_blk H9.out.b3 2
        exact ⟨c7, c8, c2⟩
      go_upto_region 9 with fail
      go_cut [] from 36 to 48 (fun wx => wx = ((((w2.setCell ⟨B + 2, 6, none⟩ (.int .i64 (1 + (T : Nat)))).setCell ⟨B + 2, 7, none⟩ (.int .i64 (1 + (A : Nat)))).setCell ⟨B + 2, 8, none⟩ (.int .u64 (ai : Nat))).setCell ⟨B + 2, 9, none⟩ (.slice none 0 0)).drew)
      case first =>
        as_aux_lemma =>
        clear HE HFE hEV z7 z8 x2 x0 H2
        go_region_held3 (fun W => W.cell? ⟨B, 7, none⟩ = some (.int .i64 ar) ∧ W.cell? ⟨B, 8, none⟩ = some (.int .u64 (ai : Nat)) ∧ W.cell? ⟨B + 2, 2, none⟩ = some (.int .i64 (1 + (T : Nat)))) (first | exact HS9.out _ (Keeps.refl no w2) | exact HS9.out _ ((Keeps.refl no w2).drew) | exact HT9.out) (with_reducible refine (HR.out.2.2.2 _).mono ?_; rintro E wq ⟨rfl, rfl⟩)
        all_goals (go_wp2_with fail; go_meet; rfl)
      case rest =>
        rename World => w3
        subst hcut
        clear z7 z8 x2 x6 x7 x8 x9 f6 f7 f8 f9 x0 HS9 HT9 H2 hw3
        have h9 := H9.out.keepsN (Keeps.refl no _).drew
        obtain ⟨w3, hw3⟩ : ∃ w3, w3 = ((((w2.setCell ⟨B + 2, 6, none⟩ (.int .i64 (1 + (T : Nat)))).setCell ⟨B + 2, 7, none⟩ (.int .i64 (1 + (A : Nat)))).setCell ⟨B + 2, 8, none⟩ (.int .u64 (ai : Nat))).setCell ⟨B + 2, 9, none⟩ (.slice none 0 0)).drew := ⟨_, rfl⟩
        rw [← hw3] at h9 ⊢
        have H3 : Hid (F3 w w3 B ⟨ek, ecl, et, ei, po, pn, pc, ko, kn, kc, ax, ar, ai, vo, vn, vc⟩ #[.int .i64 3, .int .i64 (C : Nat), .int .i64 (1 + (T : Nat)), .int .u64 0, .slice none 0 0, .slice none 0 0, .int .i64 (1 + (T : Nat)), .int .i64 (1 + (A : Nat)), .int .u64 (ai : Nat), .slice none 0 0]) := h9
        clear h9 hw3 H9
        obtain ⟨rvs, hvs⟩ := HW0.out.1.vs
        have HVS : Hid (Vers w0 vo vc rvs e.vers) := hvs
        have HVB : Hid (vn = e.vers.length ∧ vn ≤ 2199023255500) := ⟨HE.out.1.vn, by have h1 := HE.out.1.vn; have h2 := HE.out.2.1.vl; simp only at h1; omega⟩
        have hvb : (vn : Int) ≤ 2199023255500 := by have := HVB.out.2; omega
        clear hvs HFE HR
        go_wp2_with fail
        go_loopw [4] (fun s4 wr => ∃ (j : Nat) (oo : Option Addr) (oc : Nat), j ≤ vn ∧ s4 = .int .i64 (j : Nat) ∧ Hid (F3 w wr B ⟨ek, ecl, et, ei, po, pn, pc, ko, kn, kc, ax, ar, ai, vo, vn, vc⟩ #[.int .i64 3, .int .i64 (C : Nat), .int .i64 (1 + (T : Nat)), .int .u64 0, .slice none 0 0, .slice none 0 0, .int .i64 (1 + (T : Nat)), .int .i64 (1 + (A : Nat)), .int .u64 (ai : Nat), .slice oo j oc] ∧ Own VE wr oo oc ((rvs.take j).map fitR) ∧ New w oo)) (fun s4 _ => vn - (intOf s4).toNat)
        case atStart => exact ⟨0, none, 0, by omega, rfl, H3.out, by rw [List.take_zero]; exact own_nil _, new_none _⟩
        case round =>
          rename World => wr
          clear H3
          obtain ⟨j, oo, oc, hjm, rfl, HO⟩ := hrel
          have z9 := cell_of_blk HO.out.1.b1 9
          simp only [cellsE, List.getElem?_toArray, List.getElem?_cons_succ, List.getElem?_cons_zero] at z9
          by_cases hlt : j < vn
          · have hlt' : (j : Int) < vn := by omega
            have hj1 : j < e.vers.length := by have := HVB.out.1; omega
            have hva := HVS.out.keepsN (HW0.out.2.trans HO.out.1.kp)
            have hj2 : j < rvs.length := by rw [hva.len]; exact hj1
            obtain ⟨g1, p1, ev1, ca0, ca1, ca2, ca3⟩ := hva.sl.atV (j := j) hj2
            have hg1 : g1 < wr.heap.size := hva.sl.lt okV (fun h => by rw [h] at hj2; simp at hj2) g1 ⟨_, ev1, rfl⟩
            have HTK : Hid ((rvs.take (j + 1)).map fitR = (rvs.take j).map fitR ++ [fitR (rvs.getD j r0)]) := by
              show _ = _
              rw [take_succ_getD rvs j r0 hj2, List.map_append]; rfl
            have HJL : Hid (j = ((rvs.take j).map fitR).length) := by
              show _ = _
              rw [List.length_map, List.length_take]; omega
            generalize rvs.getD j r0 = r1 at ca0 ca1 ca2 ca3 HTK
            obtain ⟨k1, i1, a1, o1, n1, c1⟩ := r1
            simp only at ca0 ca1 ca2 ca3
            have hB2 : B + 2 < wr.heap.size := lt_of_block HO.out.1.b3
            clear hva hj1 hj2
            subst ev1
            by_cases hi : i1 = 0
            · subst hi
              have HTK : Hid ((rvs.take (j + 1)).map fitR = (rvs.take j).map fitR ++ [(⟨k1, 0, e0, none, 0, 0⟩ : RV)]) := HTK
              have HLT : Hid (F3 w ((wr.alloc (.cells #[.string k1, .int .u64 0, .string ⟨#[]⟩, .slice none 0 0] 56)).alloc (.cells #[.string k1, .int .u64 0, .string ⟨#[]⟩, .slice none 0 0] 56)) B ⟨ek, ecl, et, ei, po, pn, pc, ko, kn, kc, ax, ar, ai, (some ⟨g1, p1, none⟩), vn, vc⟩ #[.int .i64 3, .int .i64 (C : Nat), .int .i64 (1 + (T : Nat)), .int .u64 0, .slice none 0 0, .slice none 0 0, .int .i64 (1 + (T : Nat)), .int .i64 (1 + (A : Nat)), .int .u64 (ai : Nat), .slice oo j oc] ∧ Own VE ((wr.alloc (.cells #[.string k1, .int .u64 0, .string ⟨#[]⟩, .slice none 0 0] 56)).alloc (.cells #[.string k1, .int .u64 0, .string ⟨#[]⟩, .slice none 0 0] 56)) oo oc ((rvs.take j).map fitR) ∧ Row VE ((wr.alloc (.cells #[.string k1, .int .u64 0, .string ⟨#[]⟩, .slice none 0 0] 56)).alloc (.cells #[.string k1, .int .u64 0, .string ⟨#[]⟩, .slice none 0 0] 56)) (some ⟨wr.heap.size + 1, 0, none⟩) [(⟨k1, 0, e0, none, 0, 0⟩ : RV)]) := by
                have k : Keeps no wr ((wr.alloc (.cells #[.string k1, .int .u64 0, .string ⟨#[]⟩, .slice none 0 0] 56)).alloc (.cells #[.string k1, .int .u64 0, .string ⟨#[]⟩, .slice none 0 0] 56)) := ((Keeps.refl _ _).alloc _).alloc _
                have hl := (lit_one (E := VE) (wr.alloc (.cells #[.string k1, .int .u64 0, .string ⟨#[]⟩, .slice none 0 0] 56)) (⟨k1, 0, e0, none, 0, 0⟩ : RV) #[.string k1, .int .u64 0, .string ⟨#[]⟩, .slice none 0 0] rfl).row
                rw [show (wr.alloc (.cells #[.string k1, .int .u64 0, .string ⟨#[]⟩, .slice none 0 0] 56)).heap.size = wr.heap.size + 1 from Array.size_push _] at hl
                exact ⟨HO.out.1.keepsN k, HO.out.2.1.keepsN k, hl⟩
              have hb4 := (HO.out.1.keepsN ((Keeps.refl no wr).alloc (.cells #[.string k1, .int .u64 0, .string ⟨#[]⟩, .slice none 0 0] 56)))
              have x9 := cell_of_blk hb4.b3 9
              simp only [List.getElem?_toArray, List.getElem?_cons_succ, List.getElem?_cons_zero] at x9
              clear hb4
              go_wp2_with (at_builtin; refine wpList_app okV rfl _ _ rfl _ _ _ ((rvs.take j).map fitR) rfl HJL.out HLT.out.2.1 _ _ _ [(⟨k1, 0, e0, none, 0, 0⟩ : RV)] rfl rfl (fun h => by cases h) HLT.out.2.2 (by have := HVB.out; have := HJL.out; simp [VE] at *; omega) (by have := HVB.out; have := HJL.out; simp at *; omega) ?_; intro o6 c6 w6 ho6 hap6; have HE6 : Hid (F3 w w6 B ⟨ek, ecl, et, ei, po, pn, pc, ko, kn, kc, ax, ar, ai, (some ⟨g1, p1, none⟩), vn, vc⟩ #[.int .i64 3, .int .i64 (C : Nat), .int .i64 (1 + (T : Nat)), .int .u64 0, .slice none 0 0, .slice none 0 0, .int .i64 (1 + (T : Nat)), .int .i64 (1 + (A : Nat)), .int .u64 (ai : Nat), .slice oo j oc]) := (HLT.out.1.ap hap6 HO.out.2.2 (fun k hk => by obtain ⟨cur, hc⟩ := HLT.out.2.1.tag k hk; exact ⟨cur, _, hc, by decide⟩)); have HN6 : Hid (Own VE w6 o6 c6 ((rvs.take j).map fitR ++ [(⟨k1, 0, e0, none, 0, 0⟩ : RV)]) ∧ New w o6) := ⟨ho6, (hap6.new (w0 := w) HO.out.2.2 HLT.out.1.kp).1⟩; have u4 := cell_of_blk HE6.out.b3 9; have v4 := frozen_of_blk HE6.out.b3 9; simp only [List.getElem?_toArray, List.getElem?_cons_succ, List.getElem?_cons_zero] at u4; clear ho6 hap6)
              have HN7 : Hid (F3 w (w6.setCell ⟨B + 2, 9, none⟩ (.slice o6 (j + 1) c6)) B ⟨ek, ecl, et, ei, po, pn, pc, ko, kn, kc, ax, ar, ai, (some ⟨g1, p1, none⟩), vn, vc⟩ #[.int .i64 3, .int .i64 (C : Nat), .int .i64 (1 + (T : Nat)), .int .u64 0, .slice none 0 0, .slice none 0 0, .int .i64 (1 + (T : Nat)), .int .i64 (1 + (A : Nat)), .int .u64 (ai : Nat), .slice o6 (j + 1) c6] ∧ Own VE (w6.setCell ⟨B + 2, 9, none⟩ (.slice o6 (j + 1) c6)) o6 c6 ((rvs.take (j + 1)).map fitR)) := by
                have h6 := HE6.out.set 9 (.slice o6 (j + 1) c6)
                simp only [List.setIfInBounds_toArray, List.set_cons_zero, List.set_cons_succ] at h6
                rw [HTK.out]
                refine ⟨h6, HN6.out.1.keeps (keeps_one w6 (B + 2) 9 _) (fun k hk e => ?_)⟩
                obtain ⟨cur, hc⟩ := HN6.out.1.tag k hk
                rw [e, HE6.out.b3] at hc
                injection hc with hc
                injection hc with _ hc _
                exact absurd hc (by decide)
              go_roundw
              case rel => exact ⟨j + 1, o6, c6, by omega, by go_num, HN7.out.1, HN7.out.2, HN6.out.2⟩
              case measure => first | (simp [intOf]; done) | (simp [intOf]; omega)
            · have hib : ((i1 : Int) == 0) = false := by rw [beq_eq_false_iff_ne]; omega
              have HTK : Hid ((rvs.take (j + 1)).map fitR = (rvs.take j).map fitR ++ [(⟨k1, i1, a1, o1, n1, c1⟩ : RV)]) := by
                have h := HTK.out
                rw [show fitR ⟨k1, i1, a1, o1, n1, c1⟩ = ⟨k1, i1, a1, o1, n1, c1⟩ from if_neg hi] at h
                exact h
              have HLT : Hid (F3 w ((wr.alloc (.cells #[.string k1, .int .u64 (i1 : Nat), .string a1, .slice o1 n1 c1] 56)).alloc (.cells #[.string k1, .int .u64 (i1 : Nat), .string a1, .slice o1 n1 c1] 56)) B ⟨ek, ecl, et, ei, po, pn, pc, ko, kn, kc, ax, ar, ai, (some ⟨g1, p1, none⟩), vn, vc⟩ #[.int .i64 3, .int .i64 (C : Nat), .int .i64 (1 + (T : Nat)), .int .u64 0, .slice none 0 0, .slice none 0 0, .int .i64 (1 + (T : Nat)), .int .i64 (1 + (A : Nat)), .int .u64 (ai : Nat), .slice oo j oc] ∧ Own VE ((wr.alloc (.cells #[.string k1, .int .u64 (i1 : Nat), .string a1, .slice o1 n1 c1] 56)).alloc (.cells #[.string k1, .int .u64 (i1 : Nat), .string a1, .slice o1 n1 c1] 56)) oo oc ((rvs.take j).map fitR) ∧ Row VE ((wr.alloc (.cells #[.string k1, .int .u64 (i1 : Nat), .string a1, .slice o1 n1 c1] 56)).alloc (.cells #[.string k1, .int .u64 (i1 : Nat), .string a1, .slice o1 n1 c1] 56)) (some ⟨wr.heap.size + 1, 0, none⟩) [(⟨k1, i1, a1, o1, n1, c1⟩ : RV)]) := by
                have k : Keeps no wr ((wr.alloc (.cells #[.string k1, .int .u64 (i1 : Nat), .string a1, .slice o1 n1 c1] 56)).alloc (.cells #[.string k1, .int .u64 (i1 : Nat), .string a1, .slice o1 n1 c1] 56)) := ((Keeps.refl _ _).alloc _).alloc _
                have hl := (lit_one (E := VE) (wr.alloc (.cells #[.string k1, .int .u64 (i1 : Nat), .string a1, .slice o1 n1 c1] 56)) (⟨k1, i1, a1, o1, n1, c1⟩ : RV) #[.string k1, .int .u64 (i1 : Nat), .string a1, .slice o1 n1 c1] rfl).row
                rw [show (wr.alloc (.cells #[.string k1, .int .u64 (i1 : Nat), .string a1, .slice o1 n1 c1] 56)).heap.size = wr.heap.size + 1 from Array.size_push _] at hl
                exact ⟨HO.out.1.keepsN k, HO.out.2.1.keepsN k, hl⟩
              have hb4 := (HO.out.1.keepsN ((Keeps.refl no wr).alloc (.cells #[.string k1, .int .u64 (i1 : Nat), .string a1, .slice o1 n1 c1] 56)))
              have x9 := cell_of_blk hb4.b3 9
              simp only [List.getElem?_toArray, List.getElem?_cons_succ, List.getElem?_cons_zero] at x9
              clear hb4
              go_wp2_with (at_builtin; refine wpList_app okV rfl _ _ rfl _ _ _ ((rvs.take j).map fitR) rfl HJL.out HLT.out.2.1 _ _ _ [(⟨k1, i1, a1, o1, n1, c1⟩ : RV)] rfl rfl (fun h => by cases h) HLT.out.2.2 (by have := HVB.out; have := HJL.out; simp [VE] at *; omega) (by have := HVB.out; have := HJL.out; simp at *; omega) ?_; intro o6 c6 w6 ho6 hap6; have HE6 : Hid (F3 w w6 B ⟨ek, ecl, et, ei, po, pn, pc, ko, kn, kc, ax, ar, ai, (some ⟨g1, p1, none⟩), vn, vc⟩ #[.int .i64 3, .int .i64 (C : Nat), .int .i64 (1 + (T : Nat)), .int .u64 0, .slice none 0 0, .slice none 0 0, .int .i64 (1 + (T : Nat)), .int .i64 (1 + (A : Nat)), .int .u64 (ai : Nat), .slice oo j oc]) := (HLT.out.1.ap hap6 HO.out.2.2 (fun k hk => by obtain ⟨cur, hc⟩ := HLT.out.2.1.tag k hk; exact ⟨cur, _, hc, by decide⟩)); have HN6 : Hid (Own VE w6 o6 c6 ((rvs.take j).map fitR ++ [(⟨k1, i1, a1, o1, n1, c1⟩ : RV)]) ∧ New w o6) := ⟨ho6, (hap6.new (w0 := w) HO.out.2.2 HLT.out.1.kp).1⟩; have u4 := cell_of_blk HE6.out.b3 9; have v4 := frozen_of_blk HE6.out.b3 9; simp only [List.getElem?_toArray, List.getElem?_cons_succ, List.getElem?_cons_zero] at u4; clear ho6 hap6)
              have HN7 : Hid (F3 w (w6.setCell ⟨B + 2, 9, none⟩ (.slice o6 (j + 1) c6)) B ⟨ek, ecl, et, ei, po, pn, pc, ko, kn, kc, ax, ar, ai, (some ⟨g1, p1, none⟩), vn, vc⟩ #[.int .i64 3, .int .i64 (C : Nat), .int .i64 (1 + (T : Nat)), .int .u64 0, .slice none 0 0, .slice none 0 0, .int .i64 (1 + (T : Nat)), .int .i64 (1 + (A : Nat)), .int .u64 (ai : Nat), .slice o6 (j + 1) c6] ∧ Own VE (w6.setCell ⟨B + 2, 9, none⟩ (.slice o6 (j + 1) c6)) o6 c6 ((rvs.take (j + 1)).map fitR)) := by
                have h6 := HE6.out.set 9 (.slice o6 (j + 1) c6)
                simp only [List.setIfInBounds_toArray, List.set_cons_zero, List.set_cons_succ] at h6
                rw [HTK.out]
                refine ⟨h6, HN6.out.1.keeps (keeps_one w6 (B + 2) 9 _) (fun k hk e => ?_)⟩
                obtain ⟨cur, hc⟩ := HN6.out.1.tag k hk
                rw [e, HE6.out.b3] at hc
                injection hc with hc
                injection hc with _ hc _
                exact absurd hc (by decide)
              go_roundw
              case rel => exact ⟨j + 1, o6, c6, by omega, by go_num, HN7.out.1, HN7.out.2, HN6.out.2⟩
              case measure => first | (simp [intOf]; done) | (simp [intOf]; omega)
          · have hlt' : ¬ (j : Int) < vn := by omega
            have hjv : vn = j := by omega
            subst hjv
            have H4 : Hid (F3 w wr B ⟨ek, ecl, et, ei, po, pn, pc, ko, kn, kc, ax, ar, ai, vo, vn, vc⟩ #[.int .i64 3, .int .i64 (C : Nat), .int .i64 (1 + (T : Nat)), .int .u64 0, .slice none 0 0, .slice none 0 0, .int .i64 (1 + (T : Nat)), .int .i64 (1 + (A : Nat)), .int .u64 (ai : Nat), .slice oo vn oc]) := HO.out.1
            have HOV : Hid (Own VE wr oo oc (rvs.map fitR)) := by
              have h := HO.out.2.1
              rw [List.take_of_length_le (by rw [HVS.out.len, ← HVB.out.1]; exact Nat.le_refl _)] at h
              exact h
            clear HO
            generalize wr = WW at H4 HOV z9 ⊢
            have x0 := cell_of_blk H4.out.b3 0
            have x1 := cell_of_blk H4.out.b3 1
            have x2 := cell_of_blk H4.out.b3 2
            have x3 := cell_of_blk H4.out.b3 3
            have x4 := cell_of_blk H4.out.b3 4
            have x5 := cell_of_blk H4.out.b3 5
            have x6 := cell_of_blk H4.out.b3 6
            have x7 := cell_of_blk H4.out.b3 7
            have x8 := cell_of_blk H4.out.b3 8
            have x9 := cell_of_blk H4.out.b3 9
            simp only [List.getElem?_toArray, List.getElem?_cons_succ, List.getElem?_cons_zero] at x0 x1 x2 x3 x4 x5 x6 x7 x8 x9
            have y0 := cell_of_blk H4.out.b2 0
            have y1 := cell_of_blk H4.out.b2 1
            have y2 := cell_of_blk H4.out.b2 2
            have y3 := cell_of_blk H4.out.b2 3
            have y4 := cell_of_blk H4.out.b2 4
            have y5 := cell_of_blk H4.out.b2 5
            have y6 := cell_of_blk H4.out.b2 6
            have y7 := cell_of_blk H4.out.b2 7
            have y8 := cell_of_blk H4.out.b2 8
            have y9 := cell_of_blk H4.out.b2 9
            simp only [List.getElem?_toArray, List.getElem?_cons_succ, List.getElem?_cons_zero] at y0 y1 y2 y3 y4 y5 y6 y7 y8 y9
            have fy0 := frozen_of_blk H4.out.b2 0
            have fy1 := frozen_of_blk H4.out.b2 1
            have fy2 := frozen_of_blk H4.out.b2 2
            have fy3 := frozen_of_blk H4.out.b2 3
            have fy4 := frozen_of_blk H4.out.b2 4
            have fy5 := frozen_of_blk H4.out.b2 5
            have fy6 := frozen_of_blk H4.out.b2 6
            have fy7 := frozen_of_blk H4.out.b2 7
            have fy8 := frozen_of_blk H4.out.b2 8
            have fy9 := frozen_of_blk H4.out.b2 9
            have HF : Hid (∀ W', W' = set10 WW (B + 1) (⟨3, (C : Nat), 1 + (T : Nat), 0, none, 0, 0, none, 0, 0, (1 + (T : Nat)), (1 + (A : Nat)), ai, oo, vn, oc⟩ : RE) → W'.heap[B + 1]? = some (.cells (cellsE (⟨3, (C : Nat), 1 + (T : Nat), 0, none, 0, 0, none, 0, 0, (1 + (T : Nat)), (1 + (A : Nat)), ai, oo, vn, oc⟩ : RE)).toArray 36 (0, 0)) ∧ Keeps no w W' ∧ Keeps (fun k => k = B + 1) WW W') := by
              rintro W' rfl
              exact H4.out.fin (⟨3, (C : Nat), 1 + (T : Nat), 0, none, 0, 0, none, 0, 0, (1 + (T : Nat)), (1 + (A : Nat)), ai, oo, vn, oc⟩ : RE)
            unfold set10 at HF
            simp only at HF
            go_wp2_with fail
            refine bodyPost_ret (results_row1 rfl _ _ (B + 1) _ rfl (run_loadVar_row _ _ _ _ _ _ _ (HF.out _ rfl).1 Tryz.underlying36 rfl (ev_size _ _ _ _ _ _ _ _ _ _))) rfl ?_
            have hov0 : Own VE _ oo oc (rvs.map fitR) := HOV.out.keeps (HF.out _ rfl).2.2 (fun k hk e' => by
              obtain ⟨cur, hc⟩ := HOV.out.tag k hk
              rw [e', H4.out.b2] at hc
              injection hc with hc
              injection hc with _ hc _
              exact absurd hc (by decide))
            exact ⟨(⟨3, (C : Nat), 1 + (T : Nat), 0, none, 0, 0, none, 0, 0, (1 + (T : Nat)), (1 + (A : Nat)), ai, oo, vn, oc⟩ : RE), rfl, ⟨fun k hk => hov0.tag k hk, fun w'' hk'' => by
              rw [hEV.out]
              have hkk := (HW0.out.2.trans (HF.out _ rfl).2.1).then hk'' (fun i hi => .inr hi.1)
              have h := HW0.out.1.keepsN hkk
              have hv := HVS.out.keepsN hkk
              refine ⟨rfl, rfl, rfl, rfl, rfl, sl_nil _, rfl, sl_nil _, rfl, rfl, h.aid, by show vn = (e.vers.map fitV).length; rw [List.length_map]; exact HVB.out.1, rvs.map fitR, ?_⟩
              have hov : Own VE w'' oo oc (rvs.map fitR) := hov0.keeps hk'' (fun k hk h => h.2 hk)
              refine ⟨hov.sl, by rw [List.length_map, List.length_map, hv.len], fun q hq => ?_⟩
              rw [List.length_map] at hq
              have hq2 : q < rvs.length := by rw [hv.len]; exact hq
              have hr := hv.each q hq
              rw [show (rvs.map fitR).getD q r0 = fitR (rvs.getD q r0) by simp [List.getD_eq_getElem?_getD, hq2], show (e.vers.map fitV).getD q v0 = fitV (e.vers.getD q v0) by simp [List.getD_eq_getElem?_getD, hq]]
              unfold fitR fitV
              rw [hr.id]
              split
              · exact ⟨hr.key, rfl, rfl, rfl, sl_nil _⟩
              · exact hr⟩, (HF.out _ rfl).2.1⟩
end Go.Proofs.YtjkljljmjjnneaaGreatDoor
