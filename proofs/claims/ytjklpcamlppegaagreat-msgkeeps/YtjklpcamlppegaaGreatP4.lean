/- The program's lay and Encode. -/
import Derived.Test.YtjklpcamlppegaaGreatP3
namespace Go.Proofs.YtjklpcamlppegaaGreat
open Go.RowKit Go.Sort Orl Pk
set_option linter.unusedVariables false
set_option linter.unusedSimpArgs false

/-- what lay leaves: the body, piece by piece -/
def LaidTo (w : World) (a : Nat) (m : Msg) (w' : World) : Prop := ∃ l : List (List Nat), l.flatten = body m ∧ WStep 84 w a none Lm (lays ([], 0) l) w'
theorem laid_mk {w : World} {a : Nat} {m : Msg} {w' : World} {K C : Nat} (hK : m.kind = (K : Nat)) (hC : m.client = (C : Nat)) (l : List (List Nat)) (hl : l.flatten = layF m) (h : WStep 84 w a none Lm (lays ([], 0) ([num 1 K, num 1 C, num 8 m.req] ++ l)) w') : LaidTo w a m w' := by
  refine ⟨_, ?_, h⟩
  unfold body
  rw [List.flatten_append, hl, hK, hC]
  simp

set_option maxRecDepth 10000 in
set_option maxHeartbeats 2000000 in
theorem lay_any (w0 w : World) (a : Nat) (c0 : Nat) (hW : IsW 84 w a none c0 Lm [] 0) (k0 : Keeps no w0 w) (ha : w0.heap.size ≤ a) (k cl : Int) (q i : Nat) (op : Option Addr) (np cp : Nat) (ok : Option Addr) (nk ck : Nat) (ow : Option Addr) (nw cw : Nat) (ov : Option Addr) (nv cv : Nat) (rs : List RV) (m : Msg)
    (h : IsM w0 k cl q i op np cp ok nk ck ow nw cw ov nv cv rs m) (hm : may m = true) :
    Calls Tryz.prog 29 #[.pointer (some ⟨a, 0, none⟩), .agg #[.int .i64 k, .int .i64 cl, .int .u64 (q : Nat), .int .u64 (i : Nat), .slice op np cp, .slice ok nk ck, .slice ow nw cw, .slice ov nv cv]] w
      fun e w' => e = .returned (.tuple #[]) ∧ LaidTo w a m w' := by
  have H0 : Hid (IsM w0 k cl q i op np cp ok nk ck ow nw cw ov nv cv rs m) := h
  have H : Hid (IsM w k cl q i op np cp ok nk ck ow nw cw ov nv cv rs m) := h.keepsN k0
  have hq : q < 18446744073709551616 := by rw [h.q]; exact h.rng.req
  have hi : i < 18446744073709551616 := by rw [h.i]; exact h.rng.id
  have HF := kinds m (may_F hm)
  have hkd := mayF_kind (may_F hm)
  have htop : 0 ≤ m.client ∧ m.client ≤ 15 := by unfold may topOk at hm; simp at hm; exact ⟨hm.1.1, hm.1.2.1⟩
  rw [← h.k] at HF hkd
  rw [← h.cl] at htop
  obtain ⟨K, rfl⟩ : ∃ K : Nat, k = (K : Nat) := ⟨k.toNat, by omega⟩
  obtain ⟨C, rfl⟩ : ∃ C : Nat, cl = (C : Nat) := ⟨cl.toNat, by omega⟩
  have HFF : Hid _ := HF
  have hK8 : K ≤ 8 := by omega
  have hC15 : C ≤ 15 := by omega
  have hcK : ((K : Int) % 256) = (K : Int) := by omega
  have hcC : ((C : Int) % 256) = (C : Int) := by omega
  have HMK : Hid (m.kind = (K : Nat) ∧ m.client = (C : Nat) ∧ m.req = q ∧ m.id = i) := ⟨h.k.symm, h.cl.symm, h.q.symm, h.i.symm⟩
  have HAP : Hid (∀ (ol : Option Addr), (∀ j, inO ol j → j < w0.heap.size) → ∀ j, j < w.heap.size → inO ol j → ¬ footW a none j) := by
    intro ol hlt j _ hj hf
    have h1 := hlt j hj
    rcases hf with rfl | ⟨x, e, _⟩
    · omega
    · cases e
  clear HF hkd htop h hm
  go_enter Tryz.func29, Tryz.ntmps29
  go_wp2_with fail
  try rw [hcK]
  refine (wsU8 ((WStep.start hW).more ((Keeps.refl no _).alloc _)) K (by omega)).mono ?_
  rintro e w1 ⟨rfl, h1, hst1⟩
  have hb1 := hst1 _ _ _ _ (blk_new w _) (by decide) (by decide)
  obtain ⟨x0, x1, x2, x3, x4, x5, x6, x7⟩ := cells8 hb1
  go_wp2_with fail
  try rw [hcC]
  refine (wsU8 h1 C (by omega)).mono ?_
  rintro e w2 ⟨rfl, h2, hst2⟩
  have hb2 := hst2 _ _ _ _ hb1 (by decide) (by decide)
  clear x0 x1 x2 x3 x4 x5 x6 x7 h1 hst1 hb1
  obtain ⟨x0, x1, x2, x3, x4, x5, x6, x7⟩ := cells8 hb2
  go_wp2_with fail
  refine (wsU64 h2 q hq).mono ?_
  rintro e w3 ⟨rfl, h3, hst3⟩
  have hb3 := hst3 _ _ _ _ hb2 (by decide) (by decide)
  clear x0 x1 x2 x3 x4 x5 x6 x7 h2 hst2 hb2 hst3
  obtain ⟨x0, x1, x2, x3, x4, x5, x6, x7⟩ := cells8 hb3
  go_wp2_with fail
  refine (fieldsOf_any _ K).mono ?_
  rintro e w4 ⟨rfl, hk4⟩
  have h4 := h3.more hk4
  have hb4 := hk4.at hb3 (fun h => h)
  clear x0 x1 x2 x3 x4 x5 x6 x7 h3 hb3 hk4
  rcases HFF.out with ⟨g0, g1, g2, g3, g4, g5, g6, g7⟩ | ⟨g0, g1, g2, g3, g4, g5, g7⟩ | ⟨g0, g1, g2, g3, g4, g5, g6, g7⟩ | ⟨g0, g1, g2, g3, g4, g5, g6, g7⟩ | ⟨g0, g1, g2, g3, g4, g5, g6, g7⟩
  · rw [g1, g2, g3, g4, g5]
    have hb5 := blk_alloc hb4 (.cells #[.bool true, .bool true, .bool true, .bool false, .bool false] 55)
    have hf5 := blk_new w4 (.cells #[.bool true, .bool true, .bool true, .bool false, .bool false] 55)
    have h5 := h4.more ((Keeps.refl no w4).alloc (.cells #[.bool true, .bool true, .bool true, .bool false, .bool false] 55))
    obtain ⟨x0, x1, x2, x3, x4, x5, x6, x7⟩ := cells8 hb5
    have G6 : Hid (valK m.keys = true ∧ valP m.pairs = true) := g6
    have G7 : Hid (layF m = num 8 m.id ++ (txts (natss m.keys) ++ (num 4 m.pairs.length ++ layP m.pairs))) := g7
    clear g0 g1 g2 g3 g4 g5 g6 g7 HFF hb4 h4
    go_wp2_with fail
    refine (wsU64 h5 i hi).mono ?_
    rintro e w6 ⟨rfl, h6, hst6⟩
    have hb6 := hst6 _ _ _ _ hb5 (by decide) (by decide)
    have hf6 := hst6 _ _ _ _ hf5 (by decide) (by decide)
    clear x0 x1 x2 x3 x4 x5 x6 x7 h5 hb5 hf5 hst6
    obtain ⟨x0, x1, x2, x3, x4, x5, x6, x7⟩ := cells8 hb6
    obtain ⟨z0, z1, z2, z3, z4⟩ := cells5 hf6
    go_wp2_with fail
    refine (wsTexts h6 ok nk ck m.keys H.out.nk (valK_txs G6.out.1) (fun e => by have := (valK_all G6.out.1).2.1; rw [e] at this; simp at this) H.out.kys (HAP.out ok (H0.out.kys.lt okT (fun e => by have := (valK_all G6.out.1).2.1; rw [e] at this; simp at this)))).mono ?_
    rintro e w7 ⟨rfl, h7, hst7⟩
    have hb7 := hst7 _ _ _ _ hb6 (by decide) (by decide)
    have hf7 := hst7 _ _ _ _ hf6 (by decide) (by decide)
    clear x0 x1 x2 x3 x4 x5 x6 x7 z0 z1 z2 z3 z4 h6 hb6 hf6 hst7
    obtain ⟨x0, x1, x2, x3, x4, x5, x6, x7⟩ := cells8 hb7
    obtain ⟨z0, z1, z2, z3, z4⟩ := cells5 hf7
    go_wp2_with fail
    refine (layPairs_any w a none _ w7 h7 op np cp m.pairs H.out.np (valP_all G6.out.2).1 (valP_all G6.out.2).2.2 H.out.prs (HAP.out op (H0.out.prs.lt okP (fun e => by have := (valP_all G6.out.2).2.1; rw [e] at this; simp at this)))).mono ?_
    rintro e w8 ⟨rfl, h8, hst8⟩
    have hf8 := hst8 _ _ _ _ hf7 (by decide) (by decide)
    clear x0 x1 x2 x3 x4 x5 x6 x7 z0 z1 z2 z3 z4 h7 hb7 hf7 hst8
    obtain ⟨z0, z1, z2, z3, z4⟩ := cells5 hf8
    go_wp2_with fail
    go_end0
    refine ⟨rfl, laid_mk (K := K) (C := C) HMK.out.1 HMK.out.2.1 ([num 8 i, txts (natss m.keys), num 4 np] ++ chP m.pairs) ?_ ?_⟩
    · rw [G7.out, HMK.out.2.2.2, List.flatten_append, chP_flat, H.out.np]; simp
    · rw [HMK.out.2.2.1]
      simp only [lays, List.cons_append, List.nil_append, List.foldl_cons] at h8 ⊢
      exact h8
  · rw [g1, g2, g3, g4, g5]
    have hb5 := blk_alloc hb4 (.cells #[.bool true, .bool false, .bool false, .bool false, .bool false] 55)
    have hf5 := blk_new w4 (.cells #[.bool true, .bool false, .bool false, .bool false, .bool false] 55)
    have h5 := h4.more ((Keeps.refl no w4).alloc (.cells #[.bool true, .bool false, .bool false, .bool false, .bool false] 55))
    obtain ⟨x0, x1, x2, x3, x4, x5, x6, x7⟩ := cells8 hb5
    have G7 : Hid (layF m = num 8 m.id) := g7
    clear g0 g1 g2 g3 g4 g5 g7 HFF hb4 h4
    go_wp2_with fail
    refine (wsU64 h5 i hi).mono ?_
    rintro e w6 ⟨rfl, h6, hst6⟩
    have hf6 := hst6 _ _ _ _ hf5 (by decide) (by decide)
    clear x0 x1 x2 x3 x4 x5 x6 x7 h5 hb5 hf5 hst6
    obtain ⟨z0, z1, z2, z3, z4⟩ := cells5 hf6
    go_wp2_with fail
    go_end0
    refine ⟨rfl, laid_mk (K := K) (C := C) HMK.out.1 HMK.out.2.1 [num 8 i] ?_ ?_⟩
    · rw [G7.out, HMK.out.2.2.2]; simp
    · rw [HMK.out.2.2.1]
      simp only [lays, List.cons_append, List.nil_append, List.foldl_cons, List.foldl_nil] at h6 ⊢
      exact h6
  · rw [g1, g2, g3, g4, g5]
    have hb5 := blk_alloc hb4 (.cells #[.bool false, .bool true, .bool false, .bool false, .bool false] 55)
    have hf5 := blk_new w4 (.cells #[.bool false, .bool true, .bool false, .bool false, .bool false] 55)
    have h5 := h4.more ((Keeps.refl no w4).alloc (.cells #[.bool false, .bool true, .bool false, .bool false, .bool false] 55))
    obtain ⟨x0, x1, x2, x3, x4, x5, x6, x7⟩ := cells8 hb5
    have G6 : Hid (valK m.keys = true) := g6
    have G7 : Hid (layF m = txts (natss m.keys)) := g7
    clear g0 g1 g2 g3 g4 g5 g6 g7 HFF hb4 h4
    go_wp2_with fail
    refine (wsTexts h5 ok nk ck m.keys H.out.nk (valK_txs G6.out) (fun e => by have := (valK_all G6.out).2.1; rw [e] at this; simp at this) H.out.kys (HAP.out ok (H0.out.kys.lt okT (fun e => by have := (valK_all G6.out).2.1; rw [e] at this; simp at this)))).mono ?_
    rintro e w7 ⟨rfl, h7, hst7⟩
    have hf7 := hst7 _ _ _ _ hf5 (by decide) (by decide)
    clear x0 x1 x2 x3 x4 x5 x6 x7 h5 hb5 hf5 hst7
    obtain ⟨z0, z1, z2, z3, z4⟩ := cells5 hf7
    go_wp2_with fail
    go_end0
    refine ⟨rfl, laid_mk (K := K) (C := C) HMK.out.1 HMK.out.2.1 [txts (natss m.keys)] ?_ ?_⟩
    · rw [G7.out]; simp
    · rw [HMK.out.2.2.1]
      simp only [lays, List.cons_append, List.nil_append, List.foldl_cons, List.foldl_nil] at h7 ⊢
      exact h7
  · rw [g1, g2, g3, g4, g5]
    have hb5 := blk_alloc hb4 (.cells #[.bool false, .bool false, .bool false, .bool true, .bool false] 55)
    have hf5 := blk_new w4 (.cells #[.bool false, .bool false, .bool false, .bool true, .bool false] 55)
    have h5 := h4.more ((Keeps.refl no w4).alloc (.cells #[.bool false, .bool false, .bool false, .bool true, .bool false] 55))
    obtain ⟨x0, x1, x2, x3, x4, x5, x6, x7⟩ := cells8 hb5
    have G6 : Hid (mayW m.wants = true) := g6
    have G7 : Hid (layF m = num 4 m.wants.length ++ layW m.wants) := g7
    clear g0 g1 g2 g3 g4 g5 g6 g7 HFF hb4 h4
    go_wp2_with fail
    refine (layWants_any w a none _ _ h5 ow nw cw m.wants H.out.nw (mayW_all G6.out).1 (mayW_all G6.out).2.2.1 H.out.rng.wants H.out.wts (HAP.out ow (H0.out.wts.lt okW (fun e => by have := (mayW_all G6.out).2.1; rw [e] at this; simp at this)))).mono ?_
    rintro e w8 ⟨rfl, h8, hst8⟩
    have hf8 := hst8 _ _ _ _ hf5 (by decide) (by decide)
    clear x0 x1 x2 x3 x4 x5 x6 x7 h5 hb5 hf5 hst8
    obtain ⟨z0, z1, z2, z3, z4⟩ := cells5 hf8
    go_wp2_with fail
    go_end0
    refine ⟨rfl, laid_mk (K := K) (C := C) HMK.out.1 HMK.out.2.1 ([num 4 nw] ++ chW m.wants) ?_ ?_⟩
    · rw [G7.out, List.flatten_append, chW_flat, H.out.nw]; simp
    · rw [HMK.out.2.2.1]
      simp only [lays, List.cons_append, List.nil_append, List.foldl_cons] at h8 ⊢
      exact h8
  · rw [g1, g2, g3, g4, g5]
    have hb5 := blk_alloc hb4 (.cells #[.bool false, .bool false, .bool false, .bool false, .bool true] 55)
    have hf5 := blk_new w4 (.cells #[.bool false, .bool false, .bool false, .bool false, .bool true] 55)
    have h5 := h4.more ((Keeps.refl no w4).alloc (.cells #[.bool false, .bool false, .bool false, .bool false, .bool true] 55))
    obtain ⟨x0, x1, x2, x3, x4, x5, x6, x7⟩ := cells8 hb5
    have G6 : Hid (m.vers.length = 1 ∧ mayV (m.vers.getD 0 v0) = true) := g6
    have G7 : Hid (layF m = layV (m.vers.getD 0 v0)) := g7
    have hl : m.vers.length = 1 := g6.1
    have hrl : rs.length = 1 := by rw [H.out.vrs.len]; exact hl
    have hnv : nv = 1 := by rw [H.out.nv]; exact hl
    have hlt0 := H0.out.vrs.sl.lt okV (fun e => by rw [e] at hrl; simp at hrl)
    obtain ⟨b0, off, rfl, d0, d1, d2, d3⟩ := (H.out.vrs.sl.keeps h5.keeps (fun j hj => HAP.out ov hlt0 j (Nat.lt_of_lt_of_le (hlt0 j hj) k0.size) hj)).atV (j := 0) (by omega)
    have hvo := H.out.vrs.each 0 (by omega)
    have hvo0 := H0.out.vrs.each 0 (by omega)
    obtain ⟨x, hx⟩ : ∃ x, x = rs.getD 0 r0 := ⟨_, rfl⟩
    rw [← hx] at d0 d1 d2 d3 hvo hvo0
    obtain ⟨key, id, val, o, n, c⟩ := x
    simp only [Nat.zero_mul, Nat.add_zero] at d0 d1 d2 d3
    have hid : id = (m.vers.getD 0 v0).id := hvo.id
    have HID : Hid (id = (m.vers.getD 0 v0).id) := hid
    have hid2 : id < 18446744073709551616 := by rw [hid]; exact H.out.rng.vers _ (getD_mem_lt v0 (by omega))
    have HNE : Hid (id ≠ 0 → (m.vers.getD 0 v0).keys ≠ []) := by
      intro h0 e
      have h2 := G6.out.2
      unfold mayV at h2
      rw [if_neg (by rw [← hid]; exact h0), e] at h2
      simp [wset, valK] at h2
    have HVO : Hid (VerOf w ⟨key, id, val, o, n, c⟩ (m.vers.getD 0 v0)) := hvo
    have HVO0 : Hid (VerOf w0 ⟨key, id, val, o, n, c⟩ (m.vers.getD 0 v0)) := hvo0
    clear g0 g1 g2 g3 g4 g5 g6 g7 HFF hb4 h4 hx hl hrl hvo hvo0 hid hlt0
    subst hnv
    go_wp2_with fail
    refine (layVersion_any w a none _ _ h5 (m.vers.getD 0 v0) key id val o n c HVO.out (mayV_ok G6.out.2) hid2 HNE.out (fun h0 => HAP.out o (HVO0.out.sl.lt okT (HNE.out h0)))).mono ?_
    rintro e w8 ⟨rfl, h8, hst8⟩
    go_wp2_with fail
    go_end0
    refine ⟨rfl, laid_mk (K := K) (C := C) HMK.out.1 HMK.out.2.1 (chV (m.vers.getD 0 v0)) ?_ ?_⟩
    · rw [G7.out, chV_flat]
    · rw [HMK.out.2.2.1]
      simp only [lays, List.cons_append, List.nil_append, List.foldl_cons] at h8 ⊢
      exact h8
end Go.Proofs.YtjklpcamlppegaaGreat
