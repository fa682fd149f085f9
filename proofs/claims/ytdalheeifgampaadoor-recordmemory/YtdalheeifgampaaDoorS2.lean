/- The law's lent. -/
import Derived.Test.YtdalheeifgampaaDoorS1
namespace Go.Proofs.YtdalheeifgampaaDoor
open Go.RowKit Go.Sort Orl Pk
set_option linter.unusedVariables false
set_option linter.unusedSimpArgs false

def spare : Tx := ⟨#[115, 112, 97, 114, 101]⟩
theorem Sl.front {α : Type} {E : El α} (hE : E.Ok) {w : World} {o : Option Addr} {c : Nat} {xs ys : List α} (h : Own E w o c (xs ++ ys)) : Sl E w o c xs := by
  refine ⟨?_, by have := h.cap.1; rw [List.length_append] at this; omega, h.cap.2⟩
  have := h.row.take hE xs.length
  rwa [List.take_left] at this
/-- a record with lists of its own, behind which others lie -/
structure Lent (w w' : World) (v : CV) (r : Rec) : Prop where
  c : IsC w' v r
  ps : Own PE w' v.op v.cp (r.pairs ++ [(spare, e0)])
  ks : Own TE w' v.ok v.ck (r.keys ++ [spare])
  pn : New w v.op
  kn : New w v.ok
theorem Lent.keepsN {w w' w'' : World} {v : CV} {r : Rec} (h : Lent w w' v r) (hk : Keeps no w' w'') : Lent w w'' v r := ⟨h.c.keepsN hk, h.ps.keepsN hk, h.ks.keepsN hk, h.pn, h.kn⟩
theorem Lent.of_le {w0 w w' : World} {v : CV} {r : Rec} (h : Lent w w' v r) (hl : w0.heap.size ≤ w.heap.size) : Lent w0 w' v r := ⟨h.c, h.ps, h.ks, h.pn.of_le hl, h.kn.of_le hl⟩
def LentTo (w : World) (k : Int) (i np nk : Nat) (r : Rec) (e : Ending) (w' : World) : Prop :=
  ∃ (op : Option Addr) (cp : Nat) (ok : Option Addr) (ck : Nat), e = .returned (.agg #[.int .i64 k, .int .u64 (i : Nat), .slice op np cp, .slice ok nk ck]) ∧ Hid (Lent w w' ⟨k, i, op, np, cp, ok, nk, ck⟩ r) ∧ Keeps no w w'

set_option maxRecDepth 10000 in
set_option maxHeartbeats 1000000 in
theorem lent_any (w : World) (k : Int) (i : Nat) (op : Option Addr) (np cp : Nat) (ok : Option Addr) (nk ck : Nat) (r : Rec) (h : IsC w ⟨k, i, op, np, cp, ok, nk, ck⟩ r) :
    Calls Tryd.prog 17 #[.agg #[.int .i64 k, .int .u64 (i : Nat), .slice op np cp, .slice ok nk ck]] w (LentTo w k i np nk r) := by
  have H : Hid (IsC w ⟨k, i, op, np, cp, ok, nk, ck⟩ r) := h
  have hnp : (np : Int) ≤ 4398046511000 := by have := h.fit.plen; have h2 := h.np; simp only at h2; omega
  have hnk : (nk : Int) ≤ 8796093022000 := by have := h.fit.klen; have h2 := h.nk; simp only at h2; omega
  have HNP : Hid (np = r.pairs.length) := h.np
  have HNK : Hid (nk = r.keys.length) := h.nk
  have e1 : (w.alloc (.cells #[.int .i64 k, .int .u64 (i : Nat), .slice op np cp, .slice ok nk ck] 30)).heap.size = w.heap.size + 1 := by simp
  have k0 : Keeps no w ((w.alloc (.cells #[.int .i64 k, .int .u64 (i : Nat), .slice op np cp, .slice ok nk ck] 30)).alloc (.cells #[.int .i64 0, .int .u64 0, .slice none 0 0, .slice none 0 0] 30)) := ((Keeps.refl _ _).alloc _).alloc _
  have hA0 : ((w.alloc (.cells #[.int .i64 k, .int .u64 (i : Nat), .slice op np cp, .slice ok nk ck] 30)).alloc (.cells #[.int .i64 0, .int .u64 0, .slice none 0 0, .slice none 0 0] 30)).heap[w.heap.size]? = some (.cells #[.int .i64 k, .int .u64 (i : Nat), .slice op np cp, .slice ok nk ck] 30 (0, 0)) := blk_alloc (blk_new w _) _
  have hB0 : ((w.alloc (.cells #[.int .i64 k, .int .u64 (i : Nat), .slice op np cp, .slice ok nk ck] 30)).alloc (.cells #[.int .i64 0, .int .u64 0, .slice none 0 0, .slice none 0 0] 30)).heap[w.heap.size + 1]? = some (.cells #[.int .i64 0, .int .u64 0, .slice none 0 0, .slice none 0 0] 30 (0, 0)) := by
    have := blk_new (w.alloc (.cells #[.int .i64 k, .int .u64 (i : Nat), .slice op np cp, .slice ok nk ck] 30)) (.cells #[.int .i64 0, .int .u64 0, .slice none 0 0, .slice none 0 0] 30)
    rw [e1] at this; exact this
  have e2 : ((w.alloc (.cells #[.int .i64 k, .int .u64 (i : Nat), .slice op np cp, .slice ok nk ck] 30)).alloc (.cells #[.int .i64 0, .int .u64 0, .slice none 0 0, .slice none 0 0] 30)).heap.size = w.heap.size + 2 := by simp
  clear h e1
  go_enter Tryd.func17, Tryd.ntmps17
  go_upto_region 3 with fail
  generalize (w.alloc (.cells #[.int .i64 k, .int .u64 (i : Nat), .slice op np cp, .slice ok nk ck] 30)).alloc (.cells #[.int .i64 0, .int .u64 0, .slice none 0 0, .slice none 0 0] 30) = W0 at k0 hA0 hB0 e2 ⊢
  obtain ⟨A, hA⟩ : ∃ A, A = w.heap.size := ⟨_, rfl⟩
  obtain ⟨B, hB⟩ : ∃ B, B = w.heap.size + 1 := ⟨_, rfl⟩
  rw [← hB] at hB0
  rw [← hA] at hA0
  rw [← hB, ← hA]
  have HAB : Hid (A = w.heap.size ∧ B = A + 1 ∧ W0.heap.size = A + 2) := ⟨hA, by omega, by omega⟩
  have HA0 : Hid (W0.heap[A]? = some (.cells #[.int .i64 k, .int .u64 (i : Nat), .slice op np cp, .slice ok nk ck] 30 (0, 0))) := hA0
  have HB0 : Hid (W0.heap[B]? = some (.cells #[.int .i64 0, .int .u64 0, .slice none 0 0, .slice none 0 0] 30 (0, 0))) := hB0
  have HK0 : Hid (Keeps no w W0) := k0
  have x2 : W0.cell? ⟨A, 2, none⟩ = some (.slice op np cp) := cell_of_blk hA0 2
  have HSP : Hid (Sl PE W0 op cp r.pairs) := H.out.prs.keepsN k0
  have HSK : Hid (Sl TE W0 ok ck r.keys) := H.out.kys.keepsN k0
  clear hA hB hA0 hB0 k0 e2
  go_wp2_with (at_builtin; first | (refine wpList_app okP rfl _ _ rfl none 0 0 [] rfl rfl (own_nil W0) op np cp r.pairs rfl HNP.out HSP.out.nil HSP.out.row (by have := HNP.out; simp [PE]; omega) (by have := HNP.out; simp; omega) ?_; intro o1 c1 w1 ho1 hap1; have HO1 : Hid (Own PE w1 o1 c1 r.pairs) := ho1; have N1 : Hid (New W0 o1 ∧ Keeps no W0 w1) := hap1.new (new_none W0) (Keeps.refl no W0); clear ho1 hap1) | (refine wpList_app okP rfl _ _ rfl o1 np c1 r.pairs rfl HNP.out (HO1.out.keepsN ((Keeps.refl no w1).alloc _)) _ 1 1 [(spare, e0)] rfl rfl (fun h => by cases h) (own_oneP w1 spare e0).row (by have := HNP.out; simp [PE]; omega) (by have := HNP.out; simp; omega) ?_; intro o2 c2 w2 ho2 hap2; have HO2 : Hid (Own PE w2 o2 c2 (r.pairs ++ [(spare, e0)])) := ho2; have N2 : Hid (New W0 o2 ∧ Keeps no W0 w2) := hap2.new N1.out.1 (N1.out.2.alloc _); have y3 : w2.cell? ⟨A, 3, none⟩ = some (.slice ok nk ck) := cell_of_blk (N2.out.2.at HA0.out (fun h => h)) 3; have hcP := (cutP_h w2 o2 c2 (r.pairs ++ [(spare, e0)]) (np + 1) np (np : Nat) rfl (by rw [List.length_append, ← HNP.out]; rfl) (by omega) ho2.sl).1; clear ho2 hap2) | (refine wpList_app okT rfl _ _ rfl none 0 0 [] rfl rfl (own_nil w2) ok nk ck r.keys rfl HNK.out HSK.out.nil (HSK.out.keepsN N2.out.2).row (by have := HNK.out; simp [TE]; omega) (by have := HNK.out; simp; omega) ?_; intro o3 c3 w3 ho3 hap3; have HO3 : Hid (Own TE w3 o3 c3 r.keys) := ho3; have N3 : Hid (New W0 o3 ∧ Keeps no W0 w3 ∧ Keeps no w2 w3 ∧ New w2 o3) := ⟨(hap3.new (new_none W0) N2.out.2).1, (hap3.new (new_none W0) N2.out.2).2, (hap3.new (new_none w2) (Keeps.refl no w2)).2, (hap3.new (new_none w2) (Keeps.refl no w2)).1⟩; clear ho3 hap3) | (refine wpList_app okT rfl _ _ rfl o3 nk c3 r.keys rfl HNK.out (HO3.out.keepsN ((Keeps.refl no w3).alloc _)) _ 1 1 [spare] rfl rfl (fun h => by cases h) (by have := own_oneP; exact (show Sl TE (w3.alloc (.cells #[.string spare] 9)) (some ⟨w3.heap.size, 0, none⟩) 1 [spare] from ⟨.inr ⟨_, _, rfl, fun j u hj => by rw [cell_of_blk (blk_new w3 _), Nat.zero_add]; simpa [El.cells, TE] using hj⟩, by simp, fun e => by cases e⟩).row) (by have := HNK.out; simp [TE]; omega) (by have := HNK.out; simp; omega) ?_; intro o4 c4 w4 ho4 hap4; have HO4 : Hid (Own TE w4 o4 c4 (r.keys ++ [spare])) := ho4; have N4 : Hid (New W0 o4 ∧ Keeps no W0 w4 ∧ Keeps no w2 w4) := ⟨(hap4.new N3.out.1 (N3.out.2.1.alloc _)).1, (hap4.new N3.out.1 (N3.out.2.1.alloc _)).2, (hap4.new N3.out.2.2.2 (N3.out.2.2.1.alloc _)).2⟩; have hbA := N4.out.2.1.at HA0.out (fun h => h); have hbB := N4.out.2.1.at HB0.out (fun h => h); have hcT := (cutT_h w4 o4 c4 (r.keys ++ [spare]) (nk + 1) nk (nk : Nat) rfl (by rw [List.length_append, ← HNK.out]; rfl) (by omega) ho4.sl).1; have HS5 : Hid _ := hbA; have z2 : w4.cell? ⟨A, 2, none⟩ = some (.slice op np cp) := cell_of_blk hbA 2; have z3 : w4.cell? ⟨A, 3, none⟩ = some (.slice ok nk ck) := cell_of_blk hbA 3; have z0 : w4.cell? ⟨A, 0, none⟩ = some (.int .i64 k) := cell_of_blk hbA 0; have z1 : w4.cell? ⟨A, 1, none⟩ = some (.int .u64 (i : Nat)) := cell_of_blk hbA 1; have f2 := frozen_of_blk hbA 2; have f3 := frozen_of_blk hbA 3; obtain ⟨v0, v1, v2, v3⟩ := cells4 hbB; have g0 := frozen_of_blk hbB 0; have g1 := frozen_of_blk hbB 1; have g2 := frozen_of_blk hbB 2; have g3 := frozen_of_blk hbB 3; have hne1 : ¬ A = B := (by have := HAB.out; omega); have hne2 : ¬ B = A := (by have := HAB.out; omega); have HBB : Hid _ := hbB; clear ho4 hap4 hbA hbB))
  (try simp only [Exit.inBlock, Exit.then])
  have kA : Keeps (eqA A) w4 ((w4.setCell ⟨A, 2, none⟩ (.slice o2 np c2)).setCell ⟨A, 3, none⟩ (.slice o4 nk c4)) := ((Keeps.refl (eqA A) w4).setA _ _).setA _ _
  have hab := HAB.out
  have hbB5 := kA.at HBB.out (by unfold eqA; omega)
  have hs4 := set4 hbB5 (.int .i64 k) (.int .u64 (i : Nat)) (.slice o2 np c2) (.slice o4 nk c4)
  refine bodyPost_ret (results_row1 rfl _ _ B _ rfl (loadR hs4.1)) rfl ?_
  have hnw : ∀ {o : Option Addr}, New W0 o → ∀ j, inO o j → ¬ eqA A j ∧ ¬ eqA B j := fun hn j hj => by have := hn j hj; unfold eqA; omega
  have hps := ((HO2.out.keepsN N4.out.2.2).keeps kA (fun j hj => (hnw N2.out.1 j hj).1)).keeps hs4.2 (fun j hj => (hnw N2.out.1 j hj).2)
  have hks := (HO4.out.keeps kA (fun j hj => (hnw N4.out.1 j hj).1)).keeps hs4.2 (fun j hj => (hnw N4.out.1 j hj).2)
  refine ⟨o2, c2, o4, c4, rfl, ⟨⟨H.out.k, H.out.i, H.out.np, H.out.nk, Sl.front okP hps, Sl.front okT hks, H.out.fit⟩, hps, hks, N2.out.1.of_le HK0.out.size, N4.out.1.of_le HK0.out.size⟩, ?_⟩
  exact (((HK0.out.trans N4.out.2.1).then kA (fun j hj => .inr (by unfold eqA at hj; omega))).then hs4.2 (fun j hj => .inr (by unfold eqA at hj; omega)))
end Go.Proofs.YtdalheeifgampaaDoor
