/- MsgKeeps: lent's walk (written by wip/tools/mklent8.py). -/
import Derived.Test.YtjklpcamlppegaaGreatK4
namespace Go.Proofs.YtjklpcamlppegaaGreat
open Go.RowKit Go.Sort Orl Pk
set_option linter.unusedVariables false
set_option linter.unusedSimpArgs false

def LentTo (w : World) (k cl : Int) (q i : Nat) (np nk nw nv : Nat) (m : Msg) (e : Ending) (w' : World) : Prop :=
  ∃ (op : Option Addr) (cp : Nat) (ok : Option Addr) (ck : Nat) (ow : Option Addr) (cw : Nat) (ov : Option Addr) (cv : Nat) (rs : List RV),
    e = .returned (.agg #[.int .i64 k, .int .i64 cl, .int .u64 (q : Nat), .int .u64 (i : Nat), .slice op np cp, .slice ok nk ck, .slice ow nw cw, .slice ov nv cv]) ∧ Hid (Lent w' k cl q i op np cp ok nk ck ow nw cw ov nv cv rs m) ∧ Keeps no w w'
set_option maxRecDepth 20000 in
set_option maxHeartbeats 8000000 in
theorem lent_any (w : World) (k cl : Int) (q i : Nat) (op : Option Addr) (np cp : Nat) (ok : Option Addr) (nk ck : Nat) (ow : Option Addr) (nw cw : Nat) (ov : Option Addr) (nv cv : Nat) (rs : List RV) (m : Msg) (h : IsM w k cl q i op np cp ok nk ck ow nw cw ov nv cv rs m) :
    Calls Tryz.prog 6 #[.agg #[.int .i64 k, .int .i64 cl, .int .u64 (q : Nat), .int .u64 (i : Nat), .slice op np cp, .slice ok nk ck, .slice ow nw cw, .slice ov nv cv]] w (LentTo w k cl q i np nk nw nv m) := by
  have H : Hid (IsM w k cl q i op np cp ok nk ck ow nw cw ov nv cv rs m) := h
  clear h
  have k0 : Keeps no w ((w.alloc (.cells #[.int .i64 k, .int .i64 cl, .int .u64 (q : Nat), .int .u64 (i : Nat), .slice op np cp, .slice ok nk ck, .slice ow nw cw, .slice ov nv cv] 29)).alloc (.cells #[.int .i64 0, .int .i64 0, .int .u64 0, .int .u64 0, .slice none 0 0, .slice none 0 0, .slice none 0 0, .slice none 0 0] 29)) := ((Keeps.refl no w).alloc _).alloc _
  have hA := blk_alloc (blk_new w (.cells #[.int .i64 k, .int .i64 cl, .int .u64 (q : Nat), .int .u64 (i : Nat), .slice op np cp, .slice ok nk ck, .slice ow nw cw, .slice ov nv cv] 29)) (.cells #[.int .i64 0, .int .i64 0, .int .u64 0, .int .u64 0, .slice none 0 0, .slice none 0 0, .slice none 0 0, .slice none 0 0] 29)
  have hB := blk_new (w.alloc (.cells #[.int .i64 k, .int .i64 cl, .int .u64 (q : Nat), .int .u64 (i : Nat), .slice op np cp, .slice ok nk ck, .slice ow nw cw, .slice ov nv cv] 29)) (.cells #[.int .i64 0, .int .i64 0, .int .u64 0, .int .u64 0, .slice none 0 0, .slice none 0 0, .slice none 0 0, .slice none 0 0] 29)
  have hBe : (w.alloc (.cells #[.int .i64 k, .int .i64 cl, .int .u64 (q : Nat), .int .u64 (i : Nat), .slice op np cp, .slice ok nk ck, .slice ow nw cw, .slice ov nv cv] 29)).heap.size = w.heap.size + 1 := by simp
  rw [hBe] at hB
  go_enter Tryz.func6, Tryz.ntmps6
  go_upto_region 1 with fail
  generalize ((w.alloc (.cells #[.int .i64 k, .int .i64 cl, .int .u64 (q : Nat), .int .u64 (i : Nat), .slice op np cp, .slice ok nk ck, .slice ow nw cw, .slice ov nv cv] 29)).alloc (.cells #[.int .i64 0, .int .i64 0, .int .u64 0, .int .u64 0, .slice none 0 0, .slice none 0 0, .slice none 0 0, .slice none 0 0] 29)) = W0 at k0 hA hB ⊢
  obtain ⟨A, hAe⟩ : ∃ A, A = w.heap.size := ⟨_, rfl⟩
  obtain ⟨B, hBE⟩ : ∃ B, B = w.heap.size + 1 := ⟨_, rfl⟩
  rw [← hAe] at hA
  rw [← hBE] at hB
  rw [← hBE, ← hAe]
  have HL : Hid (Lq w A B #[.int .i64 k, .int .i64 cl, .int .u64 (q : Nat), .int .u64 (i : Nat), .slice op np cp, .slice ok nk ck, .slice ow nw cw, .slice ov nv cv] W0) := ⟨k0, hA, hB, hAe, hBE⟩
  clear hAe hBE hBe k0 hA hB
  go_cut [] from 5 to 73 (fun W1 => ∃ (ok' : Option Addr) (ck' : Nat), Hid (Lq w A B #[.int .i64 k, .int .i64 cl, .int .u64 (q : Nat), .int .u64 (i : Nat), .slice op np cp, .slice ok' nk ck', .slice ow nw cw, .slice ov nv cv] W1 ∧ Lo TE B ok' ck' (m.keys ++ [(⟨#[115, 112, 97, 114, 101]⟩ : Tx)]) W1))
  case first =>
    have x5 : W0.cell? ⟨A, 5, none⟩ = some (.slice ok nk ck) := cell_of_blk HL.out.a 5
    have x6 := ((Keeps.refl no W0).alloc (.cells #[.string ⟨#[115, 112, 97, 114, 101]⟩] 9)).cellN x5
    have HA : Hid (W0.heap[A]? = some (.cells #[.int .i64 k, .int .i64 cl, .int .u64 (q : Nat), .int .u64 (i : Nat), .slice op np cp, .slice ok nk ck, .slice ow nw cw, .slice ov nv cv] 29 (0, 0))) := HL.out.a
    have HNK : Hid (nk = m.keys.length) := H.out.nk
    have hnb : nk ≤ 8796093022000 := by have h1 := H.out.fit.klen; have h2 := H.out.nk; omega
    have HSL : Hid (Sl TE W0 ok ck m.keys) := H.out.kys.keepsN HL.out.kp
    have HB1 : Hid ((([] : List Tx).length + m.keys.length) * TE.nb ≤ 140737488355328 ∧ ([] : List Tx).length + m.keys.length ≤ 140737488355328) := ⟨by have := H.out.fit.klen; simp [TE]; omega, by have := H.out.fit.klen; simp; omega⟩
    have HB2 : Hid ((m.keys.length + [(⟨#[115, 112, 97, 114, 101]⟩ : Tx)].length) * TE.nb ≤ 140737488355328 ∧ m.keys.length + [(⟨#[115, 112, 97, 114, 101]⟩ : Tx)].length ≤ 140737488355328) := ⟨by have := H.out.fit.klen; simp [TE]; omega, by have := H.out.fit.klen; simp; omega⟩
    go_region_law
      (first
      | (refine step_appK okT rfl (.const (.slice none 0 0)) (.tmp 6) rfl none 0 0 [] rfl rfl (own_nil _) ok nk ck m.keys rfl HNK.out HSL.out.nil ?_ HB1.out.1 HB1.out.2 ?_; (first | exact HSL.out.row.keepsN (Keeps.refl no W0).drew | exact HSL.out.row.keepsN ((Keeps.refl no W0).drew.alloc _)); intro o1 c1 w1 ho1 hap1; have K1 : Hid (Keeps no W0 w1) := (by first | exact (Keeps.refl no W0).drew.trans (apK_none hap1) | exact ((Keeps.refl no W0).drew.alloc _).trans (apK_none hap1)); have HO1 : Hid (Own TE w1 o1 c1 m.keys) := ho1; have HN1 : Hid (New W0 o1) := (apK_noneN hap1).of_le (by simp); have y5 := K1.out.cellN x5; have y6 := (K1.out.alloc (.cells #[.string ⟨#[115, 112, 97, 114, 101]⟩] 9)).cellN x5; (try (have HSP : Hid (Row TE w1 (some (Addr.mk W0.heap.size 0 none)) [(⟨#[115, 112, 97, 114, 101]⟩ : Tx)]) := (lit_one (E := TE) W0.drew ((⟨#[115, 112, 97, 114, 101]⟩ : Tx) : _) _ rfl).row.keepsN (apK_none hap1))); clear ho1 hap1)
      | (refine step_appK okT rfl (.tmp 7) (.tmp 8) rfl o1 nk c1 m.keys rfl HNK.out (HO1.out.keepsN ((Keeps.refl no w1).alloc _)) (some (Addr.mk w1.heap.size 0 none)) 1 1 [(⟨#[115, 112, 97, 114, 101]⟩ : Tx)] rfl rfl (fun e => by cases e) (lit_one (E := TE) w1 ((⟨#[115, 112, 97, 114, 101]⟩ : Tx) : _) _ rfl).row HB2.out.1 HB2.out.2 ?_; intro o2 c2 w2 ho2 hap2; have N2 : Hid (New W0 o2 ∧ Keeps no W0 w2) := Ap.new (w0 := W0) hap2 HN1.out (K1.out.alloc _); obtain ⟨g2, eg2, hle2⟩ := ownK_some ho2 HNK.out; subst eg2; have HO2 : Hid (Own TE w2 (some (Addr.mk g2 0 none)) c2 (m.keys ++ [(⟨#[115, 112, 97, 114, 101]⟩ : Tx)])) := ho2; have y7 := N2.out.2.cellN x5; have hA2 := N2.out.2.at HA.out (fun h => h); have f5 := frozen_of_blk hA2 5; have hcut := cutK25 g2 (nk + 1) nk c2 (by omega); clear ho2 hap2)
      | (refine step_appK okT rfl (.tmp 7) (.tmp 8) rfl o1 nk c1 m.keys rfl HNK.out HO1.out (some (Addr.mk W0.heap.size 0 none)) 1 1 [(⟨#[115, 112, 97, 114, 101]⟩ : Tx)] rfl rfl (fun e => by cases e) HSP.out HB2.out.1 HB2.out.2 ?_; intro o2 c2 w2 ho2 hap2; have N2 : Hid (New W0 o2 ∧ Keeps no W0 w2) := Ap.new (w0 := W0) hap2 HN1.out K1.out; obtain ⟨g2, eg2, hle2⟩ := ownK_some ho2 HNK.out; subst eg2; have HO2 : Hid (Own TE w2 (some (Addr.mk g2 0 none)) c2 (m.keys ++ [(⟨#[115, 112, 97, 114, 101]⟩ : Tx)])) := ho2; have y7 := N2.out.2.cellN x5; have hA2 := N2.out.2.at HA.out (fun h => h); have f5 := frozen_of_blk hA2 5; have hcut := cutK25 g2 (nk + 1) nk c2 (by omega); clear ho2 hap2))
    all_goals
      have HR : Hid (Lq w A B #[.int .i64 k, .int .i64 cl, .int .u64 (q : Nat), .int .u64 (i : Nat), .slice op np cp, .slice (some (Addr.mk g2 0 none)) nk c2, .slice ow nw cw, .slice ov nv cv] (w2.setCell ⟨A, 5, none⟩ (.slice (some (Addr.mk g2 0 none)) nk c2)) ∧ Lo TE B (some (Addr.mk g2 0 none)) c2 (m.keys ++ [(⟨#[115, 112, 97, 114, 101]⟩ : Tx)]) (w2.setCell ⟨A, 5, none⟩ (.slice (some (Addr.mk g2 0 none)) nk c2))) := by
        have q := (HL.out.keepsN N2.out.2).set 5 (.slice (some (Addr.mk g2 0 none)) nk c2) #[.int .i64 k, .int .i64 cl, .int .u64 (q : Nat), .int .u64 (i : Nat), .slice op np cp, .slice (some (Addr.mk g2 0 none)) nk c2, .slice ow nw cw, .slice ov nv cv] rfl
        have hAB : A ≤ B := by have := HL.out.ab; omega
        exact ⟨q.1, Lo.set ⟨HO2.out, HL.out.new N2.out.1⟩ hAB q.2⟩
      (go_wp2_with fail
       go_meet
       case rel => exact ⟨_, _, HR⟩)
  case rest =>
  obtain ⟨ok', ck', HL'⟩ := hcut
  clear HL
  have HL : Hid _ := HL'.out
  clear HL'
  rename World => W1
  go_upto_region 2 with fail
  go_cut [] from 5 to 73 (fun W2 => ∃ (op' : Option Addr) (cp' : Nat), Hid (Lq w A B #[.int .i64 k, .int .i64 cl, .int .u64 (q : Nat), .int .u64 (i : Nat), .slice op' np cp', .slice ok' nk ck', .slice ow nw cw, .slice ov nv cv] W2 ∧ Lo TE B ok' ck' (m.keys ++ [(⟨#[115, 112, 97, 114, 101]⟩ : Tx)]) W2 ∧ Lo PE B op' cp' (m.pairs ++ [((⟨#[115, 112, 97, 114, 101]⟩ : Tx), (⟨#[]⟩ : Tx))]) W2))
  case first =>
    have x5 : W1.cell? ⟨A, 4, none⟩ = some (.slice op np cp) := cell_of_blk HL.out.1.a 4
    have x6 := ((Keeps.refl no W1).alloc (.cells #[.string ⟨#[115, 112, 97, 114, 101]⟩, .string ⟨#[]⟩] 51)).cellN x5
    have HA : Hid (W1.heap[A]? = some (.cells #[.int .i64 k, .int .i64 cl, .int .u64 (q : Nat), .int .u64 (i : Nat), .slice op np cp, .slice ok' nk ck', .slice ow nw cw, .slice ov nv cv] 29 (0, 0))) := HL.out.1.a
    have HNK : Hid (np = m.pairs.length) := H.out.np
    have hnb : np ≤ 8796093022000 := by have h1 := H.out.fit.plen; have h2 := H.out.np; omega
    have HSL : Hid (Sl PE W1 op cp m.pairs) := H.out.prs.keepsN HL.out.1.kp
    have HB1 : Hid ((([] : List Pr).length + m.pairs.length) * PE.nb ≤ 140737488355328 ∧ ([] : List Pr).length + m.pairs.length ≤ 140737488355328) := ⟨by have := H.out.fit.plen; simp [PE]; omega, by have := H.out.fit.plen; simp; omega⟩
    have HB2 : Hid ((m.pairs.length + [((⟨#[115, 112, 97, 114, 101]⟩ : Tx), (⟨#[]⟩ : Tx))].length) * PE.nb ≤ 140737488355328 ∧ m.pairs.length + [((⟨#[115, 112, 97, 114, 101]⟩ : Tx), (⟨#[]⟩ : Tx))].length ≤ 140737488355328) := ⟨by have := H.out.fit.plen; simp [PE]; omega, by have := H.out.fit.plen; simp; omega⟩
    go_region_law
      (first
      | (refine step_appK okP rfl (.const (.slice none 0 0)) (.tmp 16) rfl none 0 0 [] rfl rfl (own_nil _) op np cp m.pairs rfl HNK.out HSL.out.nil ?_ HB1.out.1 HB1.out.2 ?_; (first | exact HSL.out.row.keepsN (Keeps.refl no W1).drew | exact HSL.out.row.keepsN ((Keeps.refl no W1).drew.alloc _)); intro o1 c1 w1 ho1 hap1; have K1 : Hid (Keeps no W1 w1) := (by first | exact (Keeps.refl no W1).drew.trans (apK_none hap1) | exact ((Keeps.refl no W1).drew.alloc _).trans (apK_none hap1)); have HO1 : Hid (Own PE w1 o1 c1 m.pairs) := ho1; have HN1 : Hid (New W1 o1) := (apK_noneN hap1).of_le (by simp); have y5 := K1.out.cellN x5; have y6 := (K1.out.alloc (.cells #[.string ⟨#[115, 112, 97, 114, 101]⟩, .string ⟨#[]⟩] 51)).cellN x5; (try (have HSP : Hid (Row PE w1 (some (Addr.mk W1.heap.size 0 none)) [((⟨#[115, 112, 97, 114, 101]⟩ : Tx), (⟨#[]⟩ : Tx))]) := (lit_one (E := PE) W1.drew (((⟨#[115, 112, 97, 114, 101]⟩ : Tx), (⟨#[]⟩ : Tx)) : _) _ rfl).row.keepsN (apK_none hap1))); clear ho1 hap1)
      | (refine step_appK okP rfl (.tmp 17) (.tmp 19) rfl o1 np c1 m.pairs rfl HNK.out (HO1.out.keepsN ((Keeps.refl no w1).alloc _)) (some (Addr.mk w1.heap.size 0 none)) 1 1 [((⟨#[115, 112, 97, 114, 101]⟩ : Tx), (⟨#[]⟩ : Tx))] rfl rfl (fun e => by cases e) (lit_one (E := PE) w1 (((⟨#[115, 112, 97, 114, 101]⟩ : Tx), (⟨#[]⟩ : Tx)) : _) _ rfl).row HB2.out.1 HB2.out.2 ?_; intro o2 c2 w2 ho2 hap2; have N2 : Hid (New W1 o2 ∧ Keeps no W1 w2) := Ap.new (w0 := W1) hap2 HN1.out (K1.out.alloc _); obtain ⟨g2, eg2, hle2⟩ := ownK_some ho2 HNK.out; subst eg2; have HO2 : Hid (Own PE w2 (some (Addr.mk g2 0 none)) c2 (m.pairs ++ [((⟨#[115, 112, 97, 114, 101]⟩ : Tx), (⟨#[]⟩ : Tx))])) := ho2; have y7 := N2.out.2.cellN x5; have hA2 := N2.out.2.at HA.out (fun h => h); have f5 := frozen_of_blk hA2 4; have hcut := cutK24 g2 (np + 1) np c2 (by omega); clear ho2 hap2)
      | (refine step_appK okP rfl (.tmp 17) (.tmp 19) rfl o1 np c1 m.pairs rfl HNK.out HO1.out (some (Addr.mk W1.heap.size 0 none)) 1 1 [((⟨#[115, 112, 97, 114, 101]⟩ : Tx), (⟨#[]⟩ : Tx))] rfl rfl (fun e => by cases e) HSP.out HB2.out.1 HB2.out.2 ?_; intro o2 c2 w2 ho2 hap2; have N2 : Hid (New W1 o2 ∧ Keeps no W1 w2) := Ap.new (w0 := W1) hap2 HN1.out K1.out; obtain ⟨g2, eg2, hle2⟩ := ownK_some ho2 HNK.out; subst eg2; have HO2 : Hid (Own PE w2 (some (Addr.mk g2 0 none)) c2 (m.pairs ++ [((⟨#[115, 112, 97, 114, 101]⟩ : Tx), (⟨#[]⟩ : Tx))])) := ho2; have y7 := N2.out.2.cellN x5; have hA2 := N2.out.2.at HA.out (fun h => h); have f5 := frozen_of_blk hA2 4; have hcut := cutK24 g2 (np + 1) np c2 (by omega); clear ho2 hap2))
    all_goals
      have HR : Hid (Lq w A B #[.int .i64 k, .int .i64 cl, .int .u64 (q : Nat), .int .u64 (i : Nat), .slice (some (Addr.mk g2 0 none)) np c2, .slice ok' nk ck', .slice ow nw cw, .slice ov nv cv] (w2.setCell ⟨A, 4, none⟩ (.slice (some (Addr.mk g2 0 none)) np c2)) ∧ Lo TE B ok' ck' (m.keys ++ [(⟨#[115, 112, 97, 114, 101]⟩ : Tx)]) (w2.setCell ⟨A, 4, none⟩ (.slice (some (Addr.mk g2 0 none)) np c2)) ∧ Lo PE B (some (Addr.mk g2 0 none)) c2 (m.pairs ++ [((⟨#[115, 112, 97, 114, 101]⟩ : Tx), (⟨#[]⟩ : Tx))]) (w2.setCell ⟨A, 4, none⟩ (.slice (some (Addr.mk g2 0 none)) np c2))) := by
        have q := (HL.out.1.keepsN N2.out.2).set 4 (.slice (some (Addr.mk g2 0 none)) np c2) #[.int .i64 k, .int .i64 cl, .int .u64 (q : Nat), .int .u64 (i : Nat), .slice (some (Addr.mk g2 0 none)) np c2, .slice ok' nk ck', .slice ow nw cw, .slice ov nv cv] rfl
        have hAB : A ≤ B := by have := HL.out.1.ab; omega
        exact ⟨q.1, (HL.out.2.keepsN N2.out.2).set hAB q.2, Lo.set ⟨HO2.out, HL.out.1.new N2.out.1⟩ hAB q.2⟩
      (go_wp2_with fail
       go_meet
       case rel => exact ⟨_, _, HR⟩)
  case rest =>
  obtain ⟨op', cp', HL'⟩ := hcut
  clear HL
  have HL : Hid _ := HL'.out
  clear HL'
  rename World => W2
  go_upto_region 3 with fail
  go_cut [] from 5 to 73 (fun W3 => ∃ (ow' : Option Addr) (cw' : Nat), Hid (Lq w A B #[.int .i64 k, .int .i64 cl, .int .u64 (q : Nat), .int .u64 (i : Nat), .slice op' np cp', .slice ok' nk ck', .slice ow' nw cw', .slice ov nv cv] W3 ∧ Lo TE B ok' ck' (m.keys ++ [(⟨#[115, 112, 97, 114, 101]⟩ : Tx)]) W3 ∧ Lo PE B op' cp' (m.pairs ++ [((⟨#[115, 112, 97, 114, 101]⟩ : Tx), (⟨#[]⟩ : Tx))]) W3 ∧ Lo WE B ow' cw' (m.wants ++ [((⟨#[115, 112, 97, 114, 101]⟩ : Tx), (0 : Nat))]) W3))
  case first =>
    have x5 : W2.cell? ⟨A, 6, none⟩ = some (.slice ow nw cw) := cell_of_blk HL.out.1.a 6
    have x6 := ((Keeps.refl no W2).alloc (.cells #[.string ⟨#[115, 112, 97, 114, 101]⟩, .int .u64 0] 53)).cellN x5
    have HA : Hid (W2.heap[A]? = some (.cells #[.int .i64 k, .int .i64 cl, .int .u64 (q : Nat), .int .u64 (i : Nat), .slice op' np cp', .slice ok' nk ck', .slice ow nw cw, .slice ov nv cv] 29 (0, 0))) := HL.out.1.a
    have HNK : Hid (nw = m.wants.length) := H.out.nw
    have hnb : nw ≤ 8796093022000 := by have h1 := H.out.fit.wlen; have h2 := H.out.nw; omega
    have HSL : Hid (Sl WE W2 ow cw m.wants) := H.out.wts.keepsN HL.out.1.kp
    have HB1 : Hid ((([] : List Wn).length + m.wants.length) * WE.nb ≤ 140737488355328 ∧ ([] : List Wn).length + m.wants.length ≤ 140737488355328) := ⟨by have := H.out.fit.wlen; simp [WE]; omega, by have := H.out.fit.wlen; simp; omega⟩
    have HB2 : Hid ((m.wants.length + [((⟨#[115, 112, 97, 114, 101]⟩ : Tx), (0 : Nat))].length) * WE.nb ≤ 140737488355328 ∧ m.wants.length + [((⟨#[115, 112, 97, 114, 101]⟩ : Tx), (0 : Nat))].length ≤ 140737488355328) := ⟨by have := H.out.fit.wlen; simp [WE]; omega, by have := H.out.fit.wlen; simp; omega⟩
    go_region_law
      (first
      | (refine step_appK okW rfl (.const (.slice none 0 0)) (.tmp 27) rfl none 0 0 [] rfl rfl (own_nil _) ow nw cw m.wants rfl HNK.out HSL.out.nil ?_ HB1.out.1 HB1.out.2 ?_; (first | exact HSL.out.row.keepsN (Keeps.refl no W2).drew | exact HSL.out.row.keepsN ((Keeps.refl no W2).drew.alloc _)); intro o1 c1 w1 ho1 hap1; have K1 : Hid (Keeps no W2 w1) := (by first | exact (Keeps.refl no W2).drew.trans (apK_none hap1) | exact ((Keeps.refl no W2).drew.alloc _).trans (apK_none hap1)); have HO1 : Hid (Own WE w1 o1 c1 m.wants) := ho1; have HN1 : Hid (New W2 o1) := (apK_noneN hap1).of_le (by simp); have y5 := K1.out.cellN x5; have y6 := (K1.out.alloc (.cells #[.string ⟨#[115, 112, 97, 114, 101]⟩, .int .u64 0] 53)).cellN x5; (try (have HSP : Hid (Row WE w1 (some (Addr.mk W2.heap.size 0 none)) [((⟨#[115, 112, 97, 114, 101]⟩ : Tx), (0 : Nat))]) := (lit_one (E := WE) W2.drew (((⟨#[115, 112, 97, 114, 101]⟩ : Tx), (0 : Nat)) : _) _ rfl).row.keepsN (apK_none hap1))); clear ho1 hap1)
      | (refine step_appK okW rfl (.tmp 28) (.tmp 30) rfl o1 nw c1 m.wants rfl HNK.out (HO1.out.keepsN ((Keeps.refl no w1).alloc _)) (some (Addr.mk w1.heap.size 0 none)) 1 1 [((⟨#[115, 112, 97, 114, 101]⟩ : Tx), (0 : Nat))] rfl rfl (fun e => by cases e) (lit_one (E := WE) w1 (((⟨#[115, 112, 97, 114, 101]⟩ : Tx), (0 : Nat)) : _) _ rfl).row HB2.out.1 HB2.out.2 ?_; intro o2 c2 w2 ho2 hap2; have N2 : Hid (New W2 o2 ∧ Keeps no W2 w2) := Ap.new (w0 := W2) hap2 HN1.out (K1.out.alloc _); obtain ⟨g2, eg2, hle2⟩ := ownK_some ho2 HNK.out; subst eg2; have HO2 : Hid (Own WE w2 (some (Addr.mk g2 0 none)) c2 (m.wants ++ [((⟨#[115, 112, 97, 114, 101]⟩ : Tx), (0 : Nat))])) := ho2; have y7 := N2.out.2.cellN x5; have hA2 := N2.out.2.at HA.out (fun h => h); have f5 := frozen_of_blk hA2 6; have hcut := cutK26 g2 (nw + 1) nw c2 (by omega); clear ho2 hap2)
      | (refine step_appK okW rfl (.tmp 28) (.tmp 30) rfl o1 nw c1 m.wants rfl HNK.out HO1.out (some (Addr.mk W2.heap.size 0 none)) 1 1 [((⟨#[115, 112, 97, 114, 101]⟩ : Tx), (0 : Nat))] rfl rfl (fun e => by cases e) HSP.out HB2.out.1 HB2.out.2 ?_; intro o2 c2 w2 ho2 hap2; have N2 : Hid (New W2 o2 ∧ Keeps no W2 w2) := Ap.new (w0 := W2) hap2 HN1.out K1.out; obtain ⟨g2, eg2, hle2⟩ := ownK_some ho2 HNK.out; subst eg2; have HO2 : Hid (Own WE w2 (some (Addr.mk g2 0 none)) c2 (m.wants ++ [((⟨#[115, 112, 97, 114, 101]⟩ : Tx), (0 : Nat))])) := ho2; have y7 := N2.out.2.cellN x5; have hA2 := N2.out.2.at HA.out (fun h => h); have f5 := frozen_of_blk hA2 6; have hcut := cutK26 g2 (nw + 1) nw c2 (by omega); clear ho2 hap2))
    all_goals
      have HR : Hid (Lq w A B #[.int .i64 k, .int .i64 cl, .int .u64 (q : Nat), .int .u64 (i : Nat), .slice op' np cp', .slice ok' nk ck', .slice (some (Addr.mk g2 0 none)) nw c2, .slice ov nv cv] (w2.setCell ⟨A, 6, none⟩ (.slice (some (Addr.mk g2 0 none)) nw c2)) ∧ Lo TE B ok' ck' (m.keys ++ [(⟨#[115, 112, 97, 114, 101]⟩ : Tx)]) (w2.setCell ⟨A, 6, none⟩ (.slice (some (Addr.mk g2 0 none)) nw c2)) ∧ Lo PE B op' cp' (m.pairs ++ [((⟨#[115, 112, 97, 114, 101]⟩ : Tx), (⟨#[]⟩ : Tx))]) (w2.setCell ⟨A, 6, none⟩ (.slice (some (Addr.mk g2 0 none)) nw c2)) ∧ Lo WE B (some (Addr.mk g2 0 none)) c2 (m.wants ++ [((⟨#[115, 112, 97, 114, 101]⟩ : Tx), (0 : Nat))]) (w2.setCell ⟨A, 6, none⟩ (.slice (some (Addr.mk g2 0 none)) nw c2))) := by
        have q := (HL.out.1.keepsN N2.out.2).set 6 (.slice (some (Addr.mk g2 0 none)) nw c2) #[.int .i64 k, .int .i64 cl, .int .u64 (q : Nat), .int .u64 (i : Nat), .slice op' np cp', .slice ok' nk ck', .slice (some (Addr.mk g2 0 none)) nw c2, .slice ov nv cv] rfl
        have hAB : A ≤ B := by have := HL.out.1.ab; omega
        exact ⟨q.1, (HL.out.2.1.keepsN N2.out.2).set hAB q.2, (HL.out.2.2.keepsN N2.out.2).set hAB q.2, Lo.set ⟨HO2.out, HL.out.1.new N2.out.1⟩ hAB q.2⟩
      (go_wp2_with fail
       go_meet
       case rel => exact ⟨_, _, HR⟩)
  case rest =>
  obtain ⟨ow', cw', HL'⟩ := hcut
  clear HL
  have HL : Hid _ := HL'.out
  clear HL'
  rename World => W3
  have HLV0 : Hid (Lq w A B #[.int .i64 k, .int .i64 cl, .int .u64 (q : Nat), .int .u64 (i : Nat), .slice op' np cp', .slice ok' nk ck', .slice ow' nw cw', .slice ov nv cv] W3 ∧ Lo TE B ok' ck' (m.keys ++ [(⟨#[115, 112, 97, 114, 101]⟩ : Tx)]) W3 ∧ Lo PE B op' cp' (m.pairs ++ [((⟨#[115, 112, 97, 114, 101]⟩ : Tx), (⟨#[]⟩ : Tx))]) W3 ∧ Lo WE B ow' cw' (m.wants ++ [((⟨#[115, 112, 97, 114, 101]⟩ : Tx), (0 : Nat))]) W3) := HL.out
  clear HL
  have x7 : W3.cell? ⟨A, 7, none⟩ = some (.slice ov nv cv) := cell_of_blk HLV0.out.1.a 7
  have HNV : Hid (nv = rs.length) := H.out.nv.trans H.out.vrs.len.symm
  have hnv : nv ≤ 2199023255500 := by have h1 := H.out.fit.vlen; have h2 := H.out.nv; omega
  have HSV : Hid (Sl VE W3 ov cv rs) := H.out.vrs.sl.keepsN HLV0.out.1.kp
  have HB1 : Hid ((([] : List RV).length + rs.length) * VE.nb ≤ 140737488355328 ∧ ([] : List RV).length + rs.length ≤ 140737488355328) := ⟨by have := HNV.out; simp [VE]; omega, by have := HNV.out; simp; omega⟩
  go_wp2_with (at_builtin; refine wpList_app okV rfl _ _ rfl none 0 0 [] rfl rfl (own_nil _) ov nv cv rs rfl HNV.out HSV.out.nil HSV.out.row HB1.out.1 HB1.out.2 ?_; intro oL cL w4 ho4 hap4)
  have HV4 : Hid (Lv w A B #[.int .i64 k, .int .i64 cl, .int .u64 (q : Nat), .int .u64 (i : Nat), .slice op' np cp', .slice ok' nk ck', .slice ow' nw cw', .slice ov nv cv] m rs ok' ck' op' cp' ow' cw' oL cL 0 rs w4) := ⟨HLV0.out.1.keepsN (apK_none hap4), HLV0.out.2.1.keepsN (apK_none hap4), HLV0.out.2.2.1.keepsN (apK_none hap4), HLV0.out.2.2.2.keepsN (apK_none hap4), ⟨ho4, HLV0.out.1.new (apK_noneN hap4)⟩, rfl, fun j hj => by omega, fun j _ => rfl⟩
  clear ho4 hap4 x7 HLV0 HB1 HSV
  go_loopw [4] (fun s wr => ∃ (t : Nat) (rs' : List RV), t ≤ nv ∧ s = .int .i64 t ∧ Hid (Lv w A B #[.int .i64 k, .int .i64 cl, .int .u64 (q : Nat), .int .u64 (i : Nat), .slice op' np cp', .slice ok' nk ck', .slice ow' nw cw', .slice ov nv cv] m rs ok' ck' op' cp' ow' cw' oL cL t rs' wr)) (fun s _ => nv - (intOf s).toNat)
  case atStart => exact ⟨0, rs, by omega, rfl, HV4⟩
  case round =>
    clear HV4
    obtain ⟨t, rs', ht, rfl, HI⟩ := hrel
    rename World => wr
    by_cases hlt : t < nv
    · have hlI : (t : Int) < nv := by omega
      have HTR : Hid (t < rs'.length) := by show _ < _; rw [HI.out.len, ← HNV.out]; exact hlt
      obtain ⟨gL, eL, x5, _, _⟩ := HI.out.l.own.storeV t HTR.out
      obtain ⟨cur, hG⟩ := HI.out.l.own.tag gL ⟨_, eL, rfl⟩
      have HG : Hid (wr.heap[gL]? = some (.cells cur VE.e (0, 0))) := hG
      have HEL : Hid (oL = some ⟨gL, 0, none⟩) := eL
      have hv := H.out.vrs.each t (by rw [← H.out.nv]; exact hlt)
      rw [← HI.out.rest t (Nat.le_refl _)] at hv
      have HVO : Hid (VerOf wr (rs'.getD t r0) (m.vers.getD t v0)) := hv.keepsN HI.out.q.kp
      have HFV : Hid (FitV (m.vers.getD t v0)) := H.out.fit.vers _ (by rw [List.getD_eq_getElem?_getD, List.getElem?_eq_getElem (by rw [← H.out.nv]; exact hlt)]; exact List.getElem_mem _)
      obtain ⟨vk, hvk⟩ : ∃ vk, vk = (m.vers.getD t v0).keys := ⟨_, rfl⟩
      obtain ⟨ro, hro⟩ : ∃ ro, ro = (rs'.getD t r0).o := ⟨_, rfl⟩
      obtain ⟨rn, hrn⟩ : ∃ rn, rn = (rs'.getD t r0).n := ⟨_, rfl⟩
      obtain ⟨rc, hrc⟩ : ∃ rc, rc = (rs'.getD t r0).c := ⟨_, rfl⟩
      have HVK : Hid (vk = (m.vers.getD t v0).keys) := hvk
      have HNK : Hid (rn = vk.length) := by show _ = _; rw [hrn, hvk]; exact HVO.out.n
      have HSL : Hid (Sl TE wr ro rc vk) := by rw [hro, hrc, hvk]; exact HVO.out.sl
      rw [← hro, ← hrn, ← hrc] at x5
      have hfl : vk.length ≤ 8796093022000 := by rw [hvk]; exact HFV.out.len
      have hnb : rn ≤ 8796093022000 := by have := HNK.out; omega
      have x6 := ((Keeps.refl no wr).alloc (.cells #[.string ⟨#[115, 112, 97, 114, 101]⟩] 9)).cellN x5
      have HB1 : Hid ((([] : List Tx).length + vk.length) * TE.nb ≤ 140737488355328 ∧ ([] : List Tx).length + vk.length ≤ 140737488355328) := ⟨by simp [TE]; omega, by simp; omega⟩
      have HB2 : Hid ((vk.length + [(⟨#[115, 112, 97, 114, 101]⟩ : Tx)].length) * TE.nb ≤ 140737488355328 ∧ vk.length + [(⟨#[115, 112, 97, 114, 101]⟩ : Tx)].length ≤ 140737488355328) := ⟨by simp [TE]; omega, by simp; omega⟩
      subst eL
      clear hG hv hvk hro hrn hrc hfl
      go_wp2_with fail
      go_region_law
        (first
            | (refine step_appK okT rfl (.const (.slice none 0 0)) (.tmp 52) rfl none 0 0 [] rfl rfl (own_nil _) ro rn rc vk rfl HNK.out HSL.out.nil ?_ HB1.out.1 HB1.out.2 ?_; (first | exact HSL.out.row.keepsN (Keeps.refl no wr).drew | exact HSL.out.row.keepsN ((Keeps.refl no wr).drew.alloc _)); intro o1 c1 w1 ho1 hap1; have K1 : Hid (Keeps no wr w1) := (by first | exact (Keeps.refl no wr).drew.trans (apK_none hap1) | exact ((Keeps.refl no wr).drew.alloc _).trans (apK_none hap1)); have HO1 : Hid (Own TE w1 o1 c1 vk) := ho1; have HN1 : Hid (New wr o1) := (apK_noneN hap1).of_le (by simp); have y5 := K1.out.cellN x5; have y6 := (K1.out.alloc (.cells #[.string ⟨#[115, 112, 97, 114, 101]⟩] 9)).cellN x5; (try (have HSP : Hid (Row TE w1 (some (Addr.mk wr.heap.size 0 none)) [(⟨#[115, 112, 97, 114, 101]⟩ : Tx)]) := (lit_one (E := TE) wr.drew ((⟨#[115, 112, 97, 114, 101]⟩ : Tx) : _) _ rfl).row.keepsN (apK_none hap1))); clear ho1 hap1)
            | (refine step_appK okT rfl (.tmp 53) (.tmp 54) rfl o1 rn c1 vk rfl HNK.out (HO1.out.keepsN ((Keeps.refl no w1).alloc _)) (some (Addr.mk w1.heap.size 0 none)) 1 1 [(⟨#[115, 112, 97, 114, 101]⟩ : Tx)] rfl rfl (fun e => by cases e) (lit_one (E := TE) w1 ((⟨#[115, 112, 97, 114, 101]⟩ : Tx) : _) _ rfl).row HB2.out.1 HB2.out.2 ?_; intro o2 c2 w2 ho2 hap2; have N2 : Hid (New wr o2 ∧ Keeps no wr w2) := Ap.new (w0 := wr) hap2 HN1.out (K1.out.alloc _); obtain ⟨g2, eg2, hle2⟩ := ownK_some ho2 HNK.out; subst eg2; have HO2 : Hid (Own TE w2 (some (Addr.mk g2 0 none)) c2 (vk ++ [(⟨#[115, 112, 97, 114, 101]⟩ : Tx)])) := ho2; have y7 := N2.out.2.cellN x5; have hG2 := N2.out.2.at HG.out (fun h => h); have f5 := frozen_of_blk hG2 (t * 4 + 3); have hcut := cutK25 g2 (rn + 1) rn c2 (by omega); clear ho2 hap2)
            | (refine step_appK okT rfl (.tmp 53) (.tmp 54) rfl o1 rn c1 vk rfl HNK.out HO1.out (some (Addr.mk wr.heap.size 0 none)) 1 1 [(⟨#[115, 112, 97, 114, 101]⟩ : Tx)] rfl rfl (fun e => by cases e) HSP.out HB2.out.1 HB2.out.2 ?_; intro o2 c2 w2 ho2 hap2; have N2 : Hid (New wr o2 ∧ Keeps no wr w2) := Ap.new (w0 := wr) hap2 HN1.out K1.out; obtain ⟨g2, eg2, hle2⟩ := ownK_some ho2 HNK.out; subst eg2; have HO2 : Hid (Own TE w2 (some (Addr.mk g2 0 none)) c2 (vk ++ [(⟨#[115, 112, 97, 114, 101]⟩ : Tx)])) := ho2; have y7 := N2.out.2.cellN x5; have hG2 := N2.out.2.at HG.out (fun h => h); have f5 := frozen_of_blk hG2 (t * 4 + 3); have hcut := cutK25 g2 (rn + 1) rn c2 (by omega); clear ho2 hap2))
      all_goals
        have HN : Hid (Lv w A B #[.int .i64 k, .int .i64 cl, .int .u64 (q : Nat), .int .u64 (i : Nat), .slice op' np cp', .slice ok' nk ck', .slice ow' nw cw', .slice ov nv cv] m rs ok' ck' op' cp' ow' cw' (some ⟨gL, 0, none⟩) cL (t + 1) (rs'.set t ⟨(rs'.getD t r0).key, (rs'.getD t r0).id, (rs'.getD t r0).val, some (Addr.mk g2 0 none), rn, c2⟩) (w2.setCell ⟨gL, t * 4 + 3, none⟩ (.slice (some (Addr.mk g2 0 none)) rn c2))) := HI.out.next HTR.out N2.out HVO.out (by rw [← HVK.out]; exact HNK.out) (by rw [← HVK.out]; exact HO2.out) rfl
        (go_wp2_with fail
         go_roundw
         case rel => exact ⟨t + 1, _, by omega, by go_num, HN⟩
         case measure => simp [intOf] <;> omega)
    · have HTN : Hid (t = nv) := by show t = nv; omega
      have hlI : ¬ (t : Int) < nv := by omega
      have HLN : Hid (nv = rs'.length) := by show _ = _; rw [HI.out.len]; exact HNV.out
      have HB2 : Hid ((rs'.length + [(⟨⟨#[115, 112, 97, 114, 101]⟩, 0, e0, none, 0, 0⟩ : RV)].length) * VE.nb ≤ 140737488355328 ∧ rs'.length + [(⟨⟨#[115, 112, 97, 114, 101]⟩, 0, e0, none, 0, 0⟩ : RV)].length ≤ 140737488355328) := ⟨by have := HLN.out; simp [VE]; omega, by have := HLN.out; simp; omega⟩
      go_wp2_with (at_builtin; refine wpList_app okV rfl _ _ rfl oL nv cL rs' rfl HLN.out (HI.out.l.own.keepsN ((Keeps.refl no wr).alloc _)) (some (Addr.mk wr.heap.size 0 none)) 1 1 [⟨⟨#[115, 112, 97, 114, 101]⟩, 0, e0, none, 0, 0⟩] rfl rfl (fun e => by cases e) (lit_one (E := VE) wr ⟨⟨#[115, 112, 97, 114, 101]⟩, 0, e0, none, 0, 0⟩ _ rfl).row HB2.out.1 HB2.out.2 ?_; intro o9 c9 w9 ho9 hap9; obtain ⟨g9, eg9, hle9⟩ := ownK_some ho9 HLN.out; subst eg9; have HO9 : Hid (Own VE w9 (some (Addr.mk g9 0 none)) c9 (rs' ++ [⟨⟨#[115, 112, 97, 114, 101]⟩, 0, e0, none, 0, 0⟩])) := ho9; have K9 : Hid (Keeps (inO oL) wr w9) := (((Keeps.refl no wr).alloc _).of_no.trans (by rcases hap9 with ⟨_, hk⟩ | ⟨_, hk⟩; exact hk; exact hk.of_no)); have Q9 : Hid (Lq w A B #[.int .i64 k, .int .i64 cl, .int .u64 (q : Nat), .int .u64 (i : Nat), .slice op' np cp', .slice ok' nk ck', .slice ow' nw cw', .slice ov nv cv] w9) := HI.out.q.other K9.out HI.out.l.far; obtain ⟨x0, x1, x2, x3, x4, x5, x6, x7⟩ := cells8 Q9.out.a; obtain ⟨z0, z1, z2, z3, z4, z5, z6, z7⟩ := cells8 Q9.out.b; have f7 := frozen_of_blk Q9.out.a 7; have e0 := frozen_of_blk Q9.out.b 0; have e1 := frozen_of_blk Q9.out.b 1; have e2 := frozen_of_blk Q9.out.b 2; have e3 := frozen_of_blk Q9.out.b 3; have e4 := frozen_of_blk Q9.out.b 4; have e5 := frozen_of_blk Q9.out.b 5; have e6 := frozen_of_blk Q9.out.b 6; have e7 := frozen_of_blk Q9.out.b 7; have n1 : ¬ A = B := (by have := Q9.out.ab; omega); have n2 : ¬ B = A := (by omega); have hcut := cutK27 g9 (nv + 1) nv c9 (by omega))
      have hs7 := Q9.out.set 7 (.slice (some (Addr.mk g9 0 none)) nv c9) #[.int .i64 k, .int .i64 cl, .int .u64 (q : Nat), .int .u64 (i : Nat), .slice op' np cp', .slice ok' nk ck', .slice ow' nw cw', .slice (some (Addr.mk g9 0 none)) nv c9] rfl
      have hs8 := set8 hs7.1.b (.int .i64 k) (.int .i64 cl) (.int .u64 (q : Nat)) (.int .u64 (i : Nat)) (.slice op' np cp') (.slice ok' nk ck') (.slice ow' nw cw') (.slice (some (Addr.mk g9 0 none)) nv c9)
      unfold set8w at hs8
      refine bodyPost_ret (results_row1 rfl _ _ B _ rfl (loadM hs8.1)) rfl ?_
      have hab := Q9.out.ab
      have h9 : ∀ j, inO (some (Addr.mk g9 0 none)) j → B < j := by
        rcases hap9 with ⟨e, _⟩ | ⟨⟨g, e, hg⟩, _⟩
        · rw [e]; exact HI.out.l.far
        · intro j hj
          obtain ⟨x, ex, rfl⟩ := hj
          cases e
          cases ex
          have := lt_of_block HI.out.q.b
          have hg' : wr.heap.size + 1 ≤ g9 := by simpa using hg
          show B < g9
          omega
      have ksF := ((HI.out.ks.other HI.out.l.own (by decide) K9.out).set (by omega) hs7.2).set (Nat.le_refl B) hs8.2
      have psF := ((HI.out.ps.other HI.out.l.own (by decide) K9.out).set (by omega) hs7.2).set (Nat.le_refl B) hs8.2
      have wsF := ((HI.out.ws.other HI.out.l.own (by decide) K9.out).set (by omega) hs7.2).set (Nat.le_refl B) hs8.2
      have vsF := (Lo.set ⟨HO9.out, h9⟩ (by omega) hs7.2).set (Nat.le_refl B) hs8.2
      have hlen : rs'.length = m.vers.length := HI.out.len.trans H.out.vrs.len
      have eaF : ∀ j, j < rs'.length → VerS _ (rs'.getD j r0) (m.vers.getD j v0) := fun j hj => by
        have d0 := HI.out.done j (by rw [HTN.out, H.out.nv, ← hlen]; exact hj)
        have d1 := d0.keeps K9.out (tags_ne (by decide) d0.own HI.out.l.own)
        have d2 := d1.keeps hs7.2 (d1.own.neB Q9.out.a (by decide))
        exact d2.keeps hs8.2 (d2.own.neB hs7.1.b (by decide))
      exact ⟨op', cp', ok', ck', ow', cw', some (Addr.mk g9 0 none), c9, rs', rfl, ⟨⟨H.out.k, H.out.cl, H.out.q, H.out.i, H.out.np, H.out.nk, H.out.nw, H.out.nv, Sl.front okP psF.own, Sl.front okT ksF.own, Sl.front okW wsF.own, ⟨Sl.front okV vsF.own, hlen, fun j hj => (eaF j (by rw [hlen]; exact hj)).of⟩, H.out.rng, H.out.fit⟩, ksF.own, psF.own, wsF.own, vsF.own, fun j hj => (eaF j hj).own⟩, hs7.1.kp.then hs8.2 (fun j hj => .inr (by unfold eqA at hj; omega))⟩

end Go.Proofs.YtjklpcamlppegaaGreat
