/- MsgKeeps: its walk (written by wip/tools/mkkeeps8.py). -/
import Derived.Test.YtjklpcamlppegaaGreatK8
import Derived.Test.YtjklpcamlppegaaGreatK6
import Derived.Deep.RegionHeld3
namespace Go.Proofs.YtjklpcamlppegaaGreat
open Go.RowKit Go.Sort Orl Pk
set_option linter.unusedVariables false
set_option linter.unusedSimpArgs false

theorem own_one171 (w : World) : Own BB (w.alloc (.cells #[.int .u8 171] 5)) (some ⟨w.heap.size, 0, none⟩) 1 [171] := by
  refine own_of_shape okBB (blk_new w _) (Nat.le_refl _) (by unfold maxLen; omega) (by simp [BB]) ?_
  simp [El.cells, BB]
theorem map_xs {α : Type} {l l' : List (LS α)} (h : l'.map LS.xs = l.map LS.xs) : ∀ j, (l'.getD j ls0).xs = (l.getD j ls0).xs := by
  intro j
  have hj := congrArg (fun m => m[j]?) h
  simp only [List.getElem?_map] at hj
  rw [List.getD_eq_getElem?_getD, List.getD_eq_getElem?_getD]
  have hl : l'.length = l.length := by simpa using congrArg List.length h
  by_cases hlt : j < l.length
  · rw [List.getElem?_eq_getElem hlt, List.getElem?_eq_getElem (by omega)] at hj ⊢
    simpa using hj
  · rw [List.getElem?_eq_none (by omega), List.getElem?_eq_none (by omega)]
theorem own_head {α : Type} {E : El α} {X : El (LS α)} (K : Kind E X) {w : World} {o : Option Addr} {c : Nat} {L : List (LS α)} (h : Own X w o c L) (j : Nat) (hj : j < L.length) : ∃ g, o = some ⟨g, 0, none⟩ ∧ w.cell? ⟨g, j, none⟩ = some (.slice (L.getD j ls0).o (L.getD j ls0).xs.length (L.getD j ls0).c) := by
  obtain ⟨b, off, e, hc⟩ := h.sl.one K.x K.k ls0 hj _ (K.enc _)
  have ho : off = 0 := by
    rcases h.shape with ⟨e', _⟩ | ⟨g, cur, e', _⟩
    · rw [e'] at e; cases e
    · rw [e'] at e; cases e; rfl
  subst ho
  rw [Nat.zero_add] at hc
  exact ⟨b, e, hc⟩
set_option maxRecDepth 100000 in
set_option maxHeartbeats 0 in
theorem msgKeeps_any (w : World) (k cl : Int) (q i : Nat) (op : Option Addr) (np cp : Nat) (ok : Option Addr) (nk ck : Nat) (ow : Option Addr) (nw cw : Nat) (ov : Option Addr) (nv cv : Nat) (rs : List RV) (m : Msg) (h : IsM w k cl q i op np cp ok nk ck ow nw cw ov nv cv rs m) (k1 cl1 : Int) (q1 i1 : Nat) (op1 : Option Addr) (np1 cp1 : Nat) (ok1 : Option Addr) (nk1 ck1 : Nat) (ow1 : Option Addr) (nw1 cw1 : Nat) (ov1 : Option Addr) (nv1 cv1 : Nat) (rs1 : List RV) (m1 : Msg) (h1 : IsM w k1 cl1 q1 i1 op1 np1 cp1 ok1 nk1 ck1 ow1 nw1 cw1 ov1 nv1 cv1 rs1 m1) :
    Calls Tryz.prog 3 #[.agg #[.int .i64 k, .int .i64 cl, .int .u64 (q : Nat), .int .u64 (i : Nat), .slice op np cp, .slice ok nk ck, .slice ow nw cw, .slice ov nv cv], .agg #[.int .i64 k1, .int .i64 cl1, .int .u64 (q1 : Nat), .int .u64 (i1 : Nat), .slice op1 np1 cp1, .slice ok1 nk1 ck1, .slice ow1 nw1 cw1, .slice ov1 nv1 cv1]] w fun e w' => e = .returned (.bool true) ∧ Keeps no w w' := by
  have H : Hid (IsM w k cl q i op np cp ok nk ck ow nw cw ov nv cv rs m) := h
  have H1 : Hid (IsM w k1 cl1 q1 i1 op1 np1 cp1 ok1 nk1 ck1 ow1 nw1 cw1 ov1 nv1 cv1 rs1 m1) := h1
  clear h h1
  have k0 : Keeps no w ((w.alloc (.cells #[.int .i64 k, .int .i64 cl, .int .u64 (q : Nat), .int .u64 (i : Nat), .slice op np cp, .slice ok nk ck, .slice ow nw cw, .slice ov nv cv] 29)).alloc (.cells #[.int .i64 k1, .int .i64 cl1, .int .u64 (q1 : Nat), .int .u64 (i1 : Nat), .slice op1 np1 cp1, .slice ok1 nk1 ck1, .slice ow1 nw1 cw1, .slice ov1 nv1 cv1] 29)) := ((Keeps.refl no w).alloc _).alloc _
  have hA := blk_alloc (blk_new w (.cells #[.int .i64 k, .int .i64 cl, .int .u64 (q : Nat), .int .u64 (i : Nat), .slice op np cp, .slice ok nk ck, .slice ow nw cw, .slice ov nv cv] 29)) (.cells #[.int .i64 k1, .int .i64 cl1, .int .u64 (q1 : Nat), .int .u64 (i1 : Nat), .slice op1 np1 cp1, .slice ok1 nk1 ck1, .slice ow1 nw1 cw1, .slice ov1 nv1 cv1] 29)
  have hO := blk_new (w.alloc (.cells #[.int .i64 k, .int .i64 cl, .int .u64 (q : Nat), .int .u64 (i : Nat), .slice op np cp, .slice ok nk ck, .slice ow nw cw, .slice ov nv cv] 29)) (.cells #[.int .i64 k1, .int .i64 cl1, .int .u64 (q1 : Nat), .int .u64 (i1 : Nat), .slice op1 np1 cp1, .slice ok1 nk1 ck1, .slice ow1 nw1 cw1, .slice ov1 nv1 cv1] 29)
  have hOe : (w.alloc (.cells #[.int .i64 k, .int .i64 cl, .int .u64 (q : Nat), .int .u64 (i : Nat), .slice op np cp, .slice ok nk ck, .slice ow nw cw, .slice ov nv cv] 29)).heap.size = w.heap.size + 1 := by simp
  rw [hOe] at hO
  go_enter Tryz.func3, Tryz.ntmps3
  go_wp2_with fail
  refine (lent_any _ k cl q i op np cp ok nk ck ow nw cw ov nv cv rs m (H.out.keepsN k0)).mono ?_
  rintro e w1 ⟨op2, cp2, ok2, ck2, ow2, cw2, ov2, cv2, rs2, rfl, HL1, hk1⟩
  go_wp2_with fail
  refine (known_any _).mono ?_
  rintro e W2 ⟨rfl, hk2⟩
  have k12 : Keeps no w1 W2 := ((Keeps.refl no w1).alloc (.cells #[.int .i64 k, .int .i64 cl, .int .u64 (q : Nat), .int .u64 (i : Nat), .slice op2 np cp2, .slice ok2 nk ck2, .slice ow2 nw cw2, .slice ov2 nv cv2] 29)).trans hk2
  have hI := hk2.at (blk_new w1 (.cells #[.int .i64 k, .int .i64 cl, .int .u64 (q : Nat), .int .u64 (i : Nat), .slice op2 np cp2, .slice ok2 nk ck2, .slice ow2 nw cw2, .slice ov2 nv cv2] 29)) (fun h => h)
  have hA2 := k12.at (hk1.at hA (fun h => h)) (fun h => h)
  have hO2 := k12.at (hk1.at hO (fun h => h)) (fun h => h)
  have kw2 : Keeps no w W2 := (k0.trans hk1).trans k12
  have HL : Hid (Lent W2 k cl q i op2 np cp2 ok2 nk ck2 ow2 nw cw2 ov2 nv cv2 rs2 m) := HL1.out.keepsN k12
  obtain ⟨A, hAe⟩ : ∃ A, A = w.heap.size := ⟨_, rfl⟩
  obtain ⟨O, hOe2⟩ : ∃ O, O = w.heap.size + 1 := ⟨_, rfl⟩
  obtain ⟨I, hIe⟩ : ∃ I, I = w1.heap.size := ⟨_, rfl⟩
  rw [← hAe] at hA2
  rw [← hOe2] at hO2
  rw [← hIe] at hI
  rw [← hOe2, ← hAe, ← hIe]
  have HB : Hid (Bs w A O I #[.int .i64 k, .int .i64 cl, .int .u64 (q : Nat), .int .u64 (i : Nat), .slice op np cp, .slice ok nk ck, .slice ow nw cw, .slice ov nv cv] #[.int .i64 k1, .int .i64 cl1, .int .u64 (q1 : Nat), .int .u64 (i1 : Nat), .slice op1 np1 cp1, .slice ok1 nk1 ck1, .slice ow1 nw1 cw1, .slice ov1 nv1 cv1] #[.int .i64 k, .int .i64 cl, .int .u64 (q : Nat), .int .u64 (i : Nat), .slice op2 np cp2, .slice ok2 nk ck2, .slice ow2 nw cw2, .slice ov2 nv cv2] W2) := ⟨kw2, hA2, hO2, hI⟩
  clear hAe hOe2 hIe hI hA2 hO2 kw2 HL1 k12 hk2 hk1 hOe hO hA k0
  go_wp2_with fail
  go_loopw [6, 7, 8, 9, 10] (fun s6 s7 s8 s9 s10 wr => ∃ (T : Nat) (oK : Option Addr) (nK cK : Nat) (L : List (LS Nat)) (oW : Option Addr) (nW cW : Nat) (L' : List (LS Nat)) (oT : Option Addr) (nT cT : Nat) (Y : List (LS Tx)) (oU : Option Addr) (nU cU : Nat) (Y' : List (LS Tx)), T ≤ 2 ∧ s10 = .int .i64 T ∧ s6 = .slice oK nK cK ∧ s7 = .slice oW nW cW ∧ s8 = .slice oT nT cT ∧ s9 = .slice oU nU cU ∧ Hid (Tn W2 oK cK L oW cW L' oT cT Y oU cU Y' wr ∧ nK = L.length ∧ nW = L'.length ∧ nT = Y.length ∧ nU = Y'.length ∧ L.length ≤ 2 * T ∧ Y.length ≤ 4 * T)) (fun _ _ _ _ s _ => 2 - (intOf s).toNat)
  case atStart => exact ⟨0, none, 0, 0, [], none, 0, 0, [], none, 0, 0, [], none, 0, 0, [], by omega, rfl, rfl, rfl, rfl, rfl, ⟨tn_nil _, rfl, rfl, rfl, rfl, Nat.le_refl _, Nat.le_refl _⟩⟩
  case round =>
    obtain ⟨T, oK, nK, cK, L, oW, nW, cW, L', oT, nT, cT, Y, oU, nU, cU, Y', hT, rfl, rfl, rfl, rfl, rfl, HI⟩ := hrel
    rename World => V0
    by_cases hT2 : T < 2
    · have hTI : (T : Int) < 2 := by omega
      have HBV : Hid (Bs w A O I #[.int .i64 k, .int .i64 cl, .int .u64 (q : Nat), .int .u64 (i : Nat), .slice op np cp, .slice ok nk ck, .slice ow nw cw, .slice ov nv cv] #[.int .i64 k1, .int .i64 cl1, .int .u64 (q1 : Nat), .int .u64 (i1 : Nat), .slice op1 np1 cp1, .slice ok1 nk1 ck1, .slice ow1 nw1 cw1, .slice ov1 nv1 cv1] #[.int .i64 k, .int .i64 cl, .int .u64 (q : Nat), .int .u64 (i : Nat), .slice op2 np cp2, .slice ok2 nk ck2, .slice ow2 nw cw2, .slice ov2 nv cv2] V0) := HB.out.keepsN HI.out.1.kp
      obtain ⟨x0, x1, x2, x3, x4, x5, x6, x7⟩ := cells8 HBV.out.i
      go_wp2_with fail
      refine (May_any V0 k cl q i op2 np cp2 ok2 nk ck2 ow2 nw cw2 ov2 nv cv2 rs2 m (HL.out.is.keepsN HI.out.1.kp)).mono ?_
      rintro e V1 ⟨rfl, hk1⟩
      have K1 : Hid (Keeps no V0 V1) := hk1
      clear x0 x1 x2 x3 x4 x5 x6 x7 hk1
      obtain ⟨x0, x1, x2, x3, x4, x5, x6, x7⟩ := cells8 (HBV.out.keepsN K1.out).i
      go_wp2_with fail
      refine (Size_any V1 k cl q i op2 np cp2 ok2 nk ck2 ow2 nw cw2 ov2 nv cv2 rs2 m (HL.out.is.keepsN (HI.out.1.kp.trans K1.out))).mono ?_
      rintro e V2 ⟨rfl, hk2⟩
      have K2 : Hid (Keeps no V0 V2) := K1.out.trans hk2
      clear x0 x1 x2 x3 x4 x5 x6 x7 hk2 K1
      obtain ⟨x0, x1, x2, x3, x4, x5, x6, x7⟩ := cells8 (HBV.out.keepsN K2.out).i
      generalize sizE m = sz
      go_wp2_with fail
      refine (Encode_any V2 k cl q i op2 np cp2 ok2 nk ck2 ow2 nw cw2 ov2 nv cv2 rs2 m (HL.out.is.keepsN (HI.out.1.kp.trans K2.out))).mono ?_
      obtain ⟨ba, hba⟩ : ∃ b, b = encB m := ⟨_, rfl⟩
      obtain ⟨Ea, hEa⟩ : ∃ b, b = encE m := ⟨_, rfl⟩
      have HBA : Hid ((∀ c ∈ ba, c < 256) ∧ ba.length ≤ 1048580) := by rw [hba]; exact ⟨encB_byt' m, encB_len' m⟩
      rw [← hba, ← hEa]
      clear hba hEa
      rintro e V3 ⟨oa, na, ca, rfl, HNA, hownA, hnewA, hk3⟩
      have K3 : Hid (Keeps no V0 V3) := K2.out.trans hk3
      have HOA : Hid (Own BB V3 oa ca ba ∧ New V0 oa) := ⟨(ownBB _ _ _ _).2 hownA, hnewA.of_le K2.out.size⟩
      clear x0 x1 x2 x3 x4 x5 x6 x7 hk3 hownA hnewA K2
      obtain ⟨x0, x1, x2, x3, x4, x5, x6, x7⟩ := cells8 (HBV.out.keepsN K3.out).o
      go_wp2_with fail
      refine (Encode_any V3 k1 cl1 q1 i1 op1 np1 cp1 ok1 nk1 ck1 ow1 nw1 cw1 ov1 nv1 cv1 rs1 m1 (H1.out.keepsN ((HB.out.kp.trans HI.out.1.kp).trans K3.out))).mono ?_
      obtain ⟨bb, hbb⟩ : ∃ b, b = encB m1 := ⟨_, rfl⟩
      obtain ⟨Eb, hEb⟩ : ∃ b, b = encE m1 := ⟨_, rfl⟩
      have HBB : Hid ((∀ c ∈ bb, c < 256) ∧ bb.length ≤ 1048580) := by rw [hbb]; exact ⟨encB_byt' m1, encB_len' m1⟩
      rw [← hbb, ← hEb]
      clear hbb hEb
      rintro e V4 ⟨ob, nb, cb, rfl, HNB, hownB, hnewB, hk4⟩
      have K4 : Hid (Keeps no V0 V4 ∧ Keeps no V3 V4) := ⟨K3.out.trans hk4, hk4⟩
      have HOB : Hid (Own BB V4 ob cb bb ∧ New V3 ob) := ⟨(ownBB _ _ _ _).2 hownB, hnewB⟩
      have hna : na ≤ 1048580 := by have h1 := HNA.out; have h2 := HBA.out.2; omega
      have hnb : nb ≤ 1048580 := by have h1 := HNB.out; have h2 := HBB.out.2; omega
      clear x0 x1 x2 x3 x4 x5 x6 x7 hk4 hownB hnewB
      have HSA : Hid (BSl V4 oa ca ba) := ((ownBB _ _ _ _).1 (HOA.out.1.keepsN K4.out.2)).sl' HBA.out.1 (by have := HBA.out.2; omega)
      have HSB : Hid (BSl V4 ob cb bb) := ((ownBB _ _ _ _).1 HOB.out.1).sl' HBB.out.1 (by have := HBB.out.2; omega)
      go_wp2_with (first
        | (at_builtin; refine wpList_appB rfl _ _ rfl none 0 0 [] rfl rfl (owns_nil _) oa na ca ba rfl HNA.out HSA.out.nil HSA.out.row (by omega) ?_; intro o5 c5 w5 hown5 hfr5 hk5; have HO5 : Hid (Owns w5 o5 c5 ba ∧ New V4 o5 ∧ Keeps no V4 w5) := ⟨by simpa using hown5, (by rcases hfr5 with e | ⟨g, e, hg⟩; (rw [e]; exact new_none _); (rw [e]; exact new_fresh V4 g hg 0)), hk5.mono (fun i ⟨x, e, _⟩ => by cases e)⟩; clear hown5 hfr5 hk5)
        | (at_builtin; go_loud (refine wpList_appB rfl _ _ rfl o5 na c5 ba rfl HNA.out (HO5.out.1.keeps ((Keeps.refl no w5).alloc _) (fun _ _ h => h)) (some (Addr.mk w5.heap.size 0 none)) 1 1 [171] rfl rfl (fun e => by cases e) (((ownBB _ _ _ _).1 (own_one171 w5)).row (by simp) (by simp)) (by omega) ?_); intro o6 c6 w6 hown6 hfr6 hk6; obtain ⟨g6, eg6, hle6⟩ := ownK_some ((ownBB _ _ _ _).2 hown6) HNA.out; subst eg6; have HO6 : Hid (Own BB w6 (some (Addr.mk g6 0 none)) c6 (ba ++ [171]) ∧ V4.heap.size ≤ g6 ∧ Keeps no V4 w6) := ⟨(ownBB _ _ _ _).2 hown6, (by rcases hfr6 with e | ⟨g, e, hg⟩; (exact HO5.out.2.1 g6 ⟨_, e.symm, rfl⟩); (cases e; have := HO5.out.2.2.size; simp at hg; omega)), (HO5.out.2.2.alloc _).then hk6 (fun j hj => .inr (HO5.out.2.1 j hj))⟩; obtain ⟨A7, d7, hcutW, hslW, hsubW⟩ := cut_h w6 (some (Addr.mk g6 0 none)) c6 (ba ++ [171]) (na + 1) na (na : Int) rfl (by rw [List.length_append, ← HNA.out]; rfl) (by omega) (((ownBB _ _ _ _).1 HO6.out.1).sl' (by intro c hc; rcases List.mem_append.1 hc with h | h; (exact HBA.out.1 c h); (simp at h; omega)) (by have := HBA.out.2; simp; omega)); have HSW : Hid (BSl w6 A7 d7 ba) := (by have h1 := hslW; rw [HNA.out, List.take_left] at h1; exact h1); clear hown6 hfr6 hk6 hslW))
      refine (Decode_any w6 A7 na d7 ba HNA.out (by have := HBA.out.2; omega) HSW.out).mono ?_
      obtain ⟨⟨Dx, Ex⟩, hD⟩ : ∃ D, D = dec ba := ⟨_, rfl⟩
      rw [← hD]
      clear hD
      rintro e w7 ⟨k7, cl7, q7, i7, op7, np7, cp7, ok7, nk7, ck7, ow7, nw7, cw7, ov7, nv7, cv7, rs7, rfl, HM7, hF7, hk7⟩
      have hX7 := yg_of HM7.out hF7 hk7 #[.int .i64 k7, .int .i64 cl7, .int .u64 (q7 : Nat), .int .u64 (i7 : Nat), .slice op7 np7 cp7, .slice ok7 nk7 ck7, .slice ow7 nw7 cw7, .slice ov7 nv7 cv7]
      have kq7 : Keeps no w6 (w7.alloc (.cells #[.int .i64 k7, .int .i64 cl7, .int .u64 (q7 : Nat), .int .u64 (i7 : Nat), .slice op7 np7 cp7, .slice ok7 nk7 ck7, .slice ow7 nw7 cw7, .slice ov7 nv7 cv7] 29)) := hk7.alloc _
      clear HM7 hF7 hk7
      go_wp2_with fail
      obtain ⟨X, hXe⟩ : ∃ X, X = w7.heap.size := ⟨_, rfl⟩
      rw [← hXe] at hX7
      rw [← hXe]
      have hu8 : X ≤ (w7.alloc (.cells #[.int .i64 k7, .int .i64 cl7, .int .u64 (q7 : Nat), .int .u64 (i7 : Nat), .slice op7 np7 cp7, .slice ok7 nk7 ck7, .slice ow7 nw7 cw7, .slice ov7 nv7 cv7] 29)).heap.size := by rw [hXe]; simp
      generalize w7.alloc (.cells #[.int .i64 k7, .int .i64 cl7, .int .u64 (q7 : Nat), .int .u64 (i7 : Nat), .slice op7 np7 cp7, .slice ok7 nk7 ck7, .slice ow7 nw7 cw7, .slice ov7 nv7 cv7] 29) = W8 at hX7 kq7 hu8 ⊢
      have HX8 : Hid (Yg w6.heap.size X X #[.int .i64 k7, .int .i64 cl7, .int .u64 (q7 : Nat), .int .u64 (i7 : Nat), .slice op7 np7 cp7, .slice ok7 nk7 ck7, .slice ow7 nw7 cw7, .slice ov7 nv7 cv7] ok7 nk7 ck7 ov7 nv7 cv7 rs7 Dx W8) := hX7
      have K68 : Hid (Keeps no w6 W8) := kq7
      have HU8 : Hid (X ≤ W8.heap.size) := hu8
      clear hXe hX7 kq7 hu8
      refine (Decode_any W8 ob nb cb bb HNB.out (by have := HBB.out.2; omega) (HSB.out.keeps (HO6.out.2.2.trans K68.out) (fun _ _ h => h))).mono ?_
      obtain ⟨⟨Dy, Ey⟩, hD⟩ : ∃ D, D = dec bb := ⟨_, rfl⟩
      rw [← hD]
      clear hD
      rintro e w8 ⟨k8, cl8, q8, i8, op8, np8, cp8, ok8, nk8, ck8, ow8, nw8, cw8, ov8, nv8, cv8, rs8, rfl, HM8, hF8, hk8⟩
      have hY8 := yg_of HM8.out hF8 hk8 #[.int .i64 k8, .int .i64 cl8, .int .u64 (q8 : Nat), .int .u64 (i8 : Nat), .slice op8 np8 cp8, .slice ok8 nk8 ck8, .slice ow8 nw8 cw8, .slice ov8 nv8 cv8]
      have kq8 : Keeps no W8 (w8.alloc (.cells #[.int .i64 k8, .int .i64 cl8, .int .u64 (q8 : Nat), .int .u64 (i8 : Nat), .slice op8 np8 cp8, .slice ok8 nk8 ck8, .slice ow8 nw8 cw8, .slice ov8 nv8 cv8] 29)) := hk8.alloc _
      clear HM8 hF8 hk8
      have hself : ∀ (b : Bool), b = true → (!b) = false := fun b h => by rw [h]; rfl
      go_wp2_with fail
      obtain ⟨Yb, hYe⟩ : ∃ X, X = w8.heap.size := ⟨_, rfl⟩
      rw [← hYe] at hY8
      rw [← hYe]
      generalize w8.alloc (.cells #[.int .i64 k8, .int .i64 cl8, .int .u64 (q8 : Nat), .int .u64 (i8 : Nat), .slice op8 np8 cp8, .slice ok8 nk8 ck8, .slice ow8 nw8 cw8, .slice ov8 nv8 cv8] 29) = W9 at hY8 kq8 ⊢
      have HY9 : Hid (Yg W8.heap.size Yb Yb #[.int .i64 k8, .int .i64 cl8, .int .u64 (q8 : Nat), .int .u64 (i8 : Nat), .slice op8 np8 cp8, .slice ok8 nk8 ck8, .slice ow8 nw8 cw8, .slice ov8 nv8 cv8] ok8 nk8 ck8 ov8 nv8 cv8 rs8 Dy W9) := hY8
      have K89 : Hid (Keeps no W8 W9) := kq8
      have K69 : Hid (Keeps no w6 W9) := K68.out.trans kq8
      have HX9 : Hid (Yg w6.heap.size X X #[.int .i64 k7, .int .i64 cl7, .int .u64 (q7 : Nat), .int .u64 (i7 : Nat), .slice op7 np7 cp7, .slice ok7 nk7 ck7, .slice ow7 nw7 cw7, .slice ov7 nv7 cv7] ok7 nk7 ck7 ov7 nv7 cv7 rs7 Dx W9) := HX8.out.keepsN kq8
      have K49 : Hid (Keeps no V4 W9) := HO6.out.2.2.trans K69.out
      clear hYe hY8 kq8 HX8 hself
      refine (same_bytes W9 A7 na d7 oa na ca ba ba HNA.out HNA.out (HSW.out.row.keeps K69.out (fun _ _ h => h)) (HSA.out.row.keeps K49.out (fun _ _ h => h))).mono ?_
      rintro e wq ⟨rfl, hq⟩
      subst wq
      rw [decide_eq_true rfl]
      have hW9 : W9.cell? ⟨g6, na, none⟩ = some (.int .u8 171) := by
        have h1 := (HO6.out.1.keepsN K69.out).byte na (by rw [List.length_append, ← HNA.out]; simp)
        rw [getD_append, if_neg (by have := HNA.out; omega), ← HNA.out, Nat.sub_self] at h1
        exact h1
      have HB9 : Hid (Bs w A O I #[.int .i64 k, .int .i64 cl, .int .u64 (q : Nat), .int .u64 (i : Nat), .slice op np cp, .slice ok nk ck, .slice ow nw cw, .slice ov nv cv] #[.int .i64 k1, .int .i64 cl1, .int .u64 (q1 : Nat), .int .u64 (i1 : Nat), .slice op1 np1 cp1, .slice ok1 nk1 ck1, .slice ow1 nw1 cw1, .slice ov1 nv1 cv1] #[.int .i64 k, .int .i64 cl, .int .u64 (q : Nat), .int .u64 (i : Nat), .slice op2 np cp2, .slice ok2 nk ck2, .slice ow2 nw cw2, .slice ov2 nv cv2] W9) := HBV.out.keepsN (K4.out.1.trans K49.out)
      obtain ⟨x0, x1, x2, x3, x4, x5, x6, x7⟩ := cells8 HB9.out.i
      obtain ⟨y0, y1, y2, y3, y4, y5, y6, y7⟩ := cells8 HB9.out.a
      go_wp2_with fail
      have K29 : Hid (Keeps no W2 W9) := (HI.out.1.kp.trans K4.out.1).trans K49.out
      refine (Same_any W9 k cl q i op2 np cp2 ok2 nk ck2 ow2 nw cw2 ov2 nv cv2 rs2 m (HL.out.is.keepsN K29.out) k cl q i op np cp ok nk ck ow nw cw ov nv cv rs m (H.out.keepsN (HB.out.kp.trans K29.out))).mono ?_
      rintro e w10 ⟨⟨B10, rfl, hB10⟩, hk10⟩
      obtain rfl : B10 = true := hB10.out.2 rfl
      clear x0 x1 x2 x3 x4 x5 x6 x7 y0 y1 y2 y3 y4 y5 y6 y7 hB10 hW9
      obtain ⟨x0, x1, x2, x3, x4, x5, x6, x7⟩ := cells8 (HB9.out.keepsN hk10).i
      go_wp2_with fail
      refine (spared_any w10 k cl q i op2 np cp2 ok2 nk ck2 ow2 nw cw2 ov2 nv cv2 rs2 m (HL.out.keepsN (K29.out.trans hk10))).mono ?_
      rintro e w11 ⟨rfl, hk11⟩
      have K911 : Hid (Keeps no W9 w11) := hk10.trans hk11
      clear x0 x1 x2 x3 x4 x5 x6 x7 hk10 hk11 hcutW
      go_wp2_with fail
      have HW11 : Hid (Own BB w11 (some ⟨g6, 0, none⟩) c6 (ba ++ [171])) := HO6.out.1.keepsN (K69.out.trans K911.out)
      go_loopw [20] (fun s wr => ∃ j : Nat, j ≤ na + 1 ∧ s = .int .i64 j ∧ Hid ((∃ ws : List Nat, ws.length = na + 1 ∧ Own BB wr (some ⟨g6, 0, none⟩) c6 ws) ∧ Keeps (eqA g6) w11 wr)) (fun s _ => na + 1 - (intOf s).toNat)
      case atStart => exact ⟨0, by omega, rfl, ⟨⟨_, by rw [List.length_append, ← HNA.out]; rfl, HW11.out⟩, Keeps.refl _ _⟩⟩
      case round =>
        obtain ⟨j, hj, rfl, HJ⟩ := hrel
        rename World => V10
        by_cases hjn : j < na + 1
        · have hjI : (j : Int) < (na : Int) + 1 := by omega
          obtain ⟨⟨ws, hwl, hwo⟩, hwk⟩ := HJ.out
          obtain ⟨g, eg, q1, q2, q3, q4⟩ := hwo.store1 okBB rfl (fun c : Nat => Value.int .u8 (c : Nat)) (fun _ => rfl) 0 j (by rw [hwl]; exact hjn) 7
          cases eg
          have HN : Hid ((∃ ws : List Nat, ws.length = na + 1 ∧ Own BB (V10.setCell ⟨g6, j, none⟩ (.int .u8 7)) (some ⟨g6, 0, none⟩) c6 ws) ∧ Keeps (eqA g6) w11 (V10.setCell ⟨g6, j, none⟩ (.int .u8 7))) := ⟨⟨_, by rw [List.length_set]; exact hwl, q3⟩, hwk.setA j _⟩
          obtain ⟨vv, hvv⟩ : ∃ v, v = (ws.getD j 0) := ⟨_, rfl⟩
          rw [← hvv] at q1
          clear q3 q4 hwk hwo hvv
          go_wp2_with fail
          go_roundw
          case rel => exact ⟨j + 1, by omega, by go_num, HN⟩
          case measure => simp [intOf] <;> omega
        · have hjI : ¬ (j : Int) < (na : Int) + 1 := by omega
          have hwk := HJ.out.2
          have hg6 : g6 < w6.heap.size := HO6.out.1.lt g6 ⟨_, rfl, rfl⟩
          have K410 : Hid (Keeps no V4 V10) := (K49.out.trans K911.out).then hwk (fun k hk => .inr (by unfold eqA at hk; have := HO6.out.2.1; omega))
          have HT10 : Hid (Tn W2 oK cK L oW cW L' oT cT Y oU cU Y' V10) := HI.out.1.keepsN (K4.out.1.trans K410.out)
          have HX10 : Hid (Yg w6.heap.size X X #[.int .i64 k7, .int .i64 cl7, .int .u64 (q7 : Nat), .int .u64 (i7 : Nat), .slice op7 np7 cp7, .slice ok7 nk7 ck7, .slice ow7 nw7 cw7, .slice ov7 nv7 cv7] ok7 nk7 ck7 ov7 nv7 cv7 rs7 Dx V10) := (HX9.out.keepsN K911.out).keeps hwk (fun k hk => by unfold eqA at hk; omega)
          have HY10 : Hid (Yg W8.heap.size Yb Yb #[.int .i64 k8, .int .i64 cl8, .int .u64 (q8 : Nat), .int .u64 (i8 : Nat), .slice op8 np8 cp8, .slice ok8 nk8 ck8, .slice ow8 nw8 cw8, .slice ov8 nv8 cv8] ok8 nk8 ck8 ov8 nv8 cv8 rs8 Dy V10) := (HY9.out.keepsN K911.out).keeps hwk (fun k hk => by unfold eqA at hk; have := K68.out.size; omega)
          have HA10 : Hid (Own BB V10 oa ca ba ∧ Own BB V10 ob cb bb) := ⟨HOA.out.1.keepsN (K4.out.2.trans K410.out), HOB.out.1.keepsN K410.out⟩
          have HV0 : Hid (V0.heap.size ≤ w6.heap.size ∧ W2.heap.size ≤ V0.heap.size) := ⟨Nat.le_trans K4.out.1.size HO6.out.2.2.size, HI.out.1.kp.size⟩
          have HLT : Hid ((∀ k, inO oK k → k < V0.heap.size) ∧ (∀ k, inO oW k → k < V0.heap.size) ∧ (∀ k, inO oT k → k < V0.heap.size) ∧ (∀ k, inO oU k → k < V0.heap.size)) := ⟨HI.out.1.b.own.lt, HI.out.1.b.own'.lt, HI.out.1.t.own.lt, HI.out.1.t.own'.lt⟩
          have HEL : Hid ((∀ s ∈ L, ∀ k, inO s.o k → k < V0.heap.size) ∧ (∀ s ∈ Y, ∀ k, inO s.o k → k < V0.heap.size)) := ⟨fun s hs => (HI.out.1.b.els.each s hs).lt, fun s hs => (HI.out.1.t.els.each s hs).lt⟩
          have HNN : Hid (nK = L.length ∧ nW = L'.length ∧ nT = Y.length ∧ nU = Y'.length ∧ L.length ≤ 2 * T ∧ Y.length ≤ 4 * T) := HI.out.2
          have HLL : Hid (L'.length = L.length) := by show _ = _; have := congrArg List.length HI.out.1.b.eq; simpa using this
          have HC1 : Hid (#[Value.slice oa na ca, Value.slice ob nb cb].toList = LS.enc (⟨oa, ca, ba⟩ : LS Nat) ++ LS.enc (⟨ob, cb, bb⟩ : LS Nat)) := by show _ = _; simp [LS.enc, ← HNA.out, ← HNB.out]
          have HBZ : Hid ((L.length + [(⟨oa, ca, ba⟩ : LS Nat), (⟨ob, cb, bb⟩ : LS Nat)].length) * ZE.nb ≤ 140737488355328 ∧ L.length + [(⟨oa, ca, ba⟩ : LS Nat), (⟨ob, cb, bb⟩ : LS Nat)].length ≤ 140737488355328) := ⟨by have := HNN.out.2.2.2.2.1; simp [ZE]; omega, by have := HNN.out.2.2.2.2.1; simp; omega⟩
          have HBQ : Hid ((([] : List Nat).length + ba.length) * BB.nb ≤ 140737488355328 ∧ ([] : List Nat).length + ba.length ≤ 140737488355328 ∧ (([] : List Nat).length + bb.length) * BB.nb ≤ 140737488355328 ∧ ([] : List Nat).length + bb.length ≤ 140737488355328) := by have h1 := HBA.out.2; have h2 := HBB.out.2; refine ⟨?_, ?_, ?_, ?_⟩ <;> simp [BB] <;> omega
          clear HJ hwk HSA HSB HSW HW11 HX9 HY9 HB9
          go_wp2_with (first
            | (at_builtin; refine wpList_app okZ rfl _ _ rfl oK nK cK L rfl HNN.out.1 (HT10.out.b.own.keepsN ((Keeps.refl no V10).alloc _)) (some (Addr.mk V10.heap.size 0 none)) 2 2 [(⟨oa, ca, ba⟩ : LS Nat), (⟨ob, cb, bb⟩ : LS Nat)] rfl rfl (fun e => by cases e) (two_row rfl V10 (⟨oa, ca, ba⟩ : LS Nat) (⟨ob, cb, bb⟩ : LS Nat) _ HC1.out).row HBZ.out.1 HBZ.out.2 ?_; intro o11 c11 V11 ho11 hap11; have H11 : Hid (Own ZE V11 o11 c11 (L ++ [(⟨oa, ca, ba⟩ : LS Nat), (⟨ob, cb, bb⟩ : LS Nat)]) ∧ Ap (V10.alloc (.cells #[Value.slice oa na ca, Value.slice ob nb cb] 38)) oK o11 V11) := ⟨ho11, hap11⟩; have HA11 : Hid (Own BB V11 oa ca ba ∧ Own BB V11 ob cb bb) := (by have k1 : Keeps (inO oK) V10 V11 := ((Keeps.refl no V10).alloc _).of_no.trans (apK_keeps hap11); exact ⟨HA10.out.1.keeps k1 (tags_ne (by decide) HA10.out.1 HT10.out.b.own), HA10.out.2.keeps k1 (tags_ne (by decide) HA10.out.2 HT10.out.b.own)⟩); clear ho11 hap11)
            | (at_builtin; refine wpList_app okBB rfl _ _ rfl none 0 0 [] rfl rfl (own_nil _) oa na ca ba rfl HNA.out HA11.out.1.cap.2 HA11.out.1.row HBQ.out.1 HBQ.out.2.1 ?_; intro o12 c12 V12 ho12 hap12; have H12 : Hid (Own BB V12 o12 c12 ba ∧ Keeps no V11 V12) := ⟨ho12, apK_none hap12⟩; clear ho12 hap12)
            | (at_builtin; refine wpList_app okBB rfl _ _ rfl none 0 0 [] rfl rfl (own_nil _) ob nb cb bb rfl HNB.out HA11.out.2.cap.2 (HA11.out.2.keepsN H12.out.2).row HBQ.out.2.2.1 HBQ.out.2.2.2 ?_; intro o13 c13 V13 ho13 hap13; have H13 : Hid (Own BB V13 o13 c13 bb ∧ Own BB V13 o12 c12 ba ∧ Keeps no V11 V13) := ⟨ho13, H12.out.1.keepsN (apK_none hap13), H12.out.2.trans (apK_none hap13)⟩; have HC2 : Hid (#[Value.slice o12 na c12, Value.slice o13 nb c13].toList = LS.enc (⟨o12, c12, ba⟩ : LS Nat) ++ LS.enc (⟨o13, c13, bb⟩ : LS Nat)) := (by show _ = _; simp [LS.enc, ← HNA.out, ← HNB.out]); have HW13 : Hid (Own ZE V13 oW cW L') := (by have k1 : Keeps (inO oK) V10 V11 := ((Keeps.refl no V10).alloc _).of_no.trans (apK_keeps H11.out.2); exact (HT10.out.b.own'.keeps k1 HT10.out.b.far.symm).keepsN H13.out.2.2); clear ho13 hap13)
            | (at_builtin; refine wpList_app okZ rfl _ _ rfl oW nW cW L' rfl HNN.out.2.1 (HW13.out.keepsN ((Keeps.refl no V13).alloc _)) (some (Addr.mk V13.heap.size 0 none)) 2 2 [(⟨o12, c12, ba⟩ : LS Nat), (⟨o13, c13, bb⟩ : LS Nat)] rfl rfl (fun e => by cases e) (two_row rfl V13 (⟨o12, c12, ba⟩ : LS Nat) (⟨o13, c13, bb⟩ : LS Nat) _ HC2.out).row (by rw [HLL.out]; exact HBZ.out.1) (by rw [HLL.out]; exact HBZ.out.2) ?_; intro o14 c14 V14 ho14 hap14; have H14 := HT10.out.bytes ((Keeps.refl no V10).alloc _) H11.out.2 H11.out.1 (S' := [(⟨o12, c12, ba⟩ : LS Nat), (⟨o13, c13, bb⟩ : LS Nat)]) ⟨fun s hs => (by simp at hs; rcases hs with rfl | rfl; exact HA10.out.1; exact HA10.out.2), fun s hs => (by simp at hs; rcases hs with rfl | rfl; (exact HOA.out.2.of_le HV0.out.2); (exact HOB.out.2.of_le (Nat.le_trans HV0.out.2 K3.out.size))), (by rw [List.pairwise_pair]; exact far_lt (v := V3.heap.size) HOA.out.1.lt (fun k hk => HOB.out.2 k hk))⟩ (fun x hx y hy => far_lt (v := V0.heap.size) (HEL.out.1 x hx) (fun k hk => (by simp at hy; rcases hy with rfl | rfl; (exact HOA.out.2 k hk); (have := HOB.out.2 k hk; have := K3.out.size; omega)))) (H13.out.2.2.alloc _) (fun s hs => (by simp at hs; rcases hs with rfl | rfl; (exact H13.out.2.1.keepsN ((Keeps.refl no V13).alloc _)); (exact H13.out.1.keepsN ((Keeps.refl no V13).alloc _)))) hap14 ho14 rfl (fun s hs => (by simp at hs; rcases hs with rfl | rfl; exact HBA.out; exact HBB.out)); have HT14 : Hid (Tn W2 o11 c11 (L ++ [(⟨oa, ca, ba⟩ : LS Nat), (⟨ob, cb, bb⟩ : LS Nat)]) o14 c14 (L' ++ [(⟨o12, c12, ba⟩ : LS Nat), (⟨o13, c13, bb⟩ : LS Nat)]) oT cT Y oU cU Y' V14) := H14.1; have HX14 : Hid (Yg w6.heap.size X X #[.int .i64 k7, .int .i64 cl7, .int .u64 (q7 : Nat), .int .u64 (i7 : Nat), .slice op7 np7 cp7, .slice ok7 nk7 ck7, .slice ow7 nw7 cw7, .slice ov7 nv7 cv7] ok7 nk7 ck7 ov7 nv7 cv7 rs7 Dx V14) := HX10.out.keeps H14.2 (fun k hk => (by have := HV0.out.1; rcases hk with h | h; (have := HLT.out.1 k h; omega); (have := HLT.out.2.1 k h; omega))); have HY14 : Hid (Yg W8.heap.size Yb Yb #[.int .i64 k8, .int .i64 cl8, .int .u64 (q8 : Nat), .int .u64 (i8 : Nat), .slice op8 np8 cp8, .slice ok8 nk8 ck8, .slice ow8 nw8 cw8, .slice ov8 nv8 cv8] ok8 nk8 ck8 ov8 nv8 cv8 rs8 Dy V14) := HY10.out.keeps H14.2 (fun k hk => (by have := HV0.out.1; have := K68.out.size; rcases hk with h | h; (have := HLT.out.1 k h; omega); (have := HLT.out.2.1 k h; omega))); obtain ⟨x0, x1, x2, x3, x4, x5, x6, x7⟩ := cells8 HX14.out.blk; obtain ⟨y0, y1, y2, y3, y4, y5, y6, y7⟩ := cells8 HY14.out.blk; have HK1014 : Hid (V10.heap.size ≤ V14.heap.size) := H14.2.size; clear ho14 hap14 H14 H11 H12 H13 HA11 HW13 HC1 HC2))
          have HC3 : Hid (#[Value.slice ok7 nk7 ck7, Value.slice ok8 nk8 ck8].toList = (kl ok7 ck7 Dx).enc ++ (kl ok8 ck8 Dy).enc) := by show _ = _; simp [LS.enc, kl, ← HX14.out.nk, ← HY14.out.nk]
          have HZ0 : Hid (Own XE (V14.alloc (.cells #[Value.slice ok7 nk7 ck7, Value.slice ok8 nk8 ck8] 25)) (some ⟨V14.heap.size, 0, none⟩) 2 ([kl ok7 ck7 Dx, kl ok8 ck8 Dy] ++ vl rs7 Dx 0) ∧ 2 = 2 + 0 ∧ New V14 (some ⟨V14.heap.size, 0, none⟩) ∧ Keeps no V14 (V14.alloc (.cells #[Value.slice ok7 nk7 ck7, Value.slice ok8 nk8 ck8] 25))) := by
            refine ⟨?_, rfl, new_fresh V14 _ (Nat.le_refl _) 0, (Keeps.refl no V14).alloc _⟩
            rw [show vl rs7 Dx 0 = [] from rfl, List.append_nil]
            exact two_own okX rfl rfl V14 _ _ _ HC3.out
          clear x0 x1 x2 x3 x4 x5 x6 x7 y0 y1 y2 y3 y4 y5 y6 y7
          go_loopw [21, 22] (fun s21 s22 wr => ∃ (jx : Nat) (ol : Option Addr) (nl cl' : Nat), jx ≤ nv7 ∧ s22 = .int .i64 jx ∧ s21 = .slice ol nl cl' ∧ Hid (Own XE wr ol cl' ([kl ok7 ck7 Dx, kl ok8 ck8 Dy] ++ vl rs7 Dx jx) ∧ nl = 2 + jx ∧ New V14 ol ∧ Keeps no V14 wr)) (fun _ s _ => nv7 - (intOf s).toNat)
          case atStart => exact ⟨0, _, 2, 2, by omega, rfl, rfl, HZ0⟩
          case round =>
            obtain ⟨jx, ol, nl, cl', hjx, rfl, rfl, HJ⟩ := hrel
            rename World => Vx
            have HXj : Hid (Yg w6.heap.size X X #[.int .i64 k7, .int .i64 cl7, .int .u64 (q7 : Nat), .int .u64 (i7 : Nat), .slice op7 np7 cp7, .slice ok7 nk7 ck7, .slice ow7 nw7 cw7, .slice ov7 nv7 cv7] ok7 nk7 ck7 ov7 nv7 cv7 rs7 Dx Vx) := HX14.out.keepsN HJ.out.2.2.2
            obtain ⟨x0, x1, x2, x3, x4, x5, x6, x7⟩ := cells8 HXj.out.blk
            have hnvb : nv7 ≤ 1 := by have h1 := HXj.out.nv; have h2 := HXj.out.few; omega
            by_cases hjn : jx < nv7
            · have hjI : (jx : Int) < nv7 := by omega
              obtain ⟨bx, offx, rn, ex, hc, HRN⟩ := HXj.out.ver hjn
              subst ex
              obtain ⟨z, hz⟩ : ∃ z, z = vl1 rs7 Dx jx := ⟨_, rfl⟩
              rw [← hz] at hc HRN
              have HZV : Hid (z = vl1 rs7 Dx jx) := hz
              have HCV : Hid (#[Value.slice z.o rn z.c].toList = XE.enc z) := by show _ = LS.enc z; simp [LS.enc, HRN.out]
              have HNL : Hid (nl = ([kl ok7 ck7 Dx, kl ok8 ck8 Dy] ++ vl rs7 Dx jx).length) := by show _ = _; have h1 := HJ.out.2.1; simp [vl_len]; omega
              have HBX : Hid ((([kl ok7 ck7 Dx, kl ok8 ck8 Dy] ++ vl rs7 Dx jx).length + [z].length) * XE.nb ≤ 140737488355328 ∧ ([kl ok7 ck7 Dx, kl ok8 ck8 Dy] ++ vl rs7 Dx jx).length + [z].length ≤ 140737488355328) := by have h1 := HNL.out; have h2 := HJ.out.2.1; exact ⟨by simp [XE, vl_len]; omega, by simp [vl_len]; omega⟩
              clear hz
              go_wp2_with (at_builtin; refine wpList_app okX rfl _ _ rfl ol nl cl' ([kl ok7 ck7 Dx, kl ok8 ck8 Dy] ++ vl rs7 Dx jx) rfl HNL.out (HJ.out.1.keepsN ((Keeps.refl no Vx).alloc _)) (some (Addr.mk Vx.heap.size 0 none)) 1 1 [z] rfl rfl (fun e => by cases e) (lit_one (E := XE) Vx z _ HCV.out).row HBX.out.1 HBX.out.2 ?_; intro o16 c16 V16 ho16 hap16)
              have N16 := Ap.new (w0 := V14) hap16 HJ.out.2.2.1 (HJ.out.2.2.2.alloc _)
              have HN : Hid (Own XE V16 o16 c16 ([kl ok7 ck7 Dx, kl ok8 ck8 Dy] ++ vl rs7 Dx (jx + 1)) ∧ nl + 1 = 2 + (jx + 1) ∧ New V14 o16 ∧ Keeps no V14 V16) := ⟨by rw [vl_succ, ← List.append_assoc, ← HZV.out]; exact ho16, by have := HJ.out.2.1; omega, N16.1, N16.2⟩
              go_roundw
              case rel => exact ⟨jx + 1, o16, nl + 1, c16, by omega, by go_num, rfl, HN⟩
              case measure => simp [intOf] <;> omega
            · obtain rfl : jx = nv7 := by omega
              have hjI : ¬ (jx : Int) < jx := by omega
              have HZ1 : Hid (Own XE Vx ol cl' ([kl ok7 ck7 Dx, kl ok8 ck8 Dy] ++ vl rs7 Dx rs7.length ++ vl rs8 Dy 0) ∧ nl = 2 + jx ∧ New V14 ol ∧ Keeps no V14 Vx) := by
                refine ⟨?_, HJ.out.2.1, HJ.out.2.2.1, HJ.out.2.2.2⟩
                rw [show vl rs8 Dy 0 = [] from rfl, List.append_nil, ← HXj.out.nv]
                exact HJ.out.1
              go_wp2_with fail
              clear HJ HXj x0 x1 x2 x3 x4 x5 x6 x7
              go_loopw [21, 23] (fun s21 s22 wr => ∃ (jy : Nat) (ol : Option Addr) (nl cl' : Nat), jy ≤ nv8 ∧ s22 = .int .i64 jy ∧ s21 = .slice ol nl cl' ∧ Hid (Own XE wr ol cl' ([kl ok7 ck7 Dx, kl ok8 ck8 Dy] ++ vl rs7 Dx rs7.length ++ vl rs8 Dy jy) ∧ nl = 2 + jx + jy ∧ New V14 ol ∧ Keeps no V14 wr)) (fun _ s _ => nv8 - (intOf s).toNat)
              case atStart => exact ⟨0, ol, nl, cl', by omega, rfl, rfl, HZ1⟩
              case round =>
                obtain ⟨jy, ol, nl, cl', hjy, rfl, rfl, HJ⟩ := hrel
                rename World => Vy
                have HXj : Hid (Yg W8.heap.size Yb Yb #[.int .i64 k8, .int .i64 cl8, .int .u64 (q8 : Nat), .int .u64 (i8 : Nat), .slice op8 np8 cp8, .slice ok8 nk8 ck8, .slice ow8 nw8 cw8, .slice ov8 nv8 cv8] ok8 nk8 ck8 ov8 nv8 cv8 rs8 Dy Vy) := HY14.out.keepsN HJ.out.2.2.2
                obtain ⟨x0, x1, x2, x3, x4, x5, x6, x7⟩ := cells8 HXj.out.blk
                have hnvb : nv8 ≤ 1 := by have h1 := HXj.out.nv; have h2 := HXj.out.few; omega
                by_cases hjn : jy < nv8
                · have hjI : (jy : Int) < nv8 := by omega
                  obtain ⟨bx, offx, rn, ex, hc, HRN⟩ := HXj.out.ver hjn
                  subst ex
                  obtain ⟨z, hz⟩ : ∃ z, z = vl1 rs8 Dy jy := ⟨_, rfl⟩
                  rw [← hz] at hc HRN
                  have HZV : Hid (z = vl1 rs8 Dy jy) := hz
                  have HCV : Hid (#[Value.slice z.o rn z.c].toList = XE.enc z) := by show _ = LS.enc z; simp [LS.enc, HRN.out]
                  have HNL : Hid (nl = ([kl ok7 ck7 Dx, kl ok8 ck8 Dy] ++ vl rs7 Dx rs7.length ++ vl rs8 Dy jy).length) := by show _ = _; have h1 := HJ.out.2.1; have h2 := HX14.out.nv; simp [vl_len]; omega
                  have HBX : Hid ((([kl ok7 ck7 Dx, kl ok8 ck8 Dy] ++ vl rs7 Dx rs7.length ++ vl rs8 Dy jy).length + [z].length) * XE.nb ≤ 140737488355328 ∧ ([kl ok7 ck7 Dx, kl ok8 ck8 Dy] ++ vl rs7 Dx rs7.length ++ vl rs8 Dy jy).length + [z].length ≤ 140737488355328) := by have h1 := HNL.out; have h2 := HJ.out.2.1; have h3 := HX14.out.nv; have h4 := HX14.out.few; exact ⟨by simp [XE, vl_len]; omega, by simp [vl_len]; omega⟩
                  clear hz
                  go_wp2_with (at_builtin; refine wpList_app okX rfl _ _ rfl ol nl cl' ([kl ok7 ck7 Dx, kl ok8 ck8 Dy] ++ vl rs7 Dx rs7.length ++ vl rs8 Dy jy) rfl HNL.out (HJ.out.1.keepsN ((Keeps.refl no Vy).alloc _)) (some (Addr.mk Vy.heap.size 0 none)) 1 1 [z] rfl rfl (fun e => by cases e) (lit_one (E := XE) Vy z _ HCV.out).row HBX.out.1 HBX.out.2 ?_; intro o16 c16 V16 ho16 hap16)
                  have N16 := Ap.new (w0 := V14) hap16 HJ.out.2.2.1 (HJ.out.2.2.2.alloc _)
                  have HN : Hid (Own XE V16 o16 c16 ([kl ok7 ck7 Dx, kl ok8 ck8 Dy] ++ vl rs7 Dx rs7.length ++ vl rs8 Dy (jy + 1)) ∧ nl + 1 = 2 + jx + (jy + 1) ∧ New V14 o16 ∧ Keeps no V14 V16) := ⟨by rw [vl_succ, ← List.append_assoc, ← HZV.out]; exact ho16, by have := HJ.out.2.1; omega, N16.1, N16.2⟩
                  go_roundw
                  case rel => exact ⟨jy + 1, o16, nl + 1, c16, by omega, by go_num, rfl, HN⟩
                  case measure => simp [intOf] <;> omega
                · obtain rfl : jy = nv8 := by omega
                  have hjI : ¬ (jy : Int) < jy := by omega
                  have HXy : Hid (Yg w6.heap.size X X #[.int .i64 k7, .int .i64 cl7, .int .u64 (q7 : Nat), .int .u64 (i7 : Nat), .slice op7 np7 cp7, .slice ok7 nk7 ck7, .slice ow7 nw7 cw7, .slice ov7 jx cv7] ok7 nk7 ck7 ov7 jx cv7 rs7 Dx Vy) := HX14.out.keepsN HJ.out.2.2.2
                  have HYy : Hid (Yg W8.heap.size Yb Yb #[.int .i64 k8, .int .i64 cl8, .int .u64 (q8 : Nat), .int .u64 (i8 : Nat), .slice op8 np8 cp8, .slice ok8 nk8 ck8, .slice ow8 nw8 cw8, .slice ov8 jy cv8] ok8 nk8 ck8 ov8 jy cv8 rs8 Dy Vy) := HY14.out.keepsN HJ.out.2.2.2
                  have hzl := zs_els (w0 := W2) HXy.out HYy.out HU8.out (Nat.le_trans HV0.out.2 HV0.out.1) K68.out.size
                  have hz4 := zs_len HXy.out HYy.out.few ok8 ck8 Dy
                  have hzo : Own XE Vy ol cl' (zs ok7 ck7 Dx rs7 ok8 ck8 Dy rs8) := by
                    have h1 := HJ.out.1
                    rw [HYy.out.nv] at h1
                    exact h1
                  have hzn : nl = (zs ok7 ck7 Dx rs7 ok8 ck8 Dy rs8).length := by
                    have h1 := HJ.out.2.1
                    have h2 := HYy.out.nv
                    have h3 := HXy.out.nv
                    unfold zs
                    simp only [List.length_append, vl_len, List.length_cons, List.length_nil]
                    omega
                  generalize zs ok7 ck7 Dx rs7 ok8 ck8 Dy rs8 = Z at hzl hz4 hzo hzn
                  have HZ : Hid (nl = Z.length ∧ Z.length ≤ 4 ∧ (∀ s ∈ Z, (∀ j, inO s.o j → w6.heap.size ≤ j) ∧ s.xs.length ≤ 8796093022000)) := ⟨hzn, hz4, hzl.2⟩
                  have HT0 : Hid (Tn W2 o11 c11 (L ++ [(⟨oa, ca, ba⟩ : LS Nat), (⟨ob, cb, bb⟩ : LS Nat)]) o14 c14 (L' ++ [(⟨o12, c12, ba⟩ : LS Nat), (⟨o13, c13, bb⟩ : LS Nat)]) oT cT Y oU cU Y' Vy ∧ Own XE Vy ol cl' Z ∧ Els TE W2 Z Vy ∧ Far ol oT ∧ Far ol oU) := by
                    have hs : V0.heap.size ≤ V14.heap.size := Nat.le_trans (Nat.le_trans K4.out.1.size K410.out.size) HK1014.out
                    exact ⟨HT14.out.keepsN HJ.out.2.2.2, hzo, hzl.1, (far_lt (v := V0.heap.size) HLT.out.2.2.1 (fun k hk => Nat.le_trans hs (HJ.out.2.2.1 k hk))).symm, (far_lt (v := V0.heap.size) HLT.out.2.2.2 (fun k hk => Nat.le_trans hs (HJ.out.2.2.1 k hk))).symm⟩
                  have hnl4 : nl ≤ 4 := by omega
                  clear hzl hz4 hzo hzn HXy HYy HXj HJ
                  go_wp2_with fail
                  clear x0 x1 x2 x3 x4 x5 x6 x7
                  go_loopw [8, 9, 24] (fun s8 s9 s24 wr => ∃ (jz : Nat) (oT : Option Addr) (nT cT : Nat) (Yj : List (LS Tx)) (oU : Option Addr) (nU cU : Nat) (Yj' : List (LS Tx)), jz ≤ nl ∧ s24 = .int .i64 jz ∧ s8 = .slice oT nT cT ∧ s9 = .slice oU nU cU ∧ Hid (Tn W2 o11 c11 (L ++ [(⟨oa, ca, ba⟩ : LS Nat), (⟨ob, cb, bb⟩ : LS Nat)]) o14 c14 (L' ++ [(⟨o12, c12, ba⟩ : LS Nat), (⟨o13, c13, bb⟩ : LS Nat)]) oT cT Yj oU cU Yj' wr ∧ Own XE wr ol cl' Z ∧ Els TE W2 Z wr ∧ Far ol oT ∧ Far ol oU ∧ nT = Yj.length ∧ nU = Yj'.length ∧ Yj = Y ++ Z.take jz)) (fun _ _ s _ => nl - (intOf s).toNat)
                  case atStart => exact ⟨0, oT, nT, cT, Y, oU, nU, cU, Y', by omega, rfl, rfl, rfl, ⟨HT0.out.1, HT0.out.2.1, HT0.out.2.2.1, HT0.out.2.2.2.1, HT0.out.2.2.2.2, HNN.out.2.2.1, HNN.out.2.2.2.1, by simp⟩⟩
                  case round =>
                    clear HT0
                    obtain ⟨jz, oTj, nTj, cTj, Yj, oUj, nUj, cUj, Yj', hjz, rfl, rfl, rfl, HJ⟩ := hrel
                    rename World => Vz
                    by_cases hjn : jz < nl
                    · have hjI : (jz : Int) < nl := by omega
                      have hjZ : jz < Z.length := by have := HZ.out.1; omega
                      obtain ⟨gl, offl, el, hcl⟩ := HJ.out.2.1.sl.one okX rfl ls0 hjZ _ rfl
                      have hofl : offl = 0 := by
                        rcases HJ.out.2.1.shape with ⟨e, _⟩ | ⟨g, cur, e, _⟩
                        · rw [e] at el; cases el
                        · rw [e] at el; cases el; rfl
                      subst hofl
                      rw [Nat.zero_add] at hcl
                      obtain ⟨z, hz⟩ : ∃ z, z = Z.getD jz ls0 := ⟨_, rfl⟩
                      obtain ⟨zn, hzn⟩ : ∃ zn, zn = z.xs.length := ⟨_, rfl⟩
                      have hzm : z ∈ Z := by rw [hz, List.getD_eq_getElem?_getD, List.getElem?_eq_getElem hjZ]; exact List.getElem_mem _
                      have hcl' : Vz.cell? ⟨gl, jz, none⟩ = some (.slice z.o zn z.c) := by rw [hzn, hz]; exact hcl
                      have HZM : Hid (z ∈ Z ∧ zn = z.xs.length ∧ z = Z.getD jz ls0 ∧ jz < Z.length) := ⟨hzm, hzn, hz, hjZ⟩
                      have HZO : Hid (Own TE Vz z.o z.c z.xs) := HJ.out.2.2.1.each z hzm
                      have hzb : zn ≤ 8796093022000 := by rw [hzn]; exact (HZ.out.2.2 z hzm).2
                      have HCV : Hid (#[Value.slice z.o zn z.c].toList = XE.enc z) := by show _ = LS.enc z; simp [LS.enc, hzn]
                      have HYL : Hid (Yj.length ≤ 16 ∧ Yj'.length = Yj.length) := by
                        refine ⟨?_, by have := congrArg List.length HJ.out.1.t.eq; simpa using this⟩
                        rw [HJ.out.2.2.2.2.2.2.2, List.length_append, List.length_take]
                        have h1 := HNN.out.2.2.2.2.2
                        have h2 := HZ.out.2.1
                        omega
                      have HBX : Hid ((Yj.length + [z].length) * XE.nb ≤ 140737488355328 ∧ Yj.length + [z].length ≤ 140737488355328) := by have h1 := HYL.out.1; exact ⟨by simp [XE]; omega, by simp; omega⟩
                      have HBT : Hid ((([] : List Tx).length + z.xs.length) * TE.nb ≤ 140737488355328 ∧ ([] : List Tx).length + z.xs.length ≤ 140737488355328) := ⟨by simp [TE]; omega, by simp; omega⟩
                      have HEL' : Hid (ol = some ⟨gl, 0, none⟩) := el
                      subst el
                      clear hcl hz hzn hzm
                      go_wp2_with (first
                        | (at_builtin; refine wpList_app okX rfl _ _ rfl oTj nTj cTj Yj rfl HJ.out.2.2.2.2.2.1 (HJ.out.1.t.own.keepsN ((Keeps.refl no Vz).alloc _)) (some (Addr.mk Vz.heap.size 0 none)) 1 1 [z] rfl rfl (fun e => by cases e) (lit_one (E := XE) Vz z _ HCV.out).row HBX.out.1 HBX.out.2 ?_; intro oA cA VA hoA hapA; have HAA : Hid (Own XE VA oA cA (Yj ++ [z]) ∧ Ap (Vz.alloc (.cells #[Value.slice z.o zn z.c] 25)) oTj oA VA) := ⟨hoA, hapA⟩; have KA : Hid (Keeps (inO oTj) Vz VA) := ((Keeps.refl no Vz).alloc _).of_no.trans (apK_keeps hapA); have dA : VA.cell? ⟨gl, jz, none⟩ = some (.slice z.o zn z.c) := KA.out.cell hcl' (fun h => HJ.out.2.2.2.1 gl ⟨_, rfl, rfl⟩ h); have HZA : Hid (Own TE VA z.o z.c z.xs) := HZO.out.keeps KA.out (tags_ne (by decide) HZO.out HJ.out.1.t.own); have HUA : Hid (Own XE VA oUj cUj Yj') := HJ.out.1.t.own'.keeps KA.out HJ.out.1.t.far.symm; clear hoA hapA)
                        | (at_builtin; refine wpList_app okT rfl _ _ rfl none 0 0 [] rfl rfl (own_nil _) z.o zn z.c z.xs rfl HZM.out.2.1 HZA.out.cap.2 HZA.out.row HBT.out.1 HBT.out.2 ?_; intro oB cB VB hoB hapB; have HBB' : Hid (Own TE VB oB cB z.xs ∧ Keeps no VA VB) := ⟨hoB, apK_none hapB⟩; have HCB : Hid (#[Value.slice oB zn cB].toList = XE.enc (⟨oB, cB, z.xs⟩ : LS Tx)) := (by show _ = LS.enc _; simp [LS.enc, HZM.out.2.1]); clear hoB hapB)
                        | (at_builtin; refine wpList_app okX rfl _ _ rfl oUj nUj cUj Yj' rfl HJ.out.2.2.2.2.2.2.1 ((HUA.out.keepsN HBB'.out.2).keepsN ((Keeps.refl no VB).alloc _)) (some (Addr.mk VB.heap.size 0 none)) 1 1 [(⟨oB, cB, z.xs⟩ : LS Tx)] rfl rfl (fun e => by cases e) (lit_one (E := XE) VB (⟨oB, cB, z.xs⟩ : LS Tx) _ HCB.out).row (by rw [HYL.out.2]; exact HBX.out.1) (by rw [HYL.out.2]; exact HBX.out.2) ?_; intro oC cC VC hoC hapC))
                      have HTX := HJ.out.1.texts ((Keeps.refl no Vz).alloc _) HAA.out.2 HAA.out.1 (S' := [(⟨oB, cB, z.xs⟩ : LS Tx)]) (Els.one HZO.out (HJ.out.2.2.1.new z HZM.out.1)) (fun x hx y hy => by
                          rw [List.mem_singleton.1 hy]
                          rw [HJ.out.2.2.2.2.2.2.2] at hx
                          rcases List.mem_append.1 hx with h1 | h1
                          · exact far_lt (v := V0.heap.size) (HEL.out.2 x h1) (fun k hk => Nat.le_trans HV0.out.1 ((HZ.out.2.2 z HZM.out.1).1 k hk))
                          · obtain ⟨a, ha, e⟩ := List.mem_take_iff_getElem.1 h1
                            have hz' : z = Z[jz] := by rw [HZM.out.2.2.1, List.getD_eq_getElem?_getD, List.getElem?_eq_getElem HZM.out.2.2.2]; rfl
                            rw [hz', ← e]
                            exact List.pairwise_iff_getElem.1 HJ.out.2.2.1.far a jz (by omega) HZM.out.2.2.2 (by omega)) (HBB'.out.2.alloc _) (fun s hs => by rw [List.mem_singleton.1 hs]; exact HBB'.out.1.keepsN ((Keeps.refl no VB).alloc _)) hapC hoC rfl (fun s hs => by rw [List.mem_singleton.1 hs]; exact (HZ.out.2.2 z HZM.out.1).2)
                      have HN : Hid (Tn W2 o11 c11 (L ++ [(⟨oa, ca, ba⟩ : LS Nat), (⟨ob, cb, bb⟩ : LS Nat)]) o14 c14 (L' ++ [(⟨o12, c12, ba⟩ : LS Nat), (⟨o13, c13, bb⟩ : LS Nat)]) oA cA (Yj ++ [z]) oC cC (Yj' ++ [(⟨oB, cB, z.xs⟩ : LS Tx)]) VC ∧ Own XE VC (some ⟨gl, 0, none⟩) cl' Z ∧ Els TE W2 Z VC ∧ Far (some ⟨gl, 0, none⟩) oA ∧ Far (some ⟨gl, 0, none⟩) oC ∧ nTj + 1 = (Yj ++ [z]).length ∧ nUj + 1 = (Yj' ++ [(⟨oB, cB, z.xs⟩ : LS Tx)]).length ∧ Yj ++ [z] = Y ++ Z.take (jz + 1)) := by
                        refine ⟨HTX.1, HJ.out.2.1.keeps HTX.2 (fun k h1 h2 => ?_), HJ.out.2.2.1.keeps HTX.2 (fun s hs k h1 h2 => ?_), ?_, ?_, by rw [List.length_append, HJ.out.2.2.2.2.2.1]; rfl, by rw [List.length_append, HJ.out.2.2.2.2.2.2.1]; rfl, ?_⟩
                        · rcases h2 with h2 | h2
                          · exact HJ.out.2.2.2.1 k h1 h2
                          · exact HJ.out.2.2.2.2.1 k h1 h2
                        · rcases h2 with h2 | h2
                          · exact tags_ne (by decide) (HJ.out.2.2.1.each s hs) HJ.out.1.t.own k h1 h2
                          · exact tags_ne (by decide) (HJ.out.2.2.1.each s hs) HJ.out.1.t.own' k h1 h2
                        · exact (apK_far HAA.out.2 HJ.out.2.2.2.1.symm (fun k hk => Nat.lt_of_lt_of_le (HJ.out.2.1.lt k hk) ((Keeps.refl no Vz).alloc (.cells #[Value.slice z.o zn z.c] 25)).size)).symm
                        · exact (apK_far hapC HJ.out.2.2.2.2.1.symm (fun k hk => Nat.lt_of_lt_of_le (HJ.out.2.1.lt k hk) (Nat.le_trans KA.out.size (HBB'.out.2.alloc _).size))).symm
                        · have hlt : jz < Z.length := HZM.out.2.2.2
                          have hgz : Z[jz]? = some z := by
                            have h3 := HZM.out.2.2.1
                            rw [List.getD_eq_getElem?_getD, List.getElem?_eq_getElem hlt] at h3
                            rw [List.getElem?_eq_getElem hlt, h3]
                            rfl
                          rw [HJ.out.2.2.2.2.2.2.2, List.append_assoc, List.take_add_one, hgz]
                          rfl
                      clear HTX hoC hapC
                      go_roundw
                      case rel => exact ⟨jz + 1, oA, nTj + 1, cA, _, oC, nUj + 1, cC, _, by omega, by go_num, rfl, rfl, HN⟩
                      case measure => simp [intOf] <;> omega
                    · obtain rfl : jz = nl := by omega
                      have hjI : ¬ (jz : Int) < jz := by omega
                      have HN : Hid (Tn W2 o11 c11 (L ++ [(⟨oa, ca, ba⟩ : LS Nat), (⟨ob, cb, bb⟩ : LS Nat)]) o14 c14 (L' ++ [(⟨o12, c12, ba⟩ : LS Nat), (⟨o13, c13, bb⟩ : LS Nat)]) oTj cTj Yj oUj cUj Yj' Vz ∧ nK + 2 = (L ++ [(⟨oa, ca, ba⟩ : LS Nat), (⟨ob, cb, bb⟩ : LS Nat)]).length ∧ nW + 2 = (L' ++ [(⟨o12, c12, ba⟩ : LS Nat), (⟨o13, c13, bb⟩ : LS Nat)]).length ∧ nTj = Yj.length ∧ nUj = Yj'.length ∧ (L ++ [(⟨oa, ca, ba⟩ : LS Nat), (⟨ob, cb, bb⟩ : LS Nat)]).length ≤ 2 * (T + 1) ∧ Yj.length ≤ 4 * (T + 1)) := by
                        refine ⟨HJ.out.1, by rw [List.length_append, ← HNN.out.1]; rfl, by rw [List.length_append, ← HNN.out.2.1]; rfl, HJ.out.2.2.2.2.2.1, HJ.out.2.2.2.2.2.2.1, by have := HNN.out.2.2.2.2.1; simp; omega, ?_⟩
                        rw [HJ.out.2.2.2.2.2.2.2, List.length_append, List.length_take]
                        have h1 := HNN.out.2.2.2.2.2
                        have h2 := HZ.out.2.1
                        omega
                      go_wp2_with fail
                      go_roundw
                      case rel => exact ⟨T + 1, o11, nK + 2, c11, _, o14, nW + 2, c14, _, oTj, nTj, cTj, Yj, oUj, nUj, cUj, Yj', by omega, by go_num, rfl, rfl, rfl, rfl, HN⟩
                      case measure => simp [intOf] <;> omega
    · have HTT : Hid (T = 2) := by show T = 2; omega
      have hTI : ¬ (T : Int) < 2 := by omega
      have HNN : Hid (nK = L.length ∧ nW = L'.length ∧ nT = Y.length ∧ nU = Y'.length ∧ L.length ≤ 4 ∧ Y.length ≤ 8) := ⟨HI.out.2.1, HI.out.2.2.1, HI.out.2.2.2.1, HI.out.2.2.2.2.1, by have h1 := HI.out.2.2.2.2.2.1; have h2 := HTT.out; omega, by have h1 := HI.out.2.2.2.2.2.2; have h2 := HTT.out; omega⟩
      have HEQ : Hid (L'.length = L.length ∧ Y'.length = Y.length ∧ (∀ j, (L'.getD j ls0).xs = (L.getD j ls0).xs) ∧ (∀ j, (Y'.getD j ls0).xs = (Y.getD j ls0).xs)) := by
        have e1 := HI.out.1.b.eq
        have e2 := HI.out.1.t.eq
        exact ⟨by simpa using congrArg List.length e1, by simpa using congrArg List.length e2, map_xs e1, map_xs e2⟩
      have hnK : nK ≤ 4 := by have h1 := HNN.out.1; have h2 := HNN.out.2.2.2.2.1; omega
      have hnW : nW = nK := by have h1 := HNN.out.1; have h2 := HNN.out.2.1; have h3 := HEQ.out.1; omega
      have hnT : nT ≤ 8 := by have h1 := HNN.out.2.2.1; have h2 := HNN.out.2.2.2.2.2; omega
      have hnU : nU = nT := by have h1 := HNN.out.2.2.1; have h2 := HNN.out.2.2.2.1; have h3 := HEQ.out.2.1; omega
      subst hnW
      subst hnU
      go_wp2_with fail
      go_loopw [25] (fun s wr => ∃ j : Nat, j ≤ nW ∧ s = .int .i64 j ∧ Hid (Keeps no V0 wr)) (fun s _ => nW - (intOf s).toNat)
      case atStart => exact ⟨0, by omega, rfl, Keeps.refl _ _⟩
      case round =>
        obtain ⟨j, hj, rfl, HJ⟩ := hrel
        rename World => Vb
        by_cases hjn : j < nW
        · have hjI : (j : Int) < nW := by omega
          have HTb : Hid (Tn W2 oK cK L oW cW L' oT cT Y oU cU Y' Vb) := HI.out.1.keepsN HJ.out
          obtain ⟨gK, eK, d1⟩ := own_head kindZ HTb.out.b.own j (by rw [← HNN.out.1]; exact hjn)
          obtain ⟨gW, eW, d2⟩ := own_head kindZ HTb.out.b.own' j (by rw [HEQ.out.1, ← HNN.out.1]; exact hjn)
          have hm : L.getD j ls0 ∈ L := by rw [List.getD_eq_getElem?_getD, List.getElem?_eq_getElem (by rw [← HNN.out.1]; exact hjn)]; exact List.getElem_mem _
          have hm' : L'.getD j ls0 ∈ L' := by rw [List.getD_eq_getElem?_getD, List.getElem?_eq_getElem (by rw [HEQ.out.1, ← HNN.out.1]; exact hjn)]; exact List.getElem_mem _
          have hb := HTb.out.bL _ hm
          have r1 := ((ownBB _ _ _ _).1 (HTb.out.b.els.each _ hm)).row hb.1 (by have := hb.2; omega)
          have r2 := HTb.out.b.cps _ hm'
          rw [HEQ.out.2.2.1 j] at d2 r2
          have r2 := ((ownBB _ _ _ _).1 r2).row hb.1 (by have := hb.2; omega)
          generalize (L.getD j ls0).xs = xs at d1 d2 r1 r2 hb
          generalize (L.getD j ls0).o = o1 at d1 r1
          generalize (L.getD j ls0).c = c1 at d1
          generalize (L'.getD j ls0).o = o2 at d2 r2
          generalize (L'.getD j ls0).c = c2 at d2
          have HR : Hid (∀ w', Keeps no Vb w' → BRow w' o1 xs ∧ BRow w' o2 xs) := fun w' hk => ⟨r1.keeps hk (fun _ _ h => h), r2.keeps hk (fun _ _ h => h)⟩
          obtain ⟨xn, hxn⟩ : ∃ xn, xn = xs.length := ⟨_, rfl⟩
          rw [← hxn] at d1 d2
          have HXN : Hid (xn = xs.length) := hxn
          subst eK
          subst eW
          clear hm hm' hb r1 r2 hxn
          go_wp2_with fail
          go_region_held3 (fun w' => w'.cell? ⟨gK, j, none⟩ = some (.slice o1 xn c1) ∧ w'.cell? ⟨gW, j, none⟩ = some (.slice o2 xn c2)) (go_keep) (first | (go_at_call 12; refine (same_bytes _ o1 xn c1 o2 xn c2 xs xs HXN.out HXN.out (HR.out _ (Keeps.refl no Vb).drew).1 (HR.out _ (Keeps.refl no Vb).drew).2).mono ?_; rw [decide_eq_true rfl]; rintro e w8 ⟨rfl, h8⟩; subst w8))
          all_goals
            (go_wp2_with fail
             go_roundw
             case rel => exact ⟨j + 1, by omega, by go_num, HJ.out.drew⟩
             case measure => simp [intOf] <;> omega)
        · obtain rfl : j = nW := by omega
          have hjI : ¬ (j : Int) < j := by omega
          go_wp2_with fail
          go_loopw [26] (fun s wr => ∃ t : Nat, t ≤ nU ∧ s = .int .i64 t ∧ Hid (Keeps no V0 wr)) (fun s _ => nU - (intOf s).toNat)
          case atStart => exact ⟨0, by omega, rfl, HJ⟩
          case round =>
            clear HJ
            obtain ⟨t, ht, rfl, HJ⟩ := hrel
            rename World => Vc
            by_cases htn : t < nU
            · have htI : (t : Int) < nU := by omega
              have HTb : Hid (Tn W2 oK cK L oW cW L' oT cT Y oU cU Y' Vc) := HI.out.1.keepsN HJ.out
              obtain ⟨gT, eT, d1⟩ := own_head kindT HTb.out.t.own t (by rw [← HNN.out.2.2.1]; exact htn)
              obtain ⟨gU, eU, d2⟩ := own_head kindT HTb.out.t.own' t (by rw [HEQ.out.2.1, ← HNN.out.2.2.1]; exact htn)
              have hm : Y.getD t ls0 ∈ Y := by rw [List.getD_eq_getElem?_getD, List.getElem?_eq_getElem (by rw [← HNN.out.2.2.1]; exact htn)]; exact List.getElem_mem _
              have hm' : Y'.getD t ls0 ∈ Y' := by rw [List.getD_eq_getElem?_getD, List.getElem?_eq_getElem (by rw [HEQ.out.2.1, ← HNN.out.2.2.1]; exact htn)]; exact List.getElem_mem _
              have hb := HTb.out.bY _ hm
              have r1 := (HTb.out.t.els.each _ hm).sl
              have r2 := (HTb.out.t.cps _ hm').sl
              rw [HEQ.out.2.2.2 t] at d2 r2
              generalize (Y.getD t ls0).xs = xs at d1 d2 r1 r2 hb
              generalize (Y.getD t ls0).o = o1 at d1 r1
              generalize (Y.getD t ls0).c = c1 at d1 r1
              generalize (Y'.getD t ls0).o = o2 at d2 r2
              generalize (Y'.getD t ls0).c = c2 at d2 r2
              have HR : Hid (∀ w', Keeps no Vc w' → Sl TE w' o1 c1 xs ∧ Sl TE w' o2 c2 xs) := fun w' hk => ⟨r1.keepsN hk, r2.keepsN hk⟩
              obtain ⟨xn, hxn⟩ : ∃ xn, xn = xs.length := ⟨_, rfl⟩
              rw [← hxn] at d1 d2
              have HXN : Hid (xn = xs.length ∧ xs.length ≤ 8796093022000) := ⟨hxn, hb⟩
              subst eT
              subst eU
              clear hm hm' hb r1 r2 hxn
              go_wp2_with fail
              go_region_held3 (fun w' => w'.cell? ⟨gT, t, none⟩ = some (.slice o1 xn c1) ∧ w'.cell? ⟨gU, t, none⟩ = some (.slice o2 xn c2)) (go_keep) (first | (go_at_call 15; refine (sameTexts_any _ o1 xn c1 o2 xn c2 xs xs HXN.out.1 HXN.out.1 HXN.out.2 HXN.out.2 (HR.out _ (Keeps.refl no Vc).drew).1 (HR.out _ (Keeps.refl no Vc).drew).2).mono ?_; rintro e w8 ⟨⟨B8, rfl, hB8⟩, hk8⟩; obtain rfl : B8 = true := hB8.out.2 rfl; have K8' : Hid (Keeps no Vc w8) := (Keeps.refl no Vc).drew.trans hk8; have d1 := K8'.out.cellN d1; have d2 := K8'.out.cellN d2; clear hk8))
              all_goals
                (go_wp2_with fail
                 go_roundw
                 case rel => exact ⟨t + 1, by omega, by go_num, HJ.out.trans K8'.out⟩
                 case measure => simp [intOf] <;> omega)
            · obtain rfl : t = nU := by omega
              have htI : ¬ (t : Int) < t := by omega
              have HTb : Hid (Tn W2 oK cK L oW cW L' oT cT Y oU cU Y' Vc) := HI.out.1.keepsN HJ.out
              go_wp2_with fail
              refine (marked_any W2.heap.size Vc oK j cK L oT t cT Y HNN.out.1 HNN.out.2.2.1 (by omega) (by omega) HTb.out.kp.size (HTb.out.b.els.half HTb.out.b.own) (HTb.out.t.els.half HTb.out.t.own) (fun a ha => ?_) (fun a ha => ?_)).mono ?_
              · have hm : L.getD a ls0 ∈ L := by rw [List.getD_eq_getElem?_getD, List.getElem?_eq_getElem ha]; exact List.getElem_mem _
                have := (HTb.out.bL _ hm).2
                omega
              · have hm : Y.getD a ls0 ∈ Y := by rw [List.getD_eq_getElem?_getD, List.getElem?_eq_getElem ha]; exact List.getElem_mem _
                have := HTb.out.bY _ hm
                omega
              rintro e w20 ⟨rfl, hk20⟩
              have K20 : Hid (Keeps no W2 w20) := HTb.out.kp.then hk20 (fun k hk => .inr hk)
              have HBe : Hid (Bs w A O I #[.int .i64 k, .int .i64 cl, .int .u64 (q : Nat), .int .u64 (i : Nat), .slice op np cp, .slice ok nk ck, .slice ow nw cw, .slice ov nv cv] #[.int .i64 k1, .int .i64 cl1, .int .u64 (q1 : Nat), .int .u64 (i1 : Nat), .slice op1 np1 cp1, .slice ok1 nk1 ck1, .slice ow1 nw1 cw1, .slice ov1 nv1 cv1] #[.int .i64 k, .int .i64 cl, .int .u64 (q : Nat), .int .u64 (i : Nat), .slice op2 np cp2, .slice ok2 nk ck2, .slice ow2 nw cw2, .slice ov2 nv cv2] w20) := HB.out.keepsN K20.out
              obtain ⟨x0, x1, x2, x3, x4, x5, x6, x7⟩ := cells8 HBe.out.i
              obtain ⟨y0, y1, y2, y3, y4, y5, y6, y7⟩ := cells8 HBe.out.a
              clear hk20
              go_wp2_with fail
              refine (Same_any w20 k cl q i op2 np cp2 ok2 nk ck2 ow2 nw cw2 ov2 nv cv2 rs2 m (HL.out.is.keepsN K20.out) k cl q i op np cp ok nk ck ow nw cw ov nv cv rs m (H.out.keepsN HBe.out.kp)).mono ?_
              rintro e w21 ⟨⟨B21, rfl, hB21⟩, hk21⟩
              obtain rfl : B21 = true := hB21.out.2 rfl
              go_wp2_with fail
              go_ret
              exact ⟨rfl, HBe.out.kp.trans hk21⟩
end Go.Proofs.YtjklpcamlppegaaGreat
