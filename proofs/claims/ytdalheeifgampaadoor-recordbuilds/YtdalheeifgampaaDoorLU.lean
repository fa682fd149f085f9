/- RecordBuilds: its walk. -/
import Derived.Test.YtdalheeifgampaaDoorS3
import Derived.Test.YtdalheeifgampaaDoorE4
import Derived.Test.YtdalheeifgampaaDoorT1
namespace Go.Proofs.YtdalheeifgampaaDoor
open Go.RowKit Go.Sort Orl Pk
set_option linter.unusedVariables false
set_option linter.unusedSimpArgs false

theorem Sl.old {α : Type} {E : El α} (hE : E.Ok) {S : Nat → Prop} {w W W' : World} {a : Option Addr} {c : Nat} {xs : List α} (h : Sl E w a c xs) (k1 : Keeps no w W) (k2 : Keeps S W W') (hS : ∀ j, S j → w.heap.size ≤ j) : Sl E W' a c xs := by
  have h1 := h.keepsN k1
  refine ⟨?_, h1.cap, h1.nil⟩
  by_cases h0 : xs = []
  · exact .inl h0
  · exact h1.row.keeps k2 (fun j hj hs => by have := h.lt hE h0 j hj; have := hS j hs; omega)
theorem IsC.old {S : Nat → Prop} {w W W' : World} {v : CV} {r : Rec} (h : IsC w v r) (k1 : Keeps no w W) (k2 : Keeps S W W') (hS : ∀ j, S j → w.heap.size ≤ j) : IsC W' v r :=
  ⟨h.k, h.i, h.np, h.nk, h.prs.old okP k1 k2 hS, h.kys.old okT k1 k2 hS, h.fit⟩

set_option maxRecDepth 20000 in
set_option maxHeartbeats 4000000 in
theorem recordBuilds_any (w : World) (k : Int) (i : Nat) (op : Option Addr) (np cp : Nat) (ok : Option Addr) (nk ck : Nat) (r : Rec) (h : IsC w ⟨k, i, op, np, cp, ok, nk, ck⟩ r) (ht : TabIn w) :
    Calls Tryd.prog 8 #[.agg #[.int .i64 k, .int .u64 (i : Nat), .slice op np cp, .slice ok nk ck]] w fun e w' => e = .returned (.bool true) ∧ Keeps no w w' := by
  have H : Hid (IsC w ⟨k, i, op, np, cp, ok, nk, ck⟩ r) := h
  clear h
  have hk0 : Keeps no w (w.alloc (.cells #[.int .i64 k, .int .u64 (i : Nat), .slice op np cp, .slice ok nk ck] 30)) := (Keeps.refl _ _).alloc _
  go_enter Tryd.func8, Tryd.ntmps8
  go_wp2_with fail
  refine (alive_any _ (ht.keepsN hk0)).mono ?_
  rintro e w1 ⟨rfl, hk1⟩
  have hb1 := hk1.at (blk_new w _) (fun h => h)
  have HB1 : Hid (w1.heap[w.heap.size]? = some (.cells #[.int .i64 k, .int .u64 (i : Nat), .slice op np cp, .slice ok nk ck] 30 (0, 0))) := hb1
  have HK1 : Hid (Keeps no w w1) := hk0.trans hk1
  clear hk0 hk1
  obtain ⟨A, hA⟩ : ∃ A, A = w.heap.size := ⟨_, rfl⟩
  have HA : Hid (A = w.heap.size) := hA
  rw [← hA] at hb1 HB1 ⊢
  clear hA
  obtain ⟨x0, x1, x2, x3⟩ := cells4 hb1
  clear hb1
  go_wp2_with fail
  refine (lent_any w1 k i op np cp ok nk ck r (H.out.keepsN HK1.out)).mono ?_
  rintro e w2 ⟨op3, cp3, ok3, ck3, rfl, HLT, hk2⟩
  have HK2 : Hid (Keeps no w1 w2) := hk2
  have HL2 : Hid (Lent w1 (w2.alloc (.cells #[.int .i64 k, .int .u64 (i : Nat), .slice op3 np cp3, .slice ok3 nk ck3] 30)) ⟨k, i, op3, np, cp3, ok3, nk, ck3⟩ r) := HLT.out.keepsN ((Keeps.refl _ _).alloc _)
  have HC2 : Hid ((w2.alloc (.cells #[.int .i64 k, .int .u64 (i : Nat), .slice op3 np cp3, .slice ok3 nk ck3] 30)).heap[w2.heap.size]? = some (.cells #[.int .i64 k, .int .u64 (i : Nat), .slice op3 np cp3, .slice ok3 nk ck3] 30 (0, 0))) := blk_new w2 _
  have HKW : Hid (Keeps no w1 (w2.alloc (.cells #[.int .i64 k, .int .u64 (i : Nat), .slice op3 np cp3, .slice ok3 nk ck3] 30))) := HK2.out.alloc _
  clear hk2 HLT x0 x1 x2 x3
  go_upto_region 4 with fail
  generalize w2.alloc (.cells #[.int .i64 k, .int .u64 (i : Nat), .slice op3 np cp3, .slice ok3 nk ck3] 30) = W2 at HL2 HC2 HKW ⊢
  generalize w2.heap.size = C at HC2 ⊢
  obtain ⟨z0, z1, z2, z3⟩ := cells4 HC2.out
  go_wp2_with fail
  refine (May_any W2 k i op3 np cp3 ok3 nk ck3 r HL2.out.c).mono ?_
  rintro e w3 ⟨rfl, hk3⟩
  have HK3 : Hid (Keeps no w1 w3 ∧ Keeps no W2 w3) := ⟨HKW.out.trans hk3, hk3⟩
  clear hk3 z0 z1 z2 z3
  obtain ⟨MY, hMY⟩ : ∃ b, b = may r := ⟨_, rfl⟩
  rw [← hMY]
  have HMY : Hid (MY = may r) := hMY
  clear hMY
  obtain ⟨z0, z1, z2, z3⟩ := cells4 (HK3.out.2.at HC2.out (fun h => h))
  go_wp2_with fail
  refine (Build_any w3 k i op3 np cp3 ok3 nk ck3 r (HL2.out.c.keepsN HK3.out.2) (ht.keepsN (HK1.out.trans HK3.out.1))).mono ?_
  rintro e w4 ⟨ob, nb, cb, rfl, hnb, hown4, hnew4, hk4⟩
  have HK4 : Hid (Keeps no w1 w4 ∧ Keeps no W2 w4) := ⟨HK3.out.1.trans hk4, HK3.out.2.trans hk4⟩
  have HO4 : Hid (Owns w4 ob cb (encB r)) := hown4
  clear z0 z1 z2 z3 hown4 hnew4 hk4
  obtain ⟨z0, z1, z2, z3⟩ := cells4 (HK4.out.2.at HC2.out (fun h => h))
  obtain ⟨x0, x1, x2, x3⟩ := cells4 (HK4.out.1.at HB1.out (fun h => h))
  have HL4 : Hid (Lent w1 w4 ⟨k, i, op3, np, cp3, ok3, nk, ck3⟩ r) := HL2.out.keepsN HK4.out.2
  have hEb : ((encE r : Nat) : Int) ≤ 3 := by unfold encE; split <;> (try split) <;> simp
  go_wp2_with fail
  refine (kept_any w1 w4 k i op3 np cp3 ok3 nk ck3 r HL4.out k i op np cp ok nk ck (H.out.keepsN (HK1.out.trans HK4.out.1))).mono ?_
  rintro e w5 ⟨rfl, hk5⟩
  have hS : ∀ j, inO op3 j ∨ inO ok3 j → w1.heap.size ≤ j := by
    rintro j (hj | hj)
    · exact HL4.out.pn j hj
    · exact HL4.out.kn j hj
  have HSS : Hid (∀ j, inO op3 j ∨ inO ok3 j → w.heap.size ≤ j) := fun j hj => Nat.le_trans HK1.out.size (hS j hj)
  have HK5 : Hid (Keeps no w w5) := (HK1.out.trans HK4.out.1).then hk5 (fun j hj => .inr (HSS.out j hj))
  have HC5 : Hid (IsC w5 ⟨k, i, op, np, cp, ok, nk, ck⟩ r) := H.out.old (HK1.out.trans HK4.out.1) hk5 HSS.out
  have HO5 : Hid (Owns w5 ob cb (encB r)) := by
    refine HO4.out.keeps hk5 (fun j hj hs => ?_)
    have hB := (ownB_iff w4 ob cb (encB r)).2 HO4.out
    rcases hs with hs | hs
    · exact own_ne (E := BE) (F := PE) (by decide) hB HL4.out.ps j hj hs
    · exact own_ne (E := BE) (F := TE) (by decide) hB HL4.out.ks j hj hs
  have hb5 : w5.heap[A]? = some (.cells #[.int .i64 k, .int .u64 (i : Nat), .slice op np cp, .slice ok nk ck] 30 (0, 0)) := hk5.at (HK4.out.1.at HB1.out (fun h => h)) (fun hs => by have := hS A hs; have := lt_of_block HB1.out; omega)
  have HB5 : Hid _ := hb5
  clear hS hk5 x0 x1 x2 x3 z0 z1 z2 z3 HL4 HL2 HC2 HKW HO4
  obtain ⟨x0, x1, x2, x3⟩ := cells4 hb5
  clear hb5
  go_wp2_with fail
  refine (dBuild_any w5 k i op np cp ok nk ck r HC5.out).mono ?_
  rintro e w6 ⟨oc, nc, cc, rfl, hnc, hown6, hnew6, hk6⟩
  have HK6 : Hid (Keeps no w w6 ∧ Keeps no w5 w6) := ⟨HK5.out.trans hk6, hk6⟩
  have HO6 : Hid (Owns w6 oc cc (encB r)) := hown6
  clear hown6 hnew6 hk6 x0 x1 x2 x3
  obtain ⟨x0, x1, x2, x3⟩ := cells4 (HK6.out.2.at HB5.out (fun h => h))
  go_wp2_with fail
  refine (rMay_any w6 k i op np cp ok nk ck r (HC5.out.keepsN HK6.out.2)).mono ?_
  rintro e w7 ⟨rfl, hk7⟩
  rw [← HMY.out]
  have HK7 : Hid (Keeps no w6 w7) := hk7
  have HBY : Hid (∀ x ∈ encB r, x < 256) := by
    intro x hx
    unfold encB at hx
    split at hx
    · exact enc_byt r x hx
    · cases hx
  have HBL : Hid ((encB r).length ≤ 9223372036854775807) := by
    show _ ≤ _
    unfold encB
    split
    · rename_i he
      have : (body r).length ≤ 1048576 := by
        unfold encE at he
        split at he
        · split at he
          · assumption
          · cases he
        · cases he
      rw [enc_length]; omega
    · simp
  clear hk7 x0 x1 x2 x3
  have hEE : (((encE r : Nat) : Int) == ((encE r : Nat) : Int)) = true := by simp
  generalize ((encE r : Nat) : Int) = EE at hEb hEE ⊢
  cases MY
  all_goals
    go_wp2_with fail
    refine (same_bytes w7 ob nb cb oc nc cc (encB r) (encB r) hnb.out hnc.out ((HO5.out.row HBY.out HBL.out).keeps (HK6.out.2.trans HK7.out) (fun _ _ h => h)) ((HO6.out.row HBY.out HBL.out).keeps HK7.out (fun _ _ h => h))).mono ?_
    rintro e w8 ⟨rfl, hw8⟩
    subst w8
    have hd : decide (encB r = encB r) = true := by simp
    rw [hd]
    go_wp2_with fail
    go_ret
    exact ⟨rfl, HK6.out.1.trans HK7.out⟩
end Go.Proofs.YtdalheeifgampaaDoor
