import Derived.Test.YtbnohdgdadfjlaaGreatDoorDB
/- SnapLays: its walk. -/
namespace Go.Proofs.YtbnohdgdadfjlaaGreatDoor
open Go.RowKit Go.Sort Orl Pk Go.Maps
set_option linter.unusedVariables false
set_option linter.unusedSimpArgs false

set_option maxRecDepth 10000 in
set_option maxHeartbeats 4000000 in
theorem lays_any (w : World) (gen : Int) (g1 : -9223372036854775808 ≤ gen) (g2 : gen ≤ 9223372036854775807) (a : Option Addr) (n c : Nat) (l : List OV) (L : List PO) (hS : Scr w a n c l L) (ht : TabIn w) :
    Calls Tryz.prog 6 #[.int .i64 gen, .slice a n c] w fun e w' => e = .returned (.bool true) ∧ Keeps no w w' := by
  have HS : Hid (Scr w a n c l L ∧ TabIn w) := ⟨hS, ht⟩
  clear hS ht
  go_enter Tryz.func6, Tryz.ntmps6
  go_wp2_with fail
  refine (alive_any w HS.out.2).mono ?_
  rintro e w1 ⟨rfl, hk1⟩
  have HK1 : Hid (Keeps no w w1) := hk1
  clear hk1
  go_wp2_with fail
  refine (HS.out.1.keepsN HK1.out).made.mono ?_
  rintro e w2 ⟨p, rfl, H2⟩
  have HK2 : Hid (Keeps no w w2) := HK1.out.trans H2.out.keep
  by_cases hg : gen < 1
  · go_wp2_with fail
    refine (build_arg w2 gen _ (.inl hg)).mono ?_
    rintro e w3 ⟨rfl, hw3⟩
    subst w3
    go_wp2_with fail
    refine (must_any (HS.out.1.keepsN HK2.out)).mono ?_
    rintro e w4 ⟨q, rfl, H4⟩
    have HK4 : Hid (Keeps no w w4) := HK2.out.trans H4.out.keep
    go_wp2_with fail
    refine (dBuild_arg w4 gen _ hg).mono ?_
    rintro e w5 ⟨rfl, hw5⟩
    subst w5
    go_wp2_with fail
    refine (build_arg w4 gen none (.inr rfl)).mono ?_
    rintro e w6 ⟨rfl, hw6⟩
    subst w6
    go_wp2_with fail
    refine (same_bytes w4 none 0 0 none 0 0 [] [] rfl rfl ⟨by simp, by simp, .inl rfl⟩ ⟨by simp, by simp, .inl rfl⟩).mono ?_
    rw [decide_eq_true rfl]
    rintro e w7 ⟨rfl, hw7⟩
    subst w7
    go_wp2_with fail
    go_ret
    exact ⟨rfl, HK4.out⟩
  · obtain ⟨G, rfl⟩ : ∃ G : Nat, gen = ((G : Nat) : Int) := ⟨gen.toNat, by omega⟩
    have HG : Hid (1 ≤ G ∧ G ≤ 9223372036854775807) := ⟨by omega, by omega⟩
    go_wp2_with fail
    refine (build_any H2.out (by omega) (HS.out.2.keepsN HK2.out) G HG.out.1 HG.out.2).mono ?_
    rintro e w3 ⟨bo, bn, bc, bs, rfl, H3⟩
    have HK3 : Hid (Keeps no w w3) := HK2.out.trans H3.out.keep
    go_wp2_with fail
    refine (must_any (HS.out.1.keepsN HK3.out)).mono ?_
    rintro e w4 ⟨q, rfl, H4⟩
    have HK4 : Hid (Keeps no w w4) := HK3.out.trans H4.out.keep
    go_wp2_with fail
    refine (dBuild_any H4.out (by omega) G HG.out.1 HG.out.2).mono ?_
    rintro e w5 ⟨do_, dn, dc, ds, rfl, H5⟩
    have e8 : bs = ds := SnOf.eq (Sim.refl _) H3.out.sn H5.out.1
    subst e8
    go_wp2_with fail
    refine (build_arg w5 ((G : Nat) : Int) none (.inr rfl)).mono ?_
    rintro e w6 ⟨rfl, hw6⟩
    subst w6
    go_wp2_with fail
    refine (same_bytes w5 bo bn bc do_ dn dc bs bs H3.out.n H5.out.2.1 ((H3.out.own.keepsN (H4.out.keep.trans H5.out.2.2.2.2.2)).row H3.out.byt (by have := H3.out.le; omega)) (H5.out.2.2.1.row H3.out.byt (by have := H3.out.le; omega))).mono ?_
    rw [decide_eq_true rfl]
    rintro e w7 ⟨rfl, hw7⟩
    subst w7
    go_wp2_with fail
    go_ret
    exact ⟨rfl, HK4.out.trans H5.out.2.2.2.2.2⟩
end Go.Proofs.YtbnohdgdadfjlaaGreatDoor
