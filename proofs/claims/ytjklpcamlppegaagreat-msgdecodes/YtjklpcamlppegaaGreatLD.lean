/- MsgDecodes: its walk. -/
import Derived.Test.YtjklpcamlppegaaGreatD3
namespace Go.Proofs.YtjklpcamlppegaaGreat
open Go.RowKit Go.Sort Orl Pk
set_option linter.unusedVariables false
set_option linter.unusedSimpArgs false

set_option maxRecDepth 20000 in
set_option maxHeartbeats 4000000 in
theorem msgDecodes_any (w : World) (o : Option Addr) (n c : Nat) (bs : List Nat) (hn : n = bs.length) (hlid : bs.length ≤ 140737488351232) (hs : BSl w o c bs) :
    Calls Tryz.prog 5 #[.slice o n c] w fun e w' => e = .returned (.bool true) ∧ Keeps no w w' := by
  have HN : Hid (n = bs.length) := hn
  have HSL : Hid (BSl w o c bs) := hs
  have HLD : Hid (bs.length ≤ 140737488355328) := by show _ ≤ _; omega
  clear hn hs hlid
  go_enter Tryz.func5, Tryz.ntmps5
  go_wp2_with fail
  refine (Decode_any w o n c bs HN.out (by have := HLD.out; omega) HSL.out).mono ?_
  rintro e w1 ⟨k, cl, q, i, op, np, cp, ok, nk, ck, ow, nw, cw, ov, nv, cv, rs, rfl, HM, _, hk1⟩
  have kA : Keeps no w1 (w1.alloc (.cells #[.int .i64 k, .int .i64 cl, .int .u64 (q : Nat), .int .u64 (i : Nat), .slice op np cp, .slice ok nk ck, .slice ow nw cw, .slice ov nv cv] 29)) := (Keeps.refl no w1).alloc _
  obtain ⟨m, E, hD⟩ : ∃ m E, dec bs = (m, E) := ⟨_, _, rfl⟩
  rw [hD] at HM ⊢
  simp only at HM ⊢
  go_wp2_with fail
  refine (refDecode_any _ o n c bs HN.out HLD.out (HSL.out.keeps (hk1.trans kA) (fun _ _ h => h))).mono ?_
  rintro e w2 ⟨k', cl', q', i', op', np', cp', ok', nk', ck', ow', nw', cw', ov', nv', cv', rs', rfl, HM', hk2⟩
  rw [hD] at HM' ⊢
  simp only at HM' ⊢
  clear hD
  have kB : Keeps no w2 (w2.alloc (.cells #[.int .i64 k', .int .i64 cl', .int .u64 (q' : Nat), .int .u64 (i' : Nat), .slice op' np' cp', .slice ok' nk' ck', .slice ow' nw' cw', .slice ov' nv' cv'] 29)) := (Keeps.refl no w2).alloc _
  have hA3 := (hk2.trans kB).at (blk_new w1 _) (fun h => h)
  have HM2 : Hid _ := ((HM.out.keepsN kA).keepsN hk2).keepsN kB
  have HM3 : Hid _ := HM'.out.keepsN kB
  have HK3 : Hid (Keeps no w _) := ((hk1.trans kA).trans hk2).trans kB
  have hB3 := blk_new w2 (.cells #[.int .i64 k', .int .i64 cl', .int .u64 (q' : Nat), .int .u64 (i' : Nat), .slice op' np' cp', .slice ok' nk' ck', .slice ow' nw' cw', .slice ov' nv' cv'] 29)
  have HA3 : Hid (_ = _) := hA3
  have HB3 : Hid (_ = _) := hB3
  clear hA3 hB3 hk1 hk2 kA kB HM HM'
  go_wp2_with fail
  obtain ⟨W, hW⟩ : ∃ W, W = w2.alloc (.cells #[.int .i64 k', .int .i64 cl', .int .u64 (q' : Nat), .int .u64 (i' : Nat), .slice op' np' cp', .slice ok' nk' ck', .slice ow' nw' cw', .slice ov' nv' cv'] 29) := ⟨_, rfl⟩
  rw [← hW] at HM2 HM3 HK3 HA3 HB3 ⊢
  clear hW
  refine (known_any _).mono ?_
  rintro e w4 ⟨rfl, hk4⟩
  obtain ⟨A, hA⟩ : ∃ A, A = w1.heap.size := ⟨_, rfl⟩
  obtain ⟨B, hB⟩ : ∃ B, B = w2.heap.size := ⟨_, rfl⟩
  rw [← hA] at HA3 ⊢
  rw [← hB] at HB3 ⊢
  clear hA hB
  obtain ⟨x0, x1, x2, x3, x4, x5, x6, x7⟩ := cells8 (hk4.at HA3.out (fun h => h))
  obtain ⟨y0, y1, y2, y3, y4, y5, y6, y7⟩ := cells8 (hk4.at HB3.out (fun h => h))
  have HM4 : Hid _ := HM2.out.keepsN hk4
  have HM5 : Hid _ := HM3.out.keepsN hk4
  have HK4 : Hid (Keeps no w w4) := HK3.out.trans hk4
  clear hk4
  go_wp2_with fail
  refine (Same_any w4 _ _ _ _ _ _ _ _ _ _ _ _ _ _ _ _ rs m HM4.out _ _ _ _ _ _ _ _ _ _ _ _ _ _ _ _ rs' m HM5.out).mono ?_
  rintro e w5 ⟨⟨Bl, rfl, hBl⟩, hk5⟩
  obtain rfl : Bl = true := hBl.out.2 rfl
  go_wp2_with fail
  go_ret
  exact ⟨rfl, HK4.out.trans hk5⟩
end Go.Proofs.YtjklpcamlppegaaGreat
