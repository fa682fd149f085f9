import Derived.Test.YtbkfalaicocopaaDoorRows2
import Derived.Deep.QuietTactic
import Derived.BigQuiet
import Derived.Deep.RegionWith
namespace Go.Proofs.YtbkfalaicocopaaDoor
open Go.RowKit
open Crc
set_option linter.unusedVariables false
set_option maxHeartbeats 400000 in
theorem pieces_any (a : Option Addr) (bs : List Nat) (cap : Nat) (i j : Int) (w : World) (ht : TabIn w) (hr : Row w a bs) (hc : bs.length ≤ cap) (hnil : a = none → cap = 0) (hcap : cap ≤ 140737488351232)
    (h1 : -9223372036854775808 ≤ i) (h2 : i ≤ 9223372036854775807) (h3 : -9223372036854775808 ≤ j) (h4 : j ≤ 9223372036854775807) :
    Calls Tryd.prog 4 #[.slice a bs.length cap, .int .i64 i, .int .i64 j] w fun e w' => e = .returned (.bool true) ∧ Below w.heap.size w w' := by
  go_enter Tryd.func4, Tryd.ntmps4
  go_wp2_with fail
  refine (alive_any w ht).mono ?_
  rintro e w1 ⟨rfl, hb1⟩
  have ht1 := ht.below hb1
  go_wp2_with fail
  refine (rest_any i bs.length _ h1 h2 (by omega)).mono ?_
  rintro e w2 ⟨⟨I, hI, rfl⟩, rfl⟩
  go_wp2_with fail
  have es : ((bs.length : Nat) : Int) - (I : Nat) = ((bs.length - I : Nat) : Int) := by omega
  rw [es]
  refine (rest_any j (bs.length - I) _ h3 h4 (by omega)).mono ?_
  rintro e w2 ⟨⟨J, hJ, rfl⟩, rfl⟩
  obtain ⟨A0, c0, cut0, row0, nil0⟩ := cut_h_any a bs.length cap I hI hc hnil
  obtain ⟨A1, c1, cut1, row1, nil1⟩ := cut_lh_any a bs.length cap I J (by omega) hc hnil
  obtain ⟨A2, c2, cut2, row2, nil2⟩ := cut_l_any a bs.length cap I J (by omega) hc hnil
  have hr1 := hr.later hb1
  clear es
  go_wp2_with fail
  refine (own_to w1 A0 (bs.take I) I c0 (by rw [List.length_take]; omega) (row0.out w1 bs rfl hr1) nil0 (by rw [List.length_take]; omega)).mono ?_
  rintro e w2 ⟨gx, cx, rfl, gx1, mx, hb2⟩
  have hr2 := hr1.later hb2
  go_wp2_with fail
  refine (own_to w2 A1 ((bs.drop I).take J) J c1 (by rw [List.length_take, List.length_drop]; omega) (row1.out w2 bs rfl hr2) nil1 (by rw [List.length_take, List.length_drop]; omega)).mono ?_
  rintro e w3 ⟨gy, cy, rfl, gy1, my, hb3⟩
  have hr3 := hr2.later hb3
  go_wp2_with fail
  refine (own_to w3 A2 (bs.drop (I + J)) (bs.length - (I + J)) c2 (by rw [List.length_drop]) (row2.out w3 bs rfl hr3) nil2 (by rw [List.length_drop]; omega)).mono ?_
  rintro e w4 ⟨gz, cz, rfl, gz1, mz, hb4⟩
  have hr4 := hr3.later hb4
  go_wp2_with fail
  refine (own_to w4 a bs bs.length cap rfl hr4 hnil (by omega)).mono ?_
  rintro e w5 ⟨gb, cb, rfl, gb1, mb, hb5⟩
  have hr5 := hr4.later hb5
  have hB1 : Below w.heap.size w w5 := hb1.trans ((((hb2.trans (hb3.mono hb2.size)).trans (hb4.mono (Nat.le_trans hb2.size hb3.size))).trans (hb5.mono (Nat.le_trans hb2.size (Nat.le_trans hb3.size hb4.size)))).mono hb1.size)
  have ht5 := ht.below hB1
  obtain ⟨X, hX⟩ : ∃ X, X = bs.take I := ⟨_, rfl⟩
  obtain ⟨Y, hY⟩ : ∃ Y, Y = (bs.drop I).take J := ⟨_, rfl⟩
  obtain ⟨Z, hZ⟩ : ∃ Z, Z = bs.drop (I + J) := ⟨_, rfl⟩
  have hall : bs = X ++ Y ++ Z := by rw [hX, hY, hZ, ← List.drop_drop, List.append_assoc, List.take_append_drop, List.take_append_drop]
  have lX : Hid (I = X.length) := by show I = X.length; rw [hX, List.length_take]; omega
  have lY : Hid (J = Y.length) := by show J = Y.length; rw [hY, List.length_take, List.length_drop]; omega
  have lZ : Hid (bs.length - (I + J) = Z.length) := by show bs.length - (I + J) = Z.length; rw [hZ, List.length_drop]
  have hby := hr.1
  have bX : ∀ c ∈ X, c < 256 := fun c hc => hby c (by rw [hall]; simp [hc])
  have bY : ∀ c ∈ Y, c < 256 := fun c hc => hby c (by rw [hall]; simp [hc])
  have bZ : ∀ c ∈ Z, c < 256 := fun c hc => hby c (by rw [hall]; simp [hc])
  rw [← hX] at mx
  rw [← hY] at my
  rw [← hZ] at mz
  have rX : Hid (Row w5 (some ⟨gx, 0, none⟩) X) := (((mx.row bX (by have := lX.out; omega)).later hb3).later hb4).later hb5
  have rY : Hid (Row w5 (some ⟨gy, 0, none⟩) Y) := ((my.row bY (by have := lY.out; omega)).later hb4).later hb5
  have rZ : Hid (Row w5 (some ⟨gz, 0, none⟩) Z) := (mz.row bZ (by have := lZ.out; omega)).later hb5
  have rB : Hid (Row w5 (some ⟨gb, 0, none⟩) bs) := mb.row hby (by omega)
  have rA : Hid (Row w5 a bs) := hr5
  obtain ⟨sw, e0⟩ : ∃ v, v = sum bs := ⟨_, rfl⟩
  obtain ⟨sx, e1⟩ : ∃ v, v = sum X := ⟨_, rfl⟩
  obtain ⟨sy, e2⟩ : ∃ v, v = sum Y := ⟨_, rfl⟩
  obtain ⟨sz, e3⟩ : ∃ v, v = sum Z := ⟨_, rfl⟩
  obtain ⟨uxy, e4⟩ : ∃ v, v = update sx Y := ⟨_, rfl⟩
  obtain ⟨jyz, e5⟩ : ∃ v, v = sum (Y ++ Z) := ⟨_, rfl⟩
  have q1 : sx < 4294967296 := by rw [e1]; exact update_lt 0 _ (by decide) bX
  have q2 : sy < 4294967296 := by rw [e2]; exact update_lt 0 _ (by decide) bY
  have q3 : sz < 4294967296 := by rw [e3]; exact update_lt 0 _ (by decide) bZ
  have q4 : uxy < 4294967296 := by rw [e4]; exact update_lt _ _ q1 bY
  have q5 : jyz < 4294967296 := by rw [e5]; exact update_lt 0 _ (by decide) (fun c hc => by rcases List.mem_append.mp hc with h | h; exact bY c h; exact bZ c h)
  have f1 : Hid (sw = update uxy Z) := by show sw = _; rw [e0, hall, sum_append, sum_append, e4, e1]
  have f2 : Hid (join sx sy (J : Int).toNat = uxy) := by show join sx sy J = _; rw [e4, update_join, e2, lY.out]
  have f3 : Hid (join uxy sz ((bs.length - (I + J) : Nat) : Int).toNat = sw) := by show join uxy sz (bs.length - (I + J)) = _; rw [lZ.out, f1.out, update_join, e3]
  have f4 : Hid (join sy sz ((bs.length - (I + J) : Nat) : Int).toNat = jyz) := by show join sy sz (bs.length - (I + J)) = _; rw [lZ.out, e5, sum_join, e2, e3]
  have f5 : Hid (join sx jyz ((J : Int) + ((bs.length - (I + J) : Nat) : Int)).toNat = sw) := by
    show join sx jyz _ = _
    rw [show ((J : Int) + ((bs.length - (I + J) : Nat) : Int)).toNat = (Y ++ Z).length by rw [List.length_append]; have := lY.out; have := lZ.out; omega, e0, hall, List.append_assoc, sum_join, e1, e5]
  have E0 : Hid (sw = sum bs) := e0
  have E1 : Hid (sx = sum X) := e1
  have E2 : Hid (sy = sum Y) := e2
  have E3 : Hid (sz = sum Z) := e3
  have E4 : Hid (uxy = update sx Y) := e4
  have HALL : Hid (bs = X ++ Y ++ Z) := hall
  have NB : Hid (∀ c ∈ bs, c < 256) := hby
  have NX : Hid (∀ c ∈ X, c < 256) := bX
  have NY : Hid (∀ c ∈ Y, c < 256) := bY
  have NZ : Hid (∀ c ∈ Z, c < 256) := bZ
  clear e0 e1 e2 e3 e4 e5 hall hX hY hZ hby bX bY bZ mx my mz mb hr hr1 hr2 hr3 hr4 hr5 row0 row1 row2 cut0 cut1 cut2 nil0 nil1 nil2 hb1 hb2 hb3 hb4 hb5 ht ht1
  go_wp2_with fail
  refine (sum_to bs sw _ rfl E0.out _ _ w5 ht5 rB.out).mono ?_
  rintro e w6 ⟨rfl, rfl⟩
  go_wp2_with fail
  refine (sum_to X sx _ lX.out E1.out _ _ w5 ht5 rX.out).mono ?_
  rintro e w6 ⟨rfl, rfl⟩
  go_wp2_with fail
  refine (update_to sx Y uxy _ lY.out E4.out q1 _ _ w5 ht5 rY.out).mono ?_
  rintro e w6 ⟨rfl, rfl⟩
  go_wp2_with fail
  refine (update_to uxy Z sw _ lZ.out f1.out q4 _ _ w5 ht5 rZ.out).mono ?_
  rintro e w6 ⟨rfl, rfl⟩
  go_wp2_with fail
  refine (sum_to X sx _ lX.out E1.out _ _ w5 ht5 rX.out).mono ?_
  rintro e w6 ⟨rfl, rfl⟩
  go_wp2_with fail
  refine (sum_to Y sy _ lY.out E2.out _ _ w5 ht5 rY.out).mono ?_
  rintro e w6 ⟨rfl, rfl⟩
  go_wp2_with fail
  refine (join_to sx sy uxy _ f2.out q1 q2 (by omega) (by omega) w5 ht5).mono ?_
  rintro e w6 ⟨rfl, rfl⟩
  go_wp2_with fail
  refine (sum_to Z sz _ lZ.out E3.out _ _ w5 ht5 rZ.out).mono ?_
  rintro e w6 ⟨rfl, rfl⟩
  go_wp2_with fail
  refine (join_to uxy sz sw _ f3.out q4 q3 (by omega) (by omega) w5 ht5).mono ?_
  rintro e w6 ⟨rfl, rfl⟩
  go_wp2_with fail
  refine (sum_to X sx _ lX.out E1.out _ _ w5 ht5 rX.out).mono ?_
  rintro e w6 ⟨rfl, rfl⟩
  go_wp2_with fail
  refine (sum_to Y sy _ lY.out E2.out _ _ w5 ht5 rY.out).mono ?_
  rintro e w6 ⟨rfl, rfl⟩
  go_wp2_with fail
  refine (sum_to Z sz _ lZ.out E3.out _ _ w5 ht5 rZ.out).mono ?_
  rintro e w6 ⟨rfl, rfl⟩
  go_wp2_with fail
  refine (join_to sy sz jyz _ f4.out q2 q3 (by omega) (by omega) w5 ht5).mono ?_
  rintro e w6 ⟨rfl, rfl⟩
  go_wp2_with fail
  refine (join_to sx jyz sw _ f5.out q1 q5 (by omega) (by omega) w5 ht5).mono ?_
  rintro e w6 ⟨rfl, rfl⟩
  go_wp2_with fail
  clear ht5 f1 f2 f3 f4 f5 E0 E1 E2 E3 E4 q1 q2 q3 q4 q5
  have dr : ∀ (n : Nat) {a : Option Addr} {l : List Nat}, Row w5 a l → Row (w5.drewN n) a l := fun n _ _ h => h.later ⟨rfl, rfl, rfl, Nat.le_refl _, fun _ _ => rfl⟩
  have tX : ∀ n, (convert 25 9 (.slice (some ⟨gx, 0, none⟩) I cx)).run Tryd.prog (w5.drewN n) = .ok (.string (text X)) (w5.drewN n) := fun n => run_text _ _ X I cx lX.out (dr n rX.out)
  have tY : ∀ n, (convert 25 9 (.slice (some ⟨gy, 0, none⟩) J cy)).run Tryd.prog (w5.drewN n) = .ok (.string (text Y)) (w5.drewN n) := fun n => run_text _ _ Y J cy lY.out (dr n rY.out)
  have tZ : ∀ n, (convert 25 9 (.slice (some ⟨gz, 0, none⟩) (bs.length - (I + J)) cz)).run Tryd.prog (w5.drewN n) = .ok (.string (text Z)) (w5.drewN n) := fun n => run_text _ _ Z _ cz lZ.out (dr n rZ.out)
  have tB : ∀ n, (convert 25 9 (.slice a bs.length cap)).run Tryd.prog (w5.drewN n) = .ok (.string (text bs)) (w5.drewN n) := fun n => run_text _ _ bs _ cap rfl (dr n rA.out)
  obtain ⟨hX1, e1⟩ : ∃ v, v = fnv 14695981039346656037 X := ⟨_, rfl⟩
  obtain ⟨hX2, e2⟩ : ∃ v, v = fnv hX1 Y := ⟨_, rfl⟩
  obtain ⟨hX3, e3⟩ : ∃ v, v = fnv hX2 Z := ⟨_, rfl⟩
  have q1 : hX1 < 18446744073709551616 := by rw [e1]; exact fnv_lt _ _ (by decide)
  have q2 : hX2 < 18446744073709551616 := by rw [e2]; exact fnv_lt _ _ q1
  have E1 : Hid (hX1 = fnv 14695981039346656037 X) := e1
  have E2 : Hid (hX2 = fnv hX1 Y) := e2
  have E3 : Hid (hX3 = fnv hX2 Z) := e3
  have E4 : Hid (hX3 = fnv 14695981039346656037 bs) := by show hX3 = _; rw [HALL.out, fnv_append, fnv_append, e3, e2, e1]
  have mX : X.length ≤ 9223372036854775807 := by have := lX.out; omega
  have mY : Y.length ≤ 9223372036854775807 := by have := lY.out; omega
  have mZ : Z.length ≤ 9223372036854775807 := by have := lZ.out; omega
  have mB : bs.length ≤ 9223372036854775807 := by omega
  clear e1 e2 e3 dr
  go_quiet ((first
    | (go_at_call_of 14 (text X); exact Calls.quiet_of_same (hash_to X hX1 NX.out mX E1.out _))
    | (go_at_call_of 14 (text bs); exact Calls.quiet_of_same (hash_to bs hX3 NB.out mB E4.out _))
    | (go_at_call_of 13 (text Y); exact Calls.quiet_of_same (feed_to hX1 Y hX2 q1 NY.out mY E2.out _))
    | (go_at_call_of 13 (text Z); exact Calls.quiet_of_same (feed_to hX2 Z hX3 q2 NZ.out mZ E3.out _))
    | (go_at_call_of 13 (text bs); exact Calls.quiet_of_same (feed_to 14695981039346656037 bs hX3 (by decide) NB.out mB E4.out _))
    | (go_at_call 15; exact Calls.quiet_of_same (begin_any _))))
  go_wp2
  go_ret
  exact ⟨rfl, hB1.trans ⟨rfl, rfl, rfl, Nat.le_refl _, fun _ _ => rfl⟩⟩
end Go.Proofs.YtbkfalaicocopaaDoor
