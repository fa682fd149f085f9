/- The law's own: known. -/
import Derived.Test.YtjkljljmjjnneaaGreatDoorS4
namespace Go.Proofs.YtjkljljmjjnneaaGreatDoor
open Go.RowKit Go.Sort Orl
set_option linter.unusedVariables false
set_option linter.unusedSimpArgs false

set_option maxRecDepth 10000 in
set_option maxHeartbeats 4000000 in
theorem known_any (w : World) (hv : Vs w) : Calls Tryz.prog 7 #[] w fun e w' => e = .returned (.bool true) ∧ Keeps no w w' := by
  have HV : Hid (Vs w) := hv
  clear hv
  go_enter Tryz.func7, Tryz.ntmps7
  go_wp2_with fail
  refine (two_any w).mono ?_
  rintro e w1 ⟨o1, r1, rfl, he1, hk1⟩
  have HP1 : Hid (Calls Tryz.prog 12 #[.slice o1 2 2] w1 fun E w' => E = .returned (.tuple #[.string twoT, .int .i64 0]) ∧ Keeps no w1 w') := by
    have h := print_any w1 (HV.out.keepsN hk1) o1 2 2 r1 twoE rfl he1 two_sz
    rw [two_print] at h
    exact h
  have HK1 : Hid (Keeps no w w1) := hk1
  clear he1 hk1
  go_wp2_with fail
  refine HP1.out.mono ?_
  rintro e w2 ⟨rfl, hk2⟩
  have HK2 : Hid (Keeps no w w2) := HK1.out.trans hk2
  clear HP1 hk2
  have HP2 : Hid (Calls Tryz.prog 13 #[.string twoT] w2 fun e w' => Keeps no w2 w' ∧ ∃ (o : Option Addr) (c : Nat) (rs : List RE), e = .returned (.tuple #[.slice o 2 c, .int .i64 0, .int .i64 0]) ∧ Evs w' o c rs twoE) := by
    have h := parse_evs w2 (HV.out.keepsN HK2.out) twoT (by decide)
    rw [two_parse] at h
    refine h.mono ?_
    rintro e w' ⟨hk, o, n, c, rs, es, rfl, hn, hE, _, _, hl, hB⟩
    have : es = twoE := evB_inj hl rfl hB two_evB
    subst this
    refine ⟨hk, o, c, rs, ?_, hE⟩
    rw [hn]; rfl
  go_wp2_with fail
  refine HP2.out.mono ?_
  rintro e w3 ⟨hk3, o3, c3, r3, rfl, hE3⟩
  have HE3 : Hid (Evs w3 o3 c3 r3 twoE) := hE3
  have HK3 : Hid (Keeps no w w3) := HK2.out.trans hk3
  clear HP2 hk3 hE3
  have HP3 : Hid (Calls Tryz.prog 13 #[.string ⟨#[48, 32, 49, 32, 114, 101, 97, 100, 32, 97, 10, 48, 32, 48, 49, 32, 114, 101, 97, 100, 10]⟩] w3 fun e w' => Keeps no w3 w' ∧ e = .returned (.tuple #[.slice none 0 0, .int .i64 2, .int .i64 2])) := by
    have h := parse_evs w3 (HV.out.keepsN HK3.out) ⟨#[48, 32, 49, 32, 114, 101, 97, 100, 32, 97, 10, 48, 32, 48, 49, 32, 114, 101, 97, 100, 10]⟩ (by decide)
    rw [bad_parse] at h
    exact h
  go_wp2_with fail
  refine HP3.out.mono ?_
  rintro e w4 ⟨hk4, rfl⟩
  have HE4 : Hid (Evs w4 o3 c3 r3 twoE) := HE3.out.keepsN hk4
  have HK4 : Hid (Keeps no w w4) := HK3.out.trans hk4
  clear HP3 hk4 HE3
  have ht : (ByteArray.toList twoT == ([48, 32, 49, 32, 119, 114, 105, 116, 101, 32, 54, 53, 53, 51, 54, 32, 97, 61, 49, 32, 37, 61, 120, 37, 50, 48, 121, 10, 48, 32, 49, 32, 111, 107, 32, 54, 53, 53, 51, 54, 10] : List UInt8)) = true := by kernel_rfl
  go_wp2_with fail
  refine (two_any w4).mono ?_
  rintro e w5 ⟨o5, r5, rfl, hE5, hk5⟩
  have HC5 : Hid (Calls Tryz.prog 14 #[.slice o3 2 c3, .slice o5 2 2] w5 fun e w' => e = .returned (.bool true) ∧ Keeps no w5 w') := by
    have h := Same_any w5 o3 2 c3 o5 2 2 r3 r5 twoE twoE rfl rfl (HE4.out.keepsN hk5) hE5 two_sz two_sz
    rw [decide_eq_true rfl] at h
    exact h
  have HK5 : Hid (Keeps no w w5) := HK4.out.trans hk5
  clear hk5 hE5 HE4
  go_wp2_with fail
  refine HC5.out.mono ?_
  rintro e w6 ⟨rfl, hk6⟩
  have HK6 : Hid (Keeps no w w6) := HK5.out.trans hk6
  clear HC5 hk6
  go_wp2_with fail
  refine (two_any w6).mono ?_
  rintro e w7 ⟨o7, r7, rfl, hE7, hk7⟩
  have HC7 : Hid (Calls Tryz.prog 8 #[.slice o7 2 2] w7 fun e w' => e = .returned (.bool true) ∧ Keeps no w7 w') := by
    have h := proper_any w7 o7 2 2 r7 twoE rfl hE7 two_sz
    rw [two_proper] at h
    exact h
  have HK7 : Hid (Keeps no w w7) := HK6.out.trans hk7
  clear hk7 hE7
  go_wp2_with fail
  refine HC7.out.mono ?_
  rintro e w8 ⟨rfl, hk8⟩
  have HK8 : Hid (Keeps no w w8) := HK7.out.trans hk8
  clear HC7 hk8
  go_wp2_with fail
  refine (two_any w8).mono ?_
  rintro e w9 ⟨o9, r9, rfl, hE9, hk9⟩
  obtain ⟨b9, f9, rfl⟩ : ∃ b f, o9 = some ⟨b, f, none⟩ := by
    obtain ⟨b, f, h, _⟩ := hE9.sl.atE (j := 0) (by rw [hE9.len]; decide)
    exact ⟨b, f, h⟩
  have HC9 : Hid (Calls Tryz.prog 8 #[.slice (some ⟨b9, f9 + 1 * 10, none⟩) 1 1] w9 fun e w' => e = .returned (.bool false) ∧ Keeps no w9 w') := by
    have h := proper_any w9 _ 1 1 _ _ rfl (hE9.drop 1 (some ⟨b9, f9 + 1 * 10, none⟩) (fun _ b off h => by cases h; rfl) (fun h => by cases h)) (two_sz.drop 1)
    rw [two_not] at h
    exact h
  have HK9 : Hid (Keeps no w w9) := HK8.out.trans hk9
  clear hk9 hE9
  go_wp2_with fail
  refine HC9.out.mono ?_
  rintro e w10 ⟨rfl, hk10⟩
  have HK10 : Hid (Keeps no w w10) := HK9.out.trans hk10
  clear HC9 hk10
  go_wp2_with fail
  go_ret
  exact ⟨rfl, HK10.out⟩
end Go.Proofs.YtjkljljmjjnneaaGreatDoor
