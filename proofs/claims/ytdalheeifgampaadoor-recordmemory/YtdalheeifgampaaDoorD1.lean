/- The law's alive. -/
import Derived.Test.YtdalheeifgampaaDoorC8
namespace Go.Proofs.YtdalheeifgampaaDoor
open Go.RowKit Go.Sort Orl Pk
set_option linter.unusedVariables false
set_option linter.unusedSimpArgs false

def cm : Rec := ⟨2, 65538, [], []⟩
def e17 : List Nat := [0, 0, 0, 9, 39, 51, 55, 51, 2, 0, 0, 0, 0, 0, 1, 0, 2]
set_option maxRecDepth 20000 in
theorem cm_enc : enc cm = e17 := by decide
theorem cm_may : may cm = true := by decide
theorem cm_body : (body cm).length ≤ 1048576 := by decide
theorem cm_parse : parse e17 = (cm, 17, 0) := by
  have := parse_enc cm cm_may (by decide) cm_body (sum_body cm) []
  rw [List.append_nil, cm_enc] at this
  exact this
theorem cm_isC (w : World) : IsC w ⟨2, 65538, none, 0, 0, none, 0, 0⟩ cm := ⟨rfl, rfl, rfl, rfl, own_nil_sl _, own_nil_sl _, ⟨by simp [cm], fun s hs => (by cases hs), by simp [cm], fun s hs => (by cases hs), by simp [cm], by simp [cm], by simp [cm]⟩⟩

set_option maxRecDepth 10000 in
theorem alive_any (w : World) (ht : TabIn w) : Calls Tryd.prog 9 #[] w fun e w' => e = .returned (.bool true) ∧ Keeps no w w' := by
  have HI : Hid (IsC w ⟨2, 65538, none, 0, 0, none, 0, 0⟩ cm) := cm_isC w
  go_enter Tryd.func9, Tryd.ntmps9
  go_wp2_with fail
  refine (Build_any w 2 65538 none 0 0 none 0 0 cm HI.out ht).mono ?_
  rintro e w1 ⟨o, n, c, rfl, hn, hown, hnew, hk1⟩
  obtain ⟨h1, h2⟩ := encE_ok cm_may cm_body
  rw [h2, cm_enc] at hn hown
  rw [h1]
  obtain rfl : n = 17 := hn.out
  obtain ⟨g, rfl⟩ : ∃ g, o = some ⟨g, 0, none⟩ := by
    rcases hown.shape with ⟨_, _, e⟩ | ⟨g, _, e, _⟩
    · cases e
    · exact ⟨g, e⟩
  have hrow := hown.row (by decide) (by decide)
  have HSL : Hid (BSl w1 (some ⟨g, 0, none⟩) c e17) := ⟨hrow, hown.cap.1, fun h => by cases h⟩
  obtain ⟨_, _, hr⟩ := hrow
  rcases hr with e | ⟨b, off, e, hc⟩
  · cases e
  cases e
  have c3 : w1.cell? ⟨g, 3, none⟩ = some (.int .u8 9) := by have := hc 3 (by decide); rw [Nat.zero_add] at this; exact this
  have c8 : w1.cell? ⟨g, 8, none⟩ = some (.int .u8 2) := by have := hc 8 (by decide); rw [Nat.zero_add] at this; exact this
  have c16 : w1.cell? ⟨g, 16, none⟩ = some (.int .u8 2) := by have := hc 16 (by decide); rw [Nat.zero_add] at this; exact this
  have HK1 : Hid (Keeps no w w1) := hk1
  clear hc hown hnew hk1 h1 h2 hn HI
  go_wp2_with fail
  refine (Parse_any w1 _ 17 c e17 rfl (by omega) HSL.out (ht.keepsN HK1.out)).mono ?_
  rintro e w2 ⟨k, i, op, np, cp, ok, nk, ck, M, E, rfl, HP, hM, hE, hk2⟩
  have HPP := HP.out
  rw [cm_parse] at HPP
  obtain ⟨hG, rfl, rfl⟩ := HPP
  obtain rfl : k = 2 := hG.k
  obtain rfl : i = 65538 := hG.i
  clear hG HP hM hE
  go_wp2_with fail
  go_ret
  exact ⟨rfl, (HK1.out.trans hk2).alloc _⟩
end Go.Proofs.YtdalheeifgampaaDoor
