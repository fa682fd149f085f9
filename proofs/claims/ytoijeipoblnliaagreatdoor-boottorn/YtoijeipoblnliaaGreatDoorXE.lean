import Derived.Test.YtoijeipoblnliaaGreatDoorXD
import Derived.Test.YtoijeipoblnliaaGreatDoorG3
/- known. -/
namespace Go.Proofs.YtoijeipoblnliaaGreatDoor
open Go.RowKit Go.Maps Go.Sort Orl Pk
set_option linter.unusedVariables false
set_option linter.unusedSimpArgs false

theorem IsL.keepsN {w w' : World} {q p : Nat} {n : Tx} {k : Nat} (h : IsL w q p n k) (hk : Keeps no w w') : IsL w' q p n k := h.keeps hk (fun h => h)
def vR1 (a b : Nat) : CV := ⟨1, 65536, some ⟨a, 0, none⟩, 1, 1, some ⟨b, 0, none⟩, 1, 1⟩
theorem r1_isC (w : World) : IsC ((w.alloc (.cells #[.string txA, .string txX] 80)).alloc (.cells #[.string txA] 9)) (vR1 w.heap.size (w.heap.size + 1)) r1 := by
  have hs : (w.alloc (.cells #[.string txA, .string txX] 80)).heap.size = w.heap.size + 1 := World.size_alloc ..
  have h2 := own_one (w.alloc (.cells #[.string txA, .string txX] 80)) txA
  rw [hs] at h2
  refine ⟨rfl, rfl, rfl, rfl, (own_oneP w txA txX).keepsN ((Keeps.refl no _).alloc _), h2, ⟨by decide, fun s hs => ?_, by decide, fun p hp => ?_, by decide, by decide, by decide⟩⟩
  · simp [r1] at hs; subst hs; decide
  · simp [r1] at hp; subst hp; exact ⟨by decide, by decide⟩

set_option maxRecDepth 10000 in
theorem known_any (w : World) (ht : Tabs w) : Calls Tryz.prog 9 #[] w fun e w' => e = .returned (.bool true) ∧ Keeps no w w' := by
  have HT : Hid (Tabs w) := ht
  clear ht
  go_enter Tryz.func9, Tryz.ntmps9
  go_wp2_with fail
  refine (dn_newB w).mono ?_
  rintro e w1 ⟨p, rfl, D1⟩
  obtain ⟨F, hF⟩ : ∃ F : Nat → Prop, F = (fun k => w.heap.size ≤ k ∧ k < w1.heap.size) := ⟨_, rfl⟩
  rw [← hF] at D1
  clear hF
  go_wp2_with fail
  refine (dn_boot D1.out HT.out sz_new (by decide) (boot_new 0)).mono ?_
  rintro e w2 ⟨q, l, rfl, HL2, HS2, D2, K2⟩
  go_wp2_with fail
  refine (dn_list D2.out on_new.tick (m := 0) rfl (er := 0) rfl).mono ?_
  rintro e w3 ⟨o3, c3, rfl, D3, K3⟩
  have HL3 : Hid (IsL w3 l p ⟨#[108, 111, 103, 46, 48]⟩ 0 ∧ w1.heap.size ≤ l ∧ ¬ F l) := ⟨by rw [← logN0]; exact HL2.out.1.keeps K3.out HL2.out.2.2, HL2.out.2⟩
  have hlg := log_any w3 (D3.out.tabs HT.out).pow 12 (by omega) (by omega)
  rw [logN12] at hlg
  clear HL2 HS2
  go_wp2_with (first | (go_at_call 29; refine (LogName_any w3 l p ⟨#[108, 111, 103, 46, 48]⟩ 0 HL3.out.1).mono ?_; rintro e w4 ⟨rfl, hw⟩; subst w4) | (go_at_call 25; refine (LogSize_any w3 l p ⟨#[108, 111, 103, 46, 48]⟩ 0 HL3.out.1).mono ?_; rintro e w4 ⟨rfl, hw⟩; subst w4) | (go_at_call 10; refine hlg.mono ?_; rintro e w4 ⟨rfl, hk4⟩))
  have K4 : Hid (Keeps no w3 w4) := hk4
  obtain ⟨W, hW⟩ : ∃ W, W = (w4.alloc (.cells #[.string txA, .string txX] 80)).alloc (.cells #[.string txA] 9) := ⟨_, rfl⟩
  have KW : Hid (Keeps no w3 W) := by rw [hW]; exact (K4.out.alloc _).alloc _
  have hC : Hid (IsC W (vR1 w4.heap.size (w4.heap.size + 1)) r1) := by rw [hW]; exact r1_isC w4
  have D4 : Hid (Dn w W p F Dk.new) := D3.out.beside KW.out
  have hap := dn_log (k' := 40) ⟨#[108, 111, 103, 46, 48]⟩ (vR1 w4.heap.size (w4.heap.size + 1)) D4.out HT.out.crc (HL3.out.1.keepsN KW.out) HL3.out.2.2 (Nat.le_trans D1.out.kept.size HL3.out.2.1) hC.out (s' := S1) (er := 0) (by rw [← logN0]; exact apd_S1) (by rw [if_pos rfl, enc_r1_len]) (by decide) (by omega) (fun _ f hf => by rw [on_new.tick] at hf; cases hf)
  have hap2 : Hid (Calls Tryz.prog 22 _ W _) := hap
  rw [hW] at hap2
  refine Calls.mono hap2.out ?_
  rintro e w5 ⟨rfl, D5, HL5, K5⟩
  rw [← hW] at D5 K5
  clear hap hap2 hW hk4
  have hlW : Hid (l < W.heap.size) := lt_of_block (HL3.out.1.keepsN KW.out).blk
  go_wp2_with fail
  refine (dn_boot D5.out HT.out sz_S1 (by decide) (boot_S1 3)).mono ?_
  rintro e w6 ⟨q2, l2, rfl, HL6, HS6, D6, K6⟩
  have hf5 : Hid (¬ grow F W w5 l) := grow_no HL3.out.2.2 hlW.out
  have HL7 : Hid (IsL w6 l p ⟨#[108, 111, 103, 46, 48]⟩ 40) := HL5.out.keeps K6.out hf5.out
  obtain ⟨N, HS7⟩ := HS6.out
  obtain ⟨T, hTi, hTo, hTB, hTP⟩ := HS7.2
  have hby := byID_some w6 q2 T _ N txA 65536 ⟨txX, [txA], -1⟩ hTi (redo_r1 3) hTo.v
  rw [enc_r1_len] at HL6
  clear hTi hTo hTB hTP HS7 HS6
  go_wp2_with fail
  refine hby.mono ?_
  rintro e w7 ⟨u, rfl, o7, n7, c7, rfl, hn7, ho7, hnw7, hk7⟩
  have K7 : Hid (Keeps no w6 w7) := hk7
  clear hby hk7 ho7 hnw7
  have hz1 := fun X (hX : Keeps no w7 X) => LogSize_any X l2 p (logN ((0 : Nat) : Int)) 40 (HL6.out.1.keepsN (K7.out.trans hX))
  have hz2 := fun X (hX : Keeps no w7 X) => LogSize_any X l p ⟨#[108, 111, 103, 46, 48]⟩ 40 (HL7.out.keepsN (K7.out.trans hX))
  have hx : (txX.toList == ([120] : List UInt8)) = true := by rw [Lib.toList_data]; rfl
  go_wp2_with fail
  refine (hz1 _ ((Keeps.refl no _).alloc _)).mono ?_
  rintro e w8 ⟨rfl, hw⟩
  subst w8
  go_wp2_with fail
  refine (hz2 _ ((Keeps.refl no _).alloc _)).mono ?_
  rintro e w8 ⟨rfl, hw⟩
  subst w8
  go_wp2_with fail
  refine (hz1 _ ((Keeps.refl no _).alloc _)).mono ?_
  rintro e w8 ⟨rfl, hw⟩
  subst w8
  go_wp2_with fail
  go_ret
  exact ⟨rfl, (D6.out.kept.trans K7.out).alloc _⟩
end Go.Proofs.YtoijeipoblnliaaGreatDoor
