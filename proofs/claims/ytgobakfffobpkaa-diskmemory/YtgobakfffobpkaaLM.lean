/- DiskMemory's walk. -/
import Derived.Test.YtgobakfffobpkaaLM0
namespace Go.Proofs.Ytgobakfffobpkaa
open Go.RowKit Dk
set_option linter.unusedVariables false
set_option linter.unusedSimpArgs false

set_option maxRecDepth 100000 in
set_option maxHeartbeats 0 in
theorem diskMemory_any (w : World) (oa : Option Addr) (na ca : Nat) (ob : Option Addr) (nb cb : Nat) (xs ys : List UInt8) (hna : na = xs.length) (hnb : nb = ys.length) (ha : Sl BE w oa ca xs) (hb : Sl BE w ob cb ys) (hx : xs.length ≤ 140737488351232) (hy : ys.length ≤ 140737488351232) :
    Calls Try.prog 4 #[.slice oa na ca, .slice ob nb cb] w fun e w' => e = .returned (.bool true) ∧ Keeps no w w' := by
  have HNA : Hid (na = xs.length) := hna
  have HNB : Hid (nb = ys.length) := hnb
  have HA : Hid (Sl BE w oa ca xs) := ha
  have HB : Hid (Sl BE w ob cb ys) := hb
  have HX : Hid (xs.length ≤ 140737488351232) := hx
  have HY : Hid (ys.length ≤ 140737488351232) := hy
  clear hna hnb ha hb hx hy
  go_enter Try.func4, Try.ntmps4
  go_wp2_with fail
  refine (alive_any w).mono ?_
  rintro e w1 ⟨rfl, hk1⟩
  go_wp2_with fail
  refine (new_any w1).mono ?_
  rintro e w2 ⟨p, rfl, h2, hk2⟩
  have d2 : Hid (Dn w w2 p _ Dk.new) := ⟨h2, fun k hk => Nat.le_trans hk1.size hk.1, hk1.trans hk2⟩
  clear h2 hk2 hk1
  go_wp2_with fail
  refine (own_any w2 oa na ca xs HNA.out (HA.out.keepsN d2.out.kept) (by have := HX.out; omega)).mono ?_
  rintro e w3 ⟨v, rfl, o1, n1, c1, rfl, hn1, ho1, hw1, hk3⟩
  go_wp2_with fail
  refine (dn_append tA o1 n1 c1 xs (d2.out.beside hk3) (mA_app xs) tA_max hn1.out ho1.sl (fun k hk h => by have := d2.out.is.lt _ h; have := hw1 k hk; omega) (by have := HX.out; omega) (fun f hf => by cases hf)).mono ?_
  rintro e w4 ⟨rfl, h4, hk4⟩
  have d4 : Hid (Dn w w4 p _ _) := h4
  clear h4 hk4 d2 ho1 hw1 hk3
  go_wp2_with fail
  refine (own_any w4 ob nb cb ys HNB.out (HB.out.keepsN d4.out.kept) (by have := HY.out; omega)).mono ?_
  rintro e w5 ⟨v, rfl, o2, n2, c2, rfl, hn2, ho2, hw2, hk5⟩
  go_wp2_with fail
  refine (dn_append tB o2 n2 c2 ys (d4.out.beside hk5) (mS_app xs ys) tB_max hn2.out ho2.sl (fun k hk h => by have := d4.out.is.lt _ h; have := hw2 k hk; omega) (by have := HY.out; omega) (fun f hf => by rw [mA_tick] at hf; cases hf)).mono ?_
  rintro e w6 ⟨rfl, h6, hk6⟩
  obtain ⟨F, d6⟩ : ∃ F, Hid (Dn w w6 p F (mS xs ys)) := ⟨_, h6⟩
  have HW6 : Hid (w.heap.size ≤ w6.heap.size) := h6.kept.size
  clear h6 hk6 d4 ho2 hw2 hk5
  go_wp2_with fail
  refine (dn_read (er := 0) (b := xs) tA d6.out (mS_tick xs ys) (mS_a xs ys) rfl tA_max (by have := HX.out; omega)).mono ?_
  rintro e w7 ⟨or1, cr1, nr1, rfl, hnr1, hor1, hwr1, h7, hk7⟩
  have d7 : Hid (Dn w w7 p F (mS xs ys)) := h7
  have Hr1 : Hid (Hd BE w7 F w6.heap.size w7.heap.size or1 cr1 xs) := hd_new hor1 hwr1 d6.out.is.lt
  have S7 : Hid (w6.heap.size ≤ w7.heap.size) := hk7.size
  clear h7 hk7 hor1 hwr1 d6
  go_wp2_with fail
  refine (dn_read (er := 0) (b := xs) tA d7.out (mS_tick xs ys) (mS_a xs ys) rfl tA_max (by have := HX.out; omega)).mono ?_
  rintro e w8 ⟨or2, cr2, nr2, rfl, hnr2, hor2, hwr2, h8, hk8⟩
  have d8 : Hid (Dn w w8 p F (mS xs ys)) := h8
  have Jr1 : Hid (Hd BE w8 F w6.heap.size w7.heap.size or1 cr1 xs) := Hr1.out.step hk8
  clear Hr1
  rename Hid (Hd BE w8 F w6.heap.size w7.heap.size or1 cr1 xs) => Hr1
  have Hr2 : Hid (Hd BE w8 F w7.heap.size w8.heap.size or2 cr2 xs) := hd_new hor2 hwr2 d7.out.is.lt
  have S8 : Hid (w7.heap.size ≤ w8.heap.size) := hk8.size
  clear h8 hk8 hor2 hwr2 d7
  go_wp2_with fail
  refine (dn_read (er := 0) (b := ys) tB d8.out (mS_tick xs ys) (mS_b xs ys) rfl tB_max (by have := HY.out; omega)).mono ?_
  rintro e w9 ⟨or3, cr3, nr3, rfl, hnr3, hor3, hwr3, h9, hk9⟩
  have d9 : Hid (Dn w w9 p F (mS xs ys)) := h9
  have Jr1 : Hid (Hd BE w9 F w6.heap.size w7.heap.size or1 cr1 xs) := Hr1.out.step hk9
  clear Hr1
  rename Hid (Hd BE w9 F w6.heap.size w7.heap.size or1 cr1 xs) => Hr1
  have Jr2 : Hid (Hd BE w9 F w7.heap.size w8.heap.size or2 cr2 xs) := Hr2.out.step hk9
  clear Hr2
  rename Hid (Hd BE w9 F w7.heap.size w8.heap.size or2 cr2 xs) => Hr2
  have Hr3 : Hid (Hd BE w9 F w8.heap.size w9.heap.size or3 cr3 ys) := hd_new hor3 hwr3 d8.out.is.lt
  have S9 : Hid (w8.heap.size ≤ w9.heap.size) := hk9.size
  clear h9 hk9 hor3 hwr3 d8
  go_wp2_with fail
  refine (dn_list (l := [[97], [98]]) d9.out (mS_tick xs ys) (mS_l xs ys) rfl).mono ?_
  rintro e w10 ⟨ol1, cl1, nl1, rfl, hnl1, hol1, hwl1, h10, hk10⟩
  have d10 : Hid (Dn w w10 p F (mS xs ys)) := h10
  have Jr1 : Hid (Hd BE w10 F w6.heap.size w7.heap.size or1 cr1 xs) := Hr1.out.step hk10
  clear Hr1
  rename Hid (Hd BE w10 F w6.heap.size w7.heap.size or1 cr1 xs) => Hr1
  have Jr2 : Hid (Hd BE w10 F w7.heap.size w8.heap.size or2 cr2 xs) := Hr2.out.step hk10
  clear Hr2
  rename Hid (Hd BE w10 F w7.heap.size w8.heap.size or2 cr2 xs) => Hr2
  have Jr3 : Hid (Hd BE w10 F w8.heap.size w9.heap.size or3 cr3 ys) := Hr3.out.step hk10
  clear Hr3
  rename Hid (Hd BE w10 F w8.heap.size w9.heap.size or3 cr3 ys) => Hr3
  have Hl1 : Hid (Hd TE w10 F w9.heap.size w10.heap.size ol1 cl1 [tA, tB]) := hd_new hol1 hwl1 d9.out.is.lt
  have S10 : Hid (w9.heap.size ≤ w10.heap.size) := hk10.size
  obtain rfl : nl1 = 2 := hnl1.out
  clear h10 hk10 hol1 hwl1 d9 hnl1
  go_wp2_with fail
  refine (dn_list (l := [[97], [98]]) d10.out (mS_tick xs ys) (mS_l xs ys) rfl).mono ?_
  rintro e w11 ⟨ol2, cl2, nl2, rfl, hnl2, hol2, hwl2, h11, hk11⟩
  have d11 : Hid (Dn w w11 p F (mS xs ys)) := h11
  have Jr1 : Hid (Hd BE w11 F w6.heap.size w7.heap.size or1 cr1 xs) := Hr1.out.step hk11
  clear Hr1
  rename Hid (Hd BE w11 F w6.heap.size w7.heap.size or1 cr1 xs) => Hr1
  have Jr2 : Hid (Hd BE w11 F w7.heap.size w8.heap.size or2 cr2 xs) := Hr2.out.step hk11
  clear Hr2
  rename Hid (Hd BE w11 F w7.heap.size w8.heap.size or2 cr2 xs) => Hr2
  have Jr3 : Hid (Hd BE w11 F w8.heap.size w9.heap.size or3 cr3 ys) := Hr3.out.step hk11
  clear Hr3
  rename Hid (Hd BE w11 F w8.heap.size w9.heap.size or3 cr3 ys) => Hr3
  have Jl1 : Hid (Hd TE w11 F w9.heap.size w10.heap.size ol1 cl1 [tA, tB]) := Hl1.out.step hk11
  clear Hl1
  rename Hid (Hd TE w11 F w9.heap.size w10.heap.size ol1 cl1 [tA, tB]) => Hl1
  have Hl2 : Hid (Hd TE w11 F w10.heap.size w11.heap.size ol2 cl2 [tA, tB]) := hd_new hol2 hwl2 d10.out.is.lt
  have S11 : Hid (w10.heap.size ≤ w11.heap.size) := hk11.size
  obtain rfl : nl2 = 2 := hnl2.out
  clear h11 hk11 hol2 hwl2 d10 hnl2
  go_wp2_with fail
  refine (dn_list (l := [[97], [98]]) d11.out (mS_tick xs ys) (mS_l xs ys) rfl).mono ?_
  rintro e w12 ⟨ol3, cl3, nl3, rfl, hnl3, hol3, hwl3, h12, hk12⟩
  have d12 : Hid (Dn w w12 p F (mS xs ys)) := h12
  have Jr1 : Hid (Hd BE w12 F w6.heap.size w7.heap.size or1 cr1 xs) := Hr1.out.step hk12
  clear Hr1
  rename Hid (Hd BE w12 F w6.heap.size w7.heap.size or1 cr1 xs) => Hr1
  have Jr2 : Hid (Hd BE w12 F w7.heap.size w8.heap.size or2 cr2 xs) := Hr2.out.step hk12
  clear Hr2
  rename Hid (Hd BE w12 F w7.heap.size w8.heap.size or2 cr2 xs) => Hr2
  have Jr3 : Hid (Hd BE w12 F w8.heap.size w9.heap.size or3 cr3 ys) := Hr3.out.step hk12
  clear Hr3
  rename Hid (Hd BE w12 F w8.heap.size w9.heap.size or3 cr3 ys) => Hr3
  have Jl1 : Hid (Hd TE w12 F w9.heap.size w10.heap.size ol1 cl1 [tA, tB]) := Hl1.out.step hk12
  clear Hl1
  rename Hid (Hd TE w12 F w9.heap.size w10.heap.size ol1 cl1 [tA, tB]) => Hl1
  have Jl2 : Hid (Hd TE w12 F w10.heap.size w11.heap.size ol2 cl2 [tA, tB]) := Hl2.out.step hk12
  clear Hl2
  rename Hid (Hd TE w12 F w10.heap.size w11.heap.size ol2 cl2 [tA, tB]) => Hl2
  have Hl3 : Hid (Hd TE w12 F w11.heap.size w12.heap.size ol3 cl3 [tA, tB]) := hd_new hol3 hwl3 d11.out.is.lt
  have S12 : Hid (w11.heap.size ≤ w12.heap.size) := hk12.size
  obtain rfl : nl3 = 2 := hnl3.out
  clear h12 hk12 hol3 hwl3 d11 hnl3
  go_wp2_with fail
  refine (dn_read (er := 0) (b := ys) tB d12.out (mS_tick xs ys) (mS_b xs ys) rfl tB_max (by have := HY.out; omega)).mono ?_
  rintro e w13 ⟨or4, cr4, nr4, rfl, hnr4, hor4, hwr4, h13, hk13⟩
  have d13 : Hid (Dn w w13 p F (mS xs ys)) := h13
  have Jr1 : Hid (Hd BE w13 F w6.heap.size w7.heap.size or1 cr1 xs) := Hr1.out.step hk13
  clear Hr1
  rename Hid (Hd BE w13 F w6.heap.size w7.heap.size or1 cr1 xs) => Hr1
  have Jr2 : Hid (Hd BE w13 F w7.heap.size w8.heap.size or2 cr2 xs) := Hr2.out.step hk13
  clear Hr2
  rename Hid (Hd BE w13 F w7.heap.size w8.heap.size or2 cr2 xs) => Hr2
  have Jr3 : Hid (Hd BE w13 F w8.heap.size w9.heap.size or3 cr3 ys) := Hr3.out.step hk13
  clear Hr3
  rename Hid (Hd BE w13 F w8.heap.size w9.heap.size or3 cr3 ys) => Hr3
  have Jl1 : Hid (Hd TE w13 F w9.heap.size w10.heap.size ol1 cl1 [tA, tB]) := Hl1.out.step hk13
  clear Hl1
  rename Hid (Hd TE w13 F w9.heap.size w10.heap.size ol1 cl1 [tA, tB]) => Hl1
  have Jl2 : Hid (Hd TE w13 F w10.heap.size w11.heap.size ol2 cl2 [tA, tB]) := Hl2.out.step hk13
  clear Hl2
  rename Hid (Hd TE w13 F w10.heap.size w11.heap.size ol2 cl2 [tA, tB]) => Hl2
  have Jl3 : Hid (Hd TE w13 F w11.heap.size w12.heap.size ol3 cl3 [tA, tB]) := Hl3.out.step hk13
  clear Hl3
  rename Hid (Hd TE w13 F w11.heap.size w12.heap.size ol3 cl3 [tA, tB]) => Hl3
  have Hr4 : Hid (Hd BE w13 F w12.heap.size w13.heap.size or4 cr4 ys) := hd_new hor4 hwr4 d12.out.is.lt
  have S13 : Hid (w12.heap.size ≤ w13.heap.size) := hk13.size
  clear h13 hk13 hor4 hwr4 d12
  go_wp2_with fail
  refine (dn_read (er := 0) (b := xs) tA d13.out (mS_tick xs ys) (mS_a xs ys) rfl tA_max (by have := HX.out; omega)).mono ?_
  rintro e w14 ⟨or5, cr5, nr5, rfl, hnr5, hor5, hwr5, h14, hk14⟩
  have d14 : Hid (Dn w w14 p F (mS xs ys)) := h14
  have Jr1 : Hid (Hd BE w14 F w6.heap.size w7.heap.size or1 cr1 xs) := Hr1.out.step hk14
  clear Hr1
  rename Hid (Hd BE w14 F w6.heap.size w7.heap.size or1 cr1 xs) => Hr1
  have Jr2 : Hid (Hd BE w14 F w7.heap.size w8.heap.size or2 cr2 xs) := Hr2.out.step hk14
  clear Hr2
  rename Hid (Hd BE w14 F w7.heap.size w8.heap.size or2 cr2 xs) => Hr2
  have Jr3 : Hid (Hd BE w14 F w8.heap.size w9.heap.size or3 cr3 ys) := Hr3.out.step hk14
  clear Hr3
  rename Hid (Hd BE w14 F w8.heap.size w9.heap.size or3 cr3 ys) => Hr3
  have Jl1 : Hid (Hd TE w14 F w9.heap.size w10.heap.size ol1 cl1 [tA, tB]) := Hl1.out.step hk14
  clear Hl1
  rename Hid (Hd TE w14 F w9.heap.size w10.heap.size ol1 cl1 [tA, tB]) => Hl1
  have Jl2 : Hid (Hd TE w14 F w10.heap.size w11.heap.size ol2 cl2 [tA, tB]) := Hl2.out.step hk14
  clear Hl2
  rename Hid (Hd TE w14 F w10.heap.size w11.heap.size ol2 cl2 [tA, tB]) => Hl2
  have Jl3 : Hid (Hd TE w14 F w11.heap.size w12.heap.size ol3 cl3 [tA, tB]) := Hl3.out.step hk14
  clear Hl3
  rename Hid (Hd TE w14 F w11.heap.size w12.heap.size ol3 cl3 [tA, tB]) => Hl3
  have Jr4 : Hid (Hd BE w14 F w12.heap.size w13.heap.size or4 cr4 ys) := Hr4.out.step hk14
  clear Hr4
  rename Hid (Hd BE w14 F w12.heap.size w13.heap.size or4 cr4 ys) => Hr4
  have Hr5 : Hid (Hd BE w14 F w13.heap.size w14.heap.size or5 cr5 xs) := hd_new hor5 hwr5 d13.out.is.lt
  have S14 : Hid (w13.heap.size ≤ w14.heap.size) := hk14.size
  clear h14 hk14 hor5 hwr5 d13
  go_wp2_with fail
  refine (same_yes w14 or1 nr1 cr1 oa na ca xs hnr1.out HNA.out Hr1.out.own.row (HA.out.keepsN d14.out.kept).row).mono ?_
  rintro e w' ⟨rfl, hw⟩
  subst w'
  go_wp2_with fail
  refine (same_yes w14 or2 nr2 cr2 oa na ca xs hnr2.out HNA.out Hr2.out.own.row (HA.out.keepsN d14.out.kept).row).mono ?_
  rintro e w' ⟨rfl, hw⟩
  subst w'
  go_wp2_with fail
  refine (same_yes w14 or3 nr3 cr3 ob nb cb ys hnr3.out HNB.out Hr3.out.own.row (HB.out.keepsN d14.out.kept).row).mono ?_
  rintro e w' ⟨rfl, hw⟩
  subst w'
  go_wp2_with fail
  refine (same_yes w14 or4 nr4 cr4 ob nb cb ys hnr4.out HNB.out Hr4.out.own.row (HB.out.keepsN d14.out.kept).row).mono ?_
  rintro e w' ⟨rfl, hw⟩
  subst w'
  go_wp2_with fail
  refine (same_yes w14 or5 nr5 cr5 oa na ca xs hnr5.out HNA.out Hr5.out.own.row (HA.out.keepsN d14.out.kept).row).mono ?_
  rintro e w' ⟨rfl, hw⟩
  subst w'
  go_wp2_with fail
  refine (sameS_any w14 ol1 2 cl1 ol2 2 cl2 [tA, tB] [tA, tB] rfl rfl (by decide) (by decide) Hl1.out.own.sl Hl2.out.own.sl).mono ?_
  rintro e w15 ⟨⟨B, rfl, hB⟩, hk15⟩
  obtain rfl : B = true := hB.out.2 rfl
  clear hB
  go_wp2_with fail
  refine (sameS_any w15 ol1 2 cl1 ol3 2 cl3 [tA, tB] [tA, tB] rfl rfl (by decide) (by decide) (Hl1.out.own.sl.keepsN hk15) (Hl3.out.own.sl.keepsN hk15)).mono ?_
  rintro e w16 ⟨⟨B, rfl, hB⟩, hk16⟩
  obtain rfl : B = true := hB.out.2 rfl
  have K16 : Hid (Keeps no w14 w16) := hk15.trans hk16
  have d16 : Hid (Dn w w16 p F (mS xs ys)) := d14.out.beside K16.out
  clear hB hk15 hk16 d14
  have Jr1 : Hid (Hd BE w16 F w6.heap.size w7.heap.size or1 cr1 xs) := Hr1.out.sh K16.out (fun _ _ => id)
  clear Hr1
  have Jr2 : Hid (Hd BE w16 F w7.heap.size w8.heap.size or2 cr2 xs) := Hr2.out.sh K16.out (fun _ _ => id)
  clear Hr2
  have Jr3 : Hid (Hd BE w16 F w8.heap.size w9.heap.size or3 cr3 ys) := Hr3.out.sh K16.out (fun _ _ => id)
  clear Hr3
  have Jl1 : Hid (Hd TE w16 F w9.heap.size w10.heap.size ol1 cl1 [tA, tB]) := Hl1.out.sh K16.out (fun _ _ => id)
  clear Hl1
  have Jl2 : Hid (Hd TE w16 F w10.heap.size w11.heap.size ol2 cl2 [tA, tB]) := Hl2.out.sh K16.out (fun _ _ => id)
  clear Hl2
  have Jl3 : Hid (Hd TE w16 F w11.heap.size w12.heap.size ol3 cl3 [tA, tB]) := Hl3.out.sh K16.out (fun _ _ => id)
  clear Hl3
  have Jr4 : Hid (Hd BE w16 F w12.heap.size w13.heap.size or4 cr4 ys) := Hr4.out.sh K16.out (fun _ _ => id)
  clear Hr4
  have Jr5 : Hid (Hd BE w16 F w13.heap.size w14.heap.size or5 cr5 xs) := Hr5.out.sh K16.out (fun _ _ => id)
  clear Hr5
  obtain ⟨g1, rfl, hc1⟩ := own_t Jl1.out.own (by decide)
  obtain ⟨g2, rfl, _⟩ := own_t Jl2.out.own (by decide)
  obtain ⟨g3, rfl, _⟩ := own_t Jl3.out.own (by decide)
  have q0 : w16.cell? ⟨g1, 0, none⟩ = some (.string ⟨#[97]⟩) := (hc1 0 (by decide)).1
  have q1 : w16.cell? ⟨g1, 1, none⟩ = some (.string ⟨#[98]⟩) := (hc1 1 (by decide)).1
  have HMK : Hid (Mks (w16.alloc (.cells #[.slice or1 nr1 cr1, .slice or2 nr2 cr2, .slice or3 nr3 cr3, .slice or4 nr4 cr4, .slice or5 nr5 cr5] 22)) (some ⟨w16.heap.size, 0, none⟩) [⟨or1, cr1, xs⟩, ⟨or2, cr2, xs⟩, ⟨or3, cr3, ys⟩, ⟨or4, cr4, ys⟩, ⟨or5, cr5, xs⟩]) := (show _ from by
    have s7 := S7.out; have s8 := S8.out; have s9 := S9.out; have s10 := S10.out; have s11 := S11.out; have s12 := S12.out; have s13 := S13.out; have s14 := S14.out
    exact mks5 (P := ⟨or1, cr1, xs⟩) (Q := ⟨or2, cr2, xs⟩) (R := ⟨or3, cr3, ys⟩) (S := ⟨or4, cr4, ys⟩) (T := ⟨or5, cr5, xs⟩) Jr1.out Jr2.out Jr3.out Jr4.out Jr5.out (Nat.le_refl _) (Nat.le_refl _) (by omega) (Nat.le_refl _) (by omega) (by omega) (by omega) _ (by simp [XE, LS.enc, El.cells, hnr1.out, hnr2.out, hnr3.out, hnr4.out, hnr5.out]) HX.out HX.out HY.out HY.out HX.out)
  have HBL : Hid (∀ k, Blk [⟨or1, cr1, xs⟩, ⟨or2, cr2, xs⟩, ⟨or3, cr3, ys⟩, ⟨or4, cr4, ys⟩, ⟨or5, cr5, xs⟩] k → ¬ F k ∧ ((w6.heap.size ≤ k ∧ k < w9.heap.size) ∨ (w12.heap.size ≤ k ∧ k < w14.heap.size))) := (show _ from by
    have s7 := S7.out; have s8 := S8.out; have s9 := S9.out; have s10 := S10.out; have s11 := S11.out; have s12 := S12.out; have s13 := S13.out; have s14 := S14.out
    exact blk5 (P := ⟨or1, cr1, xs⟩) (Q := ⟨or2, cr2, xs⟩) (R := ⟨or3, cr3, ys⟩) (S := ⟨or4, cr4, ys⟩) (T := ⟨or5, cr5, xs⟩) (fun k hk => ⟨Jr1.out.nf k hk, by have := Jr1.out.iv k hk; omega⟩) (fun k hk => ⟨Jr2.out.nf k hk, by have := Jr2.out.iv k hk; omega⟩) (fun k hk => ⟨Jr3.out.nf k hk, by have := Jr3.out.iv k hk; omega⟩) (fun k hk => ⟨Jr4.out.nf k hk, by have := Jr4.out.iv k hk; omega⟩) (fun k hk => ⟨Jr5.out.nf k hk, by have := Jr5.out.iv k hk; omega⟩))
  clear hc1
  go_wp2_with fail
  refine (marks_any _ _ _ 5 _ rfl HMK.out).mono ?_
  rintro e w17 ⟨rfl, hk17⟩
  have K17 : Hid (Keeps (Blk [⟨or1, cr1, xs⟩, ⟨or2, cr2, xs⟩, ⟨or3, cr3, ys⟩, ⟨or4, cr4, ys⟩, ⟨or5, cr5, xs⟩]) w16 w17) := (keeps_alloc w16 _).of_no.trans hk17
  have HLO : Hid (w.heap.size ≤ w6.heap.size) := HW6.out
  have T17 : Hid (Three w w17 p F (mS xs ys) w9.heap.size w10.heap.size w11.heap.size w12.heap.size g1 cl1 g2 cl2 g3 cl3 [tA, tB] [tA, tB] [tA, tB]) := (show _ from by
    have s7 := S7.out; have s8 := S8.out; have s9 := S9.out; have s10 := S10.out; have s11 := S11.out; have s12 := S12.out; have s13 := S13.out; have s14 := S14.out
    have h6 := HLO.out
    exact ⟨d16.out.other K17.out (fun k h1 h2 => (HBL.out k h2).1 h1) (fun k hk => by have := (HBL.out k hk).2; omega), Jl1.out.sh K17.out (fun k h1 h2 => by have := (HBL.out k h2).2; have := Jl1.out.iv k h1; omega), Jl2.out.sh K17.out (fun k h1 h2 => by have := (HBL.out k h2).2; have := Jl2.out.iv k h1; omega), Jl3.out.sh K17.out (fun k h1 h2 => by have := (HBL.out k h2).2; have := Jl3.out.iv k h1; omega)⟩)
  have HL9 : Hid (w.heap.size ≤ w9.heap.size ∧ w9.heap.size ≤ w10.heap.size ∧ w10.heap.size ≤ w11.heap.size ∧ w11.heap.size ≤ w12.heap.size ∧ w12.heap.size ≤ w17.heap.size) := (show _ from by
    have s7 := S7.out; have s8 := S8.out; have s9 := S9.out; have s10 := S10.out; have s11 := S11.out; have s12 := S12.out; have s13 := S13.out; have s14 := S14.out
    have h6 := HLO.out
    have h7 := K16.out.size
    have h8 := K17.out.size
    exact ⟨by omega, by omega, by omega, by omega, by omega⟩)
  clear hk17 HMK HBL K17 K16 d16 Jr1 Jr2 Jr3 Jr4 Jr5 Jl1 Jl2 Jl3 q0 q1 hnr1 hnr2 hnr3 hnr4 hnr5 S7 S8 S9 S10 S11 S12 S13 S14 HLO HW6
  go_wp2_with fail
  go_loopw [22] (fun i wr => ∃ k : Nat, k ≤ 2 ∧ i = .int .i64 k ∧ Hid (Three w wr p F (mS xs ys) w9.heap.size w10.heap.size w11.heap.size w12.heap.size g1 cl1 g2 cl2 g3 cl3 (over k (tx 108)) (over k (tx 109)) (over k (tx 110)) ∧ w17.heap.size ≤ wr.heap.size)) (fun i _ => 2 - (intOf i).toNat)
  case atStart => exact ⟨0, by omega, rfl, ⟨T17.out, Nat.le_refl _⟩⟩
  case round =>
    obtain ⟨k, hk, rfl, HT⟩ := hrel
    have HG : Hid (w9.heap.size ≤ g1 ∧ g1 < w10.heap.size ∧ w10.heap.size ≤ g2 ∧ g2 < w11.heap.size ∧ w11.heap.size ≤ g3 ∧ g3 < w12.heap.size) := ⟨HT.out.1.a.at.1, HT.out.1.a.at.2.1, HT.out.1.b.at.1, HT.out.1.b.at.2.1, HT.out.1.c.at.1, HT.out.1.c.at.2.1⟩
    by_cases hlt : k < 2
    · have e1 := over_len k (tx 108) hk
      have e2 := over_len k (tx 109) hk
      have e3 := over_len k (tx 110) hk
      obtain ⟨_, e, hc1⟩ := own_t HT.out.1.a.own (by omega)
      cases e
      obtain ⟨_, e, hc2⟩ := own_t HT.out.1.b.own (by omega)
      cases e
      obtain ⟨_, e, hc3⟩ := own_t HT.out.1.c.own (by omega)
      cases e
      obtain ⟨a1, f1⟩ := hc1 k (by omega)
      obtain ⟨a2, f2⟩ := hc2 k (by omega)
      obtain ⟨a3, f3⟩ := hc3 k (by omega)
      have n21 : ¬ g2 = g1 := by have := HG.out; omega
      have n12 : ¬ g1 = g2 := by have := HG.out; omega
      have n31 : ¬ g3 = g1 := by have := HG.out; omega
      have n13 : ¬ g1 = g3 := by have := HG.out; omega
      have n32 : ¬ g3 = g2 := by have := HG.out; omega
      have n23 : ¬ g2 = g3 := by have := HG.out; omega
      have HNX : Hid (Three w (((wr.setCell ⟨g1, k, none⟩ (.string ⟨#[108]⟩)).setCell ⟨g2, k, none⟩ (.string ⟨#[109]⟩)).setCell ⟨g3, k, none⟩ (.string ⟨#[110]⟩)) p F (mS xs ys) w9.heap.size w10.heap.size w11.heap.size w12.heap.size g1 cl1 g2 cl2 g3 cl3 (over (k + 1) (tx 108)) (over (k + 1) (tx 109)) (over (k + 1) (tx 110))) := (show _ from by
        have := HT.out.1.next HL9.out.1 k (by omega) (by omega) (by omega) (tx 108) (tx 109) (tx 110)
        rw [over_set k _ hlt, over_set k _ hlt, over_set k _ hlt] at this
        exact this)
      clear e1 e2 e3 hc1 hc2 hc3
      go_wp2_with fail
      go_roundw
      case rel => exact ⟨k + 1, by omega, by go_num, ⟨HNX.out, by have := HT.out.2; simpa using this⟩⟩
      case measure => simp [intOf]; omega
    · have hk2 : k = 2 := by omega
      subst hk2
      rename World => w18
      have T18 : Hid (Three w w18 p F (mS xs ys) w9.heap.size w10.heap.size w11.heap.size w12.heap.size g1 cl1 g2 cl2 g3 cl3 [tx 108, tx 108] [tx 109, tx 109] [tx 110, tx 110]) := HT.out.1
      have HS18 : Hid (w12.heap.size ≤ w18.heap.size) := (show w12.heap.size ≤ w18.heap.size by have := HT.out.2; have := HL9.out; omega)
      clear HT hlt hk T17
      go_wp2_with (at_builtin; first | (refine wpList_app okT rfl _ _ rfl (some ⟨g1, 0, none⟩) 2 cl1 [tx 108, tx 108] rfl rfl (T18.out.a.own.keepsN (keeps_alloc w18 (.cells #[.string ⟨#[49]⟩, .string ⟨#[50]⟩, .string ⟨#[51]⟩] 9))) (some ⟨w18.heap.size, 0, none⟩) 3 3 [tx 49, tx 50, tx 51] rfl rfl (fun e => by cases e) (lit_rows w18 [tx 49, tx 50, tx 51] #[.string ⟨#[49]⟩, .string ⟨#[50]⟩, .string ⟨#[51]⟩] 9 _ rfl) (by decide) (by decide) ?_; intro o20 c20 w20 ho20 hap20; have D20 := app_one' T18.out.d HL9.out.1 T18.out.a (keeps_alloc w18 (.cells #[.string ⟨#[49]⟩, .string ⟨#[50]⟩, .string ⟨#[51]⟩] 9)) ho20 hap20; have B20 := T18.out.b.sh' D20.out.2.2.1 (not_in (by have := HG.out; omega)); have C20 := T18.out.c.sh' D20.out.2.2.1 (not_in (by have := HG.out; omega))) | (refine wpList_app okT rfl _ _ rfl (some ⟨g2, 0, none⟩) 2 cl2 [tx 109, tx 109] rfl rfl (B20.out.own.keepsN (keeps_alloc w20 (.cells #[.string ⟨#[52]⟩, .string ⟨#[53]⟩, .string ⟨#[54]⟩] 9))) (some ⟨w20.heap.size, 0, none⟩) 3 3 [tx 52, tx 53, tx 54] rfl rfl (fun e => by cases e) (lit_rows w20 [tx 52, tx 53, tx 54] #[.string ⟨#[52]⟩, .string ⟨#[53]⟩, .string ⟨#[54]⟩] 9 _ rfl) (by decide) (by decide) ?_; intro o21 c21 w21 ho21 hap21; have D21 := app_one' D20.out.1 (Nat.le_trans HL9.out.1 HL9.out.2.1) B20.out (keeps_alloc w20 (.cells #[.string ⟨#[52]⟩, .string ⟨#[53]⟩, .string ⟨#[54]⟩] 9)) ho21 hap21; have C21 := C20.out.sh' D21.out.2.2.1 (not_in (by have := HG.out; omega))) | (refine wpList_app okT rfl _ _ rfl (some ⟨g3, 0, none⟩) 2 cl3 [tx 110, tx 110] rfl rfl (C21.out.own.keepsN (keeps_alloc w21 (.cells #[.string ⟨#[55]⟩, .string ⟨#[56]⟩, .string ⟨#[57]⟩] 9))) (some ⟨w21.heap.size, 0, none⟩) 3 3 [tx 55, tx 56, tx 57] rfl rfl (fun e => by cases e) (lit_rows w21 [tx 55, tx 56, tx 57] #[.string ⟨#[55]⟩, .string ⟨#[56]⟩, .string ⟨#[57]⟩] 9 _ rfl) (by decide) (by decide) ?_; intro o22 c22 w22 ho22 hap22; have D22 := app_one' D21.out.1 (Nat.le_trans HL9.out.1 (Nat.le_trans HL9.out.2.1 HL9.out.2.2.1)) C21.out (keeps_alloc w21 (.cells #[.string ⟨#[55]⟩, .string ⟨#[56]⟩, .string ⟨#[57]⟩] 9)) ho22 hap22))
      have HC : Hid (Row TE w22 (some ⟨g1, 0, none⟩) [tx 108, tx 108] ∧ Row TE w22 (some ⟨g2, 0, none⟩) [tx 109, tx 109] ∧ Row TE w22 (some ⟨g3, 0, none⟩) [tx 110, tx 110]) := ⟨(D20.out.2.1.keeps D21.out.2.2.1 (not_in (by have := HG.out; omega))).keeps D22.out.2.2.1 (not_in (by have := HG.out; omega)), D21.out.2.1.keeps D22.out.2.2.1 (not_in (by have := HG.out; omega)), D22.out.2.1⟩
      have HW : Hid (w18.heap.size ≤ w20.heap.size ∧ w20.heap.size ≤ w21.heap.size) := ⟨D20.out.2.2.1.size, D21.out.2.2.1.size⟩
      have hm20 : Own TE w22 o20 c20 ([tx 108, tx 108] ++ [tx 49, tx 50, tx 51]) := (ho20.keeps D21.out.2.2.1 (fun k h1 h2 => by have := D20.out.2.2.2 k h1; have := in_some h2; have := HG.out; have := HS18.out; omega)).keeps D22.out.2.2.1 (fun k h1 h2 => by have := D20.out.2.2.2 k h1; have := in_some h2; have := HG.out; have := HS18.out; omega)
      have hm21 : Own TE w22 o21 c21 ([tx 109, tx 109] ++ [tx 52, tx 53, tx 54]) := ho21.keeps D22.out.2.2.1 (fun k h1 h2 => by have := D21.out.2.2.2 k h1; have := in_some h2; have := HG.out; have := HS18.out; have := HW.out; omega)
      have d22 : Hid (Dn w w22 p F (mS xs ys)) := D22.out.1
      obtain ⟨gM, rfl, cM⟩ := own_t hm20 (by decide)
      obtain ⟨gS, rfl, cS⟩ := own_t hm21 (by decide)
      obtain ⟨gT, rfl, cT⟩ := own_t ho22 (by decide)
      have u1 : w22.cell? ⟨gM, 2, none⟩ = some (.string ⟨#[49]⟩) := (cM 2 (by decide)).1
      have u2 : w22.cell? ⟨gS, 2, none⟩ = some (.string ⟨#[52]⟩) := (cS 2 (by decide)).1
      have u3 : w22.cell? ⟨gT, 2, none⟩ = some (.string ⟨#[55]⟩) := (cT 2 (by decide)).1
      clear ho20 ho21 ho22 hap20 hap21 hap22 D20 D21 D22 B20 C20 C21 hm20 hm21 cM cS cT T18 HS18 HW HG HL9
      go_loopw [26] (fun i wr => ∃ k : Nat, k ≤ 2 ∧ i = .int .i64 k ∧ wr = w22) (fun i _ => 2 - (intOf i).toNat)
      case atStart => exact ⟨0, by omega, rfl, rfl⟩
      case round =>
        obtain ⟨k, hk, rfl, e⟩ := hrel
        rename World => wu
        subst wu
        by_cases hlt : k < 2
        · have a1 : w22.cell? ⟨g1, k, none⟩ = some (.string ⟨#[108]⟩) := by
            have := rowT_at HC.out.1 (j := k) hlt
            rw [this]; match k, hlt with
            | 0, _ => rfl
            | 1, _ => rfl
          have a2 : w22.cell? ⟨g2, k, none⟩ = some (.string ⟨#[109]⟩) := by
            have := rowT_at HC.out.2.1 (j := k) hlt
            rw [this]; match k, hlt with
            | 0, _ => rfl
            | 1, _ => rfl
          have a3 : w22.cell? ⟨g3, k, none⟩ = some (.string ⟨#[110]⟩) := by
            have := rowT_at HC.out.2.2 (j := k) hlt
            rw [this]; match k, hlt with
            | 0, _ => rfl
            | 1, _ => rfl
          go_wp2_with fail
          go_roundw
          case rel => exact ⟨k + 1, by omega, by go_num, by trivial⟩
          case measure => simp [intOf]; omega
        · have hk2 : k = 2 := by omega
          subst hk2
          clear u1 u2 u3 HC
          have kc := fun (w : World) (C : Array Value) (n c : Nat) => Lib.run_convert_bytes_const (P := Try.prog) w 22 5 C n c Try.underlying22 Try.underlying5
          go_wp2_with fail
          refine (dn_append tA _ 1 1 [33] (d22.out.beside (keeps_alloc _ _)) (mS_more xs ys) tA_max rfl (lit_sl w22 [33] 1 (1, 2) (by decide)) (fun k hk => by rw [in_some hk]; intro h; have := d22.out.is.lt _ h; omega) (by decide) (fun f hf => by rw [mS_tick] at hf; cases hf; have := HX.out; show xs.length + 1 ≤ _; omega)).mono ?_
          rintro e w23 ⟨rfl, h23, hk23⟩
          obtain ⟨F2, d23⟩ : ∃ F2, Hid (Dn w w23 p F2 (mS (xs ++ [33]) ys)) := ⟨_, h23⟩
          clear h23 hk23 d22
          go_wp2_with fail
          refine (dn_read (er := 0) (b := xs ++ [33]) tA d23.out (mS_tick _ ys) (mS_a _ ys) rfl tA_max (by have := HX.out; simp; omega)).mono ?_
          rintro e w24 ⟨o4, c4, n4, rfl, hn4, ho4, hw4, h24, hk24⟩
          have d24 : Hid (Dn w w24 p F2 (mS (xs ++ [33]) ys)) := h24
          have H4 : Hid (Hd BE w24 F2 w23.heap.size w24.heap.size o4 c4 (xs ++ [33])) := hd_new ho4 hw4 d23.out.is.lt
          clear h24 hk24 ho4 hw4 d23
          go_wp2_with fail
          refine (dn_read (er := 0) (b := ys) tB d24.out (mS_tick _ ys) (mS_b _ ys) rfl tB_max (by have := HY.out; omega)).mono ?_
          rintro e w25 ⟨o5, c5, n5, rfl, hn5, ho5, hw5, h25, hk25⟩
          have d25 : Hid (Dn w w25 p F2 (mS (xs ++ [33]) ys)) := h25
          have H5 : Hid (Hd BE w25 F2 w24.heap.size w25.heap.size o5 c5 ys) := hd_new ho5 hw5 d24.out.is.lt
          have J4 : Hid (Hd BE w25 F2 w23.heap.size w24.heap.size o4 c4 (xs ++ [33])) := H4.out.step hk25
          clear h25 hk25 ho5 hw5 d24 H4
          go_wp2_with fail
          refine (dn_list (l := [[97], [98]]) d25.out (mS_tick _ ys) (mS_l _ ys) rfl).mono ?_
          rintro e w26 ⟨o6, c6, n6, rfl, hn6, ho6, hw6, h26, hk26⟩
          obtain rfl : n6 = 2 := hn6.out
          have d26 : Hid (Dn w w26 p F2 (mS (xs ++ [33]) ys)) := h26
          have J5 : Hid (Row BE w26 o5 ys) := (H5.out.step hk26).own.row
          have L4 : Hid (Row BE w26 o4 (xs ++ [33])) := (J4.out.step hk26).own.row
          obtain ⟨g6, rfl, c6'⟩ := own_t ho6 (by decide)
          have v0 : w26.cell? ⟨g6, 0, none⟩ = some (.string ⟨#[97]⟩) := (c6' 0 (by decide)).1
          have v1 : w26.cell? ⟨g6, 1, none⟩ = some (.string ⟨#[98]⟩) := (c6' 1 (by decide)).1
          clear h26 hk26 ho6 hw6 d25 H5 J4 hn6 c6'
          go_wp2_with fail
          refine (own_any w26 oa na ca xs HNA.out (HA.out.keepsN d26.out.kept) (by have := HX.out; omega)).mono ?_
          rintro e w27 ⟨v, rfl, o7, n7, c7, rfl, hn7, ho7, hw7, hk27⟩
          have K27 : Hid (Keeps no w26 w27) := hk27
          have O7 : Hid (Own BE w27 o7 c7 xs) := ho7
          have N7 : Hid (New w26 o7) := hw7
          clear hk27 ho7 hw7
          go_wp2_with (at_builtin; refine wpList_app okB rfl _ _ rfl o7 n7 c7 xs rfl hn7.out (O7.out.keepsN (keeps_alloc w27 (.cells #[.int .u8 33] 5))) (some ⟨w27.heap.size, 0, none⟩) 1 1 [33] rfl rfl (fun e => by cases e) (lit_row (E := BE) w27 33 #[.int .u8 33] 5 _ rfl) (by have := HX.out; simp [BE]; omega) (by have := HX.out; simp; omega) ?_; intro o8 c8 w28 ho8 hap8)
          have K28 : Hid (Keeps no w26 w28) := (hap8.new (w0 := w26) N7.out (K27.out.alloc _)).2
          have J8 : Hid (Row BE w28 o8 (xs ++ [33])) := ho8.row
          have v2 := K28.out.cellN v0
          have v3 := K28.out.cellN v1
          clear ho8 hap8 v0 v1 O7 N7 K27
          refine (same_yes w28 o4 n4 c4 o8 (n7 + 1) c8 (xs ++ [33]) hn4.out (by rw [List.length_append, hn7.out]; rfl) (L4.out.keepsN K28.out) J8.out).mono ?_
          rintro e w' ⟨rfl, hw⟩
          subst w'
          go_wp2_with fail
          refine (same_yes w28 o5 n5 c5 ob nb cb ys hn5.out HNB.out (J5.out.keepsN K28.out) ((HB.out.keepsN d26.out.kept).row.keepsN K28.out)).mono ?_
          rintro e w' ⟨rfl, hw⟩
          subst w'
          go_wp2_with fail
          go_ret
          exact ⟨rfl, d26.out.kept.trans K28.out⟩
end Go.Proofs.Ytgobakfffobpkaa
