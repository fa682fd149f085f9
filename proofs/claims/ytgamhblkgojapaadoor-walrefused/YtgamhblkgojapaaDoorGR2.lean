/- WalRefused: its walk. -/
import Derived.Test.YtgamhblkgojapaaDoorGR1
import Derived.Test.YtgamhblkgojapaaDoorGQ
namespace Go.Proofs.YtgamhblkgojapaaDoor
open Go.RowKit Pk Dk
set_option linter.unusedVariables false
set_option linter.unusedSimpArgs false

theorem LogAt.ne {w0 w : World} {q p : Nat} {n : Tx} {k : Nat} (h : IsL w q p n k) (hq : w0.heap.size ≤ q) : q < w.heap.size := lt_of_block h.blk
def OwnD (w : World) (k : Int) (i np nk : Nat) (r : Rec) (e : Ending) (w' : World) : Prop :=
  ∃ (v : CV), e = .returned (.agg #[.int .i64 v.k, .int .u64 (v.i : Nat), .slice v.op v.np v.cp, .slice v.ok v.nk v.ck]) ∧ Hid (Got w w' v r) ∧ Hid (Keeps no w w')
theorem own_v (w : World) (v : CV) (r : Rec) (h : IsC w v r) :
    Calls Tryd.prog 10 #[.agg #[.int .i64 v.k, .int .u64 (v.i : Nat), .slice v.op v.np v.cp, .slice v.ok v.nk v.ck]] w (OwnD w v.k v.i v.np v.nk r) := by
  refine (ownR_any w v.k v.i v.op v.np v.cp v.ok v.nk v.ck r h).mono ?_
  rintro e w' ⟨op, cp, ok, ck, rfl, hG, hk⟩
  exact ⟨⟨v.k, v.i, op, v.np, cp, ok, v.nk, ck⟩, rfl, hG, hk⟩
def BuildD (w : World) (r : Rec) (e : Ending) (w' : World) : Prop := ∃ o n c, e = .returned (.tuple #[.slice o n c, .int .i64 ((encE r : Nat) : Int)]) ∧ Hid (n = (encB r).length) ∧ Hid (Owns w' o c (encB r)) ∧ Hid (New w o) ∧ Hid (Keeps no w w')
theorem build_v (w : World) (v : CV) (r : Rec) (h : IsC w v r) (ht : TabIn w) :
    Calls Tryd.prog 9 #[.agg #[.int .i64 v.k, .int .u64 (v.i : Nat), .slice v.op v.np v.cp, .slice v.ok v.nk v.ck]] w (BuildD w r) := by
  refine (Build_any w v.k v.i v.op v.np v.cp v.ok v.nk v.ck r h ht).mono ?_
  rintro e w' ⟨o, n, c, rfl, h1, h2, h3, h4⟩
  exact ⟨o, n, c, rfl, h1, h2, h3, h4⟩
theorem kR_le (r : Rec) : ((kR r : Nat) : Int) ≤ 1048584 := by
  unfold kR
  by_cases h : encE r = 0
  · rw [if_pos h]; have := encE_len h; omega
  · rw [if_neg h]; omega
theorem lsR_read {n : Nm} {s : St} {r : Rec} (hf : find n s.fs = if encE r = 0 then some (fl (u8s (enc r))) else none) : (readB n (tick s)).length ≤ 1099511627776 := by
  refine Nat.le_trans (readB_le n s) ?_
  unfold bsOf
  rw [hf]
  by_cases h : encE r = 0
  · rw [if_pos h]
    show (u8s (enc r)).length ≤ _
    rw [u8s_length]; have := encE_len h; omega
  · rw [if_neg h]
    simp
def ListD (w0 w : World) (p : Nat) (F : Nat → Prop) (s' : St) (m : Nat) (er : Int) (e : Ending) (w' : World) : Prop := ∃ o c, e = .returned (.tuple #[.slice o m c, .int .i64 er]) ∧ Hid (Dn w0 w' p F s') ∧ Hid (Keeps F w w')
theorem dn_list {w0 w : World} {p : Nat} {F : Nat → Prop} {s s' : St} {m : Nat} {er : Int} (h : Dn w0 w p F s) (hA : tick s = s') (hB : (listN s').length = m) (hE : listE s' = er) :
    Calls Tryd.prog 25 #[.pointer (some ⟨p, 0, none⟩)] w (ListD w0 w p F s' m er) := by
  refine (list_any w p F s h.is).mono ?_
  rintro e w' ⟨o, c, m', rfl, hm, ho, hnw, hi, hk⟩
  rw [hA] at hi hm ⊢
  rw [hB] at hm
  obtain rfl : m' = m := hm.out
  rw [hE]
  exact ⟨o, c, rfl, h.same hi hk, hk⟩

set_option maxRecDepth 10000 in
set_option maxHeartbeats 4000000 in
theorem walRefused_any (w : World) (vr : CV) (r : Rec) (hr : IsC w vr r) (vs : CV) (s : Rec) (hs : IsC w vs s) (ht : TabIn w) :
    Calls Tryd.prog 6 #[.agg #[.int .i64 vr.k, .int .u64 (vr.i : Nat), .slice vr.op vr.np vr.cp, .slice vr.ok vr.nk vr.ck], .agg #[.int .i64 vs.k, .int .u64 (vs.i : Nat), .slice vs.op vs.np vs.cp, .slice vs.ok vs.nk vs.ck]] w fun e w' => e = .returned (.bool true) ∧ Keeps no w w' := by
  have HT0 : Hid (TabIn w) := ht
  have HR0 : Hid (IsC w vr r ∧ IsC w vs s) := ⟨hr, hs⟩
  obtain ⟨HTW⟩ : Nonempty (PLift (Twin r s (rfS na.data.toList r Dk.new) (rfS nb.data.toList s (rfS na.data.toList r Dk.new)))) := ⟨⟨twin r s⟩⟩
  replace HTW : Hid (Twin r s (rfS na.data.toList r Dk.new) (rfS nb.data.toList s (rfS na.data.toList r Dk.new))) := HTW.down
  have HA1 : Hid (apd na.data.toList r Dk.new = (rfS na.data.toList r Dk.new, ((encE r : Nat) : Int))) := easy_new.apd na_good (by decide) r
  generalize rfS nb.data.toList s (rfS na.data.toList r Dk.new) = S2 at HTW
  generalize rfS na.data.toList r Dk.new = S1 at HTW HA1
  have HA2 : Hid (apd nb.data.toList s S1 = (S2, ((encE s : Nat) : Int))) := by have := HTW.out.y1.apd nb_good HTW.out.l1 s; rw [← HTW.out.e2] at this; exact this
  have HK0 : Hid (Keeps no w ((w.alloc (.cells #[.int .i64 vr.k, .int .u64 (vr.i : Nat), .slice vr.op vr.np vr.cp, .slice vr.ok vr.nk vr.ck] 28)).alloc (.cells #[.int .i64 vs.k, .int .u64 (vs.i : Nat), .slice vs.op vs.np vs.cp, .slice vs.ok vs.nk vs.ck] 28))) := ((Keeps.refl _ _).alloc _).alloc _
  have hb2 : ((w.alloc (.cells #[.int .i64 vr.k, .int .u64 (vr.i : Nat), .slice vr.op vr.np vr.cp, .slice vr.ok vr.nk vr.ck] 28)).alloc (.cells #[.int .i64 vs.k, .int .u64 (vs.i : Nat), .slice vs.op vs.np vs.cp, .slice vs.ok vs.nk vs.ck] 28)).heap[w.heap.size]? = some (.cells #[.int .i64 vr.k, .int .u64 (vr.i : Nat), .slice vr.op vr.np vr.cp, .slice vr.ok vr.nk vr.ck] 28 (0, 0)) := blk_alloc (blk_new w _) _
  have hb3 : ((w.alloc (.cells #[.int .i64 vr.k, .int .u64 (vr.i : Nat), .slice vr.op vr.np vr.cp, .slice vr.ok vr.nk vr.ck] 28)).alloc (.cells #[.int .i64 vs.k, .int .u64 (vs.i : Nat), .slice vs.op vs.np vs.cp, .slice vs.ok vs.nk vs.ck] 28)).heap[w.heap.size + 1]? = some (.cells #[.int .i64 vs.k, .int .u64 (vs.i : Nat), .slice vs.op vs.np vs.cp, .slice vs.ok vs.nk vs.ck] 28 (0, 0)) := by
    have := blk_new (w.alloc (.cells #[.int .i64 vr.k, .int .u64 (vr.i : Nat), .slice vr.op vr.np vr.cp, .slice vr.ok vr.nk vr.ck] 28)) (.cells #[.int .i64 vs.k, .int .u64 (vs.i : Nat), .slice vs.op vs.np vs.cp, .slice vs.ok vs.nk vs.ck] 28)
    rw [show (w.alloc (.cells #[.int .i64 vr.k, .int .u64 (vr.i : Nat), .slice vr.op vr.np vr.cp, .slice vr.ok vr.nk vr.ck] 28)).heap.size = w.heap.size + 1 by simp] at this
    exact this
  clear hr hs ht
  go_enter Tryd.func6, Tryd.ntmps6
  go_upto_region 1 with fail
  generalize (w.alloc (.cells #[.int .i64 vr.k, .int .u64 (vr.i : Nat), .slice vr.op vr.np vr.cp, .slice vr.ok vr.nk vr.ck] 28)).alloc (.cells #[.int .i64 vs.k, .int .u64 (vs.i : Nat), .slice vs.op vs.np vs.cp, .slice vs.ok vs.nk vs.ck] 28) = V at HK0 hb2 hb3 ⊢
  generalize w.heap.size = R at hb2 hb3 ⊢
  generalize R + 1 = S at hb3 ⊢
  have HCL : Hid (∀ X, Keeps no V X → (X.cell? ⟨R, 0, none⟩ = some (.int .i64 vr.k) ∧ X.cell? ⟨R, 1, none⟩ = some (.int .u64 (vr.i : Nat)) ∧ X.cell? ⟨R, 2, none⟩ = some (.slice vr.op vr.np vr.cp) ∧ X.cell? ⟨R, 3, none⟩ = some (.slice vr.ok vr.nk vr.ck)) ∧ (X.cell? ⟨S, 0, none⟩ = some (.int .i64 vs.k) ∧ X.cell? ⟨S, 1, none⟩ = some (.int .u64 (vs.i : Nat)) ∧ X.cell? ⟨S, 2, none⟩ = some (.slice vs.op vs.np vs.cp) ∧ X.cell? ⟨S, 3, none⟩ = some (.slice vs.ok vs.nk vs.ck))) := fun X hk => ⟨cells4 (hk.at hb2 (fun h => h)), cells4 (hk.at hb3 (fun h => h))⟩
  have HIS : Hid (∀ X, Keeps no V X → IsC X vr r ∧ IsC X vs s) := fun X hk => ⟨(HR0.out.1.keepsN HK0.out).keepsN hk, (HR0.out.2.keepsN HK0.out).keepsN hk⟩
  have HTV : Hid (TabIn V) := HT0.out.keepsN HK0.out
  clear hb2 hb3 HR0
  go_wp2_with fail
  refine (alive_any V HTV.out).mono ?_
  rintro e w1 ⟨rfl, hk1⟩
  have HV1 : Hid (Keeps no V w1) := hk1
  have HT : Hid (TabIn w1) := HTV.out.keepsN hk1
  clear hk1
  go_wp2_with fail
  refine (open_nil w1 _).mono ?_
  rintro e w' ⟨rfl, hw⟩
  subst w'
  go_wp2_with fail
  refine (dn_new w1).mono ?_
  rintro e w2 ⟨p, rfl, HD2, HK2⟩
  generalize (fun k => w1.heap.size ≤ k ∧ k < w2.heap.size) = F at HD2
  go_wp2_with fail
  refine (dn_open na HD2.out HT.out (opn_gone (s := Dk.new) ⟨rfl, rfl⟩ rfl) (by decide) (by decide)).mono ?_
  rintro e w3 ⟨qa, o3, m3, c3, vs3, rfl, hm, HLA3, _, HD3, HK3⟩
  obtain rfl : m3 = 0 := hm.out
  clear hm
  go_wp2_with fail
  refine (dn_open nb HD3.out HT.out (opn_gone (s := Dk.new) ⟨rfl, rfl⟩ rfl) (by decide) (by decide)).mono ?_
  rintro e w4 ⟨qb, o4, m4, c4, vs4, rfl, hm, HLB4, _, HD4, HK4⟩
  obtain rfl : m4 = 0 := hm.out
  clear hm
  have HQ : Hid (qa ≠ qb ∧ w1.heap.size ≤ qa ∧ w1.heap.size ≤ qb ∧ ¬ F qa ∧ ¬ F qb) := ⟨by have := lt_of_block HLA3.out.1.blk; have := HLB4.out.2.1; omega, by have := HK2.out.size; have := HLA3.out.2.1; omega, by have := HK2.out.size; have := HK3.out.size; have := HLB4.out.2.1; omega, HLA3.out.2.2, HLB4.out.2.2⟩
  have HLA4 : Hid (IsL w4 qa p na 0) := HLA3.out.1.keeps HK4.out HLA3.out.2.2
  go_wp2_with fail
  refine (dn_list HD4.out (s' := Dk.new) (m := 0) (er := 0) rfl rfl rfl).mono ?_
  rintro e w5 ⟨o5, c5, rfl, HD5, HK5⟩
  have HLA5 : Hid (IsL w5 qa p na 0) := HLA4.out.keeps HK5.out HQ.out.2.2.2.1
  have HLB5 : Hid (IsL w5 qb p nb 0) := HLB4.out.1.keeps HK5.out HQ.out.2.2.2.2
  clear HLA3 HLB4 HLA4 HK2 HK3 HK4 HK5 HD2 HD3 HD4
  have HC5 : Hid (Keeps no V w5) := HV1.out.trans HD5.out.kept
  obtain ⟨⟨x0, x1, x2, x3⟩, -⟩ := HCL.out w5 HC5.out
  go_wp2_with fail
  refine (own_v w5 vr r (HIS.out w5 HC5.out).1).mono ?_
  rintro e w6 ⟨v6, rfl, HG6, HK6⟩
  clear x0 x1 x2 x3
  have HD6 : Hid (Dn w1 w6 p F Dk.new) := HD5.out.beside HK6.out
  have HLA6 : Hid (IsL w6 qa p na 0) := HLA5.out.keeps HK6.out (fun h => h)
  have HLB6 : Hid (IsL w6 qb p nb 0) := HLB5.out.keeps HK6.out (fun h => h)
  go_wp2_with fail
  refine (dn_log na v6 HD6.out HT.out HLA6.out HQ.out.2.2.2.1 HQ.out.2.1 HG6.out.isC HA1.out (k' := kR r) (by unfold kR; by_cases h : encE r = 0 <;> simp [h]) (by decide) (by decide) (fun h => fit_of (by have := encE_len h; simp only [bsOf, Dk.new, find, List.length_nil]; omega))).mono ?_
  rintro e w7 ⟨rfl, HD7, HLA7, HK7⟩
  have HLB7 : Hid (IsL w7 qb p nb 0) := HLB6.out.keeps HK7.out (fun h => by rcases h with h | h; exact HQ.out.2.2.2.2 h; exact HQ.out.1 h.symm)
  have HQ7 : Hid (¬ grow F w6 w7 qa ∧ ¬ grow F w6 w7 qb) := ⟨grow_no HQ.out.2.2.2.1 (lt_of_block HLA6.out.blk), grow_no HQ.out.2.2.2.2 (lt_of_block HLB6.out.blk)⟩
  generalize grow F w6 w7 = F7 at HD7 HQ7
  have HC7 : Hid (Keeps no V w7) := HV1.out.trans HD7.out.kept
  clear HK7 HLA6 HLB6 HD6 HG6 HK6 HD5 HLA5 HLB5 HC5 HA1
  obtain ⟨⟨x0, x1, x2, x3⟩, -⟩ := HCL.out w7 HC7.out
  go_wp2_with fail
  refine (own_v w7 vr r (HIS.out w7 HC7.out).1).mono ?_
  rintro e w8 ⟨v8, rfl, HG8, HK8⟩
  clear x0 x1 x2 x3
  go_wp2_with fail
  refine (build_v w8 v8 r HG8.out.isC (HT.out.keepsN (HD7.out.kept.trans HK8.out))).mono ?_
  rintro e w9 ⟨o9, n9, c9, rfl, -, -, -, HK9⟩
  have HD9 : Hid (Dn w1 w9 p F7 S1) := (HD7.out.beside HK8.out).beside HK9.out
  have HLA9 : Hid (IsL w9 qa p na (kR r)) := (HLA7.out.keeps HK8.out (fun h => h)).keeps HK9.out (fun h => h)
  have HLB9 : Hid (IsL w9 qb p nb 0) := (HLB7.out.keeps HK8.out (fun h => h)).keeps HK9.out (fun h => h)
  clear HG8 HK8 HK9 HD7 HLA7 HLB7 HC7
  obtain ⟨E1, hE1⟩ : ∃ E1, E1 = encE r := ⟨_, rfl⟩
  have HE1 : Hid (E1 = encE r) := hE1
  rw [← hE1]
  clear hE1
  by_cases hE : E1 = 0
  case' pos =>
    subst hE
    have HM1 : Hid ((lsR r).length = 1) := by unfold lsR; rw [if_pos HE1.out.symm]; rfl
    go_wp2_with fail
  case' neg =>
    have hE2 : ((E1 : Int) == 0) = false := by simp; omega
    have hE3 : ¬ (E1 : Int) = 0 := by omega
    have HM1 : Hid ((lsR r).length = 0) := by unfold lsR; rw [if_neg (by rw [← HE1.out]; exact hE)]; rfl
    have HKZ : Hid (IsL w9 qa p na 0) := by have := HLA9.out; unfold kR at this; rw [if_neg (by rw [← HE1.out]; exact hE)] at this; exact this
    go_wp2_with fail
    refine (LogSize_any w9 qa p na 0 HKZ.out).mono ?_
    rintro e w' ⟨rfl, hw⟩
    subst w'
    clear HKZ
    go_wp2_with fail
  all_goals refine (dn_full 1 HD9.out rfl (by unfold i64; omega)).mono ?_
  all_goals rintro e wA ⟨rfl, HDA, HKA⟩
  all_goals have HLAA : Hid (IsL wA qa p na (kR r)) := HLA9.out.keeps HKA.out HQ7.out.1
  all_goals have HLBA : Hid (IsL wA qb p nb 0) := HLB9.out.keeps HKA.out HQ7.out.2
  all_goals clear HD9 HLA9 HLB9 HKA
  all_goals go_wp2_with fail
  all_goals refine (commit_any wA 1 (by omega)).mono ?_
  all_goals rintro e wB ⟨rfl, hk⟩
  all_goals have HDB : Hid (Dn w1 wB p F7 (full 1 S1)) := HDA.out.beside hk
  all_goals have HLAB : Hid (IsL wB qa p na (kR r)) := HLAA.out.keeps hk (fun h => h)
  all_goals have HLBB : Hid (IsL wB qb p nb 0) := HLBA.out.keeps hk (fun h => h)
  all_goals have HKR : Hid (((kR r : Nat) : Int) ≤ 1048584) := kR_le r
  all_goals clear HDA HLAA HLBA hk
  all_goals go_wp2_with fail
  all_goals refine (dn_log na ⟨2, 65536, none, 0, 0, none, 0, 0⟩ HDB.out HT.out HLAB.out HQ7.out.1 HQ.out.2.1 (cmR_isC wB (q := 1) (by omega)) (HTW.out.y1.refused na_good HTW.out.l1 (cmR_gd (q := 1) (by omega) (by omega)).encE) (k' := kR r) (by rw [if_neg (by decide)]) (by decide) (by have := HKR.out; omega) (fun _ => fit_of (by have := HTW.out.b1; rw [cmR_enc]; show (bsOf na.data.toList S1).length + 17 ≤ _; omega))).mono ?_
  all_goals rintro e wC ⟨rfl, HDC, HLAC, HKC⟩
  all_goals have HLBC : Hid (IsL wC qb p nb 0) := HLBB.out.keeps HKC.out (fun h => by rcases h with h | h; exact HQ7.out.2 h; exact HQ.out.1 h.symm)
  all_goals have HQC : Hid (¬ grow F7 wB wC qa ∧ ¬ grow F7 wB wC qb) := ⟨grow_no HQ7.out.1 (lt_of_block HLAB.out.blk), grow_no HQ7.out.2 (lt_of_block HLBB.out.blk)⟩
  all_goals generalize grow F7 wB wC = FC at HDC HQC
  all_goals clear HDB HLAB HLBB HKC
  all_goals go_wp2_with fail
  all_goals refine (LogSize_any wC qa p na (kR r) HLAC.out).mono ?_
  all_goals rintro e w' ⟨rfl, hw⟩
  all_goals subst w'
  all_goals have HCC : Hid (Keeps no V wC) := HV1.out.trans HDC.out.kept
  all_goals obtain ⟨-, x0, x1, x2, x3⟩ := HCL.out wC HCC.out
  all_goals go_wp2_with fail
  all_goals refine (own_v wC vs s (HIS.out wC HCC.out).2).mono ?_
  all_goals rintro e wD ⟨vD, rfl, HGD, HKD⟩
  all_goals clear x0 x1 x2 x3
  all_goals have HDD : Hid (Dn w1 wD p FC S1) := HDC.out.beside HKD.out
  all_goals have HLAD : Hid (IsL wD qa p na (kR r)) := HLAC.out.keeps HKD.out (fun h => h)
  all_goals have HLBD : Hid (IsL wD qb p nb 0) := HLBC.out.keeps HKD.out (fun h => h)
  all_goals go_wp2_with fail
  all_goals refine (dn_log nb vD HDD.out HT.out HLBD.out HQC.out.2 HQ.out.2.2.1 HGD.out.isC HA2.out (k' := kR s) (by unfold kR; by_cases h : encE s = 0 <;> simp [h]) (by decide) (by decide) (fun h => fit_of (by have := encE_len h; rw [HTW.out.b2]; simp only [List.length_nil]; omega))).mono ?_
  all_goals rintro e wE ⟨rfl, HDE, HLBE, HKE⟩
  all_goals have HLAE : Hid (IsL wE qa p na (kR r)) := HLAD.out.keeps HKE.out (fun h => by rcases h with h | h; exact HQC.out.1 h; exact HQ.out.1 h)
  all_goals have HQE : Hid (¬ grow FC wD wE qa ∧ ¬ grow FC wD wE qb) := ⟨grow_no HQC.out.1 (lt_of_block HLAD.out.blk), grow_no HQC.out.2 (lt_of_block HLBD.out.blk)⟩
  all_goals generalize grow FC wD wE = FE at HDE HQE
  all_goals have HCE : Hid (Keeps no V wE) := HV1.out.trans HDE.out.kept
  all_goals clear HKE HLAD HLBD HDD HGD HKD HDC HLAC HLBC HCC HA2
  all_goals obtain ⟨-, x0, x1, x2, x3⟩ := HCL.out wE HCE.out
  all_goals go_wp2_with fail
  all_goals refine (own_v wE vs s (HIS.out wE HCE.out).2).mono ?_
  all_goals rintro e wF ⟨vF, rfl, HGF, HKF⟩
  all_goals clear x0 x1 x2 x3
  all_goals go_wp2_with fail
  all_goals refine (build_v wF vF s HGF.out.isC (HT.out.keepsN (HDE.out.kept.trans HKF.out))).mono ?_
  all_goals rintro e wG ⟨oG, nG, cG, rfl, -, -, -, HKG⟩
  all_goals have HDG : Hid (Dn w1 wG p FE S2) := (HDE.out.beside HKF.out).beside HKG.out
  all_goals have HLAG : Hid (IsL wG qa p na (kR r)) := (HLAE.out.keeps HKF.out (fun h => h)).keeps HKG.out (fun h => h)
  all_goals clear HGF HKF HKG HDE HLAE HLBE HCE
  all_goals go_wp2_with fail
  all_goals refine (LogSize_any wG qa p na (kR r) HLAG.out).mono ?_
  all_goals rintro e w' ⟨rfl, hw⟩
  all_goals subst w'
  all_goals go_wp2_with fail
  -- TAIL
  all_goals refine (dn_open na HDG.out HT.out (opn_lsR HTW.out.y2.on (HIS.out V (Keeps.refl _ _)).1.fit.id HTW.out.fa) (by decide) (lsR_read HTW.out.fa)).mono ?_
  all_goals rintro e wH ⟨za, oH, mH, cH, vH, rfl, hm, -, HSH, HDH, HKH⟩
  all_goals have hmm := hm.out.trans HM1.out
  all_goals subst hmm
  all_goals clear hm
  all_goals go_wp2_with fail
  all_goals refine (dn_open nb HDH.out HT.out (opn_lsR HTW.out.y2.on (HIS.out V (Keeps.refl _ _)).2.fit.id HTW.out.fb) (by decide) (lsR_read HTW.out.fb)).mono ?_
  all_goals rintro e wI ⟨zb, oI, mI, cI, vI, rfl, hm2, -, HSI, HDI, HKI⟩
  all_goals have HFE : Hid (∀ k, FE k → k < wG.heap.size) := HDG.out.is.lt
  all_goals have HFH : Hid (∀ k, FE k → k < wH.heap.size) := HDH.out.is.lt
  all_goals obtain ⟨E2, hE2'⟩ : ∃ E2, E2 = encE s := ⟨_, rfl⟩
  all_goals have HE2 : Hid (E2 = encE s) := hE2'
  all_goals rw [← hE2']
  all_goals clear hE2' HLAG HDG HDH
  all_goals by_cases hF : E2 = 0
  · -- 0 1
    subst hF
    have HM2 : Hid ((lsR s).length = 1) := by unfold lsR; rw [if_pos HE2.out.symm]; rfl
    have hmm := hm2.out.trans HM2.out
    subst hmm
    clear hm2
    go_wp2_with fail
    refine (dn_crash 0 HDI.out rfl (by unfold i64; omega)).mono ?_
    rintro e wJ ⟨rfl, hdj, hkj⟩
    have HDJ : Hid (Dn w1 wJ p FE (crash 0 S2)) := hdj
    have HKJ : Hid (Keeps FE wI wJ) := hkj
    clear hdj hkj HDI
    go_wp2_with fail
    refine (dn_open_no na HDJ.out HT.out (opn_down na.data.toList HTW.out.y2.on 0) (by decide) (by decide) (readB_down na.data.toList HTW.out.y2.on 0)).mono ?_
    rintro e wK ⟨rfl, HDK, HKK⟩
    have HCK : Hid (Keeps no V wK) := HV1.out.trans HDK.out.kept
    clear HDJ
    have HSL : Hid (Scn wH wK oI cI vI [s]) := by
      have h := HSI.out
      unfold lsR at h
      rw [if_pos HE2.out.symm] at h
      exact (h.keepsF HKJ.out HFH.out).keepsF HKK.out HFH.out
    obtain ⟨gq, rfl, hc⟩ := HSL.out.own.atC0 (by rw [HSL.out.len]; exact Nat.zero_lt_one)
    obtain ⟨d0, d1, d2, d3⟩ := hc 0 (by rw [HSL.out.len]; exact Nat.zero_lt_one)
    have HC2 : Hid (IsC wK (vI.getD 0 cv0) s) := (HSL.out.each 0 Nat.zero_lt_one).isC
    generalize vI.getD 0 cv0 = a2 at d0 d1 d2 d3 HC2
    simp only [Nat.zero_mul, Nat.zero_add] at d0 d1 d2 d3
    have HQ2 : Hid (∀ X, Keeps no wK X → X.cell? ⟨gq, 0, none⟩ = some (.int .i64 a2.k) ∧ X.cell? ⟨gq, 1, none⟩ = some (.int .u64 (a2.i : Nat)) ∧ X.cell? ⟨gq, 2, none⟩ = some (.slice a2.op a2.np a2.cp) ∧ X.cell? ⟨gq, 3, none⟩ = some (.slice a2.ok a2.nk a2.ck)) := fun X hk => ⟨hk.cellN d0, hk.cellN d1, hk.cellN d2, hk.cellN d3⟩
    clear hc d0 d1 d2 d3 HSL
    have HST : Hid (∀ X, Keeps no wK X → X.cell? ⟨gq, 0, none⟩ = some (.int .i64 a2.k) ∧ X.cell? ⟨gq, 1, none⟩ = some (.int .u64 (a2.i : Nat)) ∧ X.cell? ⟨gq, 2, none⟩ = some (.slice a2.op a2.np a2.cp) ∧ X.cell? ⟨gq, 3, none⟩ = some (.slice a2.ok a2.nk a2.ck) ∧ X.cell? ⟨S, 0, none⟩ = some (.int .i64 vs.k) ∧ X.cell? ⟨S, 1, none⟩ = some (.int .u64 (vs.i : Nat)) ∧ X.cell? ⟨S, 2, none⟩ = some (.slice vs.op vs.np vs.cp) ∧ X.cell? ⟨S, 3, none⟩ = some (.slice vs.ok vs.nk vs.ck)) := fun X hk => ⟨(HQ2.out X hk).1, (HQ2.out X hk).2.1, (HQ2.out X hk).2.2.1, (HQ2.out X hk).2.2.2, (HCL.out X (HCK.out.trans hk)).2.1, (HCL.out X (HCK.out.trans hk)).2.2.1, (HCL.out X (HCK.out.trans hk)).2.2.2.1, (HCL.out X (HCK.out.trans hk)).2.2.2.2⟩
    obtain ⟨y0, y1, y2, y3, y4, y5, y6, y7⟩ := HST.out wK (Keeps.refl _ _)
    have z0 := cell_regrown y0
    have z1 := cell_regrown y1
    have z2 := cell_regrown y2
    have z3 := cell_regrown y3
    have z4 := cell_regrown y4
    have z5 := cell_regrown y5
    have z6 := cell_regrown y6
    have z7 := cell_regrown y7
    have cS2 := same_grown (W := wK) (v := a2) (v' := vs) (r := s) (fun X hX => ⟨HC2.out.keepsN hX, (HIS.out X (HCK.out.trans hX)).2⟩)
    go_wp2_with fail
    refine wp_region_quiet_below (by kernel_rfl) (by kernel_rfl) ?_
    repeat (go_big_quiet_step (first | (go_at_call_of 18 (Value.agg #[Value.int .i64 a2.k, Value.int .u64 (a2.i : Nat), Value.slice a2.op a2.np a2.cp, Value.slice a2.ok a2.nk a2.ck]); exact cS2 _ _)))
    refine wpQuiet_nil ?_
    intro _ hw'
    obtain ⟨⟨dq, osq⟩, rfl⟩ := hw'
    have K1 : Hid (Keeps no wK (Sort.grow (redrawn wK dq) osq)) := keeps_grown ..
    generalize Sort.grow (redrawn wK dq) osq = u1 at K1 ⊢
    clear y0 z0 y1 z1 y2 z2 y3 z3 y4 z4 y5 z5 y6 z6 y7 z7 cS2 HST
    go_wp2_with fail
    go_ret
    exact ⟨rfl, ((HK0.out.trans HV1.out).trans HDK.out.kept).trans K1.out⟩
  · -- 0 0
    have hF2 : ((E2 : Int) == 0) = false := by simp; omega
    have hF3 : ¬ (E2 : Int) = 0 := by omega
    have HM2 : Hid ((lsR s).length = 0) := by unfold lsR; rw [if_neg (by rw [← HE2.out]; exact hF)]; rfl
    have hmm := hm2.out.trans HM2.out
    subst hmm
    clear hm2
    go_wp2_with fail
    refine (dn_crash 0 HDI.out rfl (by unfold i64; omega)).mono ?_
    rintro e wJ ⟨rfl, hdj, hkj⟩
    have HDJ : Hid (Dn w1 wJ p FE (crash 0 S2)) := hdj
    have HKJ : Hid (Keeps FE wI wJ) := hkj
    clear hdj hkj HDI
    go_wp2_with fail
    refine (dn_open_no na HDJ.out HT.out (opn_down na.data.toList HTW.out.y2.on 0) (by decide) (by decide) (readB_down na.data.toList HTW.out.y2.on 0)).mono ?_
    rintro e wK ⟨rfl, HDK, HKK⟩
    have HCK : Hid (Keeps no V wK) := HV1.out.trans HDK.out.kept
    clear HDJ
    go_wp2_with fail
    go_quiet (fail)
    go_wp2_with fail
    go_ret
    exact ⟨rfl, ((HK0.out.trans HV1.out).trans HDK.out.kept).drewN _⟩
  · -- 1 1
    subst hF
    have HM2 : Hid ((lsR s).length = 1) := by unfold lsR; rw [if_pos HE2.out.symm]; rfl
    have hmm := hm2.out.trans HM2.out
    subst hmm
    clear hm2
    go_wp2_with fail
    refine (dn_crash 0 HDI.out rfl (by unfold i64; omega)).mono ?_
    rintro e wJ ⟨rfl, hdj, hkj⟩
    have HDJ : Hid (Dn w1 wJ p FE (crash 0 S2)) := hdj
    have HKJ : Hid (Keeps FE wI wJ) := hkj
    clear hdj hkj HDI
    go_wp2_with fail
    refine (dn_open_no na HDJ.out HT.out (opn_down na.data.toList HTW.out.y2.on 0) (by decide) (by decide) (readB_down na.data.toList HTW.out.y2.on 0)).mono ?_
    rintro e wK ⟨rfl, HDK, HKK⟩
    have HCK : Hid (Keeps no V wK) := HV1.out.trans HDK.out.kept
    clear HDJ
    have HSK : Hid (Scn wG wK oH cH vH [r]) := by
      have h := HSH.out
      unfold lsR at h
      rw [if_pos HE1.out.symm] at h
      exact ((h.keepsF HKI.out HFE.out).keepsF HKJ.out HFE.out).keepsF HKK.out HFE.out
    obtain ⟨gp, rfl, hc⟩ := HSK.out.own.atC0 (by rw [HSK.out.len]; exact Nat.zero_lt_one)
    obtain ⟨d0, d1, d2, d3⟩ := hc 0 (by rw [HSK.out.len]; exact Nat.zero_lt_one)
    have HC1 : Hid (IsC wK (vH.getD 0 cv0) r) := (HSK.out.each 0 Nat.zero_lt_one).isC
    generalize vH.getD 0 cv0 = a1 at d0 d1 d2 d3 HC1
    simp only [Nat.zero_mul, Nat.zero_add] at d0 d1 d2 d3
    have HP : Hid (∀ X, Keeps no wK X → X.cell? ⟨gp, 0, none⟩ = some (.int .i64 a1.k) ∧ X.cell? ⟨gp, 1, none⟩ = some (.int .u64 (a1.i : Nat)) ∧ X.cell? ⟨gp, 2, none⟩ = some (.slice a1.op a1.np a1.cp) ∧ X.cell? ⟨gp, 3, none⟩ = some (.slice a1.ok a1.nk a1.ck)) := fun X hk => ⟨hk.cellN d0, hk.cellN d1, hk.cellN d2, hk.cellN d3⟩
    clear hc d0 d1 d2 d3 HSK
    have HSL : Hid (Scn wH wK oI cI vI [s]) := by
      have h := HSI.out
      unfold lsR at h
      rw [if_pos HE2.out.symm] at h
      exact (h.keepsF HKJ.out HFH.out).keepsF HKK.out HFH.out
    obtain ⟨gq, rfl, hc⟩ := HSL.out.own.atC0 (by rw [HSL.out.len]; exact Nat.zero_lt_one)
    obtain ⟨d0, d1, d2, d3⟩ := hc 0 (by rw [HSL.out.len]; exact Nat.zero_lt_one)
    have HC2 : Hid (IsC wK (vI.getD 0 cv0) s) := (HSL.out.each 0 Nat.zero_lt_one).isC
    generalize vI.getD 0 cv0 = a2 at d0 d1 d2 d3 HC2
    simp only [Nat.zero_mul, Nat.zero_add] at d0 d1 d2 d3
    have HQ2 : Hid (∀ X, Keeps no wK X → X.cell? ⟨gq, 0, none⟩ = some (.int .i64 a2.k) ∧ X.cell? ⟨gq, 1, none⟩ = some (.int .u64 (a2.i : Nat)) ∧ X.cell? ⟨gq, 2, none⟩ = some (.slice a2.op a2.np a2.cp) ∧ X.cell? ⟨gq, 3, none⟩ = some (.slice a2.ok a2.nk a2.ck)) := fun X hk => ⟨hk.cellN d0, hk.cellN d1, hk.cellN d2, hk.cellN d3⟩
    clear hc d0 d1 d2 d3 HSL
    have HST : Hid (∀ X, Keeps no wK X → X.cell? ⟨gp, 0, none⟩ = some (.int .i64 a1.k) ∧ X.cell? ⟨gp, 1, none⟩ = some (.int .u64 (a1.i : Nat)) ∧ X.cell? ⟨gp, 2, none⟩ = some (.slice a1.op a1.np a1.cp) ∧ X.cell? ⟨gp, 3, none⟩ = some (.slice a1.ok a1.nk a1.ck) ∧ X.cell? ⟨R, 0, none⟩ = some (.int .i64 vr.k) ∧ X.cell? ⟨R, 1, none⟩ = some (.int .u64 (vr.i : Nat)) ∧ X.cell? ⟨R, 2, none⟩ = some (.slice vr.op vr.np vr.cp) ∧ X.cell? ⟨R, 3, none⟩ = some (.slice vr.ok vr.nk vr.ck) ∧ X.cell? ⟨gq, 0, none⟩ = some (.int .i64 a2.k) ∧ X.cell? ⟨gq, 1, none⟩ = some (.int .u64 (a2.i : Nat)) ∧ X.cell? ⟨gq, 2, none⟩ = some (.slice a2.op a2.np a2.cp) ∧ X.cell? ⟨gq, 3, none⟩ = some (.slice a2.ok a2.nk a2.ck) ∧ X.cell? ⟨S, 0, none⟩ = some (.int .i64 vs.k) ∧ X.cell? ⟨S, 1, none⟩ = some (.int .u64 (vs.i : Nat)) ∧ X.cell? ⟨S, 2, none⟩ = some (.slice vs.op vs.np vs.cp) ∧ X.cell? ⟨S, 3, none⟩ = some (.slice vs.ok vs.nk vs.ck)) := fun X hk => ⟨(HP.out X hk).1, (HP.out X hk).2.1, (HP.out X hk).2.2.1, (HP.out X hk).2.2.2, (HCL.out X (HCK.out.trans hk)).1.1, (HCL.out X (HCK.out.trans hk)).1.2.1, (HCL.out X (HCK.out.trans hk)).1.2.2.1, (HCL.out X (HCK.out.trans hk)).1.2.2.2, (HQ2.out X hk).1, (HQ2.out X hk).2.1, (HQ2.out X hk).2.2.1, (HQ2.out X hk).2.2.2, (HCL.out X (HCK.out.trans hk)).2.1, (HCL.out X (HCK.out.trans hk)).2.2.1, (HCL.out X (HCK.out.trans hk)).2.2.2.1, (HCL.out X (HCK.out.trans hk)).2.2.2.2⟩
    obtain ⟨y0, y1, y2, y3, y4, y5, y6, y7, y8, y9, y10, y11, y12, y13, y14, y15⟩ := HST.out wK (Keeps.refl _ _)
    have z0 := cell_regrown y0
    have z1 := cell_regrown y1
    have z2 := cell_regrown y2
    have z3 := cell_regrown y3
    have z4 := cell_regrown y4
    have z5 := cell_regrown y5
    have z6 := cell_regrown y6
    have z7 := cell_regrown y7
    have z8 := cell_regrown y8
    have z9 := cell_regrown y9
    have z10 := cell_regrown y10
    have z11 := cell_regrown y11
    have z12 := cell_regrown y12
    have z13 := cell_regrown y13
    have z14 := cell_regrown y14
    have z15 := cell_regrown y15
    have cS1 := same_grown (W := wK) (v := a1) (v' := vr) (r := r) (fun X hX => ⟨HC1.out.keepsN hX, (HIS.out X (HCK.out.trans hX)).1⟩)
    have cS2 := same_grown (W := wK) (v := a2) (v' := vs) (r := s) (fun X hX => ⟨HC2.out.keepsN hX, (HIS.out X (HCK.out.trans hX)).2⟩)
    go_wp2_with fail
    refine wp_region_quiet_below (by kernel_rfl) (by kernel_rfl) ?_
    repeat (go_big_quiet_step (first | (go_at_call_of 18 (Value.agg #[Value.int .i64 a1.k, Value.int .u64 (a1.i : Nat), Value.slice a1.op a1.np a1.cp, Value.slice a1.ok a1.nk a1.ck]); exact cS1 _ _) | (go_at_call_of 18 (Value.agg #[Value.int .i64 a2.k, Value.int .u64 (a2.i : Nat), Value.slice a2.op a2.np a2.cp, Value.slice a2.ok a2.nk a2.ck]); exact cS2 _ _)))
    refine wpQuiet_nil ?_
    intro _ hw'
    obtain ⟨⟨dq, osq⟩, rfl⟩ := hw'
    have K1 : Hid (Keeps no wK (Sort.grow (redrawn wK dq) osq)) := keeps_grown ..
    generalize Sort.grow (redrawn wK dq) osq = u1 at K1 ⊢
    clear y0 z0 y1 z1 y2 z2 y3 z3 y4 z4 y5 z5 y6 z6 y7 z7 y8 z8 y9 z9 y10 z10 y11 z11 y12 z12 y13 z13 y14 z14 y15 z15 cS1 cS2 HST
    go_wp2_with fail
    go_ret
    exact ⟨rfl, ((HK0.out.trans HV1.out).trans HDK.out.kept).trans K1.out⟩
  · -- 1 0
    have hF2 : ((E2 : Int) == 0) = false := by simp; omega
    have hF3 : ¬ (E2 : Int) = 0 := by omega
    have HM2 : Hid ((lsR s).length = 0) := by unfold lsR; rw [if_neg (by rw [← HE2.out]; exact hF)]; rfl
    have hmm := hm2.out.trans HM2.out
    subst hmm
    clear hm2
    go_wp2_with fail
    refine (dn_crash 0 HDI.out rfl (by unfold i64; omega)).mono ?_
    rintro e wJ ⟨rfl, hdj, hkj⟩
    have HDJ : Hid (Dn w1 wJ p FE (crash 0 S2)) := hdj
    have HKJ : Hid (Keeps FE wI wJ) := hkj
    clear hdj hkj HDI
    go_wp2_with fail
    refine (dn_open_no na HDJ.out HT.out (opn_down na.data.toList HTW.out.y2.on 0) (by decide) (by decide) (readB_down na.data.toList HTW.out.y2.on 0)).mono ?_
    rintro e wK ⟨rfl, HDK, HKK⟩
    have HCK : Hid (Keeps no V wK) := HV1.out.trans HDK.out.kept
    clear HDJ
    have HSK : Hid (Scn wG wK oH cH vH [r]) := by
      have h := HSH.out
      unfold lsR at h
      rw [if_pos HE1.out.symm] at h
      exact ((h.keepsF HKI.out HFE.out).keepsF HKJ.out HFE.out).keepsF HKK.out HFE.out
    obtain ⟨gp, rfl, hc⟩ := HSK.out.own.atC0 (by rw [HSK.out.len]; exact Nat.zero_lt_one)
    obtain ⟨d0, d1, d2, d3⟩ := hc 0 (by rw [HSK.out.len]; exact Nat.zero_lt_one)
    have HC1 : Hid (IsC wK (vH.getD 0 cv0) r) := (HSK.out.each 0 Nat.zero_lt_one).isC
    generalize vH.getD 0 cv0 = a1 at d0 d1 d2 d3 HC1
    simp only [Nat.zero_mul, Nat.zero_add] at d0 d1 d2 d3
    have HP : Hid (∀ X, Keeps no wK X → X.cell? ⟨gp, 0, none⟩ = some (.int .i64 a1.k) ∧ X.cell? ⟨gp, 1, none⟩ = some (.int .u64 (a1.i : Nat)) ∧ X.cell? ⟨gp, 2, none⟩ = some (.slice a1.op a1.np a1.cp) ∧ X.cell? ⟨gp, 3, none⟩ = some (.slice a1.ok a1.nk a1.ck)) := fun X hk => ⟨hk.cellN d0, hk.cellN d1, hk.cellN d2, hk.cellN d3⟩
    clear hc d0 d1 d2 d3 HSK
    have HST : Hid (∀ X, Keeps no wK X → X.cell? ⟨gp, 0, none⟩ = some (.int .i64 a1.k) ∧ X.cell? ⟨gp, 1, none⟩ = some (.int .u64 (a1.i : Nat)) ∧ X.cell? ⟨gp, 2, none⟩ = some (.slice a1.op a1.np a1.cp) ∧ X.cell? ⟨gp, 3, none⟩ = some (.slice a1.ok a1.nk a1.ck) ∧ X.cell? ⟨R, 0, none⟩ = some (.int .i64 vr.k) ∧ X.cell? ⟨R, 1, none⟩ = some (.int .u64 (vr.i : Nat)) ∧ X.cell? ⟨R, 2, none⟩ = some (.slice vr.op vr.np vr.cp) ∧ X.cell? ⟨R, 3, none⟩ = some (.slice vr.ok vr.nk vr.ck)) := fun X hk => ⟨(HP.out X hk).1, (HP.out X hk).2.1, (HP.out X hk).2.2.1, (HP.out X hk).2.2.2, (HCL.out X (HCK.out.trans hk)).1.1, (HCL.out X (HCK.out.trans hk)).1.2.1, (HCL.out X (HCK.out.trans hk)).1.2.2.1, (HCL.out X (HCK.out.trans hk)).1.2.2.2⟩
    obtain ⟨y0, y1, y2, y3, y4, y5, y6, y7⟩ := HST.out wK (Keeps.refl _ _)
    have z0 := cell_regrown y0
    have z1 := cell_regrown y1
    have z2 := cell_regrown y2
    have z3 := cell_regrown y3
    have z4 := cell_regrown y4
    have z5 := cell_regrown y5
    have z6 := cell_regrown y6
    have z7 := cell_regrown y7
    have cS1 := same_grown (W := wK) (v := a1) (v' := vr) (r := r) (fun X hX => ⟨HC1.out.keepsN hX, (HIS.out X (HCK.out.trans hX)).1⟩)
    go_wp2_with fail
    refine wp_region_quiet_below (by kernel_rfl) (by kernel_rfl) ?_
    repeat (go_big_quiet_step (first | (go_at_call_of 18 (Value.agg #[Value.int .i64 a1.k, Value.int .u64 (a1.i : Nat), Value.slice a1.op a1.np a1.cp, Value.slice a1.ok a1.nk a1.ck]); exact cS1 _ _)))
    refine wpQuiet_nil ?_
    intro _ hw'
    obtain ⟨⟨dq, osq⟩, rfl⟩ := hw'
    have K1 : Hid (Keeps no wK (Sort.grow (redrawn wK dq) osq)) := keeps_grown ..
    generalize Sort.grow (redrawn wK dq) osq = u1 at K1 ⊢
    clear y0 z0 y1 z1 y2 z2 y3 z3 y4 z4 y5 z5 y6 z6 y7 z7 cS1 HST
    go_wp2_with fail
    go_ret
    exact ⟨rfl, ((HK0.out.trans HV1.out).trans HDK.out.kept).trans K1.out⟩
end Go.Proofs.YtgamhblkgojapaaDoor
