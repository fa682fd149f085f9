/- WalMemory: its walk. -/
import Derived.Test.YtgamhblkgojapaaDoorGMa
import Derived.Deep.Light
namespace Go.Proofs.YtgamhblkgojapaaDoor
open Go.RowKit Pk Dk
set_option linter.unusedVariables false
set_option linter.unusedSimpArgs false

/-- the statement that a walk leaves -/
structure Kpt (P : Prop) : Prop where
  out : P
def leftBy {P Q : Prop} (_ : Kpt P → Hid False → Q) : Prop := P

set_option maxRecDepth 10000 in
set_option maxHeartbeats 4000000 in
def MemTail : Prop := by
  apply leftBy (Q := ∀ (w : World) (x : Int) (h1 : -9223372036854775808 ≤ x) (h2 : x ≤ 9223372036854775807) (ht : TabIn w), Calls Tryd.prog 4 #[.int .i64 x] w fun e w' => e = .returned (.bool true) ∧ Keeps no w w')
  · intro HOP hF w x h1 h2 ht
    have HT0 : Hid (TabIn w) := ht
    clear ht
    have hand := i64_and16 x
    obtain ⟨J, hJ⟩ : ∃ J : Nat, 1 + x % 65536 = (J : Int) := ⟨(1 + x % 65536).toNat, by omega⟩
    have hJ1 : (1 : Int) ≤ J := by omega
    have hJ2 : (J : Int) ≤ 65536 := by omega
    have hw1 : IntKind.i64.wrap (1 + x % 65536) = (J : Int) := by rw [hJ, IntKind.wrap_i64]; omega
    have hw2 : IntKind.u64.wrap (J : Int) = (J : Int) := by rw [IntKind.wrap_u64]; omega
    obtain ⟨ID, hID⟩ : ∃ ID : Nat, ID = J * 65536 := ⟨_, rfl⟩
    have HID : Hid (ID = J * 65536 ∧ 1 ≤ J ∧ J ≤ 65536) := ⟨hID, by omega, by omega⟩
    have hw5 : (J : Int) * 65536 = (ID : Int) := by omega
    have hw3 : IntKind.u64.wrap ((J : Int) * 2 ^ 16) = (ID : Int) := by rw [IntKind.wrap_u64]; omega
    have hw4 : IntKind.u64.wrap ((J : Int) * 65536) = (ID : Int) := by rw [IntKind.wrap_u64]; omega
    clear hID
    go_enter Tryd.func4, Tryd.ntmps4
    go_wp2_with fail
    refine (alive_any w HT0.out).mono ?_
    rintro e w1 ⟨rfl, hk1⟩
    have HK1 : Hid (Keeps no w w1) := hk1
    have HT : Hid (TabIn w1) := HT0.out.keepsN hk1
    clear hk1 HT0
    go_wp2_with fail
    refine (dn_new w1).mono ?_
    rintro e w2 ⟨p, rfl, HD2, HK2⟩
    generalize (fun k => w1.heap.size ≤ k ∧ k < w2.heap.size) = F0 at HD2
    go_wp2_with fail
    refine (dn_open nlog HD2.out HT.out (opn_gone (s := Dk.new) ⟨rfl, rfl⟩ rfl) (by decide) (by decide)).mono ?_
    rintro e w3 ⟨q0, o3, m3, c3, vs3, rfl, hm, HL3, -, HD3, -⟩
    obtain rfl : m3 = 0 := hm.out
    have HL3' : Hid (IsL w3 q0 p nlog 0 ∧ ¬ F0 q0 ∧ w1.heap.size ≤ q0) := ⟨HL3.out.1, HL3.out.2.2, by have := HL3.out.2.1; have := HK2.out.size; omega⟩
    clear hm HL3 HK2 HD2
    go_wp2_with fail
    obtain ⟨V, hV⟩ : ∃ V, V = (((w3.alloc (.cells #[.string ⟨#[97]⟩, .string ⟨#[98]⟩, .string ⟨#[126, 49]⟩] 9)).alloc (.cells #[.string ⟨#[97]⟩, .string ⟨#[49]⟩, .string ⟨#[98]⟩, .string ⟨#[50]⟩, .string ⟨#[126, 50]⟩, .string ⟨#[]⟩] 50)).alloc (.cells #[.int .i64 1, .int .u64 (ID : Nat), .slice (some ⟨w3.heap.size + 1, 0, none⟩) 3 3, .slice (some ⟨w3.heap.size, 0, none⟩) 3 3] 28)).alloc (.cells #[.int .i64 1, .int .u64 (ID : Nat), .slice (some ⟨w3.heap.size + 1, 0, none⟩) 2 3, .slice (some ⟨w3.heap.size, 0, none⟩) 2 3] 28) := ⟨_, rfl⟩
    obtain ⟨HB, hKV⟩ := mem_made w3 ID hV
    have HKV3 : Hid (Keeps no w3 V) := hKV
    rw [← hV]
    clear hV hKV
    generalize w3.heap.size + 1 + 1 + 1 = gI at HB ⊢
    generalize w3.heap.size + 1 + 1 = gF at HB ⊢
    generalize w3.heap.size + 1 = gP at HB ⊢
    obtain ⟨gK, hgK⟩ : ∃ gK, gK = w3.heap.size := ⟨_, rfl⟩
    have HB' : MadeM w3.heap.size ID gK gP gF gI V := by rw [hgK]; exact HB
    rw [← hgK]
    clear HB
    have HQ0 : Hid (w1.heap.size ≤ q0 ∧ q0 < w3.heap.size ∧ ¬ F0 q0 ∧ (∀ k, F0 k → k < w3.heap.size)) := ⟨HL3'.out.2.2, lt_of_block HL3'.out.1.blk, HL3'.out.2.1, HD3.out.is.lt⟩
    have HBh : Hid (MadeM w3.heap.size ID gK gP gF gI V) := HB'
    clear HB' hgK h1 h2 hand hJ hw1 hw2 hw5 hw3 hw4
    refine (own_v V (inV ID gK gP) (inR J) (HBh.out.isC HID.out.1 HID.out.2.2)).mono ?_
    rintro e w4 ⟨v4, rfl, HG4, HK4⟩
    go_upto_region 13 with fail
    have hbw := blk_new w4 (.cells #[.int .i64 v4.k, .int .u64 (v4.i : Nat), .slice v4.op v4.np v4.cp, .slice v4.ok v4.nk v4.ck] 28)
    have HKV : Hid (Keeps no V (w4.alloc (.cells #[.int .i64 v4.k, .int .u64 (v4.i : Nat), .slice v4.op v4.np v4.cp, .slice v4.ok v4.nk v4.ck] 28))) := HK4.out.alloc _
    have HG5 : Hid (Got V (w4.alloc (.cells #[.int .i64 v4.k, .int .u64 (v4.i : Nat), .slice v4.op v4.np v4.cp, .slice v4.ok v4.nk v4.ck] 28)) v4 (inR J)) := HG4.out.keepsN ((Keeps.refl _ _).alloc _)
    generalize w4.alloc (.cells #[.int .i64 v4.k, .int .u64 (v4.i : Nat), .slice v4.op v4.np v4.cp, .slice v4.ok v4.nk v4.ck] 28) = w5 at hbw HKV HG5 ⊢
    obtain ⟨gW, hgW⟩ : ∃ gW, gW = w4.heap.size := ⟨_, rfl⟩
    have HGW : Hid (V.heap.size ≤ gW ∧ w3.heap.size ≤ V.heap.size ∧ gI < V.heap.size) := ⟨by rw [hgW]; exact HK4.out.size, HKV3.out.size, lt_of_block HBh.out.i⟩
    rw [← hgW] at hbw ⊢
    clear hgW HG4 HK4
    have HW5 : Hid (w5.heap[gW]? = some (.cells #[.int .i64 v4.k, .int .u64 (v4.i : Nat), .slice v4.op v4.np v4.cp, .slice v4.ok v4.nk v4.ck] 28 (0, 0))) := hbw
    clear hbw
    have HB5 : Hid (MadeM w3.heap.size ID gK gP gF gI w5) := HBh.out.keepsN HKV.out
    have HN5 : Hid (Keeps no w3 w5) := HKV3.out.trans HKV.out
    have HD5 : Hid (Dn w1 w5 p F0 (ts nlog.data.toList none)) := HD3.out.beside HN5.out
    have HL5 : Hid (IsL w5 q0 p nlog 0) := HL3'.out.1.keeps HN5.out (fun h => h)
    clear HD3 HL3' HBh
    have HR1 : Hid (Gd (inR J)) := inR_gd HID.out.2.1 HID.out.2.2
    have HA1 : Hid (apd nlog.data.toList (inR J) (ts nlog.data.toList none) = (ts nlog.data.toList (some (fl (rb [inR J]))), 0)) := ms_apd nlog_good none [] rfl HR1.out
    obtain ⟨i0, i1, i2, i3⟩ := cells4 HB5.out.i
    go_wp2_with fail
    refine (dn_log nlog (inV ID gK gP) HD5.out HT.out HL5.out HQ0.out.2.2.1 HQ0.out.1 (HB5.out.isC HID.out.1 HID.out.2.2) HA1.out (k' := (enc (inR J)).length) (by rw [if_pos rfl, Nat.zero_add]) (by decide) (by decide) (fun _ => fit_of (by rw [ts_bs]; have := HR1.out.enc_len; simp only [bsX, List.length_nil]; omega))).mono ?_
    rintro e w6 ⟨rfl, HD6, HL6, HK6⟩
    have HC5 : Hid (w5.heap.size ≤ w6.heap.size ∧ gW < w5.heap.size) := ⟨HK6.out.size, lt_of_block HW5.out⟩
    have HGWL : Hid (gW < w5.heap.size) := lt_of_block HW5.out
    have HGL : Hid (∀ k, v4.blk k → k < w5.heap.size) := HG5.out.lt
    have HS6 : Hid (∀ k, w3.heap.size ≤ k → ¬ (F0 k ∨ k = q0)) := fun k hk h => by
      have := HQ0.out
      rcases h with h | h
      · have := this.2.2.2 k h; omega
      · omega
    have HB6 : Hid (MadeM w3.heap.size ID gK gP gF gI w6) := HB5.out.keeps HK6.out HS6.out
    have HW6 : Hid (w6.heap[gW]? = some (.cells #[.int .i64 v4.k, .int .u64 (v4.i : Nat), .slice v4.op v4.np v4.cp, .slice v4.ok v4.nk v4.ck] 28 (0, 0))) := HK6.out.at HW5.out (HS6.out gW (by have := HGW.out; omega))
    have HG6 : Hid (Got V w6 v4 (inR J)) := HG5.out.keepsS HK6.out (fun k hk => HS6.out k (by have := HGW.out; omega))
    generalize hF1 : grow F0 w5 w6 = F1 at HD6
    have HF1 : Hid (¬ F1 q0 ∧ ∀ k, F1 k → F0 k ∨ (w5.heap.size ≤ k ∧ k < w6.heap.size)) := by
      rw [← hF1]
      exact ⟨grow_no HQ0.out.2.2.1 (by have := HQ0.out; have := HN5.out.size; omega), fun k h => h⟩
    clear i0 i1 i2 i3 hF1 HD5 HL5 HB5 HW5 HG5 HK6
    go_wp2_with fail
    refine (commit_any w6 9 (by omega)).mono ?_
    rintro e w7 ⟨rfl, hk7⟩
    have HD7 : Hid (Dn w1 w7 p F1 (ts nlog.data.toList (some (fl (rb [inR J]))))) := HD6.out.beside hk7
    have HL7 : Hid (IsL w7 q0 p nlog (enc (inR J)).length) := HL6.out.keeps hk7 (fun h => h)
    have HB7 : Hid (MadeM w3.heap.size ID gK gP gF gI w7) := HB6.out.keepsN hk7
    have HW7 : Hid (w7.heap[gW]? = some (.cells #[.int .i64 v4.k, .int .u64 (v4.i : Nat), .slice v4.op v4.np v4.cp, .slice v4.ok v4.nk v4.ck] 28 (0, 0))) := hk7.at HW6.out (fun h => h)
    have HG7 : Hid (Got V w7 v4 (inR J)) := HG6.out.keepsN hk7
    have HC7 : Hid (w5.heap.size ≤ w7.heap.size ∧ gW < w5.heap.size ∧ w6.heap.size ≤ w7.heap.size) := ⟨by have := HC5.out; have := hk7.size; omega, HC5.out.2, hk7.size⟩
    clear hk7 HD6 HL6 HB6 HW6 HG6 HC5
    have HA2 : Hid (apd nlog.data.toList (cmR 9) (ts nlog.data.toList (some (fl (rb [inR J])))) = (ts nlog.data.toList (some (fl (rb [inR J, cmR 9]))), 0)) := ms_apd nlog_good (some (fl (rb [inR J]))) [inR J] rfl (cmR_gd (q := 9) (by omega) (by omega))
    have HRL : Hid ((rb [inR J]).length = (enc (inR J)).length ∧ (enc (inR J)).length ≤ 1048584) := ⟨by rw [rb_len, rowb1], HR1.out.enc_len⟩
    go_wp2_with fail
    refine (dn_log nlog ⟨2, 589824, none, 0, 0, none, 0, 0⟩ HD7.out HT.out HL7.out HF1.out.1 HQ0.out.1 (cmR_isC w7 (q := 9) (by omega)) HA2.out (k' := (enc (inR J)).length + 17) (by rw [if_pos rfl, cmR_enc]) (by decide) (by have := HRL.out; omega) (fun _ => fit_of (by rw [ts_bs, cmR_enc]; have := HRL.out; simp only [bsX, fl]; omega))).mono ?_
    rintro e w8 ⟨rfl, HD8, HL8, HK8⟩
    have HS8 : Hid (∀ k, w3.heap.size ≤ k → k < w5.heap.size → ¬ (F1 k ∨ k = q0)) := fun k hk hk2 h => by
      rcases h with h | h
      · rcases HF1.out.2 k h with h | h
        · exact HS6.out k hk (.inl h)
        · omega
      · exact HS6.out k hk (.inr h)
    have HB8 : Hid (MadeM w3.heap.size ID gK gP gF gI w8) := HB7.out.keepsB HK8.out (fun k h1 h2 => HS8.out k h1 (by have := HGW.out; have := HC7.out; omega))
    have HW8 : Hid (w8.heap[gW]? = some (.cells #[.int .i64 v4.k, .int .u64 (v4.i : Nat), .slice v4.op v4.np v4.cp, .slice v4.ok v4.nk v4.ck] 28 (0, 0))) := HK8.out.at HW7.out (HS8.out gW (by have := HGW.out; omega) (by have := HC7.out; omega))
    have HG8 : Hid (Got V w8 v4 (inR J)) := HG7.out.keepsT HK8.out (fun k h1 h2 => HS8.out k (by have := HGW.out; omega) (by have := HGL.out k h2; omega))
    have HK8S : Hid (w7.heap.size ≤ w8.heap.size) := HK8.out.size
    generalize hF2 : grow F1 w7 w8 = F2 at HD8
    have HF2 : Hid (¬ F2 q0 ∧ ∀ k, F2 k → k < w3.heap.size ∨ w5.heap.size ≤ k) := by
      rw [← hF2]
      refine ⟨grow_no HF1.out.1 (by have := HQ0.out; have := HN5.out.size; have := HC7.out; omega), fun k h => ?_⟩
      rcases h with h | h
      · rcases HF1.out.2 k h with h | h
        · exact .inl (HQ0.out.2.2.2 k h)
        · exact .inr h.1
      · have := HC7.out; exact .inr (by omega)
    clear hF2 HD7 HL7 HB7 HW7 HG7 HK8 HA2 HA1 HL8
    obtain ⟨i0, i1, i2, i3⟩ := cells4 HB8.out.i
    obtain ⟨g0, g1, g2, g3⟩ := cells4 HW8.out
    go_wp2_with fail
    refine (sameRecord_any w8 1 ID (some ⟨gP, 0, none⟩) 2 3 (some ⟨gK, 0, none⟩) 2 3 (inR J) (HB8.out.isC HID.out.1 HID.out.2.2) v4.k v4.i v4.op v4.np v4.cp v4.ok v4.nk v4.ck (inR J) HG8.out.isC).mono ?_
    rintro e w9 ⟨⟨B, rfl, hB⟩, hk9⟩
    obtain rfl : B = true := hB.out.2 rfl
    have HB9 : Hid (MadeM w3.heap.size ID gK gP gF gI w9) := HB8.out.keepsN hk9
    have HW9 : Hid (w9.heap[gW]? = some (.cells #[.int .i64 v4.k, .int .u64 (v4.i : Nat), .slice v4.op v4.np v4.cp, .slice v4.ok v4.nk v4.ck] 28 (0, 0))) := hk9.at HW8.out (fun h => h)
    have HG9 : Hid (Got V w9 v4 (inR J)) := HG8.out.keepsN hk9
    have HD9 : Hid (Dn w1 w9 p F2 (ts nlog.data.toList (some (fl (rb [inR J, cmR 9]))))) := HD8.out.beside hk9
    have HFZ : Hid (w5.heap.size ≤ w9.heap.size) := by have := HC7.out; have := hk9.size; have := HK8S.out; exact (by omega : w5.heap.size ≤ w9.heap.size)
    clear hB hk9 HB8 HW8 HG8 HD8 i0 i1 i2 i3 g0 g1 g2 g3
    have f2 := cell_of_blk HB9.out.f 2
    have f3 := cell_of_blk HB9.out.f 3
    have k2 := cell_of_blk HB9.out.k 2
    have p4 := cell_of_blk HB9.out.p 4
    have i2 := cell_of_blk HB9.out.i 2
    have i3 := cell_of_blk HB9.out.i 3
    have k0 := cell_of_blk HB9.out.k 0
    have p3 := cell_of_blk HB9.out.p 3
    have z0 := frozen_of_blk HB9.out.k 0
    have z3 := frozen_of_blk HB9.out.p 3
    simp only [List.getElem?_toArray, List.getElem?_cons_zero, List.getElem?_cons_succ] at f2 f3 k2 p4 i2 i3 k0 p3
    go_wp2_with fail
    obtain ⟨wA, hwA⟩ : ∃ wA, wA = (w9.setCell ⟨gK, 0, none⟩ (.string ⟨#[119]⟩)).setCell ⟨gP, 3, none⟩ (.string ⟨#[119]⟩) := ⟨_, rfl⟩
    have HKA : Hid (Keeps (fun k => k = gK ∨ k = gP) w9 wA) := by rw [hwA]; exact ((Keeps.refl _ _).setCell (p := ⟨gK, 0, none⟩) (.inl (.inl rfl)) _).setCell (p := ⟨gP, 3, none⟩) (.inl (.inr rfl)) _
    rw [← hwA]
    clear hwA f2 f3 k2 p4 i2 i3 k0 p3 z0 z3
    have HDD : Hid (w3.heap.size ≤ gK ∧ gK < gP ∧ gP < V.heap.size) := ⟨HB9.out.d.1, HB9.out.d.2.1, by have := HB9.out.d; have := HGW.out; omega⟩
    have HVW : Hid (V.heap.size ≤ w5.heap.size ∧ w1.heap.size ≤ w3.heap.size) := ⟨HKV.out.size, by have := HQ0.out; omega⟩
    have HDA : Hid (Dn w1 wA p F2 (ts nlog.data.toList (some (fl (rb [inR J, cmR 9]))))) := ⟨HD9.out.is.keeps HKA.out (fun k hk h => by have := HF2.out.2 k hk; have := HDD.out; have := HVW.out; rcases h with h | h <;> omega), HD9.out.new, HD9.out.kept.then HKA.out (fun k h => .inr (by have := HDD.out; have := HVW.out; rcases h with h | h <;> omega))⟩
    have HWA : Hid (wA.heap[gW]? = some (.cells #[.int .i64 v4.k, .int .u64 (v4.i : Nat), .slice v4.op v4.np v4.cp, .slice v4.ok v4.nk v4.ck] 28 (0, 0))) := HKA.out.at HW9.out (fun h => by have := HDD.out; have := HGW.out; rcases h with h | h <;> omega)
    have HGA : Hid (Got V wA v4 (inR J)) := HG9.out.keepsS HKA.out (fun k hk h => by have := HDD.out; rcases h with h | h <;> omega)
    have HFA : Hid (∀ k, F2 k → k < wA.heap.size) := HDA.out.is.lt
    have HZA : Hid (w5.heap.size ≤ wA.heap.size) := by have := HFZ.out; have := HKA.out.size; exact (by omega : w5.heap.size ≤ wA.heap.size)
    have HGD : Hid (Gds [inR J, cmR 9]) := gds2 HR1.out (cmR_gd (q := 9) (by omega) (by omega))
    have HLN : Hid ((readB nlog.data.toList (tick (ts nlog.data.toList (some (fl (rb [inR J, cmR 9])))))).length ≤ 1099511627776) := by
      refine Nat.le_trans (readB_le _ _) ?_
      rw [ts_bs]
      have h := rowb_len HGD.out
      simp only [bsX, fl, rb_len]
      simp only [List.length_cons, List.length_nil] at h
      omega
    clear HKA HB9 HW9 HG9 HD9 HS8 HS6 HC7 HRL HF1
    refine (dn_open nlog HDA.out HT.out (ts_open2 _ HGD.out) (by decide) HLN.out).mono ?_
    rintro e wB ⟨qA, oA, mA, cA, vA, rfl, hmA, -, HSA, HDB, HKB⟩
    obtain rfl : mA = 2 := hmA.out
    have HSAL : Hid (∀ k, (inO oA k ∨ (vA.getD 0 cv0).blk k) → wA.heap.size ≤ k ∧ k < wB.heap.size) := fun k h => by
      rcases h with h | h
      · exact ⟨HSA.out.new k h, HSA.out.own.lt k h⟩
      · exact ⟨(HSA.out.each 0 (Nat.zero_lt_succ _)).ge k h, (HSA.out.each 0 (Nat.zero_lt_succ _)).lt k h⟩
    have HWB : Hid (wB.heap[gW]? = some (.cells #[.int .i64 v4.k, .int .u64 (v4.i : Nat), .slice v4.op v4.np v4.cp, .slice v4.ok v4.nk v4.ck] 28 (0, 0))) := HKB.out.at HWA.out (fun h => by have := HF2.out.2 gW h; have := HGW.out; have := HGWL.out; omega)
    have HGB : Hid (Got V wB v4 (inR J)) := HGA.out.keepsT HKB.out (fun k h1 h2 h3 => by have := HF2.out.2 k h3; have := HGW.out; have := HGL.out k h2; omega)
    have HZB : Hid (wA.heap.size ≤ wB.heap.size) := HKB.out.size
    clear hmA HDA HWA HGA HKB
    go_wp2_with fail
    refine (dn_open nlog HDB.out HT.out (ts_open2 _ HGD.out) (by decide) HLN.out).mono ?_
    rintro e wC ⟨qB, oB, mB, cB, vB, rfl, hmB, -, HSB, HDC, HKC⟩
    obtain rfl : mB = 2 := hmB.out
    have HWC : Hid (wC.heap[gW]? = some (.cells #[.int .i64 v4.k, .int .u64 (v4.i : Nat), .slice v4.op v4.np v4.cp, .slice v4.ok v4.nk v4.ck] 28 (0, 0))) := HKC.out.at HWB.out (fun h => by have := HF2.out.2 gW h; have := HGW.out; have := HGWL.out; omega)
    have HGC : Hid (Got V wC v4 (inR J)) := HGB.out.keepsT HKC.out (fun k h1 h2 h3 => by have := HF2.out.2 k h3; have := HGW.out; have := HGL.out k h2; omega)
    have HSA' : Hid (Scn wA wC oA cA vA [inR J, cmR 9]) := HSA.out.keepsF HKC.out HFA.out
    have HZC : Hid (wB.heap.size ≤ wC.heap.size) := HKC.out.size
    clear hmB HDB HWB HGB HKC HSA
    obtain ⟨gA, hoA, hcA⟩ := HSA'.out.own.atC0 (by rw [HSA'.out.len]; exact Nat.zero_lt_succ _)
    obtain ⟨d0, d1, d2, d3⟩ := hcA 0 (by rw [HSA'.out.len]; exact Nat.zero_lt_succ _)
    have HCA : Hid (IsC wC (vA.getD 0 cv0) (inR J)) := (HSA'.out.each 0 (Nat.zero_lt_succ _)).isC
    obtain ⟨a1, ha1⟩ : ∃ a1, a1 = vA.getD 0 cv0 := ⟨_, rfl⟩
    rw [← ha1] at d0 d1 d2 d3 HCA
    have HVA : Hid (a1 = vA.getD 0 cv0) := ha1
    clear ha1
    simp only [Nat.zero_mul, Nat.zero_add] at d0 d1 d2 d3
    obtain ⟨g0, g1, g2, g3⟩ := cells4 HWC.out
    have y0 := cell_regrown d0
    have y1 := cell_regrown d1
    have y2 := cell_regrown d2
    have y3 := cell_regrown d3
    have z0 := cell_regrown g0
    have z1 := cell_regrown g1
    have z2 := cell_regrown g2
    have z3 := cell_regrown g3
    have cS := same_grown (W := wC) (v := a1) (v' := v4) (r := inR J) (fun X hX => ⟨HCA.out.keepsN hX, HGC.out.isC.keepsN hX⟩)
    have cR := sames_grown (W := wC) (oa := oA) (ca := cA) (vs := vA) (ob := oB) (cb := cB) (vs' := vB) (rs := [inR J, cmR 9]) (n := 2) rfl (by decide) (fun X hX => ⟨HSA'.out.rsIn.keepsN hX, HSB.out.rsIn.keepsN hX⟩)
    clear hcA
    subst hoA
    go_wp2_with fail
    refine wp_region_quiet_below (by kernel_rfl) (by kernel_rfl) ?_
    repeat (go_big_quiet_step (first | (go_at_call_of 18 (Value.agg #[Value.int .i64 a1.k, Value.int .u64 (a1.i : Nat), Value.slice a1.op a1.np a1.cp, Value.slice a1.ok a1.nk a1.ck]); exact cS _ _) | (go_at_call_of 15 (Value.slice (some ⟨gA, 0, none⟩) 2 cA); exact cR _ _)))
    refine wpQuiet_nil ?_
    intro _ hw'
    obtain ⟨⟨dq, osq⟩, rfl⟩ := hw'
    have KU : Hid (Keeps no wC (Sort.grow (redrawn wC dq) osq)) := keeps_grown ..
    generalize Sort.grow (redrawn wC dq) osq = u1 at KU ⊢
    clear y0 z0 y1 z1 y2 z2 y3 z3 cS cR d0 d1 d2 d3 g0 g1 g2 g3
    have HDU : Hid (Dn w1 u1 p F2 (ts nlog.data.toList (some (fl (rb [inR J, cmR 9]))))) := HDC.out.beside KU.out
    have HSU : Hid (Scn wA u1 (some ⟨gA, 0, none⟩) cA vA [inR J, cmR 9]) := HSA'.out.keepsN KU.out
    have HSBU : Hid (Scn wB u1 oB cB vB [inR J, cmR 9]) := HSB.out.keepsN KU.out
    have HSBL : Hid (∀ k, (inO oB k ∨ (vB.getD 0 cv0).blk k) → wB.heap.size ≤ k ∧ k < u1.heap.size) := fun k h => by
      rcases h with h | h
      · exact ⟨HSBU.out.new k h, HSBU.out.own.lt k h⟩
      · exact ⟨(HSBU.out.each 0 (Nat.zero_lt_succ _)).ge k h, (HSBU.out.each 0 (Nat.zero_lt_succ _)).lt k h⟩
    have HWU : Hid (u1.heap[gW]? = some (.cells #[.int .i64 v4.k, .int .u64 (v4.i : Nat), .slice v4.op v4.np v4.cp, .slice v4.ok v4.nk v4.ck] 28 (0, 0))) := KU.out.at HWC.out (fun h => h)
    have HGU : Hid (Got V u1 v4 (inR J)) := HGC.out.keepsN KU.out
    have HZU : Hid (wB.heap.size ≤ u1.heap.size ∧ wA.heap.size ≤ wB.heap.size ∧ w5.heap.size ≤ wA.heap.size) := ⟨by have := HZC.out; have := KU.out.size; omega, HZB.out, HZA.out⟩
    clear HDC HSA' HSB HWC HGC KU HZC HZB HCA HZA HVA
    go_wp2_with fail
    refine (dn_open nlog HDU.out HT.out (ts_open2 _ HGD.out) (by decide) HLN.out).mono ?_
    rintro e wE ⟨qE, oE, mE, cE, vE, rfl, hmE, -, HSE, HDE, HKE⟩
    obtain rfl : mE = 2 := hmE.out
    have HSUE : Hid (Scn wA wE (some ⟨gA, 0, none⟩) cA vA [inR J, cmR 9]) := HSU.out.keepsF HKE.out HFA.out
    have HSBE : Hid (Scn wB wE oB cB vB [inR J, cmR 9]) := HSBU.out.keepsF HKE.out (fun k hk => by have := HFA.out k hk; have := HZU.out; omega)
    have HWE : Hid (wE.heap[gW]? = some (.cells #[.int .i64 v4.k, .int .u64 (v4.i : Nat), .slice v4.op v4.np v4.cp, .slice v4.ok v4.nk v4.ck] 28 (0, 0))) := HKE.out.at HWU.out (fun h => by have := HF2.out.2 gW h; have := HGW.out; have := HGWL.out; omega)
    have HGE : Hid (Got V wE v4 (inR J)) := HGU.out.keepsT HKE.out (fun k h1 h2 h3 => by have := HF2.out.2 k h3; have := HGW.out; have := HGL.out k h2; omega)
    have HZE : Hid (u1.heap.size ≤ wE.heap.size) := HKE.out.size
    clear hmE HDU HSU HSBU HWU HGU HKE
    go_wp2_with fail
    refine (sameRecords_any wE oE 2 cE vE [inR J, cmR 9] (some ⟨gA, 0, none⟩) 2 cA vA [inR J, cmR 9] rfl rfl (by decide) (by decide) HSE.out.rsIn HSUE.out.rsIn).mono ?_
    rintro e wF ⟨⟨B, rfl, hB⟩, hkF⟩
    obtain rfl : B = true := hB.out.2 rfl
    have HDF : Hid (Dn w1 wF p F2 (ts nlog.data.toList (some (fl (rb [inR J, cmR 9]))))) := HDE.out.beside hkF
    have HSUF : Hid (Scn wA wF (some ⟨gA, 0, none⟩) cA vA [inR J, cmR 9]) := HSUE.out.keepsN hkF
    have HSEF : Hid (Scn u1 wF oE cE vE [inR J, cmR 9]) := HSE.out.keepsN hkF
    have HSBF : Hid (Scn wB wF oB cB vB [inR J, cmR 9]) := HSBE.out.keepsN hkF
    have HWF : Hid (wF.heap[gW]? = some (.cells #[.int .i64 v4.k, .int .u64 (v4.i : Nat), .slice v4.op v4.np v4.cp, .slice v4.ok v4.nk v4.ck] 28 (0, 0))) := hkF.at HWE.out (fun h => h)
    have HGF : Hid (Got V wF v4 (inR J)) := HGE.out.keepsN hkF
    have HZF : Hid (u1.heap.size ≤ wF.heap.size) := by have := HZE.out; have := hkF.size; exact (by omega : u1.heap.size ≤ wF.heap.size)
    clear hB hkF HDE HSUE HSE HSBE HWE HGE HZE
    go_upto_block 0 with fail
    obtain ⟨gB, hoB, hcB⟩ := HSBF.out.own.atC0 (by rw [HSBF.out.len]; exact Nat.zero_lt_succ _)
    subst hoB
    have HRST : Hid (∃ b1 : CV, (∀ k, b1.blk k → ¬ F2 k) ∧ ∀ W, Keeps (fun k => (wA.heap.size ≤ k ∧ k < wB.heap.size) ∨ u1.heap.size ≤ k) (wF.alloc (.cells #[.slice (some ⟨gA, 0, none⟩) 2 cA, .slice oE 2 cE] 22)) W → Dn w1 W p F2 (ts nlog.data.toList (some (fl (rb [inR J, cmR 9])))) ∧ W.heap[gW]? = some (.cells #[.int .i64 v4.k, .int .u64 (v4.i : Nat), .slice v4.op v4.np v4.cp, .slice v4.ok v4.nk v4.ck] 28 (0, 0)) ∧ IsC W v4 (inR J) ∧ IsC W b1 (inR J) ∧ W.cell? ⟨gB, 0, none⟩ = some (.int .i64 b1.k) ∧ W.cell? ⟨gB, 1, none⟩ = some (.int .u64 (b1.i : Nat)) ∧ W.cell? ⟨gB, 2, none⟩ = some (.slice b1.op b1.np b1.cp) ∧ W.cell? ⟨gB, 3, none⟩ = some (.slice b1.ok b1.nk b1.ck)) := by
      refine ⟨vB.getD 0 cv0, fun k hk h => (by have := HSBL.out k (.inr hk); have := HFA.out k h; have := HZU.out; omega), fun W hk => ?_⟩
      have z := HZU.out
      have hal := (Keeps.refl no wF).alloc (.cells #[.slice (some ⟨gA, 0, none⟩) 2 cA, .slice oE 2 cE] 22)
      have hw1 : w1.heap.size ≤ wA.heap.size := by have := HVW.out; have := HGW.out; omega
      have hgwl := HGWL.out
      have hD : Dn w1 W p F2 (ts nlog.data.toList (some (fl (rb [inR J, cmR 9])))) := by
        have h0 := HDF.out.beside hal
        exact ⟨h0.is.keeps hk (fun k h1 h2 => by have := HFA.out k h1; rcases h2 with h2 | h2 <;> omega), h0.new, h0.kept.then hk (fun k h => .inr (by rcases h with h | h <;> omega))⟩
      have hb0 := (HSBF.out.each 0 (Nat.zero_lt_succ _)).isC.keepsN hal
      obtain ⟨c0, c1, c2, c3⟩ := hcB 0 (by rw [HSBF.out.len]; exact Nat.zero_lt_succ _)
      simp only [Nat.zero_mul, Nat.zero_add] at c0 c1 c2 c3
      have hgB := HSBL.out gB (.inl ⟨_, rfl, rfl⟩)
      have hnB : ¬ ((wA.heap.size ≤ gB ∧ gB < wB.heap.size) ∨ u1.heap.size ≤ gB) := by omega
      refine ⟨hD, hk.at (hal.at HWF.out (fun h => h)) (by omega), ?_, ?_, hk.cell (hal.cellN c0) hnB, hk.cell (hal.cellN c1) hnB, hk.cell (hal.cellN c2) hnB, hk.cell (hal.cellN c3) hnB⟩
      · exact (HGF.out.isC.keepsN hal).keeps hk (fun k h1 h2 => by have := HGL.out k (.inl h1); rcases h2 with h2 | h2 <;> omega) (fun k h1 h2 => by have := HGL.out k (.inr h1); rcases h2 with h2 | h2 <;> omega)
      · exact hb0.keeps hk (fun k h1 h2 => by have := HSBL.out k (.inr (.inl h1)); rcases h2 with h2 | h2 <;> omega) (fun k h1 h2 => by have := HSBL.out k (.inr (.inr h1)); rcases h2 with h2 | h2 <;> omega)
    obtain ⟨b1, hbF, HRSX⟩ := HRST.out
    have HFR : Hid (¬ F2 gW ∧ (∀ k, v4.blk k → ¬ F2 k) ∧ (∀ k, b1.blk k → ¬ F2 k) ∧ ¬ F2 gB) := ⟨fun h => (by have := HF2.out.2 gW h; have := HGW.out; have := HGWL.out; omega), fun k hk h => (by have := HF2.out.2 k h; have := HGF.out.ge k hk; have := HGL.out k hk; have := HGW.out; omega), hbF, fun h => (by have := HSBL.out gB (.inl ⟨_, rfl, rfl⟩); have := HFA.out gB h; have := HZU.out; omega)⟩
    have HRS := (show Hid _ from HRSX)
    have HDUO := (show Hid (∃ S x, _) from duo_start HSUF.out HSEF.out rfl rfl HSAL.out HZU.out.1 HZF.out)
    have HGL0 : Hid (u1.heap.size ≤ wF.heap.size) := HZF
    clear HRST HRSX hbF hcB HSUF HSEF HSBF HWF HGF HDF HSAL HSBL HZF HFA HGWL HGL HGW HVW HDD HFZ HF2 HKV HN5 HKV3 HQ0 HR1 hJ1 hJ2
    obtain ⟨gL, hgL⟩ : ∃ gL, gL = wF.heap.size := ⟨_, rfl⟩
    rw [← hgL] at HDUO ⊢
    clear hgL
    generalize wF.alloc (.cells #[.slice (some ⟨gA, 0, none⟩) 2 cA, .slice oE 2 cE] 22) = W0 at HRS HDUO ⊢
    generalize (fun k => (wA.heap.size ≤ k ∧ k < wB.heap.size) ∨ u1.heap.size ≤ k) = T at HRS HDUO
    clear HK8S HGL0 HZU HID
    rename_i Q_i1 K_i1 a_i1
    revert w x J ID Q_i1 w1 HK1 HT w2 p F0 w3 q0 o3 c3 vs3 V gI gF gP gK w4 v4 w5 gW w6 F1 w7 w8 F2 w9 wA HGD HLN wB qA cA vA wC qB cB vB gA a1 dq osq u1 wE qE oE cE vE wF K_i1 a_i1 gB b1 HFR gL W0 T HRS HDUO
    exact HOP.out
end Go.Proofs.YtgamhblkgojapaaDoor
