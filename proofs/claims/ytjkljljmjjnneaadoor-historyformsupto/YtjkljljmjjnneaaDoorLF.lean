/- HistoryForms: the walk. -/
import Derived.Test.YtjkljljmjjnneaaDoorS5
import Derived.Test.YtjkljljmjjnneaaDoorS6
import Derived.Test.YtjkljljmjjnneaaDoorRt
import Derived.Test.YtjkljljmjjnneaaDoorBs
import Derived.Deep.RegionHeld3
import Derived.Laws.BitsAllLaws
namespace Go.Proofs.YtjkljljmjjnneaaDoor
open Go.RowKit Go.Sort Orl
set_option linter.unusedVariables false
set_option linter.unusedSimpArgs false

theorem xor_ne (a b : Nat) (hb : b ≠ 0) : a ^^^ b ≠ a := by
  intro h
  have h2 : a ^^^ (a ^^^ b) = a ^^^ a := by rw [h]
  rw [← Nat.xor_assoc, Nat.xor_self, Nat.zero_xor] at h2
  exact hb h2
set_option maxRecDepth 10000 in
set_option maxHeartbeats 4000000 in
theorem forms_any (w : World) (hv : Vs w) (s : ByteArray) (at' mask : Int) (hs : s.size ≤ 1048576) (hat : I64 at') (hmk : I64 mask) :
    Calls Tryd.prog 3 #[.string s, .int .i64 at', .int .i64 mask] w fun e w' => e = .returned (.bool true) ∧ Keeps no w w' := by
  have HV : Hid (Vs w) := hv
  have HS : Hid (s.size ≤ 1048576 ∧ I64 at' ∧ I64 mask) := ⟨hs, hat, hmk⟩
  have HP := parse_evs w hv s (by omega)
  have HN : Hid (∀ k, parseR s.data.toList = (none, k) → 1 ≤ k ∧ k ≤ s.size) := fun k h => by
    have := parse_none_bound h
    rwa [data_len] at this
  have hsz : (s.size : Int) ≤ 1048576 := by omega
  clear hv hs hat hmk
  go_enter Tryd.func3, Tryd.ntmps3
  go_wp2_with fail
  refine HP.mono ?_
  clear HP
  obtain ⟨p, hp⟩ : ∃ p, p = parseR s.data.toList := ⟨_, rfl⟩
  rw [← hp] at HN ⊢
  have HPP : Hid (p = parseR s.data.toList) := hp
  clear hp
  rcases p with ⟨_ | xs, k⟩
  · have hk := HN.out k rfl
    have hk' : (1 : Int) ≤ k := by omega
    have hk'' : (k : Int) ≤ (s.size : Int) + 1 := by omega
    clear hk HN HPP
    rintro e w1 ⟨hk1, rfl⟩
    have HK : Hid (Calls Tryd.prog 7 #[] w1 fun e w' => e = .returned (.bool true) ∧ Keeps no w1 w') := known_any w1 (HV.out.keepsN hk1)
    have HK1 : Hid (Keeps no w w1) := hk1
    clear hk1
    go_wp2_with fail
    refine HK.out.mono ?_
    rintro e w2 ⟨rfl, hk2⟩
    have HK2 : Hid (Keeps no w w2) := HK1.out.trans hk2
    clear HK hk2
    go_wp2_with fail
    go_ret
    exact ⟨rfl, HK2.out⟩
  · rintro e w1 ⟨hk1, o1, n1, c1, r1, es, rfl, hn1, hE1, hz1, hp1, hl1, hb1⟩
    have HK : Hid (Calls Tryd.prog 7 #[] w1 fun e w' => e = .returned (.bool true) ∧ Keeps no w1 w') := known_any w1 (HV.out.keepsN hk1)
    have HK1 : Hid (Keeps no w w1) := hk1
    have HE : Hid (n1 = es.length ∧ Evs w1 o1 c1 r1 es ∧ SzL es ∧ printV es = .tuple #[.string s, .int .i64 0] ∧ es.length = xs.length) := ⟨hn1, hE1, hz1, hp1, hl1⟩
    clear hk1 hn1 hE1 hz1 hp1 hl1 hb1 HN
    go_wp2_with fail
    refine HK.out.mono ?_
    rintro e w2 ⟨rfl, hk2⟩
    have HK2 : Hid (Keeps no w w2) := HK1.out.trans hk2
    have HPr : Hid (Calls Tryd.prog 8 #[.slice o1 n1 c1] w2 fun E w' => E = .returned (.tuple #[.string s, .int .i64 0]) ∧ Keeps no w2 w') := by
      have h := print_any w2 (HV.out.keepsN HK2.out) o1 n1 c1 r1 es HE.out.1 (HE.out.2.1.keepsN hk2) HE.out.2.2.1
      rw [HE.out.2.2.2.1] at h
      exact h
    have HE2 : Hid (Evs w2 o1 c1 r1 es) := HE.out.2.1.keepsN hk2
    clear HK hk2 HK1
    go_wp2_with fail
    refine HPr.out.mono ?_
    rintro e w3 ⟨rfl, hk3⟩
    have HK3 : Hid (Keeps no w w3) := HK2.out.trans hk3
    have HE3 : Hid (Evs w3 o1 c1 r1 es) := HE2.out.keepsN hk3
    clear HPr hk3 HK2 HE2
    have hbs : (ByteArray.toList s == ByteArray.toList s) = true := beq_self_eq_true _
    by_cases hs0 : s.size = 0
    · have hs0i : (s.size : Int) = 0 := by omega
      have hn0 : n1 = 0 := by
        have h : s.data.toList = [] := List.length_eq_zero_iff.1 (by rw [data_len]; exact hs0)
        have hq := HPP.out
        rw [h] at hq
        rw [HE.out.1, HE.out.2.2.2.2, parse_nil_text hq.symm]
        rfl
      subst hn0
      go_wp2_with fail
      go_ret
      exact ⟨rfl, HK3.out⟩
    · have hs1 : ¬ (s.size : Int) = 0 := by omega
      obtain ⟨m, hm⟩ : ∃ m, s.size = m + 1 := ⟨s.size - 1, by omega⟩
      have hmI : (s.size : Int) = (m : Int) + 1 := by omega
      have HRT : Hid (∀ W, Calls Tryd.prog 9 #[.int .i64 at', .int .i64 (m : Nat)] W fun e w' => e = .returned (.int .i64 ((rst at' m : Nat) : Int)) ∧ w' = W) := fun W => rest_any at' m W HS.out.2.1 (by have := HS.out.1; omega)
      go_wp2_with fail
      refine (HRT.out _).mono ?_
      rintro e e5 ⟨rfl, he5⟩
      subst he5
      have hrl := rst_le at' m
      generalize rst at' m = k1 at hrl ⊢
      have hk1 : k1 < s.size := by omega
      clear HRT
      obtain ⟨cb, w5, hcv, hb5, hk5⟩ := bytesT e5 s
      obtain ⟨B, hB⟩ : ∃ B, B = e5.heap.size := ⟨_, rfl⟩
      rw [← hB] at hcv hb5
      have HB5 : Hid (BsIn w5 B s.data.toList ∧ Keeps no w e5 ∧ Evs e5 o1 c1 r1 es ∧ Keeps no e5 w5 ∧ B = e5.heap.size) := ⟨hb5, HK3.out, HE3.out, hk5, hB⟩
      clear hB
      have hl : k1 < s.data.toList.length := by rw [data_len]; exact hk1
      have y0 := hb5.cell hl
      have f0 := hb5.frozen hl
      clear hb5 hk5 HK3 HE3
      have HRM : Hid (∀ W, Calls Tryd.prog 9 #[.int .i64 mask, .int .i64 254] W fun e w' => e = .returned (.int .i64 ((rst mask 254 : Nat) : Int)) ∧ w' = W) := fun W => rest_any mask 254 W HS.out.2.2 (by decide)
      have hr2 := rst_le mask 254
      generalize rst mask 254 = r2 at HRM hr2
      obtain ⟨C, hC⟩ : ∃ C, C = (s.data.toList.getD k1 0).toNat := ⟨_, rfl⟩
      rw [← hC] at y0
      have hcb : C < 256 := by rw [hC]; exact UInt8.toNat_lt _
      have hxor : bits .xor .u8 (C : Int) (1 + (r2 : Int)) = ((C ^^^ (1 + r2) : Nat) : Int) := u8_xor_nat C (1 + r2) hcb (by omega)
      have HXN : Hid (C ^^^ (1 + r2) ≠ C) := xor_ne C (1 + r2) (by omega)
      have hxl : C ^^^ (1 + r2) < 256 := Nat.xor_lt_two_pow (n := 8) hcb (by omega)
      obtain ⟨V, hV⟩ : ∃ V, V = C ^^^ (1 + r2) := ⟨_, rfl⟩
      rw [← hV] at hxor HXN hxl
      have hwr1 : IntKind.i64.wrap (1 + (r2 : Int)) = 1 + (r2 : Int) := by rw [IntKind.wrap_i64]; omega
      have hwr2 : IntKind.u8.wrap (1 + (r2 : Int)) = 1 + (r2 : Int) := by rw [IntKind.wrap_u8]; omega
      have HCV : Hid (C = (s.data.toList.getD k1 0).toNat ∧ V < 256 ∧ V ≠ C) := ⟨hC, hxl, HXN.out⟩
      clear hC hV hxl HXN
      go_upto_region 13 with fail
      go_cut [] from 74 to 85 (fun wx => wx = (w5.setCell ⟨B, k1, none⟩ (.int .u8 (V : Nat))).drew)
      case first =>
        go_region_with (first | (refine (HRM.out _).mono ?_; rintro e wq ⟨rfl, rfl⟩))
        all_goals (try rw [hwr1, hwr2, hxor])
        all_goals go_wp2_with fail
        all_goals go_meet
        all_goals rfl
      case rest =>
        rename World => w6
        subst hcut
        obtain ⟨l2, hl2⟩ : ∃ l2, l2 = s.data.toList.set k1 (UInt8.ofNat V) := ⟨_, rfl⟩
        have hVB : ((UInt8.ofNat V).toNat : Int) = V := by rw [UInt8.toNat_ofNat', Nat.mod_eq_of_lt HCV.out.2.1]
        have hs6 : BsIn (w5.setCell ⟨B, k1, none⟩ (.int .u8 (V : Nat))) B l2 := by
          have h := HB5.out.1.set hl (UInt8.ofNat V)
          rw [hVB] at h
          rw [hl2]
          exact h
        have HNE : Hid (l2 ≠ s.data.toList) := by
          intro e
          have h := congrArg (fun l => (l.getD k1 0).toNat) (hl2.symm.trans e)
          simp only [List.getD_eq_getElem?_getD, List.getElem?_set_self hl, Option.getD_some] at h
          have h1 := HCV.out.1
          rw [List.getD_eq_getElem?_getD] at h1
          rw [← h1] at h
          have : (UInt8.ofNat V).toNat = V := by rw [UInt8.toNat_ofNat', Nat.mod_eq_of_lt HCV.out.2.1]
          exact HCV.out.2.2 (this.symm.trans h)
        have hl2n : s.size = l2.length := by rw [hl2, List.length_set, data_len]
        have hk6 : Keeps no e5 (w5.setCell ⟨B, k1, none⟩ (.int .u8 (V : Nat))) := HB5.out.2.2.2.1.setCell (.inr (Nat.le_of_eq HB5.out.2.2.2.2.symm)) _
        obtain ⟨w6, hw6⟩ : ∃ w6, w6 = (w5.setCell ⟨B, k1, none⟩ (.int .u8 (V : Nat))).drew := ⟨_, rfl⟩
        rw [← hw6]
        have H6 : Hid (BsIn w6 B l2 ∧ Keeps no w w6 ∧ Evs w6 o1 c1 r1 es) := by
          rw [hw6]
          exact ⟨hs6.keepsN (Keeps.refl _ _).drew, (HB5.out.2.1.trans hk6).drew, HB5.out.2.2.1.keepsN hk6.drew⟩
        clear hw6 hs6 hk6 HB5 hl2 hVB HCV hxor hwr1 hwr2 HRM hr2 y0 f0 hcv
        have hcb2 := H6.out.1.back (m + 1) cb (by omega)
        have HP2 := parse_evs w6 (HV.out.keepsN H6.out.2.1) ⟨l2.toArray⟩ (by show l2.toArray.size ≤ _; rw [List.size_toArray]; have := HS.out.1; omega)
        go_wp2_with fail
        refine HP2.mono ?_
        clear HP2 hcb2
        obtain ⟨p2, hp2⟩ : ∃ p, p = parseR (⟨l2.toArray⟩ : ByteArray).data.toList := ⟨_, rfl⟩
        rw [← hp2]
        clear hp2
        rcases p2 with ⟨_ | xs2, k2⟩
        · rintro e w7 ⟨hk7, rfl⟩
          have HK7 : Hid (Keeps no w w7) := H6.out.2.1.trans hk7
          clear hk7
          go_wp2_with fail
          go_ret
          exact ⟨rfl, HK7.out⟩
        · rintro e w7 ⟨hk7, o7, n7, c7, r7, es2, rfl, hn7, hE7, hz7, hp7, _, _⟩
          have HK7 : Hid (Keeps no w w7) := H6.out.2.1.trans hk7
          have hdec : decide (es = es2) = false := decide_eq_false (fun e => by
            subst e
            have := printV_inj HE.out.2.2.2.1 hp7
            rw [this] at HNE
            exact HNE.out (by simp))
          have HC7 : Hid (Calls Tryd.prog 10 #[.slice o1 n1 c1, .slice o7 n7 c7] w7 fun e w' => e = .returned (.bool false) ∧ Keeps no w7 w') := by
            have h := Same_any w7 o1 n1 c1 o7 n7 c7 r1 r7 es es2 HE.out.1 hn7 (H6.out.2.2.keepsN hk7) hE7 HE.out.2.2.1 hz7
            rw [hdec] at h
            exact h
          clear hk7 hE7 hz7 hp7 hdec hn7
          go_wp2_with fail
          refine HC7.out.mono ?_
          rintro e w8 ⟨rfl, hk8⟩
          have HK8 : Hid (Keeps no w w8) := HK7.out.trans hk8
          clear HC7 hk8
          go_wp2_with fail
          go_ret
          exact ⟨rfl, HK8.out⟩
end Go.Proofs.YtjkljljmjjnneaaDoor
