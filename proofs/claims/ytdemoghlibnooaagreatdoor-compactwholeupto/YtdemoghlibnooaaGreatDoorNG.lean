import Derived.Test.YtdemoghlibnooaaGreatDoorBD
import Derived.Test.YtdemoghlibnooaaGreatDoorA2
/- Read. -/
namespace Go.Proofs.YtdemoghlibnooaaGreatDoor
open Go.RowKit Go.Maps Go.Sort Orl Pk
set_option linter.unusedVariables false
set_option linter.unusedSimpArgs false

theorem emod_big {v H M : Int} (hM : M = H + H) (h0 : 0 ≤ H) (h1 : H ≤ v) (h2 : v < M) : (v + H) % M - H = v - M := by
  have h3 : (v + H) % M = v + H - M := by
    have e : (v + H - M + M) % M = (v + H - M) % M := Int.add_emod_right _ _
    rw [Int.sub_add_cancel] at e
    rw [e, Int.emod_eq_of_lt (by omega) (by omega)]
  rw [h3]
  omega
theorem emod_small {v H M : Int} (hM : M = H + H) (h1 : 0 ≤ v) (h2 : v < H) : (v + H) % M - H = v := by
  rw [Int.emod_eq_of_lt (by omega) (by omega)]
  omega
theorem wrap_small {v : Int} (h1 : 0 ≤ v) (h2 : v < 9223372036854775808) : wrap64 v = v := by
  unfold wrap64
  exact emod_small (H := 9223372036854775808) (M := 18446744073709551616) (by decide) h1 h2
theorem wrap_big {v : Int} (h1 : 9223372036854775808 ≤ v) (h2 : v < 18446744073709551616) : wrap64 v = v - 18446744073709551616 := by
  unfold wrap64
  exact emod_big (H := 9223372036854775808) (M := 18446744073709551616) (by decide) (by decide) h1 h2
theorem wrap_gen {v : Nat} (h : v < 18446744073709551616) : decide (1 ≤ wrap64 ((v : Nat) : Int)) = genOk v ∧ (genOk v = true → wrap64 ((v : Nat) : Int) = ((v : Nat) : Int)) := by
  by_cases hv : v ≤ 9223372036854775807
  · have e : wrap64 ((v : Nat) : Int) = ((v : Nat) : Int) := wrap_small (by omega) (by omega)
    rw [e]
    refine ⟨?_, fun _ => rfl⟩
    unfold genOk
    rw [decide_eq_decide]
    omega
  · have e := wrap_big (v := ((v : Nat) : Int)) (by omega) (by omega)
    have hg : genOk v = false := by
      unfold genOk
      rw [decide_eq_false_iff_not]
      omega
    rw [e, hg]
    refine ⟨?_, fun h => by cases h⟩
    rw [decide_eq_false_iff_not]
    omega
def HdTo (w : World) (a : Nat) (b : List Nat) (wr : World) (z : Int) (B : Bool) (w' : World) : Prop :=
  B = headOk b ∧ Keeps (eqA a) wr w' ∧ (B = true → z = (((hd3 b).1 : Nat) : Int) ∧ Rt w a (hd3 b).2 w')
set_option maxRecDepth 10000 in
theorem readHead_any {w : World} {a : Nat} {b : List Nat} {wr : World} (h : Rt w a (b, 0) wr) :
    Calls Tryz.prog 154 #[.pointer (some ⟨a, 0, none⟩)] wr fun e w' => ∃ (z : Int) (B : Bool), e = .returned (.tuple #[.int .i64 z, .bool B]) ∧ Hid (HdTo w a b wr z B w') := by
  have HR : Hid (Rt w a (b, 0) wr) := h
  clear h
  go_enter Tryz.func154, Tryz.ntmps154
  go_wp2_with fail
  refine HR.out.u32.mono ?_
  rintro e w1 ⟨v1, rfl, hv1, hb1, H1⟩
  by_cases hm : v1 = 1918987632
  · have HM : Hid ((hd1 b).1 = 1918987632) := (show _ = _ by rw [← hm, hv1.out]; rfl)
    have H1' : Hid (Rt w a (hd1 b).2 w1 ∧ Keeps (eqA a) wr w1) := H1.out
    clear hv1 hb1 H1
    subst v1
    go_wp2_with fail
    refine H1'.out.1.u8.mono ?_
    rintro e w2 ⟨v2, rfl, hv2, hb2, H2⟩
    have H2' : Hid (Rt w a (hd2 b).2 w2 ∧ Keeps (eqA a) w1 w2 ∧ (hd2 b).1 = v2) := ⟨H2.out.1, H2.out.2, hv2.out.symm⟩
    clear hv2 H2 hb2
    go_wp2_with fail
    refine H2'.out.1.u64.mono ?_
    rintro e w3 ⟨v3, rfl, hv3, hb3, H3⟩
    have H3' : Hid (Rt w a (hd3 b).2 w3 ∧ Keeps (eqA a) w2 w3 ∧ (hd3 b).1 = v3) := ⟨H3.out.1, H3.out.2, hv3.out.symm⟩
    clear hv3 H3
    have HG := wrap_gen hb3.out
    obtain ⟨z, hz⟩ : ∃ z, z = wrap64 ((v3 : Nat) : Int) := ⟨_, rfl⟩
    have HZ : Hid (decide (1 ≤ z) = genOk v3 ∧ (genOk v3 = true → z = ((v3 : Nat) : Int))) := by rw [hz]; exact HG
    have HZ2 : Hid (z = wrap64 ((v3 : Nat) : Int)) := hz
    have HMk : Hid (marked b = decide (v2 = 1)) := (show _ = _ by unfold marked; rw [HM.out, H2'.out.2.2]; simp)
    have HK : Hid (Keeps (eqA a) wr w3) := (H1'.out.2.trans H2'.out.2.1).trans H3'.out.2.1
    clear HG hz
    by_cases h2 : v2 = 1
    · have HMk' : Hid (headOk b = genOk v3) := (show _ = _ by unfold headOk; rw [HMk.out, h2, H3'.out.2.2]; simp)
      clear HMk
      subst v2
      go_wp2_with fail
      rw [← HZ2.out]
      go_ret2
      refine ⟨z, decide (1 ≤ z), rfl, ?_, HK.out, fun hB => ⟨?_, H3'.out.1⟩⟩
      · rw [HMk'.out]; exact HZ.out.1
      · rw [H3'.out.2.2]
        exact HZ.out.2 (by rw [← HZ.out.1]; exact hB)
    · have h2' : ¬ ((v2 : Nat) : Int) = 1 := by omega
      have HMk' : Hid (headOk b = false) := (show _ = _ by unfold headOk; rw [HMk.out, decide_eq_false h2]; simp)
      clear HMk
      go_wp2_with fail
      rw [← HZ2.out]
      go_ret2
      exact ⟨z, false, rfl, HMk'.out.symm, HK.out, fun hB => (by cases hB)⟩
  · have hm' : ¬ ((v1 : Nat) : Int) = 1918987632 := by omega
    have HMk' : Hid (headOk b = false) := (show _ = _ by
      have : ¬ (hd1 b).1 = 1918987632 := fun e => hm (by rw [hv1.out]; exact e)
      unfold headOk marked
      rw [decide_eq_false this]
      simp)
    clear hv1 hm
    go_wp2_with fail
    refine H1.out.1.u64.mono ?_
    rintro e w3 ⟨v3, rfl, hv3, hb3, H3⟩
    have HK : Hid (Keeps (eqA a) wr w3) := H1.out.2.trans H3.out.2
    clear hv3
    go_wp2_with fail
    go_ret2
    exact ⟨_, false, rfl, HMk'.out.symm, HK.out, fun hB => (by cases hB)⟩
def BdTo (w : World) (bs : List Nat) (o' : Option Addr) (n' c' : Nat) (B : Bool) (w' : World) : Prop :=
  B = sumOk bs ∧ Keeps no w w' ∧ (B = true → n' = (bodyO bs).length ∧ BSl w' o' c' (bodyO bs))
theorem BSl.keepsN {w w' : World} {a : Option Addr} {c : Nat} {bs : List Nat} (h : BSl w a c bs) (hk : Keeps no w w') : BSl w' a c bs := h.keeps hk (fun _ _ => id)
set_option maxRecDepth 10000 in
theorem bodyOf_any (w : World) (o : Option Addr) (n c : Nat) (bs : List Nat) (hn : n = bs.length) (h : BSl w o c bs) (hlid : bs.length ≤ 140737488355328) (ht : TabIn w) :
    Calls Tryz.prog 152 #[.slice o n c] w fun e w' => ∃ o' n' c' B, e = .returned (.tuple #[.slice o' n' c', .bool B]) ∧ Hid (BdTo w bs o' n' c' B w') := by
  have hnb : (n : Int) ≤ 140737488355328 := by omega
  by_cases h4 : n < 4
  · have h4' : ((n : Nat) : Int) - 4 < 0 := by omega
    have hS : sumOk bs = false := by unfold sumOk; rw [decide_eq_false (by omega)]; simp
    have HS : Hid (sumOk bs = false) := hS
    clear hS hn h hlid ht
    go_enter Tryz.func152, Tryz.ntmps152
    go_wp2_with fail
    go_ret2
    exact ⟨none, 0, 0, false, rfl, HS.out.symm, Keeps.refl _ _, fun hB => (by cases hB)⟩
  · have h4' : ¬ ((n : Nat) : Int) - 4 < 0 := by omega
    obtain ⟨m, hm⟩ : ∃ m, m = n - 4 := ⟨_, rfl⟩
    have hm' : ((n : Nat) : Int) - 4 = ((m : Nat) : Int) := by omega
    obtain ⟨A, d, hcut, hsl, hsub⟩ := cut_h w o c bs n m m rfl hn (by omega) h
    obtain ⟨A', d', hcut', hsl', hsub'⟩ := cut_l w o c bs n m m rfl hn (by omega) h
    have e1 : bs.take m = bodyO bs := by unfold bodyO; rw [hm, hn]
    have e2 : bs.drop m = tailO bs := by unfold tailO; rw [hm, hn]
    rw [e1] at hsl
    rw [e2] at hsl'
    have HB : Hid (n = bs.length ∧ bs.length ≤ 140737488355328 ∧ TabIn w ∧ BSl w A d (bodyO bs) ∧ BSl w A' d' (tailO bs) ∧ m = n - 4) := ⟨hn, hlid, ht, hsl, hsl', hm⟩
    have HL : Hid ((bodyO bs).length = m ∧ (tailO bs).length = n - m ∧ (decide (4 ≤ bs.length)) = true) := ⟨by rw [← e1, List.length_take]; omega, by rw [← e2, List.length_drop]; omega, by rw [decide_eq_true_eq]; omega⟩
    clear hn h hlid ht hsl hsl' hsub hsub' e1 e2 hm
    go_enter Tryz.func152, Tryz.ntmps152
    go_wp2_with fail
    refine (rt_new w A' (n - m) d' (tailO bs) HL.out.2.1.symm HB.out.2.2.2.2.1 (by rw [HL.out.2.1]; have := HB.out.2.1; have := HB.out.1; omega)).mono ?_
    rintro e w1 ⟨a, rfl, H1⟩
    go_wp2_with fail
    refine H1.out.1.u32.mono ?_
    rintro e w2 ⟨v, rfl, hv, hb, H2⟩
    have HK : Hid (Keeps no w w2) := H1.out.2.2.then H2.out.2 (fun b hb => .inr (by have e : b = a := hb; rw [e]; exact H1.out.2.1))
    go_wp2_with fail
    refine (sum_any A m (bodyO bs) d HL.out.1.symm w2 (HB.out.2.2.1.keepsN HK.out) (HB.out.2.2.2.1.keepsN HK.out).row).mono ?_
    rintro e w3 ⟨rfl, hw3⟩
    subst w3
    obtain ⟨S, hS⟩ : ∃ S, S = Crc.sum (bodyO bs) := ⟨_, rfl⟩
    rw [← hS]
    have HS : Hid (sumOk bs = decide (v = S)) := (show _ = _ by unfold sumOk; rw [HL.out.2.2, hv.out, hS]; simp)
    clear hS hv hb
    go_wp2_with fail
    go_ret2
    refine ⟨A, m, d, _, rfl, ?_, HK.out, fun hB => ⟨HL.out.1.symm, HB.out.2.2.2.1.keepsN HK.out⟩⟩
    rw [HS.out]
    by_cases e : v = S
    · subst e; simp
    · have e' : ¬ ((v : Nat) : Int) = ((S : Nat) : Int) := by omega
      rw [decide_eq_false e]; simpa using e'
theorem Ow.base {w0 w1 w : World} {p : Nat} {s : St} {N : Nat} (h : Ow w1 w p s N no) (hk : Keeps no w0 w1) : Ow w0 w p s N no := by
  obtain ⟨T, h, _⟩ := h
  exact ⟨T, ⟨h.is, h.ok, fun b hb => Nat.le_trans hk.size (h.new b hb), hk.trans h.keep⟩, fun b hb => hb.elim⟩
theorem rest_key {now : Int} {ls : List Mk} (hn : Nk ls) (xs : List KV) : (xs.map (restK now ls)).map KV.key = (stk now ls (vts xs)).map KV.key := by
  unfold stk vts
  rw [List.map_map, List.map_map, List.map_map]
  refine List.map_congr_left (fun x _ => ?_)
  simp only [Function.comp, restK, KV.at, KV.key, KV.vt, stM, stOf, lastM_in hn]
  rfl
theorem rest_load (now : Int) (ls : List Mk) (xs : List KV) : okLoad (xs.map (restK now ls)) ls = okLoad (stk now ls (vts xs)) ls ∧ (okLoad (stk now ls (vts xs)) ls = true → loadS (xs.map (restK now ls)) ls = loadS (stk now ls (vts xs)) ls) := by
  cases hr : rising ltl ls with
  | false =>
    rw [okLoad_rising hr, okLoad_rising hr]
    exact ⟨rfl, fun h => by cases h⟩
  | true =>
    have hk := rest_key (now := now) (nk_inc ((rising_iff swoL ls).1 hr)) xs
    exact ⟨okLoad_congr hk ls, fun _ => loadS_congr hk ls⟩
def RdTo (w : World) (bs : List Nat) (now : Int) (e : Ending) (w' : World) : Prop :=
  (tickB now = false ∧ e = .returned (.tuple #[.int .i64 0, .pointer none, .int .i64 1]) ∧ Keeps no w w') ∨
  (tickB now = true ∧ sumOk bs = false ∧ e = .returned (.tuple #[.int .i64 0, .pointer none, .int .i64 90]) ∧ Keeps no w w') ∨
  (tickB now = true ∧ sumOk bs = true ∧ rdOk now bs = false ∧ e = .returned (.tuple #[.int .i64 0, .pointer none, .int .i64 2]) ∧ Keeps no w w') ∨
  (tickB now = true ∧ sumOk bs = true ∧ rdOk now bs = true ∧ ∃ p, e = .returned (.tuple #[.int .i64 ((rdG bs : Nat) : Int), .pointer (some ⟨p, 0, none⟩), .int .i64 0]) ∧ Ow w w' p (rdS now bs) (rdVs (bodyO bs)).1.length no)
set_option maxRecDepth 10000 in
set_option maxHeartbeats 1000000 in
theorem read_any (w : World) (o : Option Addr) (n c : Nat) (bs : List Nat) (now : Int) (hn : n = bs.length) (h : BSl w o c bs) (hlid : bs.length ≤ 140737488355328) (ht : TabIn w) :
    Calls Tryz.prog 105 #[.slice o n c, .int .i64 now] w fun e w' => RdTo w bs now e w' := by
  have hb0 := h.row.1
  have HB := bodyOf_any w o n c bs hn h hlid ht
  have HY : Hid (∀ c ∈ bs, c < 256) := hb0
  have HLN : Hid ((bodyO bs).length ≤ 140737488355328) := (show _ ≤ _ by unfold bodyO; rw [List.length_take]; omega)
  clear hn h hlid ht hb0
  cases htk : tickB now with
  | false =>
    have hor : now < 0 ∨ 1099511627776 < now := by
      have : ¬ (0 ≤ now ∧ now ≤ 1099511627776) := fun hc => by rw [tick_iff.2 hc] at htk; cases htk
      omega
    have HT : Hid (tickB now = false) := htk
    clear htk HB
    rcases hor with h1 | h1
    · go_enter Tryz.func105, Tryz.ntmps105
      go_wp2_with fail
      go_ret3
      exact .inl ⟨HT.out, rfl, Keeps.refl _ _⟩
    · have h0 : ¬ now < 0 := by omega
      go_enter Tryz.func105, Tryz.ntmps105
      go_wp2_with fail
      go_ret3
      exact .inl ⟨HT.out, rfl, Keeps.refl _ _⟩
  | true =>
    have h0 : ¬ now < 0 := by have := (tick_iff.1 htk).1; omega
    have h1 : ¬ 1099511627776 < now := by have := (tick_iff.1 htk).2; omega
    have HT : Hid (tickB now = true) := htk
    clear htk
    go_enter Tryz.func105, Tryz.ntmps105
    go_wp2_with fail
    refine HB.mono ?_
    rintro e w1 ⟨bo, bn, bc, B, rfl, H1⟩
    clear HB h0 h1
    cases B with
    | false =>
      go_wp2_with fail
      go_ret3
      exact .inr (.inl ⟨HT.out, H1.out.1.symm, rfl, H1.out.2.1⟩)
    | true =>
      have HSm : Hid (sumOk bs = true) := H1.out.1.symm
      have H1b := H1.out.2.2 rfl
      have HK1 : Hid (Keeps no w w1) := H1.out.2.1
      have HBd : Hid (bn = (bodyO bs).length ∧ BSl w1 bo bc (bodyO bs)) := H1b
      clear H1 H1b
      go_wp2_with fail
      refine (rt_new w1 bo bn bc (bodyO bs) HBd.out.1 HBd.out.2 HLN.out).mono ?_
      rintro e w2 ⟨a, rfl, H2⟩
      go_wp2_with fail
      refine (readHead_any H2.out.1).mono ?_
      rintro e w3 ⟨z, C, rfl, H3⟩
      have HK3 : Hid (Keeps no w w3) := (HK1.out.trans H2.out.2.2).then H3.out.2.1 (fun b hb => .inr (by have e : b = a := hb; rw [e]; exact Nat.le_trans HK1.out.size H2.out.2.1))
      cases C with
      | false =>
        go_wp2_with fail
        go_ret3
        refine .inr (.inr (.inl ⟨HT.out, HSm.out, ?_, rfl, HK3.out⟩))
        unfold rdOk bodyOk
        rw [← H3.out.1]
        simp
      | true =>
        have H3b := H3.out.2.2 rfl
        obtain ⟨S1, hS1⟩ : ∃ S1, S1 = (hd3 (bodyO bs)).2 := ⟨_, rfl⟩
        rw [← hS1] at H3b
        obtain ⟨RL, hRL⟩ : ∃ RL, RL = rlasts S1 := ⟨_, rfl⟩
        obtain ⟨RV, hRV⟩ : ∃ RV, RV = rvers RL.2 := ⟨_, rfl⟩
        have HH : Hid (headOk (bodyO bs) = true ∧ z = ((rdG bs : Nat) : Int) ∧ Rt w2 a S1 w3) := ⟨H3.out.1.symm, H3b.1, H3b.2⟩
        have HRR : Hid (RL = rdLs (bodyO bs) ∧ RV = rdVs (bodyO bs)) := by
          have e1 : RL = rdLs (bodyO bs) := by rw [hRL, hS1]; rfl
          exact ⟨e1, by rw [hRV, e1]; rfl⟩
        have HA : Hid (w.heap.size ≤ a) := Nat.le_trans HK1.out.size H2.out.2.1
        have HRd := readLasts_any HH.out.2.2
        rw [← hRL] at HRd
        have HQ : Hid (∀ X, Rt w2 a RL.2 X → Calls Tryz.prog 156 #[.pointer (some ⟨a, 0, none⟩)] X fun e w' => ∃ o n c, e = .returned (.slice o n c) ∧ Hid (RdVs w2 a RV X o n c w')) := fun X hX => by
          rw [hRV]
          exact readVersions_any hX
        clear H3 H3b H2 hS1 hRL hRV
        go_wp2_with fail
        refine HRd.mono ?_
        rintro e w4 ⟨lo, ln, lc, rfl, H4⟩
        obtain ⟨ls, hls⟩ := H4.out
        have HL : Hid (ln = ls.length ∧ Own LE w4 lo lc ls ∧ New w3 lo ∧ Rt w2 a RL.2 w4 ∧ Keeps (eqA a) w3 w4 ∧ (RL.2.2 = 0 → ls = RL.1)) := hls
        clear H4 hls HRd
        go_wp2_with fail
        refine (HQ.out w4 HL.out.2.2.2.1).mono ?_
        rintro e w5 ⟨ko, kn, kc, rfl, H5⟩
        obtain ⟨vs, xs, hvs⟩ := H5.out
        have HV : Hid (kn = xs.length ∧ Vl w4 vs xs ko kc w5 ∧ Rt w2 a RV.2 w5 ∧ Keeps (eqA a) w4 w5 ∧ (RV.2.2 = 0 → vs = RV.1)) := hvs
        clear H5 hvs HQ
        have HK5 : Hid (Keeps no w w5) := HK3.out.then (HL.out.2.2.2.2.1.trans HV.out.2.2.2.1) (fun b hb => .inr (by have e : b = a := hb; rw [e]; exact HA.out))
        have HEn := HV.out.2.2.1.end_
        go_wp2_with fail
        refine HEn.mono ?_
        rintro e w6 ⟨E, rfl, hE, hw6⟩
        subst w6
        clear HEn
        by_cases hz : E = 0
        · have HE : Hid (rend0 RV.2 = true) := hE.out.1 hz
          clear hE
          subst E
          have HR0 : Hid (RV.2.2 = 0 ∧ RL.2.2 = 0) := by
            have h1 := HE.out
            unfold rend0 at h1
            simp only [decide_eq_true_eq] at h1
            refine ⟨h1.1, ?_⟩
            have h2 := rvers_stp RL.2 HL.out.2.2.2.1.byt
            have h3 : RV = rvers RL.2 := by rw [HRR.out.2, HRR.out.1]; rfl
            rw [← h3] at h2
            exact (h2.2 HL.out.2.2.2.1.byt h1.1).1
          have HLM := rd_lims (bodyO_byt HY.out)
          rw [← HRR.out.1, ← HRR.out.2, ← HL.out.2.2.2.2.2 HR0.out.2, ← HV.out.2.2.2.2 HR0.out.1] at HLM
          have HLm : Hid (Lims (hd3 (bodyO bs)).1 ls vs) := HLM
          have HRk : Hid (rdOk now bs = okLoad (stk now ls vs) ls ∧ rdS now bs = loadS (stk now ls vs) ls ∧ (rdVs (bodyO bs)).1.length = vs.length) := by
            have e1 : ls = (rdLs (bodyO bs)).1 := by rw [← HRR.out.1]; exact HL.out.2.2.2.2.2 HR0.out.2
            have e2 : vs = (rdVs (bodyO bs)).1 := by rw [← HRR.out.2]; exact HV.out.2.2.2.2 HR0.out.1
            refine ⟨?_, ?_, by rw [e2]⟩
            · unfold rdOk bodyOk rdKs
              rw [HH.out.1, ← HRR.out.2, HE.out, e2, e1, ← HRR.out.2]
              simp
            · unfold rdS rdKs
              rw [e2, e1]
          have HVt : Hid (vts xs = vs ∧ xs.length = vs.length) := ⟨HV.out.2.1.vt, by have := congrArg List.length HV.out.2.1.vt; simpa [vts] using this⟩
          have hlim : ∀ x ∈ xs, LimV x.vt := fun x hx => HLm.out.v _ (by rw [← HVt.out.1]; exact List.mem_map.2 ⟨x, hx, rfl⟩)
          have HXL : Hid (∀ x ∈ xs, LimV x.vt) := hlim
          have hnew : ∀ b, inO lo b → ¬ eqA a b := fun b hb e => by
            have h1 := HL.out.2.2.1 b hb
            have h2 := HH.out.2.2.lt
            have h3 := HH.out.2.2.keep.size
            have e : b = a := e
            omega
          have HSt := stamp_any w5 ko kn kc xs lo ln lc ls now HV.out.1 HL.out.1 (by rw [HVt.out.2]; have := HLm.out.nv; omega) (by have := HLm.out.nl; omega) HV.out.2.1.own (HL.out.2.1.keeps HV.out.2.2.2.1 hnew) (fun l hl => (HLm.out.l l hl).1) (fun x hx => (HXL.out x hx).1)
          have HLo : Hid (Own LE w5 lo lc ls) := HL.out.2.1.keeps HV.out.2.2.2.1 hnew
          clear HLM hlim hnew
          go_wp2_with fail
          refine HSt.mono ?_
          rintro e w6 ⟨rfl, H6⟩
          clear HSt
          have HK6 : Hid (Keeps no w w6) := HK5.out.then H6.out.2 (fun b hb => .inr (Nat.le_trans (HK3.out.then HL.out.2.2.2.2.1 (fun b hb => .inr (by have e : b = a := hb; rw [e]; exact HA.out))).size (HV.out.2.1.new b hb)))
          have hik : InK w6 (xs.map (restK now ls)) := ⟨fun y hy => by
            obtain ⟨x, hx, rfl⟩ := List.mem_map.1 hy
            have h1 := HV.out.2.1.key x hx
            have h2 := HXL.out x hx
            refine ⟨(h1.1.keeps H6.out.2 (fun i hi hj => tags_ne HV.out.2.1.own h1.1 kt_ne i hj hi)).sl, ?_, h2.2.1, ?_, ?_⟩
            · have h3 : x.keys.length ≤ 1024 := h2.2.2.2.1
              show x.keys.length ≤ _
              omega
            · have h3 : x.m.1.size ≤ 65535 := h2.1
              show x.m.1.size ≤ _
              omega
            · have h3 : x.val.size ≤ 65535 := h2.2.2.1
              show x.val.size ≤ _
              omega⟩
          have hsl6 : Own LE w6 lo lc ls := HLo.out.keeps H6.out.2 (fun i hi hj => tags_ne HV.out.2.1.own HLo.out (by decide) i hj hi)
          have HLd := load_any w6 ko kn kc (xs.map (restK now ls)) lo ln lc ls (by rw [List.length_map]; exact HV.out.1) HL.out.1 (by rw [List.length_map, HVt.out.2]; have := HLm.out.nv; omega) (by have := HLm.out.nl; omega) H6.out.1.sl hsl6.sl hik (fun l hl => ⟨by have h1 := (HLm.out.l l hl).1; unfold maxLen; omega, (HLm.out.l l hl).2⟩)
          have hre := rest_load now ls xs
          rw [HVt.out.1, ← HRk.out.1] at hre
          rw [hre.1] at HLd
          have HRe : Hid (rdOk now bs = true → loadS (xs.map (restK now ls)) ls = rdS now bs) := fun h => by rw [HRk.out.2.1]; exact hre.2 h
          have HLD : Hid (Calls Tryz.prog 159 #[.slice ko kn kc, .slice lo ln lc] w6 fun e w' => (rdOk now bs = true → ∃ p, e = .returned (.tuple #[.pointer (some ⟨p, 0, none⟩), .int .i64 0]) ∧ Ow w6 w' p (loadS (xs.map (restK now ls)) ls) (xs.map (restK now ls)).length no) ∧ (rdOk now bs = false → e = .returned (.tuple #[.pointer none, .int .i64 1]) ∧ Keeps no w6 w')) := HLd
          have hzg : z = ((rdG bs : Nat) : Int) := HH.out.2.1
          have HZG : Hid (z = ((rdG bs : Nat) : Int)) := hzg
          clear HLd hre hik hsl6 hzg
          cases hok : rdOk now bs with
          | true =>
            have HOK : Hid (rdOk now bs = true) := hok
            have HLe := HRe.out hok
            clear hok
            go_wp2_with fail
            refine Calls.mono HLD.out ?_
            rintro e w7 ⟨h7, _⟩
            obtain ⟨p, he, h8⟩ := h7 HOK.out
            clear h7
            subst he
            rw [HLe, List.length_map, HVt.out.2, ← HRk.out.2.2] at h8
            have H7 : Hid (Ow w6 w7 p (rdS now bs) (rdVs (bodyO bs)).1.length no) := h8
            clear h8 HLe
            go_wp2_with fail
            rw [HZG.out]
            go_ret3
            exact .inr (.inr (.inr ⟨HT.out, HSm.out, HOK.out, p, rfl, H7.out.base HK6.out⟩))
          | false =>
            have HOK : Hid (rdOk now bs = false) := hok
            clear hok
            go_wp2_with fail
            refine Calls.mono HLD.out ?_
            rintro e w7 ⟨_, h7⟩
            obtain ⟨he, h8⟩ := h7 HOK.out
            clear h7
            subst he
            go_wp2_with fail
            go_ret3
            exact .inr (.inr (.inl ⟨HT.out, HSm.out, HOK.out, rfl, HK6.out.trans h8⟩))
        · have hz' : ¬ ((E : Nat) : Int) = 0 := by omega
          have HE : Hid (rend0 RV.2 = false) := (show _ = _ by
            cases h : rend0 RV.2 with
            | false => rfl
            | true => exact absurd (hE.out.2 h) hz)
          clear hE hz
          go_wp2_with fail
          go_ret3
          refine .inr (.inr (.inl ⟨HT.out, HSm.out, ?_, rfl, HK5.out⟩))
          unfold rdOk bodyOk
          rw [← HRR.out.2, HE.out]
          simp
end Go.Proofs.YtdemoghlibnooaaGreatDoor
