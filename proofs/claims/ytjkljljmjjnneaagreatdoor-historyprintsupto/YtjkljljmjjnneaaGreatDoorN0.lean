/- Ends of requests. -/
import Derived.Test.YtjkljljmjjnneaaGreatDoorW5
namespace Go.Proofs.YtjkljljmjjnneaaGreatDoor
open Go.RowKit Go.Sort Orl
set_option linter.unusedVariables false
set_option linter.unusedSimpArgs false

theorem tx_atN {w : World} {o : Option Addr} {c : Nat} {xs : List Tx} (h : Sl TE w o c xs) {j : Nat} (hj : j < xs.length) : ∃ g off, o = some ⟨g, off, none⟩ ∧ w.cell? ⟨g, off + j, none⟩ = some (.string (xs.getD j e0)) := h.at hj
def toB (r s : RE) : Bool := decide (r.kind = 3) && decide (r.client = s.client) && decide (r.txn = s.txn)
def endsWB (q : Int) (ai vn id : Nat) : Bool := if ai = id then if vn = 0 then if q = 5 then decide (id = 0) else if q = 6 then decide (id = 0) else if q = 1 then !decide (id = 0) else if q = 3 then !decide (id = 0) else if q = 4 then !decide (id = 0) else false else false else false
def areB (vs : List Ver) (ks : List Tx) : Bool := decide (vs.map (·.key) = ks)
def endsRB (q : Int) (ai : Nat) (vs : List Ver) (ks : List Tx) (next : Bool) : Bool := if ai = 0 then if q = 1 then areB vs ks else if q = 2 then decide (vs.length = 0) else if q = 3 then decide (vs.length = 0) else if q = 5 then next && decide (vs.length = 0) else false else false
set_option maxRecDepth 10000 in
set_option maxHeartbeats 4000000 in
theorem answersTo_any (w : World) (r s : RE) : Calls Tryz.prog 55 #[aggE r, aggE s] w fun e w' => e = .returned (.bool (toB r s)) ∧ Keeps no w w' := by
  obtain ⟨ek, ecl, et, ei, po, pn, pc, ko, kn, kc, ax, ar, ai, vo, vn, vc⟩ := r
  obtain ⟨fk, fcl, ft, fi, qo, qn, qc, lo, ln, lc, bx, br, bi, uo, un, uc⟩ := s
  unfold aggE cellsE
  have HK : Hid (∀ a b s t, Keeps no w ((w.alloc (.cells a s)).alloc (.cells b t))) := fun a b s t => ((Keeps.refl _ _).alloc _).alloc _
  have HE : Hid (∀ b1 b2 b3, decide (ek = 3) = b1 → decide (ecl = fcl) = b2 → decide (et = ft) = b3 → toB ⟨ek, ecl, et, ei, po, pn, pc, ko, kn, kc, ax, ar, ai, vo, vn, vc⟩ ⟨fk, fcl, ft, fi, qo, qn, qc, lo, ln, lc, bx, br, bi, uo, un, uc⟩ = (b1 && b2 && b3)) := by rintro b1 b2 b3 rfl rfl rfl; rfl
  by_cases h1 : ek = 3
  · by_cases h2 : ecl = fcl
    · by_cases h3 : et = ft
      · have h3b : (et == ft) = true := by rw [h3]; exact beq_self_eq_true _
        have HE1 := HE.out _ _ _ (decide_eq_true h1) (decide_eq_true h2) (decide_eq_true h3)
        clear HE
        have HE : Hid (_ = _) := HE1
        clear HE1
        go_enter Tryz.func55, Tryz.ntmps55
        go_wp2_with fail
        go_ret
        exact ⟨by rw [HE.out]; rfl, HK.out _ _ _ _⟩
      · have h3b : (et == ft) = false := by rw [beq_eq_false_iff_ne]; exact h3
        have HE1 := HE.out _ _ _ (decide_eq_true h1) (decide_eq_true h2) (decide_eq_false h3)
        clear HE
        have HE : Hid (_ = _) := HE1
        clear HE1
        go_enter Tryz.func55, Tryz.ntmps55
        go_wp2_with fail
        go_ret
        exact ⟨by rw [HE.out]; rfl, HK.out _ _ _ _⟩
    · have HE1 := HE.out _ _ _ (decide_eq_true h1) (decide_eq_false h2) rfl
      clear HE
      have HE : Hid (_ = _) := HE1
      clear HE1
      go_enter Tryz.func55, Tryz.ntmps55
      go_wp2_with fail
      go_ret
      exact ⟨by rw [HE.out]; rfl, HK.out _ _ _ _⟩
  · have HE1 := HE.out _ _ _ (decide_eq_false h1) rfl rfl
    clear HE
    have HE : Hid (_ = _) := HE1
    clear HE1
    go_enter Tryz.func55, Tryz.ntmps55
    go_wp2_with fail
    go_ret
    exact ⟨by rw [HE.out]; rfl, HK.out _ _ _ _⟩
set_option maxRecDepth 10000 in
set_option maxHeartbeats 4000000 in
theorem endsWrite_any (w : World) (x q : Int) (ai : Nat) (vo : Option Addr) (vn vc id : Nat) (hb : (vn : Int) ≤ 2199023255500) :
    Calls Tryz.prog 56 #[.agg #[.int .i64 x, .int .i64 q, .int .u64 (ai : Nat), .slice vo vn vc], .int .u64 (id : Nat)] w fun e w' => e = .returned (.bool (endsWB q ai vn id)) ∧ Keeps no w w' := by
  have HK : Hid (∀ cs t, Keeps no w (w.alloc (.cells cs t))) := fun cs t => (Keeps.refl _ _).alloc _
  obtain ⟨R, hR⟩ : ∃ R, R = endsWB q ai vn id := ⟨_, rfl⟩
  rw [← hR]
  unfold endsWB at hR
  by_cases h1 : ai = id
  · subst h1
    rw [if_pos rfl] at hR
    by_cases h2 : vn = 0
    · subst h2
      rw [if_pos rfl] at hR
      by_cases q5 : q = 5
      · rw [if_pos q5] at hR
        subst q5
        by_cases hi : ai = 0
        · subst hi
          subst hR
          go_enter Tryz.func56, Tryz.ntmps56
          go_wp2_with fail
          go_ret
          exact ⟨rfl, HK.out _ _⟩
        · have hi' : ¬ (ai : Int) = 0 := by omega
          have hib : ((ai : Int) == 0) = false := by rw [beq_eq_false_iff_ne]; exact hi'
          have hic : ((ai : Int) != 0) = true := by rw [bne, hib]; rfl
          rw [decide_eq_false hi] at hR
          subst hR
          go_enter Tryz.func56, Tryz.ntmps56
          go_wp2_with fail
          go_ret
          exact ⟨rfl, HK.out _ _⟩
      ·
        by_cases q6 : q = 6
        · rw [if_neg q5, if_pos q6] at hR
          subst q6
          by_cases hi : ai = 0
          · subst hi
            subst hR
            go_enter Tryz.func56, Tryz.ntmps56
            go_wp2_with fail
            go_ret
            exact ⟨rfl, HK.out _ _⟩
          · have hi' : ¬ (ai : Int) = 0 := by omega
            have hib : ((ai : Int) == 0) = false := by rw [beq_eq_false_iff_ne]; exact hi'
            have hic : ((ai : Int) != 0) = true := by rw [bne, hib]; rfl
            rw [decide_eq_false hi] at hR
            subst hR
            go_enter Tryz.func56, Tryz.ntmps56
            go_wp2_with fail
            go_ret
            exact ⟨rfl, HK.out _ _⟩
        ·
          by_cases q1 : q = 1
          · rw [if_neg q5, if_neg q6, if_pos q1] at hR
            subst q1
            by_cases hi : ai = 0
            · subst hi
              subst hR
              go_enter Tryz.func56, Tryz.ntmps56
              go_wp2_with fail
              go_ret
              exact ⟨rfl, HK.out _ _⟩
            · have hi' : ¬ (ai : Int) = 0 := by omega
              have hib : ((ai : Int) == 0) = false := by rw [beq_eq_false_iff_ne]; exact hi'
              have hic : ((ai : Int) != 0) = true := by rw [bne, hib]; rfl
              rw [decide_eq_false hi] at hR
              subst hR
              go_enter Tryz.func56, Tryz.ntmps56
              go_wp2_with fail
              go_ret
              exact ⟨rfl, HK.out _ _⟩
          ·
            by_cases q3 : q = 3
            · rw [if_neg q5, if_neg q6, if_neg q1, if_pos q3] at hR
              subst q3
              by_cases hi : ai = 0
              · subst hi
                subst hR
                go_enter Tryz.func56, Tryz.ntmps56
                go_wp2_with fail
                go_ret
                exact ⟨rfl, HK.out _ _⟩
              · have hi' : ¬ (ai : Int) = 0 := by omega
                have hib : ((ai : Int) == 0) = false := by rw [beq_eq_false_iff_ne]; exact hi'
                have hic : ((ai : Int) != 0) = true := by rw [bne, hib]; rfl
                rw [decide_eq_false hi] at hR
                subst hR
                go_enter Tryz.func56, Tryz.ntmps56
                go_wp2_with fail
                go_ret
                exact ⟨rfl, HK.out _ _⟩
            ·
              by_cases q4 : q = 4
              · rw [if_neg q5, if_neg q6, if_neg q1, if_neg q3, if_pos q4] at hR
                subst q4
                by_cases hi : ai = 0
                · subst hi
                  subst hR
                  go_enter Tryz.func56, Tryz.ntmps56
                  go_wp2_with fail
                  go_ret
                  exact ⟨rfl, HK.out _ _⟩
                · have hi' : ¬ (ai : Int) = 0 := by omega
                  have hib : ((ai : Int) == 0) = false := by rw [beq_eq_false_iff_ne]; exact hi'
                  have hic : ((ai : Int) != 0) = true := by rw [bne, hib]; rfl
                  rw [decide_eq_false hi] at hR
                  subst hR
                  go_enter Tryz.func56, Tryz.ntmps56
                  go_wp2_with fail
                  go_ret
                  exact ⟨rfl, HK.out _ _⟩
              ·
                rw [if_neg q5, if_neg q6, if_neg q1, if_neg q3, if_neg q4] at hR
                subst hR
                go_enter Tryz.func56, Tryz.ntmps56
                go_wp2_with fail
                go_ret
                exact ⟨rfl, HK.out _ _⟩
    · have h2' : ¬ (vn : Int) = 0 := by omega
      rw [if_neg h2] at hR
      subst hR
      go_enter Tryz.func56, Tryz.ntmps56
      go_wp2_with fail
      go_ret
      exact ⟨rfl, HK.out _ _⟩
  · have h1' : ¬ (ai : Int) = (id : Int) := by omega
    rw [if_neg h1] at hR
    subst hR
    go_enter Tryz.func56, Tryz.ntmps56
    go_wp2_with fail
    go_ret
    exact ⟨rfl, HK.out _ _⟩
theorem map_take_key {vs : List Ver} {ks : List Tx} {k : Nat} (hk : k < vs.length) (hl : vs.length = ks.length) (h : (vs.take k).map (·.key) = ks.take k) (he : (vs.getD k v0).key = ks.getD k e0) : (vs.take (k + 1)).map (·.key) = ks.take (k + 1) := by
  rw [take_succ_getD vs k v0 hk, take_succ_getD ks k e0 (by omega), List.map_append, h]
  simp only [List.map_cons, List.map_nil, he]
theorem map_key_getD (vs : List Ver) (k : Nat) (h : k < vs.length) : (vs.map (·.key)).getD k e0 = (vs.getD k v0).key := by
  simp [List.getD_eq_getElem?_getD, h]
theorem textL_inj {a b : Tx} (h : ByteArray.toList a = ByteArray.toList b) : a = b := by
  rw [Lib.toList_data, Lib.toList_data] at h
  rcases a with ⟨⟨a⟩⟩
  rcases b with ⟨⟨b⟩⟩
  exact congrArg (fun l => (⟨⟨l⟩⟩ : ByteArray)) h
set_option maxRecDepth 10000 in
set_option maxHeartbeats 4000000 in
theorem areFor_any (w : World) (vo : Option Addr) (vn vc : Nat) (rv : List RV) (vs : List Ver) (ko : Option Addr) (kn kc : Nat) (ks : List Tx) (hn : vn = vs.length) (hv : Vers w vo vc rv vs) (hm : kn = ks.length) (hk : Sl TE w ko kc ks) (hb : (vn : Int) ≤ 2199023255500) (hb2 : (kn : Int) ≤ 8796093022000) :
    Calls Tryz.prog 73 #[.slice vo vn vc, .slice ko kn kc] w fun e w' => e = .returned (.bool (areB vs ks)) ∧ Keeps no w w' := by
  have HV : Hid (vn = vs.length ∧ Vers w vo vc rv vs ∧ kn = ks.length ∧ Sl TE w ko kc ks) := ⟨hn, hv, hm, hk⟩
  clear hn hv hm hk
  obtain ⟨R, hR⟩ : ∃ R, R = areB vs ks := ⟨_, rfl⟩
  rw [← hR]
  have HR : Hid (R = decide (vs.map (·.key) = ks)) := hR
  clear hR
  by_cases hl : vn = kn
  · subst hl
    go_enter Tryz.func73, Tryz.ntmps73
    go_wp2_with fail
    go_loopw [14] (fun s14 wr => ∃ k : Nat, k ≤ vn ∧ s14 = .int .i64 (k : Nat) ∧ Hid (Keeps no w wr ∧ (vs.take k).map (·.key) = ks.take k)) (fun s14 _ => vn - (intOf s14).toNat)
    case atStart => exact ⟨0, by omega, rfl, Keeps.refl _ _, rfl⟩
    case round =>
      rename World => wr
      obtain ⟨k, hkk, rfl, HI⟩ := hrel
      by_cases hlt : k < vn
      · have hlt' : (k : Int) < vn := by omega
        have hkl : k < vs.length := by have := HV.out.1; omega
        have hvk := HV.out.2.1.keepsN HI.out.1
        obtain ⟨g, off, ev, c0, c1, c2, c3⟩ := hvk.sl.atV (j := k) (by rw [hvk.len]; exact hkl)
        obtain ⟨d1, -⟩ := HV.out.2.1.each k hkl
        obtain ⟨g2, off2, ek, u0⟩ := tx_atN (HV.out.2.2.2.keepsN HI.out.1) (j := k) (by have := HV.out.1; have := HV.out.2.2.1; omega)
        have HS : Hid ((vs.getD k v0).key = ks.getD k e0 → (vs.take (k + 1)).map (·.key) = ks.take (k + 1)) := fun h => map_take_key hkl (by have := HV.out.1; have := HV.out.2.2.1; omega) HI.out.2 h
        have HNE : Hid ((vs.getD k v0).key ≠ ks.getD k e0 → R = false) := fun h => by
          rw [HR.out, decide_eq_false]
          intro e
          apply h
          rw [← map_key_getD vs k hkl, e]
        rw [d1] at c0
        generalize (vs.getD k v0).key = a at c0 HS HNE
        generalize ks.getD k e0 = b at u0 HS HNE
        generalize rv.getD k r0 = r at c1 c2 c3
        subst ev ek
        have HN : Hid (∀ cs t, Keeps no w (wr.alloc (.cells cs t))) := fun cs t => HI.out.1.trans ((Keeps.refl _ _).alloc _)
        clear d1 hvk hkl
        by_cases hab : a = b
        · have hbb : (ByteArray.toList a == ByteArray.toList b) = true := by rw [hab]; exact beq_self_eq_true _
          have HSS : Hid ((vs.take (k + 1)).map (·.key) = ks.take (k + 1)) := HS.out hab
          clear HS HNE
          subst hab
          go_upto_region 6 with fail
          have HW : Hid (∀ W, W = wr.alloc (.cells #[.string a, .int .u64 (r.id : Nat), .string r.val, .slice r.o r.n r.c] 56) → Keeps no w W ∧ W.cell? ⟨wr.heap.size, 0, none⟩ = some (.string a) ∧ W.cell? ⟨g2, off2 + k, none⟩ = some (.string a)) := by
            rintro W rfl
            exact ⟨HN.out _ _, cell_of_blk (blk_new wr _) 0, ((Keeps.refl _ _).alloc _ : Keeps no wr _).cellN u0⟩
          have hw := HW.out _ rfl
          clear HW HN u0 c0 c1 c2 c3
          generalize wr.alloc (.cells #[.string a, .int .u64 (r.id : Nat), .string r.val, .slice r.o r.n r.c] 56) = w7 at hw ⊢
          generalize wr.heap.size = B7 at hw ⊢
          have a0 := hw.2.1
          have b0 := hw.2.2
          have HK7 : Hid (Keeps no w w7) := hw.1
          clear hw
          go_region
          all_goals (
            go_wp2_with fail
            go_roundw
            case rel => exact ⟨k + 1, by omega, by go_num, by first | exact HK7.out | exact HK7.out.drew, HSS.out⟩
            case measure => first | (simp [intOf]; done) | (simp [intOf]; omega)
          )
        · have hbb : (ByteArray.toList a == ByteArray.toList b) = false := by rw [beq_eq_false_iff_ne]; exact fun e => hab (textL_inj e)
          have HSS : Hid (R = false) := HNE.out hab
          clear HS HNE
          go_upto_region 6 with fail
          have HW : Hid (∀ W, W = wr.alloc (.cells #[.string a, .int .u64 (r.id : Nat), .string r.val, .slice r.o r.n r.c] 56) → Keeps no w W ∧ W.cell? ⟨wr.heap.size, 0, none⟩ = some (.string a) ∧ W.cell? ⟨g2, off2 + k, none⟩ = some (.string b)) := by
            rintro W rfl
            exact ⟨HN.out _ _, cell_of_blk (blk_new wr _) 0, ((Keeps.refl _ _).alloc _ : Keeps no wr _).cellN u0⟩
          have hw := HW.out _ rfl
          clear HW HN u0 c0 c1 c2 c3
          generalize wr.alloc (.cells #[.string a, .int .u64 (r.id : Nat), .string r.val, .slice r.o r.n r.c] 56) = w7 at hw ⊢
          generalize wr.heap.size = B7 at hw ⊢
          have a0 := hw.2.1
          have b0 := hw.2.2
          have HK7 : Hid (Keeps no w w7) := hw.1
          clear hw
          go_region
          all_goals (
            go_wp2_with fail
            go_ret
            exact ⟨by rw [HSS.out]; rfl, by first | exact HK7.out | exact HK7.out.drew⟩
          )
      · have hlt' : ¬ (k : Int) < vn := by omega
        have HE : Hid (R = true) := by
          show _ = _
          rw [HR.out]
          have h := HI.out.2
          rw [List.take_of_length_le (by have := HV.out.1; omega), List.take_of_length_le (by have := HV.out.2.2.1; omega)] at h
          exact decide_eq_true h
        go_wp2_with fail
        go_ret
        exact ⟨by rw [HE.out]; rfl, HI.out.1⟩
  · have hl' : ¬ (vn : Int) = (kn : Int) := by omega
    have hlb : ((vn : Int) != (kn : Int)) = true := by rw [bne_iff_ne]; exact hl'
    have HE : Hid (R = false) := by
      show _ = _
      rw [HR.out, decide_eq_false]
      intro e
      have := congrArg List.length e
      rw [List.length_map, ← HV.out.1, ← HV.out.2.2.1] at this
      exact hl this
    go_enter Tryz.func73, Tryz.ntmps73
    go_wp2_with fail
    go_ret
    exact ⟨by rw [HE.out]; rfl, Keeps.refl _ _⟩
set_option maxRecDepth 10000 in
set_option maxHeartbeats 4000000 in
theorem endsRead_any (w : World) (x q : Int) (ai : Nat) (vo : Option Addr) (vn vc : Nat) (rv : List RV) (vs : List Ver) (ko : Option Addr) (kn kc : Nat) (ks : List Tx) (nx : Bool) (hn : vn = vs.length) (hv : Vers w vo vc rv vs) (hm : kn = ks.length) (hk : Sl TE w ko kc ks) (hb : (vn : Int) ≤ 2199023255500) (hb2 : (kn : Int) ≤ 8796093022000) :
    Calls Tryz.prog 57 #[.agg #[.int .i64 x, .int .i64 q, .int .u64 (ai : Nat), .slice vo vn vc], .slice ko kn kc, .bool nx] w fun e w' => e = .returned (.bool (endsRB q ai vs ks nx)) ∧ Keeps no w w' := by
  have HK : Hid (∀ cs t, Keeps no w (w.alloc (.cells cs t))) := fun cs t => (Keeps.refl _ _).alloc _
  have HA : Hid (∀ W, Keeps no w W → Calls Tryz.prog 73 #[.slice vo vn vc, .slice ko kn kc] W fun e w' => e = .returned (.bool (areB vs ks)) ∧ Keeps no W w') := fun W hW => areFor_any W vo vn vc rv vs ko kn kc ks hn (hv.keepsN hW) hm (hk.keepsN hW) hb hb2
  obtain ⟨R, hR⟩ : ∃ R, R = endsRB q ai vs ks nx := ⟨_, rfl⟩
  rw [← hR]
  unfold endsRB at hR
  rw [← hn] at hR
  clear hn hv hm hk
  by_cases h1 : ai = 0
  · subst h1
    rw [if_pos rfl] at hR
    by_cases q1 : q = 1
    · rw [if_pos q1] at hR
      subst q1
      rw [← hR] at HA
      clear hR
      go_enter Tryz.func57, Tryz.ntmps57
      go_wp2_with fail
      refine (HA.out _ (HK.out _ _)).mono ?_
      rintro e w2 ⟨rfl, hk2⟩
      go_wp2_with fail
      go_ret
      exact ⟨rfl, (HK.out _ _).trans hk2⟩
    · by_cases q2 : q = 2
      · rw [if_neg q1, if_pos q2] at hR
        subst q2
        by_cases h2 : vn = 0
        · subst h2
          rw [decide_eq_true rfl] at hR
          subst hR
          go_enter Tryz.func57, Tryz.ntmps57
          go_wp2_with fail
          go_ret
          exact ⟨rfl, HK.out _ _⟩
        · have h2' : ¬ (vn : Int) = 0 := by omega
          have h2b : ((vn : Int) == 0) = false := by rw [beq_eq_false_iff_ne]; exact h2'
          rw [decide_eq_false h2] at hR
          subst hR
          go_enter Tryz.func57, Tryz.ntmps57
          go_wp2_with fail
          go_ret
          exact ⟨rfl, HK.out _ _⟩
      · by_cases q3 : q = 3
        · rw [if_neg q1, if_neg q2, if_pos q3] at hR
          subst q3
          by_cases h2 : vn = 0
          · subst h2
            rw [decide_eq_true rfl] at hR
            subst hR
            go_enter Tryz.func57, Tryz.ntmps57
            go_wp2_with fail
            go_ret
            exact ⟨rfl, HK.out _ _⟩
          · have h2' : ¬ (vn : Int) = 0 := by omega
            have h2b : ((vn : Int) == 0) = false := by rw [beq_eq_false_iff_ne]; exact h2'
            rw [decide_eq_false h2] at hR
            subst hR
            go_enter Tryz.func57, Tryz.ntmps57
            go_wp2_with fail
            go_ret
            exact ⟨rfl, HK.out _ _⟩
        · by_cases q5 : q = 5
          · rw [if_neg q1, if_neg q2, if_neg q3, if_pos q5] at hR
            subst q5
            cases nx with
            | false =>
              rw [Bool.false_and] at hR
              subst hR
              go_enter Tryz.func57, Tryz.ntmps57
              go_wp2_with fail
              go_ret
              exact ⟨rfl, HK.out _ _⟩
            | true =>
              rw [Bool.true_and] at hR
              by_cases h2 : vn = 0
              · subst h2
                rw [decide_eq_true rfl] at hR
                subst hR
                go_enter Tryz.func57, Tryz.ntmps57
                go_wp2_with fail
                go_ret
                exact ⟨rfl, HK.out _ _⟩
              · have h2' : ¬ (vn : Int) = 0 := by omega
                have h2b : ((vn : Int) == 0) = false := by rw [beq_eq_false_iff_ne]; exact h2'
                rw [decide_eq_false h2] at hR
                subst hR
                go_enter Tryz.func57, Tryz.ntmps57
                go_wp2_with fail
                go_ret
                exact ⟨rfl, HK.out _ _⟩
          · rw [if_neg q1, if_neg q2, if_neg q3, if_neg q5] at hR
            subst hR
            go_enter Tryz.func57, Tryz.ntmps57
            go_wp2_with fail
            go_ret
            exact ⟨rfl, HK.out _ _⟩
  · have h1' : ¬ (ai : Int) = 0 := by omega
    rw [if_neg h1] at hR
    subst hR
    go_enter Tryz.func57, Tryz.ntmps57
    go_wp2_with fail
    go_ret
    exact ⟨rfl, HK.out _ _⟩
end Go.Proofs.YtjkljljmjjnneaaGreatDoor
