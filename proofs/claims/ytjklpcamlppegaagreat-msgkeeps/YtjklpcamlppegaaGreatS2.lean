/- Same: two messages, field by field. -/
import Derived.Test.YtjklpcamlppegaaGreatS1
namespace Go.Proofs.YtjklpcamlppegaaGreat
open Go.RowKit Go.Sort Orl Pk
set_option linter.unusedVariables false
set_option linter.unusedSimpArgs false

def SameTo (w : World) (m1 m2 : Msg) (e : Ending) (w' : World) : Prop := (∃ B : Bool, e = .returned (.bool B) ∧ Hid (B = true ↔ m1 = m2)) ∧ Keeps no w w'
theorem sameTo_no {w w' : World} {m1 m2 : Msg} (h : m1 ≠ m2) (k : Keeps no w w') : SameTo w m1 m2 (.returned (.bool false)) w' := ⟨⟨false, rfl, ⟨fun h => (by cases h), fun e => absurd e h⟩⟩, k⟩
theorem ver_ext {a b : Ver} (h1 : a.key = b.key) (h2 : a.id = b.id) (h3 : a.val = b.val) (h4 : a.keys = b.keys) : a = b := by
  cases a; cases b; simp only at *; subst h1 h2 h3 h4; rfl
theorem ver_same {w w' : World} {r1 r2 : RV} {v1 v2 : Ver} (h1 : VerOf w r1 v1) (h2 : VerOf w' r2 v2) (e : v1 = v2) : r1.key = r2.key ∧ r1.id = r2.id ∧ r1.val = r2.val := by
  subst e
  exact ⟨h1.key.trans h2.key.symm, h1.id.trans h2.id.symm, h1.val.trans h2.val.symm⟩
theorem msg_ext {a b : Msg} (h1 : a.kind = b.kind) (h2 : a.client = b.client) (h3 : a.req = b.req) (h4 : a.id = b.id) (h5 : a.keys = b.keys) (h6 : a.pairs = b.pairs) (h7 : a.wants = b.wants) (h8 : a.vers = b.vers) : a = b := by
  cases a; cases b; simp only at *; subst h1 h2 h3 h4 h5 h6 h7 h8; rfl

set_option maxRecDepth 20000 in
set_option maxHeartbeats 4000000 in
theorem Same_any (w : World) (k cl : Int) (q i : Nat) (op : Option Addr) (np cp : Nat) (ok : Option Addr) (nk ck : Nat) (ow : Option Addr) (nw cw : Nat) (ov : Option Addr) (nv cv : Nat) (rs : List RV) (m : Msg)
    (h : IsM w k cl q i op np cp ok nk ck ow nw cw ov nv cv rs m)
    (k' cl' : Int) (q' i' : Nat) (op' : Option Addr) (np' cp' : Nat) (ok' : Option Addr) (nk' ck' : Nat) (ow' : Option Addr) (nw' cw' : Nat) (ov' : Option Addr) (nv' cv' : Nat) (rs' : List RV) (m' : Msg)
    (h' : IsM w k' cl' q' i' op' np' cp' ok' nk' ck' ow' nw' cw' ov' nv' cv' rs' m') :
    Calls Tryz.prog 13 #[.agg #[.int .i64 k, .int .i64 cl, .int .u64 (q : Nat), .int .u64 (i : Nat), .slice op np cp, .slice ok nk ck, .slice ow nw cw, .slice ov nv cv], .agg #[.int .i64 k', .int .i64 cl', .int .u64 (q' : Nat), .int .u64 (i' : Nat), .slice op' np' cp', .slice ok' nk' ck', .slice ow' nw' cw', .slice ov' nv' cv']] w (SameTo w m m') := by
  have H : Hid (IsM w k cl q i op np cp ok nk ck ow nw cw ov nv cv rs m) := h
  have H' : Hid (IsM w k' cl' q' i' op' np' cp' ok' nk' ck' ow' nw' cw' ov' nv' cv' rs' m') := h'
  have l1 : np ≤ 4398046511000 := by rw [h.np]; exact h.fit.plen
  have l2 : np' ≤ 4398046511000 := by rw [h'.np]; exact h'.fit.plen
  have l3 : nw ≤ 5864062014700 := by rw [h.nw]; exact h.fit.wlen
  have l4 : nw' ≤ 5864062014700 := by rw [h'.nw]; exact h'.fit.wlen
  have l5 : nv ≤ 2199023255500 := by rw [h.nv]; exact h.fit.vlen
  have l6 : nv' ≤ 2199023255500 := by rw [h'.nv]; exact h'.fit.vlen
  clear h h'
  have k0 : Keeps no w ((w.alloc (.cells #[.int .i64 k, .int .i64 cl, .int .u64 (q : Nat), .int .u64 (i : Nat), .slice op np cp, .slice ok nk ck, .slice ow nw cw, .slice ov nv cv] 29)).alloc (.cells #[.int .i64 k', .int .i64 cl', .int .u64 (q' : Nat), .int .u64 (i' : Nat), .slice op' np' cp', .slice ok' nk' ck', .slice ow' nw' cw', .slice ov' nv' cv'] 29)) := ((Keeps.refl no w).alloc _).alloc _
  have hbA := blk_alloc (blk_new w (.cells #[.int .i64 k, .int .i64 cl, .int .u64 (q : Nat), .int .u64 (i : Nat), .slice op np cp, .slice ok nk ck, .slice ow nw cw, .slice ov nv cv] 29)) (.cells #[.int .i64 k', .int .i64 cl', .int .u64 (q' : Nat), .int .u64 (i' : Nat), .slice op' np' cp', .slice ok' nk' ck', .slice ow' nw' cw', .slice ov' nv' cv'] 29)
  have hbB := blk_new (w.alloc (.cells #[.int .i64 k, .int .i64 cl, .int .u64 (q : Nat), .int .u64 (i : Nat), .slice op np cp, .slice ok nk ck, .slice ow nw cw, .slice ov nv cv] 29)) (.cells #[.int .i64 k', .int .i64 cl', .int .u64 (q' : Nat), .int .u64 (i' : Nat), .slice op' np' cp', .slice ok' nk' ck', .slice ow' nw' cw', .slice ov' nv' cv'] 29)
  have HBA : Hid (_ = _) := hbA
  have HBB : Hid (_ = _) := hbB
  clear hbA hbB
  by_cases g1 : k = k'
  case neg =>
    go_enter Tryz.func13, Tryz.ntmps13
    go_wp2
    go_ret
    exact sameTo_no (fun e => g1 (by rw [H.out.k, H'.out.k, e])) k0
  by_cases g2 : cl = cl'
  case neg =>
    subst g1
    go_enter Tryz.func13, Tryz.ntmps13
    go_wp2
    go_ret
    exact sameTo_no (fun e => g2 (by rw [H.out.cl, H'.out.cl, e])) k0
  by_cases g3 : q = q'
  case neg =>
    subst g1 g2
    have g3' : ¬ (q : Int) = (q' : Int) := by omega
    go_enter Tryz.func13, Tryz.ntmps13
    go_wp2
    go_ret
    exact sameTo_no (fun e => g3 (by rw [H.out.q, H'.out.q, e])) k0
  by_cases g4 : i = i'
  case neg =>
    subst g1 g2 g3
    have g4' : ¬ (i : Int) = (i' : Int) := by omega
    go_enter Tryz.func13, Tryz.ntmps13
    go_wp2
    go_ret
    exact sameTo_no (fun e => g4 (by rw [H.out.i, H'.out.i, e])) k0
  subst g1 g2 g3 g4
  go_enter Tryz.func13, Tryz.ntmps13
  go_wp2_with fail
  refine (sameTexts_any _ ok nk ck ok' nk' ck' m.keys m'.keys H.out.nk H'.out.nk H.out.fit.klen H'.out.fit.klen (H.out.kys.keepsN k0) (H'.out.kys.keepsN k0)).mono ?_
  rintro e w1 ⟨⟨B1, rfl, hB1⟩, hk1⟩
  cases B1 with
  | false =>
    go_wp2
    go_ret
    exact sameTo_no (fun e => by have := hB1.out.2 (by rw [e]); cases this) (k0.trans hk1)
  | true =>
    have hA1 := hk1.at HBA.out (fun h => h)
    have hB1' := hk1.at HBB.out (fun h => h)
    have HKS : Hid (m.keys = m'.keys) := hB1.out.1 rfl
    have HK1 : Hid (Keeps no w w1) := k0.trans hk1
    obtain ⟨A, hA⟩ : ∃ A, A = w.heap.size := ⟨_, rfl⟩
    obtain ⟨Bb, hBb⟩ : ∃ B, B = w.heap.size + 1 := ⟨_, rfl⟩
    have hB1'' : w1.heap[w.heap.size + 1]? = some (.cells #[.int .i64 k, .int .i64 cl, .int .u64 (q : Nat), .int .u64 (i : Nat), .slice op' np' cp', .slice ok' nk' ck', .slice ow' nw' cw', .slice ov' nv' cv'] 29 (0, 0)) := by
      have := hB1'
      simpa using this
    rw [← hBb] at hB1'' ⊢
    rw [← hA] at hA1 ⊢
    have HA1 : Hid (w1.heap[A]? = some (.cells #[.int .i64 k, .int .i64 cl, .int .u64 (q : Nat), .int .u64 (i : Nat), .slice op np cp, .slice ok nk ck, .slice ow nw cw, .slice ov nv cv] 29 (0, 0))) := hA1
    have HB1 : Hid (w1.heap[Bb]? = some (.cells #[.int .i64 k, .int .i64 cl, .int .u64 (q : Nat), .int .u64 (i : Nat), .slice op' np' cp', .slice ok' nk' ck', .slice ow' nw' cw', .slice ov' nv' cv'] 29 (0, 0))) := hB1''
    obtain ⟨x0, x1, x2, x3, x4, x5, x6, x7⟩ := cells8 hA1
    obtain ⟨y0, y1, y2, y3, y4, y5, y6, y7⟩ := cells8 hB1''
    clear hA hBb hB1' hB1 hA1 hB1'' hk1 k0 HBA HBB
    by_cases n1 : np = np'
    case neg =>
      have n1' : ¬ (np : Int) = (np' : Int) := by omega
      go_wp2
      go_ret
      exact sameTo_no (fun e => n1 (by rw [H.out.np, H'.out.np, e])) HK1.out
    by_cases n2 : nw = nw'
    case neg =>
      subst n1
      have n2' : ¬ (nw : Int) = (nw' : Int) := by omega
      go_wp2
      go_ret
      exact sameTo_no (fun e => n2 (by rw [H.out.nw, H'.out.nw, e])) HK1.out
    by_cases n3 : nv = nv'
    case neg =>
      subst n1 n2
      have n3' : ¬ (nv : Int) = (nv' : Int) := by omega
      go_wp2
      go_ret
      exact sameTo_no (fun e => n3 (by rw [H.out.nv, H'.out.nv, e])) HK1.out
    subst n1 n2 n3
    go_wp2_with fail
    go_loopw [5] (fun j wr => ∃ t : Nat, t ≤ np ∧ j = .int .i64 t ∧ Hid (m.pairs.take t = m'.pairs.take t) ∧ Keeps no w1 wr) (fun j _ => np - (intOf j).toNat)
    case atStart => exact ⟨0, by omega, rfl, show m.pairs.take 0 = m'.pairs.take 0 by simp, Keeps.refl _ _⟩
    case round =>
      obtain ⟨t, ht, rfl, HT, hkr⟩ := hrel
      clear x0 x1 x2 x3 x4 x5 x6 x7 y0 y1 y2 y3 y4 y5 y6 y7
      obtain ⟨x0, x1, x2, x3, x4, x5, x6, x7⟩ := cells8 (hkr.at HA1.out (fun h => h))
      obtain ⟨y0, y1, y2, y3, y4, y5, y6, y7⟩ := cells8 (hkr.at HB1.out (fun h => h))
      by_cases h2 : t < np
      · have hta : t < m.pairs.length := by rw [← H.out.np]; exact h2
        have htb : t < m'.pairs.length := by rw [← H'.out.np]; exact h2
        obtain ⟨b1, off1, rfl, d1, d3⟩ := (H.out.prs.keepsN (HK1.out.trans hkr)).atP hta
        obtain ⟨b2, off2, rfl, d2, d4⟩ := (H'.out.prs.keepsN (HK1.out.trans hkr)).atP htb
        rcases hx : m.pairs.getD t p0 with ⟨u1, u2⟩
        rcases hy : m'.pairs.getD t p0 with ⟨v1, v2⟩
        rw [hx] at d1 d3
        rw [hy] at d2 d4
        simp only at d1 d2 d3 d4
        have HX : Hid (m.pairs.getD t p0 = (u1, u2)) := hx
        have HY : Hid (m'.pairs.getD t p0 = (v1, v2)) := hy
        have HTA : Hid (t < m.pairs.length ∧ t < m'.pairs.length) := ⟨hta, htb⟩
        clear hx hy hta htb
        have hq := neqP u1 u2 v1 v2
        by_cases hxy : u1 = v1 ∧ u2 = v2
        · obtain ⟨rfl, rfl⟩ := hxy
          simp only [decide_true, Bool.and_self, Bool.not_true] at hq
          go_wp2
          go_quiet (fail)
          go_wp2
          go_roundw
          case rel =>
            refine ⟨t + 1, by omega, by go_num, ?_, hkr.drewN _⟩
            have := HT.out
            show m.pairs.take (t + 1) = m'.pairs.take (t + 1)
            rw [take_succ_getD m.pairs t p0 HTA.out.1, take_succ_getD m'.pairs t p0 HTA.out.2, this, HX.out, HY.out]
          case measure => simp [intOf] <;> omega
        · have e : (!(decide (u1 = v1) && decide (u2 = v2))) = true := by
            by_cases h1 : u1 = v1 <;> by_cases h2 : u2 = v2 <;> simp [h1, h2] <;> exact hxy ⟨h1, h2⟩
          rw [e] at hq
          have HXY : Hid (¬ (u1 = v1 ∧ u2 = v2)) := hxy
          clear e hxy
          go_wp2
          go_quiet (fail)
          go_wp2
          go_ret
          refine sameTo_no (fun e => ?_) ((HK1.out.trans hkr).drewN _)
          have h := HX.out
          rw [e, HY.out] at h
          injection h with h1 h2
          exact absurd ⟨h1.symm, h2.symm⟩ HXY.out
      · have HPS : Hid (m.pairs = m'.pairs) := by
          have := HT.out
          rwa [List.take_of_length_le (by rw [← H.out.np]; omega), List.take_of_length_le (by rw [← H'.out.np]; omega)] at this
        have HK2 : Hid (Keeps no w wr) := HK1.out.trans hkr
        have HA2 : Hid (wr.heap[A]? = some (.cells #[.int .i64 k, .int .i64 cl, .int .u64 (q : Nat), .int .u64 (i : Nat), .slice op np cp, .slice ok nk ck, .slice ow nw cw, .slice ov nv cv] 29 (0, 0))) := hkr.at HA1.out (fun h => h)
        have HB2 : Hid (wr.heap[Bb]? = some (.cells #[.int .i64 k, .int .i64 cl, .int .u64 (q : Nat), .int .u64 (i : Nat), .slice op' np cp', .slice ok' nk' ck', .slice ow' nw cw', .slice ov' nv cv'] 29 (0, 0))) := hkr.at HB1.out (fun h => h)
        go_wp2_with fail
        rename World => w2
        go_loopw [6] (fun j wr => ∃ t : Nat, t ≤ nw ∧ j = .int .i64 t ∧ Hid (m.wants.take t = m'.wants.take t) ∧ Keeps no w2 wr) (fun j _ => nw - (intOf j).toNat)
        case atStart => exact ⟨0, by omega, rfl, show m.wants.take 0 = m'.wants.take 0 by simp, Keeps.refl _ _⟩
        case round =>
          obtain ⟨t, ht, rfl, HT, hkr⟩ := hrel
          clear x0 x1 x2 x3 x4 x5 x6 x7 y0 y1 y2 y3 y4 y5 y6 y7
          obtain ⟨x0, x1, x2, x3, x4, x5, x6, x7⟩ := cells8 (hkr.at HA2.out (fun h => h))
          obtain ⟨y0, y1, y2, y3, y4, y5, y6, y7⟩ := cells8 (hkr.at HB2.out (fun h => h))
          by_cases h2 : t < nw
          · have hta : t < m.wants.length := by rw [← H.out.nw]; exact h2
            have htb : t < m'.wants.length := by rw [← H'.out.nw]; exact h2
            obtain ⟨b1, off1, rfl, d1, d3⟩ := (H.out.wts.keepsN (HK2.out.trans hkr)).atW hta
            obtain ⟨b2, off2, rfl, d2, d4⟩ := (H'.out.wts.keepsN (HK2.out.trans hkr)).atW htb
            rcases hx : m.wants.getD t w0' with ⟨u1, u2⟩
            rcases hy : m'.wants.getD t w0' with ⟨v1, v2⟩
            rw [hx] at d1 d3
            rw [hy] at d2 d4
            simp only at d1 d2 d3 d4
            have HX : Hid (m.wants.getD t w0' = (u1, u2)) := hx
            have HY : Hid (m'.wants.getD t w0' = (v1, v2)) := hy
            have HTA : Hid (t < m.wants.length ∧ t < m'.wants.length) := ⟨hta, htb⟩
            clear hx hy hta htb
            have hq := neqW u1 v1 u2 v2
            by_cases hxy : u1 = v1 ∧ u2 = v2
            · obtain ⟨rfl, rfl⟩ := hxy
              simp only [decide_true, Bool.and_self, Bool.not_true] at hq
              go_wp2
              go_quiet (fail)
              go_wp2
              go_roundw
              case rel =>
                refine ⟨t + 1, by omega, by go_num, ?_, hkr.drewN _⟩
                have := HT.out
                show m.wants.take (t + 1) = m'.wants.take (t + 1)
                rw [take_succ_getD m.wants t w0' HTA.out.1, take_succ_getD m'.wants t w0' HTA.out.2, this, HX.out, HY.out]
              case measure => simp [intOf] <;> omega
            · have e : (!(decide (u1 = v1) && decide (u2 = v2))) = true := by
                by_cases h1 : u1 = v1 <;> by_cases h2 : u2 = v2 <;> simp [h1, h2] <;> exact hxy ⟨h1, h2⟩
              rw [e] at hq
              have HXY : Hid (¬ (u1 = v1 ∧ u2 = v2)) := hxy
              clear e hxy
              go_wp2
              go_quiet (fail)
              go_wp2
              go_ret
              refine sameTo_no (fun e => ?_) ((HK2.out.trans hkr).drewN _)
              have h := HX.out
              rw [e, HY.out] at h
              injection h with h1 h2
              exact absurd ⟨h1.symm, h2.symm⟩ HXY.out
          · have HWS : Hid (m.wants = m'.wants) := by
              have := HT.out
              rwa [List.take_of_length_le (by rw [← H.out.nw]; omega), List.take_of_length_le (by rw [← H'.out.nw]; omega)] at this
            have HK3 : Hid (Keeps no w wr) := HK2.out.trans hkr
            have HA3 : Hid (wr.heap[A]? = some (.cells #[.int .i64 k, .int .i64 cl, .int .u64 (q : Nat), .int .u64 (i : Nat), .slice op np cp, .slice ok nk ck, .slice ow nw cw, .slice ov nv cv] 29 (0, 0))) := hkr.at HA2.out (fun h => h)
            have HB3 : Hid (wr.heap[Bb]? = some (.cells #[.int .i64 k, .int .i64 cl, .int .u64 (q : Nat), .int .u64 (i : Nat), .slice op' np cp', .slice ok' nk' ck', .slice ow' nw cw', .slice ov' nv cv'] 29 (0, 0))) := hkr.at HB2.out (fun h => h)
            go_wp2_with fail
            rename World => w3
            go_loopw [7] (fun j wr => ∃ t : Nat, t ≤ nv ∧ j = .int .i64 t ∧ Hid (m.vers.take t = m'.vers.take t) ∧ Keeps no w3 wr) (fun j _ => nv - (intOf j).toNat)
            case atStart => exact ⟨0, by omega, rfl, show m.vers.take 0 = m'.vers.take 0 by simp, Keeps.refl _ _⟩
            case round =>
              obtain ⟨t, ht, rfl, HT, hkr⟩ := hrel
              clear x0 x1 x2 x3 x4 x5 x6 x7 y0 y1 y2 y3 y4 y5 y6 y7
              obtain ⟨x0, x1, x2, x3, x4, x5, x6, x7⟩ := cells8 (hkr.at HA3.out (fun h => h))
              obtain ⟨y0, y1, y2, y3, y4, y5, y6, y7⟩ := cells8 (hkr.at HB3.out (fun h => h))
              by_cases h2 : t < nv
              · have hta : t < m.vers.length := by rw [← H.out.nv]; exact h2
                have htb : t < m'.vers.length := by rw [← H'.out.nv]; exact h2
                obtain ⟨b1, off1, rfl, d1, d2, d3, d4⟩ := (H.out.vrs.sl.keepsN (HK3.out.trans hkr)).atV (j := t) (by rw [H.out.vrs.len]; exact hta)
                obtain ⟨b2, off2, rfl, f1, f2, f3, f4⟩ := (H'.out.vrs.sl.keepsN (HK3.out.trans hkr)).atV (j := t) (by rw [H'.out.vrs.len]; exact htb)
                have hv1 := (H.out.vrs.each t hta).keepsN (HK3.out.trans hkr)
                have hv2 := (H'.out.vrs.each t htb).keepsN (HK3.out.trans hkr)
                have hfv1 := H.out.fit.vers _ (getD_mem_lt v0 hta)
                have hfv2 := H'.out.fit.vers _ (getD_mem_lt v0 htb)
                obtain ⟨r1, hr1⟩ : ∃ r, r = rs.getD t r0 := ⟨_, rfl⟩
                obtain ⟨r2, hr2⟩ : ∃ r, r = rs'.getD t r0 := ⟨_, rfl⟩
                rw [← hr1] at d1 d2 d3 d4 hv1
                rw [← hr2] at f1 f2 f3 f4 hv2
                obtain ⟨key1, id1, val1, o1, n1, c1⟩ := r1
                obtain ⟨key2, id2, val2, o2, n2, c2⟩ := r2
                simp only at d1 d2 d3 d4 f1 f2 f3 f4
                obtain ⟨ve1, hve1⟩ : ∃ v, v = m.vers.getD t v0 := ⟨_, rfl⟩
                obtain ⟨ve2, hve2⟩ : ∃ v, v = m'.vers.getD t v0 := ⟨_, rfl⟩
                rw [← hve1] at hv1 hfv1
                rw [← hve2] at hv2 hfv2
                have HV1 : Hid (VerOf wr ⟨key1, id1, val1, o1, n1, c1⟩ ve1 ∧ FitV ve1 ∧ ve1 = m.vers.getD t v0) := ⟨hv1, hfv1, hve1⟩
                have HV2 : Hid (VerOf wr ⟨key2, id2, val2, o2, n2, c2⟩ ve2 ∧ FitV ve2 ∧ ve2 = m'.vers.getD t v0) := ⟨hv2, hfv2, hve2⟩
                have HTA : Hid (t < m.vers.length ∧ t < m'.vers.length) := ⟨hta, htb⟩
                clear hta htb hv1 hv2 hfv1 hfv2 hr1 hr2 hve1 hve2
                go_wp2_with fail
                have ltA : A < wr.heap.size := World.block_lt_of_cell? wr ⟨A, 7, none⟩ x7
                have naA : ¬ wr.heap.size = A := by omega
                have nbA : ¬ A = wr.heap.size := by omega
                have ncA : ¬ wr.heap.size + 1 = A := by omega
                have ndA : ¬ A = wr.heap.size + 1 := by omega
                have ltBb : Bb < wr.heap.size := World.block_lt_of_cell? wr ⟨Bb, 7, none⟩ y7
                have naBb : ¬ wr.heap.size = Bb := by omega
                have nbBb : ¬ Bb = wr.heap.size := by omega
                have ncBb : ¬ wr.heap.size + 1 = Bb := by omega
                have ndBb : ¬ Bb = wr.heap.size + 1 := by omega
                have ltb1 : b1 < wr.heap.size := World.block_lt_of_cell? wr ⟨b1, off1 + t * 4, none⟩ d1
                have nab1 : ¬ wr.heap.size = b1 := by omega
                have nbb1 : ¬ b1 = wr.heap.size := by omega
                have ncb1 : ¬ wr.heap.size + 1 = b1 := by omega
                have ndb1 : ¬ b1 = wr.heap.size + 1 := by omega
                have ltb2 : b2 < wr.heap.size := World.block_lt_of_cell? wr ⟨b2, off2 + t * 4, none⟩ f1
                have nab2 : ¬ wr.heap.size = b2 := by omega
                have nbb2 : ¬ b2 = wr.heap.size := by omega
                have ncb2 : ¬ wr.heap.size + 1 = b2 := by omega
                have ndb2 : ¬ b2 = wr.heap.size + 1 := by omega
                go_region_held3 (fun w' => w'.cell? ⟨A, 7, none⟩ = some (.slice (some ⟨b1, off1, none⟩) nv cv) ∧ w'.cell? ⟨Bb, 7, none⟩ = some (.slice (some ⟨b2, off2, none⟩) nv cv') ∧ w'.cell? ⟨b1, off1 + t * 4, none⟩ = some (.string key1) ∧ w'.cell? ⟨b1, off1 + t * 4 + 1, none⟩ = some (.int .u64 (id1 : Nat)) ∧ w'.cell? ⟨b1, off1 + t * 4 + 2, none⟩ = some (.string val1) ∧ w'.cell? ⟨b1, off1 + t * 4 + 3, none⟩ = some (.slice o1 n1 c1) ∧ w'.cell? ⟨b2, off2 + t * 4, none⟩ = some (.string key2) ∧ w'.cell? ⟨b2, off2 + t * 4 + 1, none⟩ = some (.int .u64 (id2 : Nat)) ∧ w'.cell? ⟨b2, off2 + t * 4 + 2, none⟩ = some (.string val2) ∧ w'.cell? ⟨b2, off2 + t * 4 + 3, none⟩ = some (.slice o2 n2 c2)) (go_keep) ((fail))
                all_goals
                  by_cases e1 : key1 = key2
                  case neg =>
                    have e1' : (key1.toList == key2.toList) = false := by rw [tx_eq]; simpa using e1
                    have E1 : Hid (¬ key1 = key2) := e1
                    clear e1
                    go_wp2
                    go_ret
                    refine sameTo_no (fun e => ?_) (((((HK3.out.trans hkr).alloc _).alloc _)).drew)
                    exact E1.out (ver_same HV1.out.1 HV2.out.1 (by rw [HV1.out.2.2, HV2.out.2.2, e])).1
                  have e1' : (key1.toList == key2.toList) = true := by rw [tx_eq]; simpa using e1
                  by_cases e2 : id1 = id2
                  case neg =>
                    have e2' : ¬ (id1 : Int) = (id2 : Int) := by omega
                    have E2 : Hid (¬ id1 = id2) := e2
                    clear e2
                    go_wp2
                    go_ret
                    refine sameTo_no (fun e => ?_) (((((HK3.out.trans hkr).alloc _).alloc _)).drew)
                    exact E2.out (ver_same HV1.out.1 HV2.out.1 (by rw [HV1.out.2.2, HV2.out.2.2, e])).2.1
                  by_cases e3 : val1 = val2
                  case neg =>
                    have e3' : (val1.toList == val2.toList) = false := by rw [tx_eq]; simpa using e3
                    have E3 : Hid (¬ val1 = val2) := e3
                    have e2' : (id1 : Int) = (id2 : Int) := by omega
                    clear e3
                    go_wp2
                    go_ret
                    refine sameTo_no (fun e => ?_) (((((HK3.out.trans hkr).alloc _).alloc _)).drew)
                    exact E3.out (ver_same HV1.out.1 HV2.out.1 (by rw [HV1.out.2.2, HV2.out.2.2, e])).2.2
                  have e3' : (val1.toList == val2.toList) = true := by rw [tx_eq]; simpa using e3
                  have e2' : (id1 : Int) = (id2 : Int) := by omega
                  have E123 : Hid (key1 = key2 ∧ id1 = id2 ∧ val1 = val2) := ⟨e1, e2, e3⟩
                  clear e1 e2 e3
                  go_wp2_with fail
                  refine (sameTexts_any _ o1 n1 c1 o2 n2 c2 ve1.keys ve2.keys HV1.out.1.n HV2.out.1.n HV1.out.2.1.len HV2.out.2.1.len (HV1.out.1.sl.keepsN (((Keeps.refl no wr).alloc _).alloc _).drew) (HV2.out.1.sl.keepsN (((Keeps.refl no wr).alloc _).alloc _).drew)).mono ?_
                  rintro e w5 ⟨⟨B2, rfl, hB2⟩, hk5⟩
                  have HK5 : Hid (Keeps no wr w5) := ((((Keeps.refl no wr).alloc _).alloc _).drew).trans hk5
                  cases B2 with
                  | false =>
                    go_wp2
                    go_ret
                    refine sameTo_no (fun e => ?_) ((HK3.out.trans hkr).trans HK5.out)
                    have := hB2.out.2 (by rw [HV1.out.2.2, HV2.out.2.2, e])
                    cases this
                  | true =>
                    go_wp2
                    go_roundw
                    case rel =>
                      refine ⟨t + 1, by omega, by go_num, ?_, hkr.trans HK5.out⟩
                      have := HT.out
                      show m.vers.take (t + 1) = m'.vers.take (t + 1)
                      have hve : ve1 = ve2 := ver_ext (HV1.out.1.key.symm.trans (E123.out.1.trans HV2.out.1.key)) (HV1.out.1.id.symm.trans (E123.out.2.1.trans HV2.out.1.id)) (HV1.out.1.val.symm.trans (E123.out.2.2.trans HV2.out.1.val)) (hB2.out.1 (by trivial))
                      rw [take_succ_getD m.vers t v0 HTA.out.1, take_succ_getD m'.vers t v0 HTA.out.2, this, ← HV1.out.2.2, ← HV2.out.2.2, hve]
                    case measure => simp [intOf] <;> omega
              · have HVS : Hid (m.vers = m'.vers) := by
                  have := HT.out
                  rwa [List.take_of_length_le (by rw [← H.out.nv]; omega), List.take_of_length_le (by rw [← H'.out.nv]; omega)] at this
                go_wp2
                go_ret
                refine ⟨⟨true, rfl, ⟨fun _ => ?_, fun _ => rfl⟩⟩, HK3.out.trans hkr⟩
                exact msg_ext (by rw [← H.out.k, ← H'.out.k]) (by rw [← H.out.cl, ← H'.out.cl]) (by rw [← H.out.q, ← H'.out.q]) (by rw [← H.out.i, ← H'.out.i]) HKS.out HPS.out HWS.out HVS.out
end Go.Proofs.YtjklpcamlppegaaGreat
