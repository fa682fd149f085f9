/- The program's May. -/
import Derived.Test.YtjklpcamlppegaaGreatN2
import Derived.Deep.RegionHeld3
namespace Go.Proofs.YtjklpcamlppegaaGreat
open Go.RowKit Go.Sort Orl Pk
set_option linter.unusedVariables false
set_option linter.unusedSimpArgs false

theorem getD_fit {m : Msg} (h : FitM m) (hl : 0 < m.vers.length) : FitV (m.vers.getD 0 v0) := h.vers _ (getD_mem_lt v0 hl)

set_option maxRecDepth 10000 in
theorem holds_any (w : World) (a b p t v : Bool) (k cl : Int) (q i : Nat) (op : Option Addr) (np cp : Nat) (ok : Option Addr) (nk ck : Nat) (ow : Option Addr) (nw cw : Nat) (ov : Option Addr) (nv cv : Nat) (rs : List RV) (m : Msg)
    (h : IsM w k cl q i op np cp ok nk ck ow nw cw ov nv cv rs m) :
    Calls Tryz.prog 22 #[.agg #[.bool a, .bool b, .bool p, .bool t, .bool v], .agg #[.int .i64 k, .int .i64 cl, .int .u64 (q : Nat), .int .u64 (i : Nat), .slice op np cp, .slice ok nk ck, .slice ow nw cw, .slice ov nv cv]] w
      fun e w' => e = .returned (.bool (holdsB a b p t m)) ∧ Keeps no w w' := by
  have H : Hid (IsM w k cl q i op np cp ok nk ck ow nw cw ov nv cv rs m) := h
  have hi : m.id = i := h.i.symm
  have hnv : nv ≤ 2199023255500 := by rw [h.nv]; exact h.fit.vlen
  clear h
  have hk0 : Keeps no w ((w.alloc (.cells #[.bool a, .bool b, .bool p, .bool t, .bool v] 55)).alloc (.cells #[.int .i64 k, .int .i64 cl, .int .u64 (q : Nat), .int .u64 (i : Nat), .slice op np cp, .slice ok nk ck, .slice ow nw cw, .slice ov nv cv] 29)) := ((Keeps.refl _ _).alloc _).alloc _
  cases p with
  | true =>
    have e1 : holdsB a b true t m = (isId i && (wset m.keys && mayP m.pairs m.keys)) := by unfold holdsB; rw [hi]; rfl
    rw [e1]
    clear e1
    go_enter Tryz.func22, Tryz.ntmps22
    go_wp2_with fail
    refine (isID_any _ i).mono ?_
    rintro e wq ⟨rfl, hwq⟩
    subst wq
    by_cases g1 : isId i = true
    · rw [g1]
      go_wp2_with fail
      refine (isWriteSet_any _ ok nk ck m.keys H.out.nk H.out.fit.klen H.out.fit.keys (H.out.kys.keepsN hk0)).mono ?_
      rintro e w2 ⟨rfl, hk2⟩
      have c4 : w2.cell? ⟨w.heap.size + 1, 4, none⟩ = some (.slice op np cp) := hk2.cellN (by simp)
      have c5 : w2.cell? ⟨w.heap.size + 1, 5, none⟩ = some (.slice ok nk ck) := hk2.cellN (by simp)
      have hk02 := hk0.trans hk2
      by_cases g2 : wset m.keys = true
      · rw [g2]
        go_wp2_with fail
        refine (mayPairs_any w2 op np cp m.pairs ok nk ck m.keys H.out.np H.out.fit.plen H.out.fit.pairs (H.out.prs.keepsN hk02) H.out.nk g2 (H.out.kys.keepsN hk02)).mono ?_
        rintro e w3 ⟨rfl, hk3⟩
        go_wp2
        go_ret
        exact ⟨by simp [g1, g2], hk02.trans hk3⟩
      · have g2' : wset m.keys = false := by simpa using g2
        rw [g2']
        go_wp2
        go_ret
        exact ⟨by simp [g2'], hk02⟩
    · have g1' : isId i = false := by simpa using g1
      rw [g1']
      go_wp2
      go_ret
      exact ⟨by simp [g1'], hk0⟩
  | false =>
    cases a with
    | true =>
      have e1 : holdsB true b false t m = isId i := by unfold holdsB; rw [hi]; rfl
      rw [e1]
      go_enter Tryz.func22, Tryz.ntmps22
      go_wp2_with fail
      refine (isID_any _ i).mono ?_
      rintro e wq ⟨rfl, hwq⟩
      subst wq
      go_wp2
      go_ret
      exact ⟨rfl, hk0⟩
    | false =>
      cases b with
      | true =>
        have e1 : holdsB false true false t m = valK m.keys := rfl
        rw [e1]
        go_enter Tryz.func22, Tryz.ntmps22
        go_wp2_with fail
        refine (valid_all _ ok nk ck m.keys H.out.nk H.out.fit.klen H.out.fit.keys (H.out.kys.keepsN hk0)).mono ?_
        rintro e w2 ⟨rfl, hk2⟩
        go_wp2
        go_ret
        exact ⟨rfl, hk0.trans hk2⟩
      | false =>
        cases t with
        | true =>
          have e1 : holdsB false false false true m = mayW m.wants := rfl
          rw [e1]
          go_enter Tryz.func22, Tryz.ntmps22
          go_wp2_with fail
          refine (mayWants_any _ ow nw cw m.wants H.out.nw H.out.fit.wlen H.out.fit.wants (H.out.wts.keepsN hk0)).mono ?_
          rintro e w2 ⟨rfl, hk2⟩
          go_wp2
          go_ret
          exact ⟨rfl, hk0.trans hk2⟩
        | false =>
          have e1 : holdsB false false false false m = (decide (m.vers.length = 1) && mayV (m.vers.getD 0 v0)) := rfl
          rw [e1]
          clear e1
          by_cases g1 : nv = 1
          · have hl : m.vers.length = 1 := by rw [← H.out.nv]; exact g1
            have hrl : rs.length = 1 := by rw [H.out.vrs.len]; exact hl
            obtain ⟨b0, off, rfl, d0, d1, d2, d3⟩ := (H.out.vrs.sl.keepsN hk0).atV (j := 0) (by omega)
            have hv0 := (H.out.vrs.each 0 (by omega)).keepsN hk0
            have hfv := getD_fit H.out.fit (by omega)
            have d1' : decide (m.vers.length = 1) = true := decide_eq_true hl
            have HD : Hid (decide (m.vers.length = 1) = true) := d1'
            clear d1'
            obtain ⟨x, hx⟩ : ∃ x, x = rs.getD 0 r0 := ⟨_, rfl⟩
            rw [← hx] at d0 d1 d2 d3 hv0
            obtain ⟨key, id, val, o, n, c⟩ := x
            simp only [Nat.zero_mul, Nat.add_zero] at d0 d1 d2 d3
            clear hx hl hrl
            subst g1
            go_enter Tryz.func22, Tryz.ntmps22
            go_wp2_with fail
            refine (mayVersion_any _ (m.vers.getD 0 v0) key id val o n c hv0 hfv).mono ?_
            rintro e w2 ⟨rfl, hk2⟩
            go_wp2
            go_ret
            refine ⟨?_, hk0.trans hk2⟩
            rw [HD.out, Bool.true_and]; rfl
          · have g1' : decide (m.vers.length = 1) = false := by rw [decide_eq_false_iff_not, ← H.out.nv]; exact g1
            have g2 : ¬ ((nv : Int) = 1) := by omega
            have g3 : ((nv : Int) == 1) = false := by simpa using g2
            rw [g1']
            go_enter Tryz.func22, Tryz.ntmps22
            go_wp2
            go_ret
            exact ⟨by simp [g2], hk0⟩
set_option maxRecDepth 10000 in
theorem lacks_prepare (w : World) (k cl : Int) (q i : Nat) (op : Option Addr) (np cp : Nat) (ok : Option Addr) (nk ck : Nat) (ow : Option Addr) (nw cw : Nat) (ov : Option Addr) (nv cv : Nat) (rs : List RV) (m : Msg)
    (h : IsM w k cl q i op np cp ok nk ck ow nw cw ov nv cv rs m) :
    Calls Tryz.prog 23 #[.agg #[.bool true, .bool true, .bool true, .bool false, .bool false], .agg #[.int .i64 k, .int .i64 cl, .int .u64 (q : Nat), .int .u64 (i : Nat), .slice op np cp, .slice ok nk ck, .slice ow nw cw, .slice ov nv cv]] w
      fun e w' => e = .returned (.bool (lacksB true true true false false m)) ∧ Keeps no w w' := by
  have bi : i = m.id := h.i
  have bk : nk = m.keys.length := h.nk
  have bp : np = m.pairs.length := h.np
  have bw : nw = m.wants.length := h.nw
  have bv : nv = m.vers.length := h.nv
  have li : i < 18446744073709551616 := by rw [bi]; exact h.rng.id
  have lk : nk ≤ 8796093022000 := by rw [bk]; exact h.fit.klen
  have lp : np ≤ 4398046511000 := by rw [bp]; exact h.fit.plen
  have lw : nw ≤ 5864062014700 := by rw [bw]; exact h.fit.wlen
  have lv : nv ≤ 2199023255500 := by rw [bv]; exact h.fit.vlen
  have hB : lacksB true true true false false m = ((true || decide (i = 0)) && ((true || decide (nk = 0)) && ((true || decide (np = 0)) && ((false || decide (nw = 0)) && (false || decide (nv = 0)))))) := by unfold lacksB; rw [bi, bk, bp, bw, bv]
  rw [hB]
  clear bi bk bp bw bv hB h
  have hk0 : Keeps no w ((w.alloc (.cells #[.bool true, .bool true, .bool true, .bool false, .bool false] 55)).alloc (.cells #[.int .i64 k, .int .i64 cl, .int .u64 (q : Nat), .int .u64 (i : Nat), .slice op np cp, .slice ok nk ck, .slice ow nw cw, .slice ov nv cv] 29)) := ((Keeps.refl _ _).alloc _).alloc _
  by_cases gw : nw = 0
  case' neg =>
    have gw1 : ((nw : Int) == 0) = false := by simp; omega
    have gw2 : ¬ ((nw : Int) = 0) := by omega
    go_enter Tryz.func23, Tryz.ntmps23
    go_wp2
    go_ret
    exact ⟨by simp [gw, gw2], hk0⟩
  subst gw
  by_cases gv : nv = 0
  case' neg =>
    have gv1 : ((nv : Int) == 0) = false := by simp; omega
    have gv2 : ¬ ((nv : Int) = 0) := by omega
    go_enter Tryz.func23, Tryz.ntmps23
    go_wp2
    go_ret
    exact ⟨by simp [gv, gv2], hk0⟩
  subst gv
  go_enter Tryz.func23, Tryz.ntmps23
  go_wp2
  go_ret
  exact ⟨by simp, hk0⟩
set_option maxRecDepth 10000 in
theorem lacks_plain (w : World) (k cl : Int) (q i : Nat) (op : Option Addr) (np cp : Nat) (ok : Option Addr) (nk ck : Nat) (ow : Option Addr) (nw cw : Nat) (ov : Option Addr) (nv cv : Nat) (rs : List RV) (m : Msg)
    (h : IsM w k cl q i op np cp ok nk ck ow nw cw ov nv cv rs m) :
    Calls Tryz.prog 23 #[.agg #[.bool true, .bool false, .bool false, .bool false, .bool false], .agg #[.int .i64 k, .int .i64 cl, .int .u64 (q : Nat), .int .u64 (i : Nat), .slice op np cp, .slice ok nk ck, .slice ow nw cw, .slice ov nv cv]] w
      fun e w' => e = .returned (.bool (lacksB true false false false false m)) ∧ Keeps no w w' := by
  have bi : i = m.id := h.i
  have bk : nk = m.keys.length := h.nk
  have bp : np = m.pairs.length := h.np
  have bw : nw = m.wants.length := h.nw
  have bv : nv = m.vers.length := h.nv
  have li : i < 18446744073709551616 := by rw [bi]; exact h.rng.id
  have lk : nk ≤ 8796093022000 := by rw [bk]; exact h.fit.klen
  have lp : np ≤ 4398046511000 := by rw [bp]; exact h.fit.plen
  have lw : nw ≤ 5864062014700 := by rw [bw]; exact h.fit.wlen
  have lv : nv ≤ 2199023255500 := by rw [bv]; exact h.fit.vlen
  have hB : lacksB true false false false false m = ((true || decide (i = 0)) && ((false || decide (nk = 0)) && ((false || decide (np = 0)) && ((false || decide (nw = 0)) && (false || decide (nv = 0)))))) := by unfold lacksB; rw [bi, bk, bp, bw, bv]
  rw [hB]
  clear bi bk bp bw bv hB h
  have hk0 : Keeps no w ((w.alloc (.cells #[.bool true, .bool false, .bool false, .bool false, .bool false] 55)).alloc (.cells #[.int .i64 k, .int .i64 cl, .int .u64 (q : Nat), .int .u64 (i : Nat), .slice op np cp, .slice ok nk ck, .slice ow nw cw, .slice ov nv cv] 29)) := ((Keeps.refl _ _).alloc _).alloc _
  by_cases gk : nk = 0
  case' neg =>
    have gk1 : ((nk : Int) == 0) = false := by simp; omega
    have gk2 : ¬ ((nk : Int) = 0) := by omega
    go_enter Tryz.func23, Tryz.ntmps23
    go_wp2
    go_ret
    exact ⟨by simp [gk, gk2], hk0⟩
  subst gk
  by_cases gp : np = 0
  case' neg =>
    have gp1 : ((np : Int) == 0) = false := by simp; omega
    have gp2 : ¬ ((np : Int) = 0) := by omega
    go_enter Tryz.func23, Tryz.ntmps23
    go_wp2
    go_ret
    exact ⟨by simp [gp, gp2], hk0⟩
  subst gp
  by_cases gw : nw = 0
  case' neg =>
    have gw1 : ((nw : Int) == 0) = false := by simp; omega
    have gw2 : ¬ ((nw : Int) = 0) := by omega
    go_enter Tryz.func23, Tryz.ntmps23
    go_wp2
    go_ret
    exact ⟨by simp [gw, gw2], hk0⟩
  subst gw
  by_cases gv : nv = 0
  case' neg =>
    have gv1 : ((nv : Int) == 0) = false := by simp; omega
    have gv2 : ¬ ((nv : Int) = 0) := by omega
    go_enter Tryz.func23, Tryz.ntmps23
    go_wp2
    go_ret
    exact ⟨by simp [gv, gv2], hk0⟩
  subst gv
  go_enter Tryz.func23, Tryz.ntmps23
  go_wp2
  go_ret
  exact ⟨by simp, hk0⟩
set_option maxRecDepth 10000 in
theorem lacks_latest (w : World) (k cl : Int) (q i : Nat) (op : Option Addr) (np cp : Nat) (ok : Option Addr) (nk ck : Nat) (ow : Option Addr) (nw cw : Nat) (ov : Option Addr) (nv cv : Nat) (rs : List RV) (m : Msg)
    (h : IsM w k cl q i op np cp ok nk ck ow nw cw ov nv cv rs m) :
    Calls Tryz.prog 23 #[.agg #[.bool false, .bool true, .bool false, .bool false, .bool false], .agg #[.int .i64 k, .int .i64 cl, .int .u64 (q : Nat), .int .u64 (i : Nat), .slice op np cp, .slice ok nk ck, .slice ow nw cw, .slice ov nv cv]] w
      fun e w' => e = .returned (.bool (lacksB false true false false false m)) ∧ Keeps no w w' := by
  have bi : i = m.id := h.i
  have bk : nk = m.keys.length := h.nk
  have bp : np = m.pairs.length := h.np
  have bw : nw = m.wants.length := h.nw
  have bv : nv = m.vers.length := h.nv
  have li : i < 18446744073709551616 := by rw [bi]; exact h.rng.id
  have lk : nk ≤ 8796093022000 := by rw [bk]; exact h.fit.klen
  have lp : np ≤ 4398046511000 := by rw [bp]; exact h.fit.plen
  have lw : nw ≤ 5864062014700 := by rw [bw]; exact h.fit.wlen
  have lv : nv ≤ 2199023255500 := by rw [bv]; exact h.fit.vlen
  have hB : lacksB false true false false false m = ((false || decide (i = 0)) && ((true || decide (nk = 0)) && ((false || decide (np = 0)) && ((false || decide (nw = 0)) && (false || decide (nv = 0)))))) := by unfold lacksB; rw [bi, bk, bp, bw, bv]
  rw [hB]
  clear bi bk bp bw bv hB h
  have hk0 : Keeps no w ((w.alloc (.cells #[.bool false, .bool true, .bool false, .bool false, .bool false] 55)).alloc (.cells #[.int .i64 k, .int .i64 cl, .int .u64 (q : Nat), .int .u64 (i : Nat), .slice op np cp, .slice ok nk ck, .slice ow nw cw, .slice ov nv cv] 29)) := ((Keeps.refl _ _).alloc _).alloc _
  by_cases gi : i = 0
  case' neg =>
    have gi1 : ((i : Int) == 0) = false := by simp; omega
    have gi2 : ¬ ((i : Int) = 0) := by omega
    go_enter Tryz.func23, Tryz.ntmps23
    go_wp2
    go_ret
    exact ⟨by simp [gi, gi2], hk0⟩
  subst gi
  by_cases gp : np = 0
  case' neg =>
    have gp1 : ((np : Int) == 0) = false := by simp; omega
    have gp2 : ¬ ((np : Int) = 0) := by omega
    go_enter Tryz.func23, Tryz.ntmps23
    go_wp2
    go_ret
    exact ⟨by simp [gp, gp2], hk0⟩
  subst gp
  by_cases gw : nw = 0
  case' neg =>
    have gw1 : ((nw : Int) == 0) = false := by simp; omega
    have gw2 : ¬ ((nw : Int) = 0) := by omega
    go_enter Tryz.func23, Tryz.ntmps23
    go_wp2
    go_ret
    exact ⟨by simp [gw, gw2], hk0⟩
  subst gw
  by_cases gv : nv = 0
  case' neg =>
    have gv1 : ((nv : Int) == 0) = false := by simp; omega
    have gv2 : ¬ ((nv : Int) = 0) := by omega
    go_enter Tryz.func23, Tryz.ntmps23
    go_wp2
    go_ret
    exact ⟨by simp [gv, gv2], hk0⟩
  subst gv
  go_enter Tryz.func23, Tryz.ntmps23
  go_wp2
  go_ret
  exact ⟨by simp, hk0⟩
set_option maxRecDepth 10000 in
theorem lacks_byID (w : World) (k cl : Int) (q i : Nat) (op : Option Addr) (np cp : Nat) (ok : Option Addr) (nk ck : Nat) (ow : Option Addr) (nw cw : Nat) (ov : Option Addr) (nv cv : Nat) (rs : List RV) (m : Msg)
    (h : IsM w k cl q i op np cp ok nk ck ow nw cw ov nv cv rs m) :
    Calls Tryz.prog 23 #[.agg #[.bool false, .bool false, .bool false, .bool true, .bool false], .agg #[.int .i64 k, .int .i64 cl, .int .u64 (q : Nat), .int .u64 (i : Nat), .slice op np cp, .slice ok nk ck, .slice ow nw cw, .slice ov nv cv]] w
      fun e w' => e = .returned (.bool (lacksB false false false true false m)) ∧ Keeps no w w' := by
  have bi : i = m.id := h.i
  have bk : nk = m.keys.length := h.nk
  have bp : np = m.pairs.length := h.np
  have bw : nw = m.wants.length := h.nw
  have bv : nv = m.vers.length := h.nv
  have li : i < 18446744073709551616 := by rw [bi]; exact h.rng.id
  have lk : nk ≤ 8796093022000 := by rw [bk]; exact h.fit.klen
  have lp : np ≤ 4398046511000 := by rw [bp]; exact h.fit.plen
  have lw : nw ≤ 5864062014700 := by rw [bw]; exact h.fit.wlen
  have lv : nv ≤ 2199023255500 := by rw [bv]; exact h.fit.vlen
  have hB : lacksB false false false true false m = ((false || decide (i = 0)) && ((false || decide (nk = 0)) && ((false || decide (np = 0)) && ((true || decide (nw = 0)) && (false || decide (nv = 0)))))) := by unfold lacksB; rw [bi, bk, bp, bw, bv]
  rw [hB]
  clear bi bk bp bw bv hB h
  have hk0 : Keeps no w ((w.alloc (.cells #[.bool false, .bool false, .bool false, .bool true, .bool false] 55)).alloc (.cells #[.int .i64 k, .int .i64 cl, .int .u64 (q : Nat), .int .u64 (i : Nat), .slice op np cp, .slice ok nk ck, .slice ow nw cw, .slice ov nv cv] 29)) := ((Keeps.refl _ _).alloc _).alloc _
  by_cases gi : i = 0
  case' neg =>
    have gi1 : ((i : Int) == 0) = false := by simp; omega
    have gi2 : ¬ ((i : Int) = 0) := by omega
    go_enter Tryz.func23, Tryz.ntmps23
    go_wp2
    go_ret
    exact ⟨by simp [gi, gi2], hk0⟩
  subst gi
  by_cases gk : nk = 0
  case' neg =>
    have gk1 : ((nk : Int) == 0) = false := by simp; omega
    have gk2 : ¬ ((nk : Int) = 0) := by omega
    go_enter Tryz.func23, Tryz.ntmps23
    go_wp2
    go_ret
    exact ⟨by simp [gk, gk2], hk0⟩
  subst gk
  by_cases gp : np = 0
  case' neg =>
    have gp1 : ((np : Int) == 0) = false := by simp; omega
    have gp2 : ¬ ((np : Int) = 0) := by omega
    go_enter Tryz.func23, Tryz.ntmps23
    go_wp2
    go_ret
    exact ⟨by simp [gp, gp2], hk0⟩
  subst gp
  by_cases gv : nv = 0
  case' neg =>
    have gv1 : ((nv : Int) == 0) = false := by simp; omega
    have gv2 : ¬ ((nv : Int) = 0) := by omega
    go_enter Tryz.func23, Tryz.ntmps23
    go_wp2
    go_ret
    exact ⟨by simp [gv, gv2], hk0⟩
  subst gv
  go_enter Tryz.func23, Tryz.ntmps23
  go_wp2
  go_ret
  exact ⟨by simp, hk0⟩
set_option maxRecDepth 10000 in
theorem lacks_versions (w : World) (k cl : Int) (q i : Nat) (op : Option Addr) (np cp : Nat) (ok : Option Addr) (nk ck : Nat) (ow : Option Addr) (nw cw : Nat) (ov : Option Addr) (nv cv : Nat) (rs : List RV) (m : Msg)
    (h : IsM w k cl q i op np cp ok nk ck ow nw cw ov nv cv rs m) :
    Calls Tryz.prog 23 #[.agg #[.bool false, .bool false, .bool false, .bool false, .bool true], .agg #[.int .i64 k, .int .i64 cl, .int .u64 (q : Nat), .int .u64 (i : Nat), .slice op np cp, .slice ok nk ck, .slice ow nw cw, .slice ov nv cv]] w
      fun e w' => e = .returned (.bool (lacksB false false false false true m)) ∧ Keeps no w w' := by
  have bi : i = m.id := h.i
  have bk : nk = m.keys.length := h.nk
  have bp : np = m.pairs.length := h.np
  have bw : nw = m.wants.length := h.nw
  have bv : nv = m.vers.length := h.nv
  have li : i < 18446744073709551616 := by rw [bi]; exact h.rng.id
  have lk : nk ≤ 8796093022000 := by rw [bk]; exact h.fit.klen
  have lp : np ≤ 4398046511000 := by rw [bp]; exact h.fit.plen
  have lw : nw ≤ 5864062014700 := by rw [bw]; exact h.fit.wlen
  have lv : nv ≤ 2199023255500 := by rw [bv]; exact h.fit.vlen
  have hB : lacksB false false false false true m = ((false || decide (i = 0)) && ((false || decide (nk = 0)) && ((false || decide (np = 0)) && ((false || decide (nw = 0)) && (true || decide (nv = 0)))))) := by unfold lacksB; rw [bi, bk, bp, bw, bv]
  rw [hB]
  clear bi bk bp bw bv hB h
  have hk0 : Keeps no w ((w.alloc (.cells #[.bool false, .bool false, .bool false, .bool false, .bool true] 55)).alloc (.cells #[.int .i64 k, .int .i64 cl, .int .u64 (q : Nat), .int .u64 (i : Nat), .slice op np cp, .slice ok nk ck, .slice ow nw cw, .slice ov nv cv] 29)) := ((Keeps.refl _ _).alloc _).alloc _
  by_cases gi : i = 0
  case' neg =>
    have gi1 : ((i : Int) == 0) = false := by simp; omega
    have gi2 : ¬ ((i : Int) = 0) := by omega
    go_enter Tryz.func23, Tryz.ntmps23
    go_wp2
    go_ret
    exact ⟨by simp [gi, gi2], hk0⟩
  subst gi
  by_cases gk : nk = 0
  case' neg =>
    have gk1 : ((nk : Int) == 0) = false := by simp; omega
    have gk2 : ¬ ((nk : Int) = 0) := by omega
    go_enter Tryz.func23, Tryz.ntmps23
    go_wp2
    go_ret
    exact ⟨by simp [gk, gk2], hk0⟩
  subst gk
  by_cases gp : np = 0
  case' neg =>
    have gp1 : ((np : Int) == 0) = false := by simp; omega
    have gp2 : ¬ ((np : Int) = 0) := by omega
    go_enter Tryz.func23, Tryz.ntmps23
    go_wp2
    go_ret
    exact ⟨by simp [gp, gp2], hk0⟩
  subst gp
  by_cases gw : nw = 0
  case' neg =>
    have gw1 : ((nw : Int) == 0) = false := by simp; omega
    have gw2 : ¬ ((nw : Int) = 0) := by omega
    go_enter Tryz.func23, Tryz.ntmps23
    go_wp2
    go_ret
    exact ⟨by simp [gw, gw2], hk0⟩
  subst gw
  go_enter Tryz.func23, Tryz.ntmps23
  go_wp2
  go_ret
  exact ⟨by simp, hk0⟩
end Go.Proofs.YtjklpcamlppegaaGreat
