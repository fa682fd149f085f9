import Derived.Test.YtgamhblkgojapaaGreatDoorGW3
import Derived.Deep.CutBlock
import Derived.Deep.QuietTactic
/- The laws' own functions: sameTexts, sameRecord. -/
namespace Go.Proofs.YtgamhblkgojapaaGreatDoor
open Go.RowKit Pk
set_option linter.unusedVariables false
set_option linter.unusedSimpArgs false

theorem toList_inj (x y : Tx) : x.toList = y.toList ↔ x = y := by
  rw [Lib.toList_data, Lib.toList_data]
  exact ⟨tx_ext, fun e => by rw [e]⟩
theorem neqP (x1 x2 y1 y2 : Tx) (w : World) : (binOp .neq 102 (.agg #[.string x1, .string x2]) (.agg #[.string y1, .string y2])).run Tryz.prog w = .ok (.bool (!(decide (x1 = y1) && decide (x2 = y2)))) w := by
  have u9 := Tryz.underlying9
  have a9 := Tryz.isAgg9
  have z9 := Tryz.sizeOf9
  have hS : Tryz.prog.underlying 102 = some (.struct (Tryz.prog.fieldsOf 102)) := by kernel_rfl
  have hp : Tryz.prog.stoodInHeld 102 = false := by kernel_rfl
  rw [run_neq_struct, show (10000 : Nat) = 9999 + 1 from rfl, run_equalIn_agg w 9999 102 _ _ hS hp]
  simp only [Program.fieldsOf, Tryz.underlying102]
  go_simp
  by_cases h1 : x1 = y1 <;> by_cases h2 : x2 = y2 <;> simp [h1, h2, toList_inj]
set_option maxRecDepth 10000 in
theorem sameTexts_any (w : World) (oa : Option Addr) (na ca : Nat) (ob : Option Addr) (nb cb : Nat) (sa sb : List Tx) (hna : na = sa.length) (hnb : nb = sb.length) (hla : sa.length ≤ 8796093022000) (hlb : sb.length ≤ 8796093022000) (ha : Sl TE w oa ca sa) (hb : Sl TE w ob cb sb) :
    Calls Tryz.prog 54 #[.slice oa na ca, .slice ob nb cb] w fun e w' => (∃ B : Bool, e = .returned (.bool B) ∧ Hid (B = true ↔ sa = sb)) ∧ Keeps no w w' := by
  have HA : Hid (na = sa.length) := hna
  have HB : Hid (nb = sb.length) := hnb
  have hA : (na : Int) ≤ 8796093022000 := by omega
  have hB : (nb : Int) ≤ 8796093022000 := by omega
  clear hna hnb hla hlb
  by_cases hne : na = nb
  · subst hne
    go_enter Tryz.func54, Tryz.ntmps54
    go_wp2_with fail
    go_loopw [5] (fun i wr => ∃ k m : Nat, k ≤ na ∧ i = .int .i64 k ∧ wr = w.drewN m ∧ Hid (sa.take k = sb.take k)) (fun i _ => na - (intOf i).toNat)
    case atStart => exact ⟨0, 0, by omega, rfl, rfl, show sa.take 0 = sb.take 0 by simp⟩
    case round =>
      obtain ⟨k, m, hk, rfl, rfl, HT⟩ := hrel
      by_cases h2 : k < na
      · have hka : k < sa.length := by have := HA.out; omega
        have hkb : k < sb.length := by have := HB.out; omega
        obtain ⟨b1, off1, rfl, d1⟩ := ha.at hka
        obtain ⟨b2, off2, rfl, d2⟩ := hb.at hkb
        obtain ⟨x, hx⟩ : ∃ x, x = sa.getD k e0 := ⟨_, rfl⟩
        obtain ⟨y, hy⟩ : ∃ y, y = sb.getD k e0 := ⟨_, rfl⟩
        rw [← hx] at d1
        rw [← hy] at d2
        have HX : Hid (x = sa.getD k e0) := hx
        have HY : Hid (y = sb.getD k e0) := hy
        clear hx hy hka hkb
        by_cases hxy : x = y
        · have hxy' : (x.toList == y.toList) = true := by rw [tx_eq]; simpa using hxy
          clear hxy
          go_wp2
          go_quiet (fail)
          go_wp2
          go_roundw
          case rel =>
            refine ⟨k + 1, _, by omega, by go_num, rfl, ?_⟩
            rw [tx_eq, decide_eq_true_eq] at hxy'
            have := HT.out
            show sa.take (k + 1) = sb.take (k + 1)
            rw [take_succ_getD sa k e0 (by have := HA.out; omega), take_succ_getD sb k e0 (by have := HB.out; omega), this, ← HX.out, ← HY.out, hxy']
          case measure => simp [intOf]; omega
        · have hxy' : (x.toList == y.toList) = false := by rw [tx_eq]; simpa using hxy
          go_wp2
          go_quiet (fail)
          go_wp2
          go_ret
          refine ⟨⟨false, rfl, ⟨fun h => (by cases h), fun e => ?_⟩⟩, ((Keeps.refl _ _).drewN _).drewN _⟩
          exact absurd (by rw [HX.out, HY.out, e]) hxy
      · go_wp2
        go_ret
        refine ⟨⟨true, rfl, ⟨fun _ => ?_, fun _ => rfl⟩⟩, (Keeps.refl _ _).drewN _⟩
        have := HT.out
        rwa [List.take_of_length_le (by have := HA.out; omega), List.take_of_length_le (by have := HB.out; omega)] at this
  · have hne' : ¬ ((na : Nat) : Int) = (nb : Nat) := by omega
    go_enter Tryz.func54, Tryz.ntmps54
    go_wp2
    go_ret
    refine ⟨⟨false, rfl, ⟨fun h => (by cases h), fun e => ?_⟩⟩, Keeps.refl _ _⟩
    exact absurd (by rw [HA.out, HB.out, e]) hne

def SameTo (w : World) (r r' : Rec) (e : Ending) (w' : World) : Prop := (∃ B : Bool, e = .returned (.bool B) ∧ Hid (B = true ↔ r = r')) ∧ Keeps no w w'
set_option maxRecDepth 10000 in
set_option maxHeartbeats 1000000 in
theorem sameRecord_any (w : World) (k : Int) (i : Nat) (op : Option Addr) (np cp : Nat) (ok : Option Addr) (nk ck : Nat) (r : Rec) (h : IsC w ⟨k, i, op, np, cp, ok, nk, ck⟩ r) (k' : Int) (i' : Nat) (op' : Option Addr) (np' cp' : Nat) (ok' : Option Addr) (nk' ck' : Nat) (r' : Rec) (h' : IsC w ⟨k', i', op', np', cp', ok', nk', ck'⟩ r') :
    Calls Tryz.prog 33 #[.agg #[.int .i64 k, .int .u64 (i : Nat), .slice op np cp, .slice ok nk ck], .agg #[.int .i64 k', .int .u64 (i' : Nat), .slice op' np' cp', .slice ok' nk' ck']] w (SameTo w r r') := by
  have H : Hid (IsC w ⟨k, i, op, np, cp, ok, nk, ck⟩ r) := h
  have H' : Hid (IsC w ⟨k', i', op', np', cp', ok', nk', ck'⟩ r') := h'
  clear h h'
  have k0 : Keeps no w ((w.alloc (.cells #[.int .i64 k, .int .u64 (i : Nat), .slice op np cp, .slice ok nk ck] 41)).alloc (.cells #[.int .i64 k', .int .u64 (i' : Nat), .slice op' np' cp', .slice ok' nk' ck'] 41)) := ((Keeps.refl _ _).alloc _).alloc _
  have HEQ : Hid (r = r' ↔ k = k' ∧ i = i' ∧ r.pairs = r'.pairs ∧ r.keys = r'.keys) := by
    have e1 := H.out.k; have e2 := H.out.i; have e3 := H'.out.k; have e4 := H'.out.i
    simp only at e1 e2 e3 e4
    rw [e1, e2, e3, e4]
    cases r; cases r'
    simp [Hid]
  by_cases hk : k = k'
  · subst hk
    by_cases hi : i = i'
    · subst hi
      have HP : Hid (np = r.pairs.length) := H.out.np
      have HP' : Hid (np' = r'.pairs.length) := H'.out.np
      have hb : (np : Int) ≤ 4398046511000 := by have := H.out.fit.plen; have := HP.out; omega
      by_cases hp : np = np'
      · subst hp
        have HK0 : Hid (Keeps no w ((w.alloc (.cells #[.int .i64 k, .int .u64 (i : Nat), .slice op np cp, .slice ok nk ck] 41)).alloc (.cells #[.int .i64 k, .int .u64 (i : Nat), .slice op' np cp', .slice ok' nk' ck'] 41))) := k0
        have hb2 : ((w.alloc (.cells #[.int .i64 k, .int .u64 (i : Nat), .slice op np cp, .slice ok nk ck] 41)).alloc (.cells #[.int .i64 k, .int .u64 (i : Nat), .slice op' np cp', .slice ok' nk' ck'] 41)).heap[w.heap.size]? = some (.cells #[.int .i64 k, .int .u64 (i : Nat), .slice op np cp, .slice ok nk ck] 41 (0, 0)) := blk_alloc (blk_new w _) _
        have hb3 : ((w.alloc (.cells #[.int .i64 k, .int .u64 (i : Nat), .slice op np cp, .slice ok nk ck] 41)).alloc (.cells #[.int .i64 k, .int .u64 (i : Nat), .slice op' np cp', .slice ok' nk' ck'] 41)).heap[w.heap.size + 1]? = some (.cells #[.int .i64 k, .int .u64 (i : Nat), .slice op' np cp', .slice ok' nk' ck'] 41 (0, 0)) := by
          have := blk_new (w.alloc (.cells #[.int .i64 k, .int .u64 (i : Nat), .slice op np cp, .slice ok nk ck] 41)) (.cells #[.int .i64 k, .int .u64 (i : Nat), .slice op' np cp', .slice ok' nk' ck'] 41)
          rw [show (w.alloc (.cells #[.int .i64 k, .int .u64 (i : Nat), .slice op np cp, .slice ok nk ck] 41)).heap.size = w.heap.size + 1 by simp] at this
          exact this
        clear k0
        go_enter Tryz.func33, Tryz.ntmps33
        go_upto_block 0 with fail
        generalize (w.alloc (.cells #[.int .i64 k, .int .u64 (i : Nat), .slice op np cp, .slice ok nk ck] 41)).alloc (.cells #[.int .i64 k, .int .u64 (i : Nat), .slice op' np cp', .slice ok' nk' ck'] 41) = V at HK0 hb2 hb3 ⊢
        obtain ⟨x0, x1, x2, x3⟩ := cells4 hb2
        obtain ⟨y0, y1, y2, y3⟩ := cells4 hb3
        have HA : Hid (Sl PE V op cp r.pairs) := H.out.prs.keepsN HK0.out
        have HB : Hid (Sl PE V op' cp' r'.pairs) := H'.out.prs.keepsN HK0.out
        clear hb2 hb3
        go_wp2_with fail
        go_loopw [5] (fun j wr => ∃ q m : Nat, q ≤ np ∧ j = .int .i64 q ∧ wr = V.drewN m ∧ Hid (r.pairs.take q = r'.pairs.take q)) (fun j _ => np - (intOf j).toNat)
        case atStart => exact ⟨0, 0, by omega, rfl, rfl, show r.pairs.take 0 = r'.pairs.take 0 by simp⟩
        case round =>
          obtain ⟨q, m, hq, rfl, rfl, HT⟩ := hrel
          by_cases h2 : q < np
          · have hka : q < r.pairs.length := by have := HP.out; omega
            have hkb : q < r'.pairs.length := by have := HP'.out; omega
            obtain ⟨b1, off1, rfl, d1, d1'⟩ := HA.out.atP hka
            obtain ⟨b2, off2, rfl, d2, d2'⟩ := HB.out.atP hkb
            obtain ⟨x, hx⟩ : ∃ x, x = r.pairs.getD q p0 := ⟨_, rfl⟩
            obtain ⟨y, hy⟩ : ∃ y, y = r'.pairs.getD q p0 := ⟨_, rfl⟩
            rw [← hx] at d1 d1'
            rw [← hy] at d2 d2'
            have HX : Hid (x = r.pairs.getD q p0) := hx
            have HY : Hid (y = r'.pairs.getD q p0) := hy
            clear hx hy hka hkb
            obtain ⟨a1, a2⟩ := x
            obtain ⟨c1, c2⟩ := y
            simp only at d1 d1' d2 d2'
            have hnq := neqP a1 a2 c1 c2
            by_cases hxy : (a1, a2) = (c1, c2)
            · have hxy' : (!(decide (a1 = c1) && decide (a2 = c2))) = false := by simp only [Prod.mk.injEq] at hxy; simp [hxy]
              rw [hxy'] at hnq
              have HXY : Hid ((a1, a2) = (c1, c2)) := hxy
              clear hxy hxy'
              go_wp2
              go_quiet (fail)
              go_wp2
              go_roundw
              case rel =>
                refine ⟨q + 1, _, by omega, by go_num, rfl, ?_⟩
                have := HT.out
                show r.pairs.take (q + 1) = r'.pairs.take (q + 1)
                rw [take_succ_getD r.pairs q p0 (by have := HP.out; omega), take_succ_getD r'.pairs q p0 (by have := HP'.out; omega), this, ← HX.out, ← HY.out, HXY.out]
              case measure => simp [intOf]; omega
            · have hxy' : (!(decide (a1 = c1) && decide (a2 = c2))) = true := by
                rw [Prod.mk.injEq] at hxy
                simp only [Bool.not_eq_true', Bool.and_eq_false_iff, decide_eq_false_iff_not]
                by_cases h : a1 = c1
                · exact .inr (fun h2 => hxy ⟨h, h2⟩)
                · exact .inl h
              rw [hxy'] at hnq
              go_wp2
              go_quiet (fail)
              go_wp2
              go_ret
              refine ⟨⟨false, rfl, ⟨fun h => (by cases h), fun e => ?_⟩⟩, (HK0.out.drewN _).drewN _⟩
              exact absurd (by rw [HX.out, HY.out, (HEQ.out.1 e).2.2.1]) hxy
          · have HPP : Hid (r.pairs = r'.pairs) := by
              have := HT.out
              rwa [List.take_of_length_le (by have := HP.out; omega), List.take_of_length_le (by have := HP'.out; omega)] at this
            have h2' : ¬ (q : Int) < (np : Int) := by omega
            go_wp2_with fail
            refine (sameTexts_any _ ok nk ck ok' nk' ck' r.keys r'.keys H.out.nk H'.out.nk H.out.fit.klen H'.out.fit.klen (H.out.kys.keepsN (HK0.out.drewN _)) (H'.out.kys.keepsN (HK0.out.drewN _))).mono ?_
            rintro e w3 ⟨⟨B2, rfl, hB2⟩, hk3⟩
            go_wp2_with fail
            go_ret
            refine ⟨⟨B2, rfl, ⟨fun h => HEQ.out.2 (by simp only [true_and]; exact ⟨HPP.out, hB2.out.1 h⟩), fun h => hB2.out.2 (HEQ.out.1 h).2.2.2⟩⟩, (HK0.out.drewN _).trans hk3⟩
      · have hp' : ¬ (np : Int) = (np' : Int) := by omega
        go_enter Tryz.func33, Tryz.ntmps33
        go_wp2_with fail
        go_ret
        exact ⟨⟨false, rfl, ⟨fun h => (by cases h), fun h => absurd (by rw [HP.out, HP'.out, (HEQ.out.1 h).2.2.1]) hp⟩⟩, k0⟩
    · have hi1 : ((i : Int) == (i' : Int)) = false := by simp; omega
      have hi2 : ¬ (i : Int) = (i' : Int) := by omega
      go_enter Tryz.func33, Tryz.ntmps33
      go_wp2_with fail
      go_ret
      exact ⟨⟨false, rfl, ⟨fun h => (by cases h), fun h => absurd (HEQ.out.1 h).2.1 hi⟩⟩, k0⟩
  · have hk1 : (k == k') = false := by simpa using hk
    go_enter Tryz.func33, Tryz.ntmps33
    go_wp2_with fail
    go_ret
    exact ⟨⟨false, rfl, ⟨fun h => (by cases h), fun h => absurd (HEQ.out.1 h).1 hk⟩⟩, k0⟩
end Go.Proofs.YtgamhblkgojapaaGreatDoor
/- The laws' own functions: own (a record with lists of its own), commit. -/
namespace Go.Proofs.YtgamhblkgojapaaGreatDoor
open Go.RowKit Pk
set_option linter.unusedVariables false
set_option linter.unusedSimpArgs false

/-- own's two records -/
structure OwS (w : World) (A B : Nat) (a0 a1 a2 a3 : Value) (W : World) : Prop where
  kp : Keeps no w W
  a : W.heap[A]? = some (.cells #[a0, a1, a2, a3] 41 (0, 0))
  b : W.heap[B]? = some (.cells #[.int .i64 0, .int .u64 0, .slice none 0 0, .slice none 0 0] 41 (0, 0))
  hA : w.heap.size ≤ A
  hB : w.heap.size ≤ B
  ne : A ≠ B
theorem OwS.app {w W W' : World} {A B g : Nat} {a0 a1 a2 a3 : Value} {o' : Option Addr} (h : OwS w A B a0 a1 a2 a3 W) (hg : A < g ∧ B < g) (hap : Ap W (some ⟨g, 0, none⟩) o' W') (hl : w.heap.size ≤ g) : OwS w A B a0 a1 a2 a3 W' ∧ New w o' := by
  have hk : Keeps (inO (some ⟨g, 0, none⟩)) W W' := by
    rcases hap with ⟨_, x⟩ | ⟨_, x⟩
    · exact x
    · exact x.of_no
  have nA : ∀ x, x < g → ¬ inO (some ⟨g, 0, none⟩) x := fun x hx ⟨y, ey, e⟩ => by cases ey; simp only at e; omega
  exact ⟨⟨(hap.new (new_fresh w g hl 0) h.kp).2, hk.at h.a (nA A hg.1), hk.at h.b (nA B hg.2), h.hA, h.hB, h.ne⟩, (hap.new (new_fresh w g hl 0) h.kp).1⟩
theorem OwS.alloc {w W : World} {A B : Nat} {a0 a1 a2 a3 : Value} (h : OwS w A B a0 a1 a2 a3 W) (o : Obj) : OwS w A B a0 a1 a2 a3 (W.alloc o) := ⟨h.kp.alloc _, blk_alloc h.a _, blk_alloc h.b _, h.hA, h.hB, h.ne⟩
theorem OwS.set2 {w W : World} {A B : Nat} {a0 a1 a2 a3 : Value} (h : OwS w A B a0 a1 a2 a3 W) (u : Value) : OwS w A B a0 a1 u a3 (W.setCell ⟨A, 2, none⟩ u) :=
  ⟨h.kp.setCell (p := ⟨A, 2, none⟩) (.inr h.hA) u, by rw [blk_set h.a]; rfl, blk_set_ne h.b (p := ⟨A, 2, none⟩) (fun e => h.ne e.symm) u, h.hA, h.hB, h.ne⟩
theorem OwS.set3 {w W : World} {A B : Nat} {a0 a1 a2 a3 : Value} (h : OwS w A B a0 a1 a2 a3 W) (u : Value) : OwS w A B a0 a1 a2 u (W.setCell ⟨A, 3, none⟩ u) :=
  ⟨h.kp.setCell (p := ⟨A, 3, none⟩) (.inr h.hA) u, by rw [blk_set h.a]; rfl, blk_set_ne h.b (p := ⟨A, 3, none⟩) (fun e => h.ne e.symm) u, h.hA, h.hB, h.ne⟩
theorem Own.apart_ap {α : Type} {E : El α} {w w' : World} {o o' : Option Addr} {c g : Nat} {xs : List α} (h : Own E w o c xs) (hap : Ap w (some ⟨g, 0, none⟩) o' w') (hl : ∀ x, inO o x → x < g) : Own E w' o c xs := by
  rcases hap with ⟨_, hk⟩ | ⟨_, hk⟩
  · exact h.keeps hk (fun x hx ⟨y, ey, e⟩ => by cases ey; have := hl x hx; simp only at e; omega)
  · exact h.keepsN hk
def OwnRTo (w : World) (k : Int) (i np nk : Nat) (r : Rec) (e : Ending) (w' : World) : Prop :=
  ∃ (op : Option Addr) (cp : Nat) (ok : Option Addr) (ck : Nat), e = .returned (.agg #[.int .i64 k, .int .u64 (i : Nat), .slice op np cp, .slice ok nk ck]) ∧ Hid (Got w w' ⟨k, i, op, np, cp, ok, nk, ck⟩ r) ∧ Keeps no w w'

set_option maxRecDepth 10000 in
set_option maxHeartbeats 1000000 in
theorem ownR_any (w : World) (k : Int) (i : Nat) (op : Option Addr) (np cp : Nat) (ok : Option Addr) (nk ck : Nat) (r : Rec) (h : IsC w ⟨k, i, op, np, cp, ok, nk, ck⟩ r) :
    Calls Tryz.prog 11 #[.agg #[.int .i64 k, .int .u64 (i : Nat), .slice op np cp, .slice ok nk ck]] w (OwnRTo w k i np nk r) := by
  have H : Hid (IsC w ⟨k, i, op, np, cp, ok, nk, ck⟩ r) := h
  clear h
  have HS0 : Hid (OwS w w.heap.size (w.heap.size + 1) (.int .i64 k) (.int .u64 (i : Nat)) (.slice op np cp) (.slice ok nk ck) ((w.alloc (.cells #[.int .i64 k, .int .u64 (i : Nat), .slice op np cp, .slice ok nk ck] 41)).alloc (.cells #[.int .i64 0, .int .u64 0, .slice none 0 0, .slice none 0 0] 41))) := by
    refine ⟨((Keeps.refl _ _).alloc _).alloc _, blk_alloc (blk_new w _) _, ?_, Nat.le_refl _, by omega, by omega⟩
    have := blk_new (w.alloc (.cells #[.int .i64 k, .int .u64 (i : Nat), .slice op np cp, .slice ok nk ck] 41)) (.cells #[.int .i64 0, .int .u64 0, .slice none 0 0, .slice none 0 0] 41)
    rw [show (w.alloc (.cells #[.int .i64 k, .int .u64 (i : Nat), .slice op np cp, .slice ok nk ck] 41)).heap.size = w.heap.size + 1 by simp] at this
    exact this
  go_enter Tryz.func11, Tryz.ntmps11
  go_upto_region 1 with fail
  generalize ((w.alloc (.cells #[.int .i64 k, .int .u64 (i : Nat), .slice op np cp, .slice ok nk ck] 41)).alloc (.cells #[.int .i64 0, .int .u64 0, .slice none 0 0, .slice none 0 0] 41)) = W0 at HS0 ⊢
  obtain ⟨B, hB⟩ : ∃ B, B = w.heap.size + 1 := ⟨_, rfl⟩
  rw [← hB] at HS0 ⊢
  obtain ⟨A, hA⟩ : ∃ A, A = w.heap.size := ⟨_, rfl⟩
  rw [← hA] at HS0 ⊢
  clear hB hA
  have HBD : Hid (A < W0.heap.size ∧ B < W0.heap.size ∧ w.heap.size ≤ W0.heap.size) := ⟨lt_of_block HS0.out.a, lt_of_block HS0.out.b, HS0.out.kp.size⟩
  have HPB : Hid ((([] : List Pr).length + r.pairs.length) * PE.nb ≤ 140737488355328 ∧ ([] : List Pr).length + r.pairs.length ≤ 140737488355328) := by have := H.out.fit.plen; exact ⟨by simp [PE]; omega, by simp; omega⟩
  have HKB : Hid ((([] : List Tx).length + r.keys.length) * TE.nb ≤ 140737488355328 ∧ ([] : List Tx).length + r.keys.length ≤ 140737488355328) := by have := H.out.fit.klen; exact ⟨by simp [TE]; omega, by simp; omega⟩
  have HE : Hid (OwS w A B (.int .i64 k) (.int .u64 (i : Nat)) (.slice op np cp) (.slice ok nk ck) (W0.alloc (.cells #[] 102))) := HS0.out.alloc _
  obtain ⟨x0, x1, x2, x3⟩ := cells4 HE.out.a
  go_upto_region 2 with (at_builtin; go_must (refine wpList_app okP rfl _ _ rfl (some ⟨W0.heap.size, 0, none⟩) 0 0 [] rfl rfl (own_empty okP W0) op np cp r.pairs rfl H.out.np H.out.prs.nil (H.out.prs.keepsN HE.out.kp).row HPB.out.1 HPB.out.2 ?_); intro o1 c1 y1 ho hap; have HY1 : Hid (OwS w A B (.int .i64 k) (.int .u64 (i : Nat)) (.slice op np cp) (.slice ok nk ck) y1 ∧ New w o1) := HE.out.app ⟨HBD.out.1, HBD.out.2.1⟩ hap HBD.out.2.2; have HO1 : Hid (Own PE y1 o1 c1 r.pairs) := ho; obtain ⟨v0, v1, v2, v3⟩ := cells4 HY1.out.1.a; have fz := frozen_of_blk HY1.out.1.a 2; clear ho hap x0 x1 x2 x3)
  have HNA : Hid (∀ x, inO o1 x → x ≠ A) := fun x hx e => by
    obtain ⟨cur, hc⟩ := HO1.out.tag x hx
    exact ne_cells HY1.out.1.a hc (by decide) e.symm
  have HS1 : Hid (OwS w A B (.int .i64 k) (.int .u64 (i : Nat)) (.slice o1 np c1) (.slice ok nk ck) (y1.setCell ⟨A, 2, none⟩ (.slice o1 np c1))) := HY1.out.1.set2 _
  have HO2 : Hid (Own PE (y1.setCell ⟨A, 2, none⟩ (.slice o1 np c1)) o1 c1 r.pairs ∧ New w o1) := ⟨HO1.out.keeps ((Keeps.refl (eqA A) y1).setA 2 _) (fun x hx e => HNA.out x hx e), HY1.out.2⟩
  generalize y1.setCell ⟨A, 2, none⟩ (.slice o1 np c1) = W1 at HS1 HO2 ⊢
  clear v0 v1 v2 v3 fz HY1 HO1 HE HS0 HBD HPB
  have HBD : Hid (A < W1.heap.size ∧ B < W1.heap.size ∧ w.heap.size ≤ W1.heap.size) := ⟨lt_of_block HS1.out.a, lt_of_block HS1.out.b, HS1.out.kp.size⟩
  have HE : Hid (OwS w A B (.int .i64 k) (.int .u64 (i : Nat)) (.slice o1 np c1) (.slice ok nk ck) (W1.alloc (.cells #[] 9))) := HS1.out.alloc _
  have HO3 : Hid (Own PE (W1.alloc (.cells #[] 9)) o1 c1 r.pairs ∧ ∀ x, inO o1 x → x < W1.heap.size) := ⟨HO2.out.1.keepsN ((Keeps.refl _ _).alloc _), HO2.out.1.lt⟩
  obtain ⟨x0, x1, x2, x3⟩ := cells4 HE.out.a
  go_upto_region 3 with (at_builtin; go_must (refine wpList_app okT rfl _ _ rfl (some ⟨W1.heap.size, 0, none⟩) 0 0 [] rfl rfl (own_empty okT W1) ok nk ck r.keys rfl H.out.nk H.out.kys.nil (H.out.kys.keepsN HE.out.kp).row HKB.out.1 HKB.out.2 ?_); intro o2 c2 y2 ho hap; have HY2 : Hid (OwS w A B (.int .i64 k) (.int .u64 (i : Nat)) (.slice o1 np c1) (.slice ok nk ck) y2 ∧ New w o2) := HE.out.app ⟨HBD.out.1, HBD.out.2.1⟩ hap HBD.out.2.2; have HP2 : Hid (Own PE y2 o1 c1 r.pairs) := HO3.out.1.apart_ap hap HO3.out.2; have HO4 : Hid (Own TE y2 o2 c2 r.keys) := ho; obtain ⟨v0, v1, v2, v3⟩ := cells4 HY2.out.1.a; have fz := frozen_of_blk HY2.out.1.a 3; clear ho hap x0 x1 x2 x3)
  have HNB : Hid (∀ x, inO o2 x → x ≠ A) := fun x hx e => by
    obtain ⟨cur, hc⟩ := HO4.out.tag x hx
    exact ne_cells HY2.out.1.a hc (by decide) e.symm
  have HS2 : Hid (OwS w A B (.int .i64 k) (.int .u64 (i : Nat)) (.slice o1 np c1) (.slice o2 nk c2) (y2.setCell ⟨A, 3, none⟩ (.slice o2 nk c2))) := HY2.out.1.set3 _
  have HPK : Hid ((Own PE (y2.setCell ⟨A, 3, none⟩ (.slice o2 nk c2)) o1 c1 r.pairs ∧ Own TE (y2.setCell ⟨A, 3, none⟩ (.slice o2 nk c2)) o2 c2 r.keys) ∧ New w o1 ∧ New w o2) := ⟨⟨HP2.out.keeps ((Keeps.refl (eqA A) y2).setA 3 _) (fun x hx e => HNA.out x hx e), HO4.out.keeps ((Keeps.refl (eqA A) y2).setA 3 _) (fun x hx e => HNB.out x hx e)⟩, HO2.out.2, HY2.out.2⟩
  generalize y2.setCell ⟨A, 3, none⟩ (.slice o2 nk c2) = W2 at HS2 HPK ⊢
  clear v0 v1 v2 v3 fz HY2 HO4 HE HS1 HBD HKB HO3 HP2 HO2
  obtain ⟨v0, v1, v2, v3⟩ := cells4 HS2.out.a
  obtain ⟨z0, z1, z2, z3⟩ := cells4 HS2.out.b
  have f0 := frozen_of_blk HS2.out.b 0
  have f1 := frozen_of_blk HS2.out.b 1
  have f2 := frozen_of_blk HS2.out.b 2
  have f3 := frozen_of_blk HS2.out.b 3
  go_wp2_with fail
  have h4 := set4 HS2.out.b (.int .i64 k) (.int .u64 (i : Nat)) (.slice o1 np c1) (.slice o2 nk c2)
  have hPB : ∀ x, inO o1 x → ¬ eqA B x := fun x hx e => by
    obtain ⟨cur, hc⟩ := HPK.out.1.1.tag x hx
    exact ne_cells HS2.out.b hc (by decide) e.symm
  have hKB : ∀ x, inO o2 x → ¬ eqA B x := fun x hx e => by
    obtain ⟨cur, hc⟩ := HPK.out.1.2.tag x hx
    exact ne_cells HS2.out.b hc (by decide) e.symm
  refine bodyPost_ret (results_row1 rfl _ _ B _ rfl (loadR h4.1)) rfl ?_
  exact ⟨o1, c1, o2, c2, rfl, ⟨H.out.k, H.out.i, H.out.np, H.out.nk, HPK.out.1.1.keeps h4.2 hPB, HPK.out.1.2.keeps h4.2 hKB, HPK.out.2.1, HPK.out.2.2, H.out.fit⟩, HS2.out.kp.then h4.2 (fun x hx => .inr (by unfold eqA at hx; have := HS2.out.hB; omega))⟩

end Go.Proofs.YtgamhblkgojapaaGreatDoor
/- The laws' own functions: sameRecords; the log's Size and Name; the record of a commit. -/
namespace Go.Proofs.YtgamhblkgojapaaGreatDoor
open Go.RowKit Pk
set_option linter.unusedVariables false
set_option linter.unusedSimpArgs false

theorem Sl.atCE {w : World} {a : Option Addr} {c : Nat} {xs : List CV} (h : Sl CE w a c xs) {j : Nat} (hj : j < xs.length) : ∃ b off, a = some ⟨b, off, none⟩ ∧ w.cell? ⟨b, off + j * 4, none⟩ = some (.int .i64 (xs.getD j cv0).k) ∧ w.cell? ⟨b, off + j * 4 + 1, none⟩ = some (.int .u64 ((xs.getD j cv0).i : Nat)) ∧ w.cell? ⟨b, off + j * 4 + 2, none⟩ = some (.slice (xs.getD j cv0).op (xs.getD j cv0).np (xs.getD j cv0).cp) ∧ w.cell? ⟨b, off + j * 4 + 3, none⟩ = some (.slice (xs.getD j cv0).ok (xs.getD j cv0).nk (xs.getD j cv0).ck) := by
  rcases h.row with e | ⟨b, off, rfl, hc⟩
  · subst e; simp at hj
  · refine ⟨b, off, rfl, hc (j * 4) _ ?_, ?_, ?_, ?_⟩
    · have := cells_at okC cv0 xs j 0 hj (by decide)
      simpa [CE] using this
    all_goals rw [Nat.add_assoc]
    · refine hc (j * 4 + 1) _ ?_
      have := cells_at okC cv0 xs j 1 hj (by decide)
      simpa [CE] using this
    · refine hc (j * 4 + 2) _ ?_
      have := cells_at okC cv0 xs j 2 hj (by decide)
      simpa [CE] using this
    · refine hc (j * 4 + 3) _ ?_
      have := cells_at okC cv0 xs j 3 hj (by decide)
      simpa [CE] using this
/-- a list of records, to be read -/
structure RsIn (w : World) (o : Option Addr) (c : Nat) (vs : List CV) (rs : List Rec) : Prop where
  sl : Sl CE w o c vs
  len : vs.length = rs.length
  each : ∀ j, j < rs.length → IsC w (vs.getD j cv0) (rs.getD j c0)
theorem RsIn.keepsN {w w' : World} {o : Option Addr} {c : Nat} {vs : List CV} {rs : List Rec} (h : RsIn w o c vs rs) (hk : Keeps no w w') : RsIn w' o c vs rs := ⟨h.sl.keepsN hk, h.len, fun j hj => (h.each j hj).keepsN hk⟩
theorem Scn.rsIn {w w' : World} {o : Option Addr} {c : Nat} {vs : List CV} {rs : List Rec} (h : Scn w w' o c vs rs) : RsIn w' o c vs rs := ⟨h.own.sl, h.len, fun j hj => (h.each j hj).isC⟩
def SamesTo (w : World) (rs rs' : List Rec) (e : Ending) (w' : World) : Prop := (∃ B : Bool, e = .returned (.bool B) ∧ Hid (B = true ↔ rs = rs')) ∧ Keeps no w w'

set_option maxRecDepth 10000 in
set_option maxHeartbeats 1000000 in
theorem sameRecords_any (w : World) (oa : Option Addr) (na ca : Nat) (vs : List CV) (rs : List Rec) (ob : Option Addr) (nb cb : Nat) (vs' : List CV) (rs' : List Rec) (hna : na = rs.length) (hnb : nb = rs'.length) (hA : (na : Int) ≤ 137438953472) (hB : (nb : Int) ≤ 137438953472) (ha : RsIn w oa ca vs rs) (hb : RsIn w ob cb vs' rs') :
    Calls Tryz.prog 27 #[.slice oa na ca, .slice ob nb cb] w (SamesTo w rs rs') := by
  have HNA : Hid (na = rs.length) := hna
  have HNB : Hid (nb = rs'.length) := hnb
  have HA : Hid (RsIn w oa ca vs rs) := ha
  have HB : Hid (RsIn w ob cb vs' rs') := hb
  clear hna hnb ha hb
  by_cases hne : na = nb
  · subst hne
    go_enter Tryz.func27, Tryz.ntmps27
    go_wp2_with fail
    go_loopw [5] (fun j wr => ∃ q : Nat, j = .int .i64 (q : Nat) ∧ q ≤ na ∧ Hid (Keeps no w wr ∧ rs.take q = rs'.take q)) (fun j _ => na - (intOf j).toNat)
    case atStart => exact ⟨0, rfl, by omega, Keeps.refl _ _, by simp⟩
    case round =>
      rename World => wr
      obtain ⟨q, rfl, hq, HQ⟩ := hrel
      by_cases hqn : q < na
      · have hqn' : (q : Int) < (na : Int) := by omega
        obtain ⟨b1, off1, rfl, d0, d1, d2, d3⟩ := (HA.out.sl.keepsN HQ.out.1).atCE (j := q) (by have := HA.out.len; have := HNA.out; omega)
        obtain ⟨b2, off2, rfl, g0, g1, g2, g3⟩ := (HB.out.sl.keepsN HQ.out.1).atCE (j := q) (by have := HB.out.len; have := HNB.out; omega)
        have HC1 : Hid (IsC wr (vs.getD q cv0) (rs.getD q c0)) := (HA.out.each q (by have := HNA.out; omega)).keepsN HQ.out.1
        have HC2 : Hid (IsC wr (vs'.getD q cv0) (rs'.getD q c0)) := (HB.out.each q (by have := HNB.out; omega)).keepsN HQ.out.1
        generalize vs.getD q cv0 = v1 at d0 d1 d2 d3 HC1
        generalize vs'.getD q cv0 = v2 at g0 g1 g2 g3 HC2
        obtain ⟨ra, hra⟩ : ∃ ra, ra = rs.getD q c0 := ⟨_, rfl⟩
        obtain ⟨rb, hrb⟩ : ∃ rb, rb = rs'.getD q c0 := ⟨_, rfl⟩
        rw [← hra] at HC1
        rw [← hrb] at HC2
        have HRA : Hid (ra = rs.getD q c0) := hra
        have HRB : Hid (rb = rs'.getD q c0) := hrb
        clear hra hrb
        obtain ⟨k1, i1, op1, np1, cp1, ok1, nk1, ck1⟩ := v1
        obtain ⟨k2, i2, op2, np2, cp2, ok2, nk2, ck2⟩ := v2
        simp only at d0 d1 d2 d3 g0 g1 g2 g3
        have HST : Hid (∀ w', Keeps no wr w' → w'.cell? ⟨b1, off1 + q * 4, none⟩ = some (.int .i64 k1) ∧ w'.cell? ⟨b1, off1 + q * 4 + 1, none⟩ = some (.int .u64 (i1 : Nat)) ∧ w'.cell? ⟨b1, off1 + q * 4 + 2, none⟩ = some (.slice op1 np1 cp1) ∧ w'.cell? ⟨b1, off1 + q * 4 + 3, none⟩ = some (.slice ok1 nk1 ck1) ∧ w'.cell? ⟨b2, off2 + q * 4, none⟩ = some (.int .i64 k2) ∧ w'.cell? ⟨b2, off2 + q * 4 + 1, none⟩ = some (.int .u64 (i2 : Nat)) ∧ w'.cell? ⟨b2, off2 + q * 4 + 2, none⟩ = some (.slice op2 np2 cp2) ∧ w'.cell? ⟨b2, off2 + q * 4 + 3, none⟩ = some (.slice ok2 nk2 ck2)) := fun w' hk => ⟨hk.cellN d0, hk.cellN d1, hk.cellN d2, hk.cellN d3, hk.cellN g0, hk.cellN g1, hk.cellN g2, hk.cellN g3⟩
        go_wp2_with fail
        go_region_held3 (fun w' => w'.cell? ⟨b1, off1 + q * 4, none⟩ = some (.int .i64 k1) ∧ w'.cell? ⟨b1, off1 + q * 4 + 1, none⟩ = some (.int .u64 (i1 : Nat)) ∧ w'.cell? ⟨b1, off1 + q * 4 + 2, none⟩ = some (.slice op1 np1 cp1) ∧ w'.cell? ⟨b1, off1 + q * 4 + 3, none⟩ = some (.slice ok1 nk1 ck1) ∧ w'.cell? ⟨b2, off2 + q * 4, none⟩ = some (.int .i64 k2) ∧ w'.cell? ⟨b2, off2 + q * 4 + 1, none⟩ = some (.int .u64 (i2 : Nat)) ∧ w'.cell? ⟨b2, off2 + q * 4 + 2, none⟩ = some (.slice op2 np2 cp2) ∧ w'.cell? ⟨b2, off2 + q * 4 + 3, none⟩ = some (.slice ok2 nk2 ck2)) (first | exact HST.out _ HK9.out | exact HST.out _ ((Keeps.refl no wr).drew) | exact HST.out _ (Keeps.refl no wr)) ((go_at_call 33; refine (sameRecord_any _ k1 i1 op1 np1 cp1 ok1 nk1 ck1 ra (HC1.out.keepsN (Keeps.refl no wr).drew) k2 i2 op2 np2 cp2 ok2 nk2 ck2 rb (HC2.out.keepsN (Keeps.refl no wr).drew)).mono ?_; rintro e w9 ⟨⟨B1, rfl, hB1⟩, hk9⟩; have HK9 : Hid (Keeps no wr w9) := (Keeps.refl no wr).drew.trans hk9; have HB1 : Hid (B1 = true ↔ ra = rb) := hB1; clear hB1 hk9))
        rename _ ∧ _ => hh
        clear hh d0 d1 d2 d3 g0 g1 g2 g3 HST
        cases B1
        · go_wp2_with fail
          go_ret
          refine ⟨⟨false, rfl, ⟨fun h => (by cases h), fun e => ?_⟩⟩, HQ.out.1.trans HK9.out⟩
          exact absurd (HB1.out.2 (by rw [HRA.out, HRB.out, e])) (by decide)
        · have HQ2 : Hid (Keeps no w w9 ∧ rs.take (q + 1) = rs'.take (q + 1)) := by
            refine ⟨HQ.out.1.trans HK9.out, ?_⟩
            rw [take_succ_getD rs q c0 (by have := HNA.out; omega), take_succ_getD rs' q c0 (by have := HNB.out; omega), HQ.out.2, ← HRA.out, ← HRB.out, HB1.out.1 rfl]
          go_wp2_with fail
          go_roundw
          case rel => exact ⟨q + 1, by go_num, by omega, HQ2⟩
          case measure => simp [intOf]; omega
      · have hqn' : ¬ (q : Int) < (na : Int) := by omega
        go_wp2_with fail
        go_ret
        refine ⟨⟨true, rfl, ⟨fun _ => ?_, fun _ => rfl⟩⟩, HQ.out.1⟩
        have := HQ.out.2
        rwa [List.take_of_length_le (by have := HNA.out; omega), List.take_of_length_le (by have := HNB.out; omega)] at this
  · have hne' : ¬ ((na : Nat) : Int) = (nb : Nat) := by omega
    go_enter Tryz.func27, Tryz.ntmps27
    go_wp2_with fail
    go_ret
    exact ⟨⟨false, rfl, ⟨fun h => (by cases h), fun e => absurd (by rw [HNA.out, HNB.out, e]) hne⟩⟩, Keeps.refl _ _⟩
theorem LogSize_any (w : World) (q p : Nat) (n : Tx) (k : Nat) (h : IsL w q p n k) : Calls Tryz.prog 13 #[.pointer (some ⟨q, 0, none⟩)] w fun e w' => e = .returned (.int .i64 (k : Nat)) ∧ w' = w := by
  obtain ⟨c0, c1, c2, _⟩ := h.cells
  go_enter Tryz.func13, Tryz.ntmps13
  go_wp2_with fail
  go_ret
  exact ⟨rfl, rfl⟩
theorem LogName_any (w : World) (q p : Nat) (n : Tx) (k : Nat) (h : IsL w q p n k) : Calls Tryz.prog 15 #[.pointer (some ⟨q, 0, none⟩)] w fun e w' => e = .returned (.string n) ∧ w' = w := by
  obtain ⟨c0, c1, c2, _⟩ := h.cells
  go_enter Tryz.func15, Tryz.ntmps15
  go_wp2_with fail
  go_ret
  exact ⟨rfl, rfl⟩
end Go.Proofs.YtgamhblkgojapaaGreatDoor
/- The record of a commit. -/
namespace Go.Proofs.YtgamhblkgojapaaGreatDoor
open Go.RowKit Pk
set_option linter.unusedVariables false
set_option linter.unusedSimpArgs false

def cmR (q : Nat) : Rec := ⟨2, q * 65536, [], []⟩
theorem cmR_may {q : Nat} (h : 1 ≤ q) : may (cmR q) = true := by
  unfold may cmR
  rw [if_neg (by show ¬ (2 : Int) = 1; decide), if_pos rfl, decide_eq_true (by show 65536 ≤ q * 65536; omega)]
  rfl
theorem cmR_isC (w : World) {q : Nat} (h : q ≤ 1000000) : IsC w ⟨2, q * 65536, none, 0, 0, none, 0, 0⟩ (cmR q) := ⟨rfl, rfl, rfl, rfl, own_nil_sl _, own_nil_sl _, ⟨by simp [cmR], fun s hs => (by cases hs), by simp [cmR], fun s hs => (by cases hs), by simp [cmR], by simp [cmR], by simp only [cmR]; omega⟩⟩
theorem cmR_body (q : Nat) : (body (cmR q)).length = 9 := by
  unfold body layF cmR
  simp [num_length]
theorem commit_any (w : World) (q : Nat) (hq : (q : Int) ≤ 1000000) : Calls Tryz.prog 30 #[.int .i64 (q : Nat)] w fun e w' => e = .returned (.agg #[.int .i64 2, .int .u64 ((q * 65536 : Nat) : Int), .slice none 0 0, .slice none 0 0]) ∧ Keeps no w w' := by
  have h1 : IntKind.u64.wrap ((q : Int) * 2 ^ 16) = (q : Int) * 65536 := by rw [IntKind.wrap_u64]; omega
  have h2 : IntKind.u64.wrap ((q : Int) * 65536) = (q : Int) * 65536 := by rw [IntKind.wrap_u64]; omega
  go_enter Tryz.func30, Tryz.ntmps30
  go_wp2_with fail
  refine bodyPost_ret (results_row1 rfl _ _ w.heap.size _ rfl (loadR (blk_new w _))) rfl ?_
  exact ⟨by rw [show ((q * 65536 : Nat) : Int) = (q : Int) * 65536 by omega], (Keeps.refl _ _).alloc _⟩
end Go.Proofs.YtgamhblkgojapaaGreatDoor
