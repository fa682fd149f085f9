/- The law's own helps: own, same, sameS, sameP, sameR. -/
import Derived.Test.YtdalheeifgampaaDoorC8
namespace Go.Proofs.YtdalheeifgampaaDoor
open Go.RowKit Go.Sort Orl Pk
set_option linter.unusedVariables false
set_option linter.unusedSimpArgs false

theorem toList_inj (x y : Tx) : x.toList = y.toList ↔ x = y := by
  rw [Lib.toList_data, Lib.toList_data]
  exact ⟨tx_ext, fun e => by rw [e]⟩
theorem neqP (x1 x2 y1 y2 : Tx) (w : World) : (binOp .neq 33 (.agg #[.string x1, .string x2]) (.agg #[.string y1, .string y2])).run Tryd.prog w = .ok (.bool (!(decide (x1 = y1) && decide (x2 = y2)))) w := by
  have u9 := Tryd.underlying9
  have a9 := Tryd.isAgg9
  have z9 := Tryd.sizeOf9
  have hS : Tryd.prog.underlying 33 = some (.struct (Tryd.prog.fieldsOf 33)) := by kernel_rfl
  have hp : Tryd.prog.stoodInHeld 33 = false := by kernel_rfl
  rw [run_neq_struct, show (10000 : Nat) = 9999 + 1 from rfl, run_equalIn_agg w 9999 33 _ _ hS hp]
  simp only [Program.fieldsOf, Tryd.underlying33]
  go_simp
  by_cases h1 : x1 = y1 <;> by_cases h2 : x2 = y2 <;> simp [h1, h2, toList_inj]
theorem same_bytes (w : World) (oa : Option Addr) (na ca : Nat) (ob : Option Addr) (nb cb : Nat) (a b : List Nat) (hna : na = a.length) (hnb : nb = b.length) (ha : BRow w oa a) (hb : BRow w ob b) :
    Calls Tryd.prog 18 #[.slice oa na ca, .slice ob nb cb] w fun e w' => e = .returned (.bool (decide (a = b))) ∧ w' = w := by
  have h1 := run_text w oa a na ca hna ha
  have h2 := run_text w ob b nb cb hnb hb
  have HE : Hid (((text a).toList == (text b).toList) = decide (a = b)) := by
    show _ = _
    rw [tx_eq]
    by_cases h : a = b
    · subst h; simp
    · have : ¬ text a = text b := fun e => h (by rw [← nats_text a ha.1, ← nats_text b hb.1, e])
      rw [decide_eq_false h, decide_eq_false this]
  generalize text a = ta at h1 HE
  generalize text b = tb at h2 HE
  clear hna hnb
  go_enter Tryd.func18, Tryd.ntmps18
  go_wp2
  go_ret
  refine ⟨?_, rfl⟩
  rw [← HE.out]
  rfl
set_option maxRecDepth 10000 in
theorem sameS_any (w : World) (oa : Option Addr) (na ca : Nat) (ob : Option Addr) (nb cb : Nat) (sa sb : List Tx) (hna : na = sa.length) (hnb : nb = sb.length) (hla : sa.length ≤ 8796093022000) (hlb : sb.length ≤ 8796093022000) (ha : Sl TE w oa ca sa) (hb : Sl TE w ob cb sb) :
    Calls Tryd.prog 33 #[.slice oa na ca, .slice ob nb cb] w fun e w' => (∃ B : Bool, e = .returned (.bool B) ∧ Hid (B = true ↔ sa = sb)) ∧ Keeps no w w' := by
  have HA : Hid (na = sa.length) := hna
  have HB : Hid (nb = sb.length) := hnb
  have hA : (na : Int) ≤ 8796093022000 := by omega
  have hB : (nb : Int) ≤ 8796093022000 := by omega
  clear hna hnb hla hlb
  by_cases hne : na = nb
  · subst hne
    go_enter Tryd.func33, Tryd.ntmps33
    go_wp2_with fail
    go_loopw [5] (fun i wr => ∃ k m : Nat, k ≤ na ∧ i = .int .i64 k ∧ wr = w.drewN m ∧ Hid (sa.take k = sb.take k)) (fun i _ => na - (intOf i).toNat)
    case atStart => exact ⟨0, 0, by omega, rfl, rfl, show sa.take 0 = sb.take 0 by simp⟩
    case round =>
      obtain ⟨k, m, hk, rfl, rfl, HT⟩ := hrel
      by_cases h2 : k < na
      · have hka : k < sa.length := by have := HA.out; omega
        have hkb : k < sb.length := by have := HB.out; omega
        obtain ⟨b1, off1, rfl, d1⟩ := ha.at hka
        obtain ⟨b2, off2, rfl, d2⟩ := hb.at hkb
        obtain ⟨x, hx⟩ : ∃ x, x = sa.getD k e0 := ⟨_, rfl⟩
        obtain ⟨y, hy⟩ : ∃ y, y = sb.getD k e0 := ⟨_, rfl⟩
        rw [← hx] at d1
        rw [← hy] at d2
        have HX : Hid (x = sa.getD k e0) := hx
        have HY : Hid (y = sb.getD k e0) := hy
        clear hx hy hka hkb
        by_cases hxy : x = y
        · have hxy' : (x.toList == y.toList) = true := by rw [tx_eq]; simpa using hxy
          clear hxy
          go_wp2
          go_quiet (fail)
          go_wp2
          go_roundw
          case rel =>
            refine ⟨k + 1, _, by omega, by go_num, rfl, ?_⟩
            rw [tx_eq, decide_eq_true_eq] at hxy'
            have := HT.out
            show sa.take (k + 1) = sb.take (k + 1)
            rw [take_succ_getD sa k e0 (by have := HA.out; omega), take_succ_getD sb k e0 (by have := HB.out; omega), this, ← HX.out, ← HY.out, hxy']
          case measure => simp [intOf]; omega
        · have hxy' : (x.toList == y.toList) = false := by rw [tx_eq]; simpa using hxy
          go_wp2
          go_quiet (fail)
          go_wp2
          go_ret
          refine ⟨⟨false, rfl, ⟨fun h => (by cases h), fun e => ?_⟩⟩, ((Keeps.refl _ _).drewN _).drewN _⟩
          exact absurd (by rw [HX.out, HY.out, e]) hxy
      · go_wp2
        go_ret
        refine ⟨⟨true, rfl, ⟨fun _ => ?_, fun _ => rfl⟩⟩, (Keeps.refl _ _).drewN _⟩
        have := HT.out
        rwa [List.take_of_length_le (by have := HA.out; omega), List.take_of_length_le (by have := HB.out; omega)] at this
  · have hne' : ¬ ((na : Nat) : Int) = (nb : Nat) := by omega
    go_enter Tryd.func33, Tryd.ntmps33
    go_wp2
    go_ret
    refine ⟨⟨false, rfl, ⟨fun h => (by cases h), fun e => ?_⟩⟩, Keeps.refl _ _⟩
    exact absurd (by rw [HA.out, HB.out, e]) hne
set_option maxRecDepth 10000 in
theorem sameP_any (w : World) (oa : Option Addr) (na ca : Nat) (ob : Option Addr) (nb cb : Nat) (sa sb : List Pr) (hna : na = sa.length) (hnb : nb = sb.length) (hla : sa.length ≤ 4398046511000) (hlb : sb.length ≤ 4398046511000) (ha : Sl PE w oa ca sa) (hb : Sl PE w ob cb sb) :
    Calls Tryd.prog 32 #[.slice oa na ca, .slice ob nb cb] w fun e w' => (∃ B : Bool, e = .returned (.bool B) ∧ Hid (B = true ↔ sa = sb)) ∧ Keeps no w w' := by
  have HA : Hid (na = sa.length) := hna
  have HB : Hid (nb = sb.length) := hnb
  have hA : (na : Int) ≤ 4398046511000 := by omega
  have hB : (nb : Int) ≤ 4398046511000 := by omega
  clear hna hnb hla hlb
  by_cases hne : na = nb
  · subst hne
    go_enter Tryd.func32, Tryd.ntmps32
    go_wp2_with fail
    go_loopw [5] (fun i wr => ∃ k m : Nat, k ≤ na ∧ i = .int .i64 k ∧ wr = w.drewN m ∧ Hid (sa.take k = sb.take k)) (fun i _ => na - (intOf i).toNat)
    case atStart => exact ⟨0, 0, by omega, rfl, rfl, show sa.take 0 = sb.take 0 by simp⟩
    case round =>
      obtain ⟨k, m, hk, rfl, rfl, HT⟩ := hrel
      by_cases h2 : k < na
      · have hka : k < sa.length := by have := HA.out; omega
        have hkb : k < sb.length := by have := HB.out; omega
        obtain ⟨b1, off1, rfl, d1, d1'⟩ := ha.atP hka
        obtain ⟨b2, off2, rfl, d2, d2'⟩ := hb.atP hkb
        obtain ⟨x, hx⟩ : ∃ x, x = sa.getD k p0 := ⟨_, rfl⟩
        obtain ⟨y, hy⟩ : ∃ y, y = sb.getD k p0 := ⟨_, rfl⟩
        rw [← hx] at d1 d1'
        rw [← hy] at d2 d2'
        have HX : Hid (x = sa.getD k p0) := hx
        have HY : Hid (y = sb.getD k p0) := hy
        clear hx hy hka hkb
        obtain ⟨x1, x2⟩ := x
        obtain ⟨y1, y2⟩ := y
        simp only at d1 d1' d2 d2'
        have hnq := neqP x1 x2 y1 y2
        by_cases hxy : (x1, x2) = (y1, y2)
        · have hxy' : (!(decide (x1 = y1) && decide (x2 = y2))) = false := by simp only [Prod.mk.injEq] at hxy; simp [hxy]
          rw [hxy'] at hnq
          have HXY : Hid ((x1, x2) = (y1, y2)) := hxy
          clear hxy hxy'
          go_wp2
          go_quiet (fail)
          go_wp2
          go_roundw
          case rel =>
            refine ⟨k + 1, _, by omega, by go_num, rfl, ?_⟩
            have := HT.out
            show sa.take (k + 1) = sb.take (k + 1)
            rw [take_succ_getD sa k p0 (by have := HA.out; omega), take_succ_getD sb k p0 (by have := HB.out; omega), this, ← HX.out, ← HY.out, HXY.out]
          case measure => simp [intOf]; omega
        · have hxy' : (!(decide (x1 = y1) && decide (x2 = y2))) = true := by
            rw [Prod.mk.injEq] at hxy
            simp only [Bool.not_eq_true', Bool.and_eq_false_iff, decide_eq_false_iff_not]
            by_cases h : x1 = y1
            · exact .inr (fun h2 => hxy ⟨h, h2⟩)
            · exact .inl h
          rw [hxy'] at hnq
          go_wp2
          go_quiet (fail)
          go_wp2
          go_ret
          refine ⟨⟨false, rfl, ⟨fun h => (by cases h), fun e => ?_⟩⟩, ((Keeps.refl _ _).drewN _).drewN _⟩
          exact absurd (by rw [HX.out, HY.out, e]) hxy
      · go_wp2
        go_ret
        refine ⟨⟨true, rfl, ⟨fun _ => ?_, fun _ => rfl⟩⟩, (Keeps.refl _ _).drewN _⟩
        have := HT.out
        rwa [List.take_of_length_le (by have := HA.out; omega), List.take_of_length_le (by have := HB.out; omega)] at this
  · have hne' : ¬ ((na : Nat) : Int) = (nb : Nat) := by omega
    go_enter Tryd.func32, Tryd.ntmps32
    go_wp2
    go_ret
    refine ⟨⟨false, rfl, ⟨fun h => (by cases h), fun e => ?_⟩⟩, Keeps.refl _ _⟩
    exact absurd (by rw [HA.out, HB.out, e]) hne

/-- a copy of the law's own -/
def OwnTo (w : World) (bs : List Nat) (e : Ending) (w' : World) : Prop := ∃ o n c, e = .returned (.slice o n c) ∧ Hid (n = bs.length) ∧ Owns w' o c bs ∧ New w o ∧ Keeps no w w'
theorem own_any (w : World) (a : Option Addr) (n c : Nat) (bs : List Nat) (hn : n = bs.length) (hb : n ≤ 140737488355328) (hs : BSl w a c bs) : Calls Tryd.prog 13 #[.slice a n c] w (OwnTo w bs) := by
  have HN : Hid (n = bs.length) := hn
  clear hn
  go_enter Tryd.func13, Tryd.ntmps13
  go_wp2_with (at_builtin; go_must (refine wpList_appB rfl _ _ rfl none 0 0 [] rfl rfl (owns_nil w) a n c bs rfl HN.out hs.nil hs.row (by omega) ?_); intro o' c' w' ho hfr hk)
  go_ret
  have := hfr.new hk (new_none w) (Keeps.refl no w)
  exact ⟨o', n, c', rfl, HN, ho, this.1, this.2⟩

def SameTo (w : World) (r r' : Rec) (e : Ending) (w' : World) : Prop := (∃ B : Bool, e = .returned (.bool B) ∧ Hid (B = true ↔ r = r')) ∧ Keeps no w w'
set_option maxRecDepth 10000 in
theorem sameR_any (w : World) (k : Int) (i : Nat) (op : Option Addr) (np cp : Nat) (ok : Option Addr) (nk ck : Nat) (r : Rec) (h : IsC w ⟨k, i, op, np, cp, ok, nk, ck⟩ r) (k' : Int) (i' : Nat) (op' : Option Addr) (np' cp' : Nat) (ok' : Option Addr) (nk' ck' : Nat) (r' : Rec) (h' : IsC w ⟨k', i', op', np', cp', ok', nk', ck'⟩ r') :
    Calls Tryd.prog 15 #[.agg #[.int .i64 k, .int .u64 (i : Nat), .slice op np cp, .slice ok nk ck], .agg #[.int .i64 k', .int .u64 (i' : Nat), .slice op' np' cp', .slice ok' nk' ck']] w (SameTo w r r') := by
  have H : Hid (IsC w ⟨k, i, op, np, cp, ok, nk, ck⟩ r) := h
  have H' : Hid (IsC w ⟨k', i', op', np', cp', ok', nk', ck'⟩ r') := h'
  clear h h'
  have k0 : Keeps no w ((w.alloc (.cells #[.int .i64 k, .int .u64 (i : Nat), .slice op np cp, .slice ok nk ck] 30)).alloc (.cells #[.int .i64 k', .int .u64 (i' : Nat), .slice op' np' cp', .slice ok' nk' ck'] 30)) := ((Keeps.refl _ _).alloc _).alloc _
  have hEQ : r = r' ↔ k = k' ∧ i = i' ∧ r.pairs = r'.pairs ∧ r.keys = r'.keys := by
    have e1 := H.out.k; have e2 := H.out.i; have e3 := H'.out.k; have e4 := H'.out.i
    simp only at e1 e2 e3 e4
    rw [e1, e2, e3, e4]
    cases r; cases r'
    simp
  have HEQ : Hid (r = r' ↔ k = k' ∧ i = i' ∧ r.pairs = r'.pairs ∧ r.keys = r'.keys) := hEQ
  clear hEQ
  by_cases hk : k = k'
  · subst hk
    by_cases hi : i = i'
    · subst hi
      go_enter Tryd.func15, Tryd.ntmps15
      go_wp2_with fail
      refine (sameP_any _ op np cp op' np' cp' r.pairs r'.pairs H.out.np H'.out.np H.out.fit.plen H'.out.fit.plen (H.out.prs.keepsN k0) (H'.out.prs.keepsN k0)).mono ?_
      rintro e w2 ⟨⟨B, rfl, hB⟩, hk2⟩
      have hb2 : w2.heap[w.heap.size]? = some (.cells #[.int .i64 k, .int .u64 (i : Nat), .slice op np cp, .slice ok nk ck] 30 (0, 0)) := hk2.at (blk_alloc (blk_new w _) _) (fun h => h)
      have hb3 : w2.heap[w.heap.size + 1]? = some (.cells #[.int .i64 k, .int .u64 (i : Nat), .slice op' np' cp', .slice ok' nk' ck'] 30 (0, 0)) := by
        have := blk_new (w.alloc (.cells #[.int .i64 k, .int .u64 (i : Nat), .slice op np cp, .slice ok nk ck] 30)) (.cells #[.int .i64 k, .int .u64 (i : Nat), .slice op' np' cp', .slice ok' nk' ck'] 30)
        rw [show (w.alloc (.cells #[.int .i64 k, .int .u64 (i : Nat), .slice op np cp, .slice ok nk ck] 30)).heap.size = w.heap.size + 1 by simp] at this
        exact hk2.at this (fun h => h)
      obtain ⟨x0, x1, x2, x3⟩ := cells4 hb2
      obtain ⟨y0, y1, y2, y3⟩ := cells4 hb3
      cases B
      · go_wp2_with fail
        go_ret
        refine ⟨⟨false, rfl, ⟨fun h => (by cases h), fun h => ?_⟩⟩, k0.trans hk2⟩
        exact hB.out.2 (HEQ.out.1 h).2.2.1
      · have HB : Hid (r.pairs = r'.pairs) := hB.out.1 rfl
        go_wp2_with fail
        refine (sameS_any _ ok nk ck ok' nk' ck' r.keys r'.keys H.out.nk H'.out.nk H.out.fit.klen H'.out.fit.klen (H.out.kys.keepsN (k0.trans hk2)) (H'.out.kys.keepsN (k0.trans hk2))).mono ?_
        rintro e w3 ⟨⟨B2, rfl, hB2⟩, hk3⟩
        go_wp2_with fail
        go_ret
        refine ⟨⟨B2, rfl, ⟨fun h => HEQ.out.2 (by simp only [true_and]; exact ⟨HB.out, hB2.out.1 h⟩), fun h => hB2.out.2 (HEQ.out.1 h).2.2.2⟩⟩, (k0.trans hk2).trans hk3⟩
    · have hi1 : ((i : Int) == (i' : Int)) = false := by simp; omega
      have hi2 : ¬ (i : Int) = (i' : Int) := by omega
      go_enter Tryd.func15, Tryd.ntmps15
      go_wp2_with fail
      go_ret
      exact ⟨⟨false, rfl, ⟨fun h => (by cases h), fun h => absurd (HEQ.out.1 h).2.1 hi⟩⟩, k0⟩
  · have hk1 : (k == k') = false := by simpa using hk
    go_enter Tryd.func15, Tryd.ntmps15
    go_wp2_with fail
    go_ret
    exact ⟨⟨false, rfl, ⟨fun h => (by cases h), fun h => absurd (HEQ.out.1 h).1 hk⟩⟩, k0⟩
end Go.Proofs.YtdalheeifgampaaDoor
