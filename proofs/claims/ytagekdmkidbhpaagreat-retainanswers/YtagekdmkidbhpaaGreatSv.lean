import Derived.Test.YtagekdmkidbhpaaGreatPo
import Derived.Test.YtagekdmkidbhpaaGreatCB
/- sameTexts, sameVersion. -/
namespace Go.Proofs.YtagekdmkidbhpaaGreat
open Go.RowKit Go.Maps Go.Sort Orl
set_option linter.unusedVariables false
set_option linter.unusedSimpArgs false

set_option maxRecDepth 10000 in
theorem sameTexts_any (w : World) (oa : Option Addr) (na ca : Nat) (ob : Option Addr) (nb cb : Nat) (sa sb : List Tx) (hna : na = sa.length) (hnb : nb = sb.length) (hla : sa.length ≤ 8796093022000) (hlb : sb.length ≤ 8796093022000) (ha : Sl TE w oa ca sa) (hb : Sl TE w ob cb sb) :
    Calls Tryz.prog 43 #[.slice oa na ca, .slice ob nb cb] w fun e w' => (∃ B : Bool, e = .returned (.bool B) ∧ Hid (B = true ↔ sa = sb)) ∧ Keeps no w w' := by
  have HA : Hid (na = sa.length) := hna
  have HB : Hid (nb = sb.length) := hnb
  have hA : (na : Int) ≤ 8796093022000 := by omega
  have hB : (nb : Int) ≤ 8796093022000 := by omega
  clear hna hnb hla hlb
  by_cases hne : na = nb
  · subst hne
    go_enter Tryz.func43, Tryz.ntmps43
    go_wp2_with fail
    go_loopw [5] (fun i wr => ∃ k m : Nat, k ≤ na ∧ i = .int .i64 k ∧ wr = w.drewN m ∧ Hid (sa.take k = sb.take k)) (fun i _ => na - (intOf i).toNat)
    case atStart => exact ⟨0, 0, by omega, rfl, rfl, show sa.take 0 = sb.take 0 by simp⟩
    case round =>
      obtain ⟨k, m, hk, rfl, rfl, HT⟩ := hrel
      by_cases h2 : k < na
      · have hka : k < sa.length := by have := HA.out; omega
        have hkb : k < sb.length := by have := HB.out; omega
        obtain ⟨b1, off1, rfl, d1⟩ := ha.at hka
        obtain ⟨b2, off2, rfl, d2⟩ := hb.at hkb
        obtain ⟨x, hx⟩ : ∃ x, x = sa.getD k e0 := ⟨_, rfl⟩
        obtain ⟨y, hy⟩ : ∃ y, y = sb.getD k e0 := ⟨_, rfl⟩
        rw [← hx] at d1
        rw [← hy] at d2
        have HX : Hid (x = sa.getD k e0) := hx
        have HY : Hid (y = sb.getD k e0) := hy
        clear hx hy hka hkb
        by_cases hxy : x = y
        · have hxy' : (x.toList == y.toList) = true := by rw [tx_eq]; simpa using hxy
          clear hxy
          go_wp2
          go_quiet (fail)
          go_wp2
          go_roundw
          case rel =>
            refine ⟨k + 1, _, by omega, by go_num, rfl, ?_⟩
            rw [tx_eq, decide_eq_true_eq] at hxy'
            have := HT.out
            show sa.take (k + 1) = sb.take (k + 1)
            rw [take_succ_getD sa k e0 (by have := HA.out; omega), take_succ_getD sb k e0 (by have := HB.out; omega), this, ← HX.out, ← HY.out, hxy']
          case measure => simp [intOf]; omega
        · have hxy' : (x.toList == y.toList) = false := by rw [tx_eq]; simpa using hxy
          go_wp2
          go_quiet (fail)
          go_wp2
          go_ret
          refine ⟨⟨false, rfl, ⟨fun h => (by cases h), fun e => ?_⟩⟩, ((Keeps.refl _ _).drewN _).drewN _⟩
          exact absurd (by rw [HX.out, HY.out, e]) hxy
      · go_wp2
        go_ret
        refine ⟨⟨true, rfl, ⟨fun _ => ?_, fun _ => rfl⟩⟩, (Keeps.refl _ _).drewN _⟩
        have := HT.out
        rwa [List.take_of_length_le (by have := HA.out; omega), List.take_of_length_le (by have := HB.out; omega)] at this
  · have hne' : ¬ ((na : Nat) : Int) = (nb : Nat) := by omega
    go_enter Tryz.func43, Tryz.ntmps43
    go_wp2
    go_ret
    refine ⟨⟨false, rfl, ⟨fun h => (by cases h), fun e => ?_⟩⟩, Keeps.refl _ _⟩
    exact absurd (by rw [HA.out, HB.out, e]) hne


theorem toList_inj (x y : Tx) : x.toList = y.toList ↔ x = y := by
  rw [Lib.toList_data, Lib.toList_data]
  exact ⟨tx_ext, fun e => by rw [e]⟩
/-- a version's cells -/
structure VC where
  k : Tx
  i : Int
  v : Tx
  o : Option Addr
  n : Nat
  c : Nat
def VC.agg (x : VC) : Value := .agg #[.string x.k, .int .u64 x.i, .string x.v, .slice x.o x.n x.c]
def SameV (x y : VC) (ks ls : List Tx) : Prop := x.k = y.k ∧ x.i = y.i ∧ x.v = y.v ∧ ks = ls
set_option maxRecDepth 10000 in
theorem sameVersion_any (w : World) (x y : VC) (ks ls : List Tx) (hn : x.n = ks.length) (hm : y.n = ls.length) (hla : ks.length ≤ 8796093022000) (hlb : ls.length ≤ 8796093022000) (ha : Sl TE w x.o x.c ks) (hb : Sl TE w y.o y.c ls) :
    Calls Tryz.prog 17 #[x.agg, y.agg] w fun e w' => (∃ B : Bool, e = .returned (.bool B) ∧ Hid (B = true ↔ SameV x y ks ls)) ∧ Keeps no w w' := by
  obtain ⟨k1, i1, v1, o1, n1, c1⟩ := x
  obtain ⟨k2, i2, v2, o2, n2, c2⟩ := y
  simp only [VC.agg, SameV] at *
  have HW : Hid (Keeps no w ((w.alloc (.cells #[.string k1, .int .u64 i1, .string v1, .slice o1 n1 c1] 45)).alloc (.cells #[.string k2, .int .u64 i2, .string v2, .slice o2 n2 c2] 45))) := ((Keeps.refl no w).alloc _).alloc _
  have hS := sameTexts_any _ o1 n1 c1 o2 n2 c2 ks ls hn hm hla hlb (ha.keepsN HW.out) (hb.keepsN HW.out)
  have HS : Hid (Calls Tryz.prog 43 #[.slice o1 n1 c1, .slice o2 n2 c2] ((w.alloc (.cells #[.string k1, .int .u64 i1, .string v1, .slice o1 n1 c1] 45)).alloc (.cells #[.string k2, .int .u64 i2, .string v2, .slice o2 n2 c2] 45)) fun e w' => (∃ B : Bool, e = .returned (.bool B) ∧ Hid (B = true ↔ ks = ls)) ∧ Keeps no _ w') := hS
  clear hS hn hm hla hlb ha hb
  by_cases h1 : k1 = k2
  · have e1 : (k1.toList == k2.toList) = true := by rw [tx_eq]; simpa using h1
    have H1 : Hid (k1 = k2) := h1
    clear h1
    by_cases h2 : i1 = i2
    · have e2 : (i1 == i2) = true := by simpa using h2
      have H2 : Hid (i1 = i2) := h2
      clear h2
      by_cases h3 : v1 = v2
      · have e3 : (v1.toList == v2.toList) = true := by rw [tx_eq]; simpa using h3
        have H3 : Hid (v1 = v2) := h3
        clear h3
        go_enter Tryz.func17, Tryz.ntmps17
        go_wp2_with fail
        refine Calls.mono HS.out ?_
        rintro e w1 ⟨⟨B, rfl, hB⟩, hk⟩
        go_wp2_with fail
        go_ret
        exact ⟨⟨B, rfl, hB.out.trans ⟨fun h => ⟨H1.out, H2.out, H3.out, h⟩, fun h => h.2.2.2⟩⟩, HW.out.trans hk⟩
      · have e3 : (v1.toList == v2.toList) = false := by rw [tx_eq]; simpa using h3
        have H3 : Hid (¬ v1 = v2) := h3
        clear h3
        go_enter Tryz.func17, Tryz.ntmps17
        go_wp2_with fail
        go_ret
        exact ⟨⟨false, rfl, fun h => (by cases h), fun h => absurd h.2.2.1 H3.out⟩, HW.out⟩
    · have e2 : (i1 == i2) = false := by simpa using h2
      have H2 : Hid (¬ i1 = i2) := h2
      clear h2
      go_enter Tryz.func17, Tryz.ntmps17
      go_wp2_with fail
      go_ret
      exact ⟨⟨false, rfl, fun h => (by cases h), fun h => absurd h.2.1 H2.out⟩, HW.out⟩
  · have e1 : (k1.toList == k2.toList) = false := by rw [tx_eq]; simpa using h1
    have H1 : Hid (¬ k1 = k2) := h1
    clear h1
    go_enter Tryz.func17, Tryz.ntmps17
    go_wp2_with fail
    go_ret
    exact ⟨⟨false, rfl, fun h => (by cases h), fun h => absurd h.1 H1.out⟩, HW.out⟩
theorem Sl.atK {w : World} {a : Option Addr} {c : Nat} {xs : List KV} (h : Sl KE w a c xs) {j : Nat} (hj : j < xs.length) : ∃ b off, a = some ⟨b, off, none⟩ ∧ w.cell? ⟨b, off + j * 5, none⟩ = some (.string (xs.getD j kv0).m.1) ∧ w.cell? ⟨b, off + j * 5 + 1, none⟩ = some (.int .u64 (((xs.getD j kv0).m.2 : Nat) : Int)) ∧ w.cell? ⟨b, off + j * 5 + 2, none⟩ = some (.string (xs.getD j kv0).val) ∧ w.cell? ⟨b, off + j * 5 + 3, none⟩ = some (.slice (xs.getD j kv0).o (xs.getD j kv0).keys.length (xs.getD j kv0).c) ∧ w.cell? ⟨b, off + j * 5 + 4, none⟩ = some (.int .i64 (xs.getD j kv0).stamp) := by
  rcases h.row with e | ⟨b, off, rfl, hc⟩
  · subst e; simp at hj
  · refine ⟨b, off, rfl, hc (j * 5) _ ?_, ?_, ?_, ?_, ?_⟩
    · have := cells_at okK kv0 xs j 0 hj (by decide)
      simpa [KE] using this
    · rw [Nat.add_assoc]
      refine hc (j * 5 + 1) _ ?_
      have := cells_at okK kv0 xs j 1 hj (by decide)
      simpa [KE] using this
    · rw [Nat.add_assoc]
      refine hc (j * 5 + 2) _ ?_
      have := cells_at okK kv0 xs j 2 hj (by decide)
      simpa [KE] using this
    · rw [Nat.add_assoc]
      refine hc (j * 5 + 3) _ ?_
      have := cells_at okK kv0 xs j 3 hj (by decide)
      simpa [KE] using this
    · rw [Nat.add_assoc]
      refine hc (j * 5 + 4) _ ?_
      have := cells_at okK kv0 xs j 4 hj (by decide)
      simpa [KE] using this
theorem kq_of {a b : World} (h1 : b.os = a.os) (h2 : b.tape = a.tape) (h3 : b.output = a.output) (h4 : b.heap = a.heap) : Keeps no a b := ⟨h1, h2, h3, by rw [h4]; exact Nat.le_refl _, fun k _ _ => by rw [h4]⟩
end Go.Proofs.YtagekdmkidbhpaaGreat
