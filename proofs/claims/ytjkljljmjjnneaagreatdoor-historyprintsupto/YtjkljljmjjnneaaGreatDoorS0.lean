/- The law's own: sameTexts, two. -/
import Derived.Test.YtjkljljmjjnneaaGreatDoorN2
import Derived.Deep.QuietTactic
namespace Go.Proofs.YtjkljljmjjnneaaGreatDoor
open Go.RowKit Go.Sort Orl
set_option linter.unusedVariables false
set_option linter.unusedSimpArgs false

set_option maxRecDepth 10000 in
set_option maxHeartbeats 4000000 in
theorem sameTexts_any (w : World) (oa : Option Addr) (na ca : Nat) (ob : Option Addr) (nb cb : Nat) (sa sb : List Tx) (hna : na = sa.length) (hnb : nb = sb.length) (hla : sa.length ≤ 8796093022000) (hlb : sb.length ≤ 8796093022000) (ha : Sl TE w oa ca sa) (hb : Sl TE w ob cb sb) :
    Calls Tryz.prog 23 #[.slice oa na ca, .slice ob nb cb] w fun e w' => (∃ B : Bool, e = .returned (.bool B) ∧ Hid (B = true ↔ sa = sb)) ∧ Keeps no w w' := by
  have HA : Hid (na = sa.length) := hna
  have HB : Hid (nb = sb.length) := hnb
  have hA : (na : Int) ≤ 8796093022000 := by omega
  have hB : (nb : Int) ≤ 8796093022000 := by omega
  clear hna hnb hla hlb
  by_cases hne : na = nb
  · subst hne
    go_enter Tryz.func23, Tryz.ntmps23
    go_wp2_with fail
    go_loopw [5] (fun i wr => ∃ k m : Nat, k ≤ na ∧ i = .int .i64 k ∧ wr = w.drewN m ∧ Hid (sa.take k = sb.take k)) (fun i _ => na - (intOf i).toNat)
    case atStart => exact ⟨0, 0, by omega, rfl, rfl, show sa.take 0 = sb.take 0 by simp⟩
    case round =>
      obtain ⟨k, m, hk, rfl, rfl, HT⟩ := hrel
      by_cases h2 : k < na
      · have hka : k < sa.length := by have := HA.out; omega
        have hkb : k < sb.length := by have := HB.out; omega
        obtain ⟨b1, off1, rfl, d1⟩ := ha.at hka
        obtain ⟨b2, off2, rfl, d2⟩ := hb.at hkb
        obtain ⟨x, hx⟩ : ∃ x, x = sa.getD k e0 := ⟨_, rfl⟩
        obtain ⟨y, hy⟩ : ∃ y, y = sb.getD k e0 := ⟨_, rfl⟩
        rw [← hx] at d1
        rw [← hy] at d2
        have HX : Hid (x = sa.getD k e0) := hx
        have HY : Hid (y = sb.getD k e0) := hy
        clear hx hy hka hkb
        by_cases hxy : x = y
        · have hxy' : (x.toList == y.toList) = true := by rw [tx_eq]; simpa using hxy
          clear hxy
          go_wp2
          go_quiet (fail)
          go_wp2
          go_roundw
          case rel =>
            refine ⟨k + 1, _, by omega, by go_num, rfl, ?_⟩
            rw [tx_eq, decide_eq_true_eq] at hxy'
            have := HT.out
            show sa.take (k + 1) = sb.take (k + 1)
            rw [take_succ_getD sa k e0 (by have := HA.out; omega), take_succ_getD sb k e0 (by have := HB.out; omega), this, ← HX.out, ← HY.out, hxy']
          case measure => simp [intOf]; omega
        · have hxy' : (x.toList == y.toList) = false := by rw [tx_eq]; simpa using hxy
          go_wp2
          go_quiet (fail)
          go_wp2
          go_ret
          refine ⟨⟨false, rfl, ⟨fun h => (by cases h), fun e => ?_⟩⟩, ((Keeps.refl _ _).drewN _).drewN _⟩
          exact absurd (by rw [HX.out, HY.out, e]) hxy
      · go_wp2
        go_ret
        refine ⟨⟨true, rfl, ⟨fun _ => ?_, fun _ => rfl⟩⟩, (Keeps.refl _ _).drewN _⟩
        have := HT.out
        rwa [List.take_of_length_le (by have := HA.out; omega), List.take_of_length_le (by have := HB.out; omega)] at this
  · have hne' : ¬ ((na : Nat) : Int) = (nb : Nat) := by omega
    go_enter Tryz.func23, Tryz.ntmps23
    go_wp2
    go_ret
    refine ⟨⟨false, rfl, ⟨fun h => (by cases h), fun e => ?_⟩⟩, Keeps.refl _ _⟩
    exact absurd (by rw [HA.out, HB.out, e]) hne


theorem sameT_grown {W : World} (oa : Option Addr) (na ca : Nat) (ob : Option Addr) (nb cb : Nat) (sa sb : List Tx) (hna : na = sa.length) (hnb : nb = sb.length) (hla : sa.length ≤ 8796093022000) (hlb : sb.length ≤ 8796093022000) (ha : Sl TE W oa ca sa) (hb : Sl TE W ob cb sb) (d : Nat) (os : Array Obj) :
    Calls Tryz.prog 23 #[.slice oa na ca, .slice ob nb cb] (Sort.grow (redrawn W d) os) fun e w'' => e = .returned (.bool (decide (sa = sb))) ∧ ∃ p : Regrown, w'' = Sort.grow (redrawn W p.d) p.os :=
  call_grown (fun X hX => (sameTexts_any X oa na ca ob nb cb sa sb hna hnb hla hlb (ha.keepsN hX) (hb.keepsN hX)).mono fun e w' ⟨⟨B, he, hB⟩, hk⟩ => ⟨by rw [he]; congr 2; exact Bool.eq_iff_iff.2 (by rw [hB.out, decide_eq_true_eq]), hk⟩) d os
theorem lit_many {α : Type} {E : El α} (w : World) (xs : List α) (cs : Array Value) (hc : cs.toList = E.cells xs) (hx : xs ≠ []) : Sl E (w.alloc (.cells cs E.e)) (some ⟨w.heap.size, 0, none⟩) xs.length xs :=
  ⟨.inr ⟨w.heap.size, 0, rfl, fun j u hj => by
    rw [cell_of_blk (blk_new w _), Nat.zero_add, ← Array.getElem?_toList, hc]
    exact hj⟩, Nat.le_refl _, fun h => by cases h⟩
theorem sl_nil {α : Type} {E : El α} (w : World) : Sl E w none 0 [] := ⟨.inl rfl, Nat.le_refl _, fun _ => rfl⟩
/-- the chapter's first example -/
def twoE : List Ev := [⟨1, 0, 1, 65536, [(⟨#[97]⟩, ⟨#[49]⟩), (⟨#[]⟩, ⟨#[120, 32, 121]⟩)], [], 0, 0, 0, []⟩, ⟨3, 0, 1, 0, [], [], 1, 1, 65536, []⟩]
set_option maxRecDepth 10000 in
set_option maxHeartbeats 4000000 in
theorem two_any (w : World) : Calls Tryz.prog 18 #[] w fun e w' => ∃ o rs, e = .returned (.slice o 2 2) ∧ Evs w' o 2 rs twoE ∧ Keeps no w w' := by
  go_enter Tryz.func18, Tryz.ntmps18
  go_wp2_with fail
  go_ret
  refine ⟨some ⟨w.heap.size + 1, 0, none⟩, [⟨1, 0, 1, 65536, some ⟨w.heap.size, 0, none⟩, 2, 2, none, 0, 0, 0, 0, 0, none, 0, 0⟩, ⟨3, 0, 1, 0, none, 0, 0, none, 0, 0, 1, 1, 65536, none, 0, 0⟩], rfl, ?_, ((Keeps.refl _ _).alloc _).alloc _⟩
  have hp := lit_many (E := PE) w [((⟨#[97]⟩ : Tx), (⟨#[49]⟩ : Tx)), (⟨#[]⟩, ⟨#[120, 32, 121]⟩)] #[.string ⟨#[97]⟩, .string ⟨#[49]⟩, .string ⟨#[]⟩, .string ⟨#[120, 32, 121]⟩] rfl (by simp)
  have hsz : (w.alloc (.cells #[.string ⟨#[97]⟩, .string ⟨#[49]⟩, .string ⟨#[]⟩, .string ⟨#[120, 32, 121]⟩] 49)).heap.size = w.heap.size + 1 := Array.size_push _
  refine ⟨?_, rfl, fun j hj => ?_⟩
  · have he := lit_many (E := EE) (w.alloc (.cells #[.string ⟨#[97]⟩, .string ⟨#[49]⟩, .string ⟨#[]⟩, .string ⟨#[120, 32, 121]⟩] 49)) [(⟨1, 0, 1, 65536, some ⟨w.heap.size, 0, none⟩, 2, 2, none, 0, 0, 0, 0, 0, none, 0, 0⟩ : RE), ⟨3, 0, 1, 0, none, 0, 0, none, 0, 0, 1, 1, 65536, none, 0, 0⟩] _ rfl (by simp)
    rw [hsz] at he
    exact he
  · match j, hj with
    | 0, _ =>
      exact ⟨rfl, rfl, rfl, rfl, rfl, hp.keepsN ((Keeps.refl _ _).alloc _), rfl, sl_nil _, rfl, rfl, rfl, rfl, [], sl_nil _, rfl, fun j hj => absurd hj (Nat.not_lt_zero _)⟩
    | 1, _ =>
      exact ⟨rfl, rfl, rfl, rfl, rfl, sl_nil _, rfl, sl_nil _, rfl, rfl, rfl, rfl, [], sl_nil _, rfl, fun j hj => absurd hj (Nat.not_lt_zero _)⟩
    | j + 2, h => exact absurd (show j + 2 < 2 from h) (by omega)
end Go.Proofs.YtjkljljmjjnneaaGreatDoor
