/- Lists of texts held against one another; an append in a region that draws. -/
import Derived.Test.YtgobakfffobpkaaL1
import Derived.BigRegion
import Derived.Deep.RegionLaw
namespace Go.Proofs.Ytgobakfffobpkaa
open Go.RowKit Dk
set_option linter.unusedVariables false
set_option linter.unusedSimpArgs false

set_option maxRecDepth 10000 in
theorem sameS_any (w : World) (oa : Option Addr) (na ca : Nat) (ob : Option Addr) (nb cb : Nat) (sa sb : List Tx) (hna : na = sa.length) (hnb : nb = sb.length) (hla : sa.length ≤ 100000) (hlb : sb.length ≤ 100000) (ha : Sl TE w oa ca sa) (hb : Sl TE w ob cb sb) :
    Calls Try.prog 22 #[.slice oa na ca, .slice ob nb cb] w fun e w' => (∃ B : Bool, e = .returned (.bool B) ∧ Hid (B = true ↔ sa = sb)) ∧ Keeps no w w' := by
  have HA : Hid (na = sa.length) := hna
  have HB : Hid (nb = sb.length) := hnb
  have hA : (na : Int) ≤ 100000 := by omega
  have hB : (nb : Int) ≤ 100000 := by omega
  clear hna hnb hla hlb
  by_cases hne : na = nb
  · subst hne
    go_enter Try.func22, Try.ntmps22
    go_wp2_with fail
    go_loopw [5] (fun i wr => ∃ k m : Nat, k ≤ na ∧ i = .int .i64 k ∧ wr = w.drewN m ∧ Hid (sa.take k = sb.take k)) (fun i _ => na - (intOf i).toNat)
    case atStart => exact ⟨0, 0, by omega, rfl, rfl, show sa.take 0 = sb.take 0 by simp⟩
    case round =>
      obtain ⟨k, m, hk, rfl, rfl, HT⟩ := hrel
      by_cases h2 : k < na
      · have hka : k < sa.length := by have := HA.out; omega
        have hkb : k < sb.length := by have := HB.out; omega
        obtain ⟨b1, off1, rfl, d1⟩ := ha.at hka
        obtain ⟨b2, off2, rfl, d2⟩ := hb.at hkb
        obtain ⟨x, hx⟩ : ∃ x, x = sa.getD k e0 := ⟨_, rfl⟩
        obtain ⟨y, hy⟩ : ∃ y, y = sb.getD k e0 := ⟨_, rfl⟩
        rw [← hx] at d1
        rw [← hy] at d2
        have HX : Hid (x = sa.getD k e0) := hx
        have HY : Hid (y = sb.getD k e0) := hy
        clear hx hy hka hkb
        by_cases hxy : x = y
        · have hxy' : (x.toList == y.toList) = true := by rw [tx_eq]; simpa using hxy
          clear hxy
          go_wp2
          go_quiet (fail)
          go_wp2
          go_roundw
          case rel =>
            refine ⟨k + 1, _, by omega, by go_num, rfl, ?_⟩
            rw [tx_eq, decide_eq_true_eq] at hxy'
            have := HT.out
            show sa.take (k + 1) = sb.take (k + 1)
            rw [take_succ_getD sa k e0 (by have := HA.out; omega), take_succ_getD sb k e0 (by have := HB.out; omega), this, ← HX.out, ← HY.out, hxy']
          case measure => simp [intOf]; omega
        · have hxy' : (x.toList == y.toList) = false := by rw [tx_eq]; simpa using hxy
          go_wp2
          go_quiet (fail)
          go_wp2
          go_ret
          refine ⟨⟨false, rfl, ⟨fun h => (by cases h), fun e => ?_⟩⟩, ((Keeps.refl _ _).drewN _).drewN _⟩
          exact absurd (by rw [HX.out, HY.out, e]) hxy
      · go_wp2
        go_ret
        refine ⟨⟨true, rfl, ⟨fun _ => ?_, fun _ => rfl⟩⟩, (Keeps.refl _ _).drewN _⟩
        have := HT.out
        rwa [List.take_of_length_le (by have := HA.out; omega), List.take_of_length_le (by have := HB.out; omega)] at this
  · have hne' : ¬ ((na : Nat) : Int) = (nb : Nat) := by omega
    go_enter Try.func22, Try.ntmps22
    go_wp2
    go_ret
    refine ⟨⟨false, rfl, ⟨fun h => (by cases h), fun e => ?_⟩⟩, Keeps.refl _ _⟩
    exact absurd (by rw [HA.out, HB.out, e]) hne


theorem step_app {α : Type} {E : El α} (hE : E.Ok) {w : World} {ops : Array Oper} {o : Oper} {a : Act} {K : Act → World → Prop} {Q : Exit → Act → World → Prop} {Ep : Prop} (hgd : o.guard = none) (s x : Operand)
    (ho : o.op = .call { callee := .builtin .append, args := #[s, x], argTypes := #[E.t, E.t] })
    (oa : Option Addr) (n c : Nat) (xs : List α) (hs : a.eval s = .slice oa n c) (hn : n = xs.length) (hown : Own E w oa c xs)
    (ox : Option Addr) (m d : Nat) (news : List α) (hx : a.eval x = .slice ox m d) (hm : m = news.length) (hd : ox = none → d = 0) (hrow : Row E w ox news)
    (hb : (xs.length + news.length) * E.nb ≤ 140737488355328) (hb2 : xs.length + news.length ≤ 140737488355328)
    (h : ∀ o' c' w', Own E w' o' c' (xs ++ news) → Ap w oa o' w' → K (a.put o.dst (.slice o' (n + m) c')) w') :
    if Region.wanted o (yielded ops a.tmps) = true then Oper.wp Try.prog o a w K Q else Ep := by
  have hw : Region.wanted o (yielded ops a.tmps) = true := by simp [Region.wanted, hgd]
  rw [if_pos hw]
  subst hn hm
  obtain ⟨o', c', w', hr, h1, h2⟩ := run_app hE w o.type oa c xs hown ox d news hd hrow hb hb2
  unfold Oper.wp execOp
  simp only [ho, resolve, invoke, builtin, Sem.run_bind, Sem.run_pure, Result.andThen_ok, List.map_toArray, List.map_cons, List.map_nil, hs, hx, hr]
  exact h o' c' w' h1 h2

end Go.Proofs.Ytgobakfffobpkaa
