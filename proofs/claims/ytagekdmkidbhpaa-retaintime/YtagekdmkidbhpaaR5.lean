import Derived.Test.YtagekdmkidbhpaaR4
/- retain: Next. -/
namespace Go.Proofs.Ytagekdmkidbhpaa
open Go.RowKit Go.Maps Go.Sort Orl
set_option linter.unusedVariables false
set_option linter.unusedSimpArgs false

/-- the least stamp of an old one; is there one? -/
structure IsNext (s : St) (L : Int) (is : Bool) : Prop where
  yes : is = true → (∃ m v, s.V m = some v ∧ v.stamp ≠ -1 ∧ v.stamp = L) ∧ ∀ m v, s.V m = some v → v.stamp ≠ -1 → L ≤ v.stamp
  none : is = false → ∀ m v, s.V m = some v → v.stamp = -1
def nextZ (L ret : Int) (is : Bool) : Int := if is then L + ret else 0
theorem IsNext.same {s : St} {L L' : Int} {a b : Bool} (h : IsNext s L a) (h' : IsNext s L' b) : a = b ∧ ∀ ret, nextZ L ret a = nextZ L' ret b := by
  cases a with
  | true =>
    obtain ⟨⟨m, v, hv, hs, hl⟩, hm⟩ := h.yes rfl
    cases b with
    | true =>
      obtain ⟨⟨m', v', hv', hs', hl'⟩, hm'⟩ := h'.yes rfl
      have h1 := hm m' v' hv' hs'
      have h2 := hm' m v hv hs
      have : L = L' := by omega
      exact ⟨rfl, fun ret => by rw [this]⟩
    | false => exact absurd (h'.none rfl m v hv) hs
  | false =>
    cases b with
    | true =>
      obtain ⟨⟨m', v', hv', hs', hl'⟩, hm'⟩ := h'.yes rfl
      exact absurd (h.none rfl m' v' hv') hs'
    | false => exact ⟨rfl, fun ret => rfl⟩
theorem next_nil (w : World) (ret : Int) : Calls Try.prog 18 #[.pointer none, .int .i64 ret] w fun e w' => e = .returned (.tuple #[.int .i64 0, .bool false, .int .i64 1]) ∧ Keeps no w w' := by
  go_enter Try.func18, Try.ntmps18
  go_wp2_with fail
  go_ret3
  exact ⟨rfl, Keeps.refl _ _⟩
theorem next_bad (w : World) (p : Nat) (ret : Int) (hb : retB ret = false) : Calls Try.prog 18 #[.pointer (some ⟨p, 0, none⟩), .int .i64 ret] w fun e w' => e = .returned (.tuple #[.int .i64 0, .bool false, .int .i64 1]) ∧ Keeps no w w' := by
  have h2 := isRet_any w ret
  rw [hb] at h2
  clear hb
  go_enter Try.func18, Try.ntmps18
  go_wp2_with (go_at_call 21; refine h2.mono ?_; rintro e w' ⟨rfl, hw⟩; subst w')
  go_ret3
  exact ⟨rfl, Keeps.refl _ _⟩
/-- the least of the first stamps -/
def Lst (ks : List KV) (k : Nat) (L : Int) : Prop := (∃ x ∈ ks, x.stamp = L) ∧ ∀ j, j < k → L ≤ (ks.getD j kv0).stamp
section
variable {w0 w w' : World} {p : Nat} {s : St} {N : Nat} {P : Nat → Prop}
set_option maxRecDepth 10000 in
set_option maxHeartbeats 1000000 in
theorem Ow.next (h : Ow w0 w p s N P) (ret : Int) (hr : retB ret = true) (hN : N ≤ 1954687338211) :
    Calls Try.prog 18 #[.pointer (some ⟨p, 0, none⟩), .int .i64 ret] w fun e w' => ∃ (z : Int) (is : Bool), e = .returned (.tuple #[.int .i64 z, .bool is, .int .i64 0]) ∧ Hid (Keeps no w w') ∧ Hid (∃ L, z = nextZ L ret is ∧ IsNext s L is) := by
  have h2 := isRet_any w ret
  have h3 := h.old hN
  rw [hr] at h2
  have HO : Hid (Ow w0 w p s N P ∧ N ≤ 1954687338211) := ⟨h, hN⟩
  have hr' : 0 ≤ ret ∧ ret ≤ 1048576 := by simpa [retB] using hr
  obtain ⟨hra, hrb⟩ := hr'
  clear h hr hN
  go_enter Try.func18, Try.ntmps18
  go_wp2_with (go_at_call 21; refine h2.mono ?_; rintro e w' ⟨rfl, hw⟩; subst w')
  refine h3.mono ?_
  rintro e w1 ⟨v, rfl, o, n, c, ks, rfl, hn, hks⟩
  have hnb : (n : Int) ≤ 1954687338211 := by have := hks.out.2.2.2; have := HO.out.2; have := hn.out; omega
  clear h2 h3
  by_cases hz : n = 0
  · subst hz
    go_wp2_with fail
    go_ret3
    refine ⟨0, false, rfl, hks.out.2.1, 0, rfl, (fun h => by cases h), fun _ m v hv => ?_⟩
    by_cases hs : v.stamp = -1
    · exact hs
    · have h1 := hks.out.2.2.1.all m v hv hs
      have h2 : ks = [] := List.length_eq_zero_iff.1 hn.out.symm
      rw [h2] at h1
      cases h1
  · have hz' : ((n : Int) == 0) = false := beq_eq_false_iff_ne.2 (by omega)
    have hn0 : (0 : Int) < n := by omega
    obtain ⟨b, off, rfl, d0, d1, d2, d3, d4⟩ := atK hks.out.1 (show 0 < ks.length by rw [← hn.out]; omega)
    have hst0 : Hid (∀ j, j < ks.length → 0 ≤ (ks.getD j kv0).stamp ∧ (ks.getD j kv0).stamp ≤ 1099511627776) := fun j hj => by
      have hx := hks.out.2.2.1.is _ (getD_mem_lt kv0 hj)
      have hold := (HO.out.1.ok.old hx.1).1 hx.2
      exact ((HO.out.1.ok.st _ _ hx.1).1 hold)
    have HF : Hid (Lst ks 0 (ks.getD 0 kv0).stamp) := ⟨⟨_, getD_mem_lt kv0 (show 0 < ks.length by rw [← hn.out]; omega), rfl⟩, fun j hj => by omega⟩
    have HF2 : Hid (0 ≤ (ks.getD 0 kv0).stamp ∧ (ks.getD 0 kv0).stamp ≤ 1099511627776) := hst0.out 0 (by rw [← hn.out]; omega)
    simp only [Nat.zero_mul, Nat.add_zero] at d4
    clear d0 d1 d2 d3
    generalize (ks.getD 0 kv0).stamp = L0 at d4 HF HF2
    go_wp2_with fail
    go_loopw [8, 10, 29] (fun s8 _ i wr => ∃ (k : Nat) (L : Int), k ≤ n ∧ i = .int .i64 k ∧ s8 = .int .i64 L ∧ 0 ≤ L ∧ L ≤ 1099511627776 ∧ Hid (Lst ks k L ∧ Keeps no w1 wr)) (fun _ _ i _ => n - (intOf i).toNat)
    case atStart => exact ⟨0, L0, by omega, rfl, rfl, HF2.out.1, HF2.out.2, HF.out, Keeps.refl _ _⟩
    case round =>
      obtain ⟨k, L, hk, rfl, rfl, hL0, hL1, HG⟩ := hrel
      by_cases hlt : k < n
      · have hkl : k < ks.length := by rw [← hn.out]; exact hlt
        obtain ⟨b', off', hbe, d0, d1, d2, d3, d4'⟩ := atK (hks.out.1.keepsN HG.out.2) hkl
        cases hbe
        obtain ⟨x, hx⟩ : ∃ x, x = ks.getD k kv0 := ⟨_, rfl⟩
        rw [← hx] at d0 d1 d2 d3 d4'
        have HX : Hid (x = ks.getD k kv0) := hx
        have hxs := hst0.out k hkl
        rw [← hx] at hxs
        obtain ⟨hx0, hx1⟩ := hxs
        clear hx hkl
        obtain ⟨⟨xk, xi⟩, xv, xo, xc, xks, xst⟩ := x
        simp only at d0 d1 d2 d3 d4' hx0 hx1
        generalize xks.length = xn at d3
        go_wp2_with fail
        go_roundw
        case rel =>
          refine ⟨k + 1, min L xst, by omega, by go_num, ?_, by omega, by omega, ?_, HG.out.2.alloc _⟩
          · rfl
          · refine ⟨?_, fun j hj => ?_⟩
            · by_cases hm : L ≤ xst
              · rw [show min L xst = L by omega]; exact HG.out.1.1
              · rw [show min L xst = xst by omega]
                exact ⟨_, getD_mem_lt kv0 (show k < ks.length by rw [← hn.out]; exact hlt), by rw [← HX.out]⟩
            · rcases Nat.lt_or_ge j k with h | h
              · have := HG.out.1.2 j h
                omega
              · obtain rfl : j = k := by omega
                rw [← HX.out]
                show min L xst ≤ xst
                omega
        case measure => simp [intOf]; omega
      · have hkn : k = n := by omega
        have HE : Hid (IsNext s L true) := ⟨fun _ => ⟨by
            obtain ⟨x, hx, hs⟩ := HG.out.1.1
            exact ⟨x.m, _, (hks.out.2.2.1.is x hx).1, (hks.out.2.2.1.is x hx).2, hs⟩, fun m v hv hs => by
            obtain ⟨x, hx, hxm⟩ := List.mem_map.1 (hks.out.2.2.1.all m v hv hs)
            have h1 := (hks.out.2.2.1.is x hx).1
            rw [hxm, hv] at h1
            have e : v = ⟨x.val, x.keys, x.stamp⟩ := by simpa using h1
            obtain ⟨j, hj, hje⟩ := List.mem_iff_getElem.1 hx
            have h2 := HG.out.1.2 j (by rw [hkn, hn.out]; exact hj)
            rw [getD_at hj, hje] at h2
            rw [e]
            exact h2⟩, fun h => by cases h⟩
        go_wp2_with fail
        go_ret3
        exact ⟨L + ret, true, rfl, hks.out.2.1.trans HG.out.2, L, rfl, HE.out⟩
end
end Go.Proofs.Ytagekdmkidbhpaa
