import Derived.Test.YtagekdmkidbhpaaCA
/- What every version keeps to stays; a store of the call's own. -/
namespace Go.Proofs.Ytagekdmkidbhpaa
open Go.RowKit Go.Maps Go.Sort Orl
set_option linter.unusedVariables false
set_option linter.unusedSimpArgs false

theorem ok_new : Ok St.new := ⟨⟨(fun m v h => by cases h), (fun m v h => by cases h)⟩, (fun m v h => by cases h), fun k h => absurd rfl h⟩
theorem tick_iff {t : Int} : tickB t = true ↔ 0 ≤ t ∧ t ≤ 1099511627776 := by simp [tickB]
theorem ok_put1 {s : St} (h : Ok s) {i : Nat} {keys : List Tx} {now : Int} {p : Pr} (hi : 65536 ≤ i ∧ i < 18446744073709551616) (hk : okKeys keys = true) (hp : p.2.size ≤ 65535 ∧ p.1 ∈ keys) (ht : tickB now = true) : Ok (put1 i keys now s p) := by
  have hV : ∀ m, (put1 i keys now s p).V m = if m = (p.1, i) then some ⟨p.2, keys, stampOf s i now p.1⟩ else s.V m := fun _ => rfl
  have hL : (put1 i keys now s p).last = s.last := rfl
  refine ⟨⟨fun m v hv => ?_, fun m v hv => ?_⟩, fun m v hv => ?_, fun k hk' => ?_⟩
  · rw [hV] at hv
    split at hv
    · rename_i e; subst e; injection hv with hv; subst hv
      exact ⟨hk, hp.2, hp.1⟩
    · exact h.v.keys m v hv
  · rw [hV] at hv
    split at hv
    · rename_i e; subst e; exact hi
    · exact h.v.id m v hv
  · rw [hL]
    rw [hV] at hv
    split at hv
    · rename_i e; subst e; injection hv with hv; subst hv
      simp only [stampOf]
      rw [tick_iff] at ht
      constructor
      · intro hl; rw [if_pos hl]; exact ht
      · intro hl; rw [if_neg hl]
    · exact h.st m v hv
  · rw [hV]
    rw [hL] at hk' ⊢
    split
    · simp
    · exact h.la k hk'
theorem ok_putAll {i : Nat} {keys : List Tx} {now : Int} (hi : 65536 ≤ i ∧ i < 18446744073709551616) (hk : okKeys keys = true) (ht : tickB now = true) : ∀ {ps : List Pr} {s : St}, Ok s → (∀ p ∈ ps, p.2.size ≤ 65535 ∧ p.1 ∈ keys) → Ok (putAll i keys now s ps)
  | [], s, h, _ => h
  | p :: r, s, h, hp => by
    show Ok (putAll i keys now (put1 i keys now s p) r)
    exact ok_putAll hi hk ht (ok_put1 h hi hk (hp p (by simp)) ht) (fun q hq => hp q (by simp [hq]))
theorem okPut_iff {i : Nat} {ps : List Pr} {keys : List Tx} {now : Int} : okPut i ps keys now = true ↔ 65536 ≤ i ∧ okKeys keys = true ∧ okPairs ps keys = true ∧ tickB now = true := by
  simp [okPut]
theorem ok_put {s : St} (h : Ok s) {i : Nat} {ps : List Pr} {keys : List Tx} {now : Int} (hi : i < 18446744073709551616) (ho : okPut i ps keys now = true) : Ok (putAll i keys now s (miss s i ps)) := by
  obtain ⟨h1, h2, h3, h4⟩ := okPut_iff.1 ho
  exact ok_putAll ⟨h1, hi⟩ h2 h4 h (fun p hp => (okPairs_iff.1 h3).1 p (List.mem_filter.1 hp |>.1))
theorem com_V (s : St) (i : Nat) (now : Int) (m : Mk) : (commitS s i now).V m = if upB s i m.1 = true ∧ m.2 < i then (s.V m).map (stamped now) else s.V m := by simp [commitS, comD]
theorem com_last (s : St) (i : Nat) (now : Int) (k : Tx) : (commitS s i now).last k = if upB s i k = true then i else s.last k := by simp [commitS, comD]
theorem upB_iff {s : St} {i : Nat} {k : Tx} : upB s i k = true ↔ s.V (k, i) ≠ none ∧ s.last k < i := by
  unfold upB
  cases s.V (k, i) <;> simp
theorem stamped_keys (now : Int) (v : Vr) : (stamped now v).keys = v.keys ∧ (stamped now v).val = v.val := by
  unfold stamped
  split <;> exact ⟨rfl, rfl⟩
theorem com_some {s : St} {i : Nat} {now : Int} {m : Mk} {v : Vr} (h : (commitS s i now).V m = some v) : ∃ u, s.V m = some u ∧ v.keys = u.keys ∧ v.val = u.val ∧ (v.stamp = u.stamp ∨ (u.stamp = -1 ∧ v.stamp = now)) := by
  rw [com_V] at h
  split at h
  · cases hu : s.V m with
    | none => rw [hu] at h; cases h
    | some u =>
      rw [hu] at h
      injection h with h
      subst h
      refine ⟨u, rfl, (stamped_keys now u).1, (stamped_keys now u).2, ?_⟩
      unfold stamped
      split
      · rename_i e; exact .inr ⟨e, rfl⟩
      · exact .inl rfl
  · exact ⟨v, h, rfl, rfl, .inl rfl⟩
theorem ok_commit {s : St} (h : Ok s) {i : Nat} {now : Int} (ht : tickB now = true) : Ok (commitS s i now) := by
  rw [tick_iff] at ht
  refine ⟨⟨fun m v hv => ?_, fun m v hv => ?_⟩, fun m v hv => ?_, fun k hk => ?_⟩
  · obtain ⟨u, hu, h1, h2, _⟩ := com_some hv
    rw [h1, h2]; exact h.v.keys m u hu
  · obtain ⟨u, hu, _⟩ := com_some hv
    exact h.v.id m u hu
  · rw [com_last]
    rw [com_V] at hv
    by_cases hu : upB s i m.1 = true
    · rw [if_pos hu]
      obtain ⟨h1, h2⟩ := upB_iff.1 hu
      by_cases hm : m.2 < i
      · rw [if_pos ⟨hu, hm⟩] at hv
        refine ⟨fun _ => ?_, fun hc => absurd hm hc⟩
        cases hx : s.V m with
        | none => rw [hx] at hv; cases hv
        | some u =>
          rw [hx] at hv; injection hv with hv; subst hv
          unfold stamped
          split
          · exact ht
          · rename_i hne
            have := h.st m u hx
            by_cases hl : m.2 < s.last m.1
            · exact this.1 hl
            · exact absurd (this.2 hl) hne
      · rw [if_neg (fun e => hm e.2)] at hv
        exact ⟨fun hc => absurd hc hm, fun _ => (h.st m v hv).2 (by omega)⟩
    · rw [if_neg hu]
      rw [if_neg (fun e => hu e.1)] at hv
      exact h.st m v hv
  · rw [com_last] at hk ⊢
    rw [com_V]
    by_cases hu : upB s i k = true
    · rw [if_pos hu, if_neg (fun e => Nat.lt_irrefl _ e.2)]
      exact (upB_iff.1 hu).1
    · rw [if_neg hu] at hk ⊢
      rw [if_neg (fun e => hu e.1)]
      exact h.la k hk
theorem ok_drop {s : St} (h : Ok s) {m : Mk} {v : Vr} (hv : s.V m = some v) (hst : v.stamp ≠ -1) : Ok (dropS s m) := by
  have hl : m.2 < s.last m.1 := by
    by_cases hl : m.2 < s.last m.1
    · exact hl
    · exact absurd ((h.st m v hv).2 hl) hst
  have hV : ∀ z, (dropS s m).V z = if z = m then none else s.V z := fun _ => rfl
  have hsub : ∀ z u, (dropS s m).V z = some u → s.V z = some u := fun z u hz => by
    rw [hV] at hz
    split at hz
    · cases hz
    · exact hz
  refine ⟨⟨fun z u hz => h.v.keys z u (hsub z u hz), fun z u hz => h.v.id z u (hsub z u hz)⟩, fun z u hz => h.st z u (hsub z u hz), fun k hk => ?_⟩
  rw [hV, if_neg]
  · exact h.la k hk
  · intro e
    have e : (k, s.last k) = m := e
    rw [← e] at hl
    exact absurd hl (Nat.lt_irrefl _)
theorem Ok.zero {s : St} (h : Ok s) (k : Tx) : s.V (k, 0) = none := by
  cases e : s.V (k, 0) with
  | none => rfl
  | some v => have := (h.v.id _ v e).1; simp at this
theorem Ok.old {s : St} (h : Ok s) {m : Mk} {v : Vr} (hv : s.V m = some v) : v.stamp ≠ -1 ↔ m.2 < s.last m.1 := by
  constructor
  · intro hs
    by_cases hl : m.2 < s.last m.1
    · exact hl
    · exact absurd ((h.st m v hv).2 hl) hs
  · intro hl e
    have := ((h.st m v hv).1 hl).1
    omega

/-! ### a store of the call's own -/
structure Ows (w0 w : World) (p : Nat) (T : Nat → Option Ro) (s : St) (N : Nat) : Prop where
  is : IsS w p T s N
  ok : Ok s
  new : ∀ b, T b ≠ none → w0.heap.size ≤ b
  keep : Keeps no w0 w
theorem Ows.go {w0 w w' : World} {p : Nat} {T : Nat → Option Ro} {s : St} {N : Nat} (h : Ows w0 w p T s N) (hk : Keeps no w w') : Ows w0 w' p T s N :=
  ⟨h.is.keepsN hk, h.ok, h.new, h.keep.trans hk⟩
theorem mut_none {T : Nat → Option Ro} {b : Nat} (h : T b = none) : ¬ Mut T b := fun hm => hm.1 h
theorem own_new (w : World) : Calls Try.prog 10 #[] w fun e w' => ∃ p, e = .returned (.pointer (some ⟨p, 0, none⟩)) ∧ Hid (∃ T, Ows w w' p T St.new 0) := by
  refine (new_any w).mono ?_
  rintro e w' ⟨p, T, he, hI, hT, hk⟩
  exact ⟨p, he, T, hI, ok_new, hT, hk⟩
theorem Ows.put {w0 w : World} {p : Nat} {T : Nat → Option Ro} {s : St} {N : Nat} (h : Ows w0 w p T s N) (i : Nat) (ps : List Pr) (keys : List Tx) (now : Int) (ap : Option Addr) (np cp : Nat) (ak : Option Addr) (nk ck : Nat) (hi : i < 18446744073709551616) (hnp : np = ps.length) (hnk : nk = keys.length) (hsp : Sl PE w ap cp ps) (hsk : Sl TE w ak ck keys) (hlp : ps.length ≤ 100000) (hok : okPut i ps keys now = true) (hN : N ≤ 900000000) :
    Calls Try.prog 12 #[.pointer (some ⟨p, 0, none⟩), .int .u64 ((i : Nat) : Int), .slice ap np cp, .slice ak nk ck, .int .i64 now] w fun e w' => e = .returned (.tuple #[.bool (decide (0 < (miss s i ps).length)), .int .i64 0]) ∧ Hid (∃ T', Ows w0 w' p T' (putAll i keys now s (miss s i ps)) (N + (miss s i ps).length) ∧ (∀ b, b < w.heap.size → T' b = T b) ∧ Keeps (Mut T) w w') := by
  have h3 := (okPut_iff.1 hok).2.1
  refine (put_good w p T s N i ps keys now ap np cp ak nk ck h.is hi hnp hnk hlp (by have := (okKeys_iff.1 h3).1.2; omega) hsp hsk hok hN).mono ?_
  rintro e w' ⟨he, T', hI, hT, hk⟩
  refine ⟨he, T', ⟨hI, ok_put h.ok hi hok, fun b hb => ?_, h.keep.then hk (fun b hb => .inr (h.new b hb.1))⟩, hT, hk⟩
  rcases Nat.lt_or_ge b w.heap.size with hl | hl
  · rw [hT b hl] at hb; exact h.new b hb
  · exact Nat.le_trans h.keep.size hl
theorem Ows.commit {w0 w : World} {p : Nat} {T : Nat → Option Ro} {s : St} {N : Nat} (h : Ows w0 w p T s N) (i : Nat) (now : Int) (hi : i < 18446744073709551616) (hi2 : 65536 ≤ i) (ht : tickB now = true) (hN : N ≤ 2000000000000) :
    Calls Try.prog 16 #[.pointer (some ⟨p, 0, none⟩), .int .u64 ((i : Nat) : Int), .int .i64 now] w fun e w' => ∃ n : Nat, e = .returned (.tuple #[.int .i64 ((n : Nat) : Int), .int .i64 0]) ∧ Hid (CountOf s i n) ∧ Hid (Ows w0 w' p T (commitS s i now) N ∧ Keeps (Mut T) w w') := by
  refine (commit_good w p T s N i now h.is h.ok hi hi2 ht hN).mono ?_
  rintro e w' ⟨n, he, hc, hI, hk⟩
  exact ⟨n, he, hc, ⟨hI, ok_commit h.ok ht, h.new, h.keep.then hk (fun b hb => .inr (h.new b hb.1))⟩, hk⟩
/-- Drop: what it answers, what it leaves -/
def dropE (s : St) (m : Mk) : Int := match s.V m with | none => 110 | some v => if v.stamp = -1 then 1 else 0
def dropR (s : St) (m : Mk) : St := match s.V m with | none => s | some v => if v.stamp = -1 then s else dropS s m
theorem Ok.above {s : St} (h : Ok s) {k : Tx} {i : Nat} {v : Vr} (hv : s.V (k, i) = some v) (hs : v.stamp ≠ -1) : ∃ j, j ≠ i ∧ s.V (k, j) ≠ none := by
  have hl := (h.old hv).1 hs
  simp only at hl
  exact ⟨s.last k, by omega, h.la k (by omega)⟩
theorem Ows.drop {w0 w : World} {p : Nat} {T : Nat → Option Ro} {s : St} {N : Nat} (h : Ows w0 w p T s N) (k : Tx) (i : Nat) (hm : KM.ok (k, i)) :
    Calls Try.prog 23 #[.pointer (some ⟨p, 0, none⟩), .string k, .int .u64 ((i : Nat) : Int)] w fun e w' => e = .returned (.int .i64 (dropE s (k, i))) ∧ Hid (Ows w0 w' p T (dropR s (k, i)) N ∧ Keeps (Mut T) w w') := by
  unfold dropE dropR
  cases hv : s.V (k, i) with
  | none =>
    refine (drop_none w p T s N k i h.is hm hv).mono ?_
    rintro e w' ⟨he, hk⟩
    exact ⟨he, h.go hk, hk.of_no⟩
  | some v =>
    refine (drop_some w p T s N k i v h.is hv (h.ok.above hv)).mono ?_
    rintro e w' ⟨h1, h2⟩
    simp only
    split
    · rename_i hs
      obtain ⟨he, hk⟩ := h1 hs
      exact ⟨he, h.go hk, hk.of_no⟩
    · rename_i hs
      obtain ⟨he, hI, hk⟩ := h2 hs
      exact ⟨he, ⟨hI, ok_drop h.ok hv hs, h.new, h.keep.then hk (fun b hb => .inr (h.new b hb.1))⟩, hk⟩
/-- ByID: is it there? -/
def byE (s : St) (m : Mk) : Int := if (s.V m).isSome then 0 else 110
theorem Ows.byID {w0 w : World} {p : Nat} {T : Nat → Option Ro} {s : St} {N : Nat} (h : Ows w0 w p T s N) (k : Tx) (i : Nat) (hm : KM.ok (k, i)) :
    Calls Try.prog 17 #[.pointer (some ⟨p, 0, none⟩), .string k, .int .u64 ((i : Nat) : Int)] w fun e w' => ∃ a b c o n d, e = .returned (.tuple #[.agg #[.string a, .int .u64 b, .string c, .slice o n d], .int .i64 (byE s (k, i))]) ∧ Hid (Keeps no w w') ∧ Hid (∀ v, s.V (k, i) = some v → a = k ∧ b = ((i : Nat) : Int) ∧ c = v.val ∧ n = v.keys.length ∧ Own TE w' o d v.keys ∧ New w o) := by
  unfold byE
  cases hv : s.V (k, i) with
  | none =>
    refine (byID_none w p T s N k i h.is hm hv).mono ?_
    rintro e w' ⟨he, hk⟩
    exact ⟨_, _, _, _, _, _, he, hk, fun v hv => by cases hv⟩
  | some v =>
    refine (byID_some w p T s N k i v h.is hv h.ok.v).mono ?_
    rintro e w' ⟨u, he, o, n, c, rfl, hn, ho, hnw, hk⟩
    exact ⟨_, _, _, _, _, _, he, hk, fun z hz => by injection hz with hz; subst hz; exact ⟨rfl, rfl, rfl, hn.out, ho, hnw⟩⟩
theorem Ows.last {w0 w : World} {p : Nat} {T : Nat → Option Ro} {s : St} {N : Nat} (h : Ows w0 w p T s N) (k : Tx) (hk : k.size ≤ 65535) :
    Calls Try.prog 31 #[.pointer (some ⟨p, 0, none⟩), .string k] w fun e w' => e = .returned (.int .u64 ((s.last k : Nat) : Int)) ∧ w' = w :=
  last_any w p T s N k h.is (by unfold maxLen; omega)
end Go.Proofs.Ytagekdmkidbhpaa
