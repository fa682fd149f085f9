/- goesOn, Proper. -/
import Derived.Test.YtjkljljmjjnneaaGreatDoorN1
namespace Go.Proofs.YtjkljljmjjnneaaGreatDoor
open Go.RowKit Go.Sort Orl
set_option linter.unusedVariables false
set_option linter.unusedSimpArgs false

abbrev PS := Nat → List Rq × Nat
def toE (e q : Ev) : Bool := decide (e.kind = 3) && decide (e.client = q.client) && decide (e.txn = q.txn)
def namesE (es : List Ev) (a top : Nat) : Bool := if (es.getD a ev0).id = 0 then decide (a + 1 < es.length) && toE (es.getD (a + 1) ev0) (es.getD a ev0) else decide (top < (es.getD a ev0).id) && (decide (65536 ≤ (es.getD a ev0).id) && decide ((((es.getD a ev0).id % 65536 : Nat) : Int) = (es.getD a ev0).client))
theorem names_eq {w : World} {lo : Option Addr} {lc : Nat} {rs : List RE} {es : List Ev} (hs : Evs w lo lc rs es) {a : Nat} (ha : a < es.length) (top : Nat) : namesB rs a top = namesE es a top := by
  have h1 := hs.each a ha
  unfold namesB namesE
  rw [h1.id, h1.client, hs.len]
  by_cases h : a + 1 < es.length
  · have h2 := hs.each (a + 1) h
    unfold toB toE
    rw [h2.kind, h2.client, h2.txn, h1.client, h1.txn]
  · rw [decide_eq_false h, Bool.false_and, Bool.false_and]
/-- an event taken in, if it can stand there -/
def stepE (es : List Ev) (a : Nat) (st : PS) : Option PS :=
  let e := es.getD a ev0
  let c := e.client.toNat
  let s1 := upd st c ((st c).1 ++ [(a, false)], (st c).2)
  if e.kind = 1 then if e.txn = (((st c).1.length + 1 : Nat) : Int) then if namesE es a (st c).2 = true then some (if e.id = 0 then s1 else upd s1 c ((s1 c).1, e.id)) else none else none
  else if e.kind = 2 then if e.txn = (((st c).1.length + 1 : Nat) : Int) then some s1 else none
  else if answB es a (e.txn.toNat - 1) (st c).1 = true then some (upd st c ((st c).1.set (e.txn.toNat - 1) (((st c).1.getD (e.txn.toNat - 1) q0).1, true), (st c).2)) else none
/-- what is kept of a past -/
def InvP (st : PS) (a : Nat) : Prop := ∀ c, (st c).1.length ≤ a ∧ ∀ x ∈ (st c).1, x.1 < a
theorem InvP.upd {st : PS} {a b : Nat} (h : InvP st a) (hab : a ≤ b) {c : Nat} {v : List Rq × Nat} (h1 : v.1.length ≤ b) (h2 : ∀ x ∈ v.1, x.1 < b) : InvP (upd st c v) b := fun d => by
  by_cases e : d = c
  · rw [e, upd_at]; exact ⟨h1, h2⟩
  · rw [upd_ne _ e]; exact ⟨Nat.le_trans (h d).1 hab, fun x hx => Nat.lt_of_lt_of_le ((h d).2 x hx) hab⟩
theorem InvP.step {es : List Ev} {st s : PS} {a : Nat} (h : InvP st a) (e : stepE es a st = some s) : InvP s (a + 1) := by
  unfold stepE at e
  simp only at e
  have hs1 : InvP (Go.Proofs.YtjkljljmjjnneaaGreatDoor.upd st (es.getD a ev0).client.toNat ((st (es.getD a ev0).client.toNat).1 ++ [(a, false)], (st (es.getD a ev0).client.toNat).2)) (a + 1) := by
    refine h.upd (Nat.le_succ a) ?_ ?_
    · have := (h (es.getD a ev0).client.toNat).1
      show (_ ++ [_]).length ≤ _
      rw [List.length_append, List.length_singleton]
      omega
    · intro x hx
      rcases List.mem_append.1 hx with hx | hx
      · exact Nat.lt_succ_of_lt ((h _).2 x hx)
      · rw [List.mem_singleton] at hx; subst hx; exact Nat.lt_succ_self a
  split at e
  · split at e
    · split at e
      · cases e
        split
        · exact hs1
        · exact hs1.upd (Nat.le_refl _) (hs1 _).1 (hs1 _).2
      · cases e
    · cases e
  · split at e
    · split at e
      · cases e; exact hs1
      · cases e
    · split at e
      · cases e
        refine h.upd (Nat.le_succ a) ?_ ?_
        · rw [List.length_set]; exact Nat.le_succ_of_le (h _).1
        · intro x hx
          rcases List.mem_or_eq_of_mem_set hx with hx | hx
          · exact Nat.lt_succ_of_lt ((h _).2 x hx)
          · subst hx
            by_cases hl : (es.getD a ev0).txn.toNat - 1 < (st (es.getD a ev0).client.toNat).1.length
            · have := (h (es.getD a ev0).client.toNat).2 _ (getD_mem_lt q0 hl)
              exact Nat.lt_succ_of_lt this
            · show (List.getD _ _ q0).1 < _
              rw [List.getD_eq_getElem?_getD, List.getElem?_eq_none (by omega)]
              exact Nat.succ_pos a
      · cases e
set_option maxRecDepth 10000 in
set_option maxHeartbeats 4000000 in
theorem goesOn_any (w0 w : World) (P : Nat) (os : Nat → Option Addr × Nat) (st : PS) (h : Pst w0 w P os st) (lo : Option Addr) (ln lc : Nat) (rs : List RE) (es : List Ev) (hl : ln = es.length) (hs : Evs w0 lo lc rs es) (hz : ∀ e ∈ es, SzE e) (hb : (ln : Int) ≤ 1099511627000) (a : Nat) (ha : a < ln) (hi : InvP st a) (hmay : mayB (es.getD a ev0) = true) :
    Calls Tryz.prog 20 #[.pointer (some ⟨P, 0, none⟩), .slice lo ln lc, .int .i64 (a : Nat)] w fun e w' => e = .returned (.bool (stepE es a st).isSome) ∧ ∃ os' st', Pst w0 w' P os' st' ∧ ∀ s, stepE es a st = some s → st' = s := by
  have ha2 : (a : Int) < (ln : Int) := by omega
  obtain ⟨g, off, rfl, -⟩ := (hs.sl.keepsN h.kp).atE (j := a) (by rw [hs.len]; omega)
  have HEV : Hid (∀ W, Keeps no w0 W → At10 W g (off + a * 10) (rs.getD a re0)) := fun W hW => by
    obtain ⟨g', off', e, h2⟩ := (hs.sl.keepsN hW).atE (j := a) (by rw [hs.len]; omega)
    cases e
    exact h2
  have hev := hs.each a (by omega)
  obtain ⟨c, hc, hcl⟩ : ∃ c : Nat, c < 16 ∧ (es.getD a ev0).client = (c : Nat) := by
    unfold mayB at hmay
    simp only [Bool.and_eq_true, decide_eq_true_eq] at hmay
    exact ⟨(es.getD a ev0).client.toNat, by omega, by omega⟩
  obtain ⟨j, htx⟩ : ∃ j : Nat, (es.getD a ev0).txn = ((j + 1 : Nat) : Int) := by
    unfold mayB at hmay
    simp only [Bool.and_eq_true, decide_eq_true_eq] at hmay
    exact ⟨(es.getD a ev0).txn.toNat - 1, by omega⟩
  have hct : (es.getD a ev0).client.toNat = c := by omega
  have htt : (es.getD a ev0).txn.toNat - 1 = j := by omega
  have hxl : (st c).1.length ≤ 1099511627000 := by have := (hi c).1; omega
  have HASK : Hid (Calls Tryz.prog 32 #[.pointer (some ⟨P, c * 2, none⟩), .slice (some ⟨g, off, none⟩) ln lc, .int .i64 (a : Nat)] w.drew fun e w' => e = .returned (.bool (decide ((es.getD a ev0).txn = ((st c).1.length + 1 : Nat)))) ∧ ∃ os', Pst w0 w' P os' (upd st c ((st c).1 ++ [(a, false)], (st c).2))) := by
    rw [← hev.txn, Nat.mul_comm c 2]
    exact asks_any w0 w.drew P os st (h.keepsN (Keeps.refl _ _).drew) c hc _ ln lc rs (by rw [hs.len]; exact hl) hs.sl a ha hb hxl
  have HNAM : Hid (∀ W os', Pst w0 W P os' (upd st c ((st c).1 ++ [(a, false)], (st c).2)) → Calls Tryz.prog 33 #[.pointer (some ⟨P, c * 2, none⟩), .slice (some ⟨g, off, none⟩) ln lc, .int .i64 (a : Nat)] W fun e w' => e = .returned (.bool (namesE es a (st c).2)) ∧ Pst w0 w' P os' (if (es.getD a ev0).id = 0 then (upd st c ((st c).1 ++ [(a, false)], (st c).2)) else upd (upd st c ((st c).1 ++ [(a, false)], (st c).2)) c (((upd st c ((st c).1 ++ [(a, false)], (st c).2)) c).1, (es.getD a ev0).id))) := fun W os' hW => by
    have := names_any w0 W P os' _ hW c hc _ ln lc rs (by rw [hs.len]; exact hl) hs.sl a ha hb (by rw [hev.client]; exact hcl)
    rw [names_eq hs (by omega), hev.id, Nat.mul_comm 2 c, upd_at] at this
    rw [upd_at]
    exact this
  have HANS : Hid (Calls Tryz.prog 34 #[.pointer (some ⟨P, c * 2, none⟩), .slice (some ⟨g, off, none⟩) ln lc, .int .i64 (a : Nat)] w.drew fun e w' => e = .returned (.bool (answB es a j (st c).1)) ∧ ∃ st', Pst w0 w' P os st' ∧ (answB es a j (st c).1 = true → st' = upd st c ((st c).1.set j (((st c).1.getD j q0).1, true), (st c).2))) := by
    rw [Nat.mul_comm c 2]
    exact answers_any w0 w.drew P os st (h.keepsN (Keeps.refl _ _).drew) c hc _ ln lc rs es hl hs hz hb a ha j htx (fun x hx => Nat.lt_trans ((hi c).2 x hx) ha) hxl
  have HST : Hid (stepE es a st = if (es.getD a ev0).kind = 1 then if (es.getD a ev0).txn = (((st c).1.length + 1 : Nat) : Int) then if namesE es a (st c).2 = true then some (if (es.getD a ev0).id = 0 then upd st c ((st c).1 ++ [(a, false)], (st c).2) else upd (upd st c ((st c).1 ++ [(a, false)], (st c).2)) c (((upd st c ((st c).1 ++ [(a, false)], (st c).2)) c).1, (es.getD a ev0).id)) else none else none
      else if (es.getD a ev0).kind = 2 then if (es.getD a ev0).txn = (((st c).1.length + 1 : Nat) : Int) then some (upd st c ((st c).1 ++ [(a, false)], (st c).2)) else none
      else if answB es a j (st c).1 = true then some (upd st c ((st c).1.set j (((st c).1.getD j q0).1, true), (st c).2)) else none) := by
    show _ = _
    unfold stepE
    simp only [hct, htt]
  have HP : Hid (Pst w0 w P os st) := h
  have c0 := (HEV.out w h.kp).c0
  have c1 := (HEV.out w h.kp).c1
  have e0 := (HEV.out _ (h.kp.trans (Keeps.refl _ _).drew : Keeps no w0 w.drew)).c0
  rw [hev.kind] at c0 e0
  rw [hev.client, hcl] at c1
  have hcc : (c : Int) < 16 := by omega
  have hc0 : (0 : Int) ≤ (c : Int) := by omega
  generalize (es.getD a ev0).kind = K at c0 e0 HST
  clear hs hz hev hcl htx hct htt hxl hi hmay hl h HEV
  go_enter Tryz.func20, Tryz.ntmps20
  go_wp2_with fail
  go_region
  by_cases k1 : K = 1
  · subst k1
    by_cases ht : (es.getD a ev0).txn = (((st c).1.length + 1 : Nat) : Int)
    · rw [decide_eq_true ht] at HASK
      cases hn : namesE es a (st c).2 with
      | true =>
        rw [hn] at HNAM
        have HST2 : Hid (_ = _) := HST.out.trans (by rw [if_pos rfl, if_pos ht, if_pos hn])
        clear HST HANS hn ht
        go_wp2_with fail
        refine HASK.out.mono ?_
        rintro e w2 ⟨rfl, os2, hp2⟩
        have HP2 : Hid (Pst w0 w2 P os2 (upd st c ((st c).1 ++ [(a, false)], (st c).2))) := hp2
        clear hp2
        go_wp2_with fail
        refine (HNAM.out _ _ HP2.out).mono ?_
        rintro e w3 ⟨rfl, hp3⟩
        have HP3 := hp3
        go_wp2_with fail
        go_ret
        exact ⟨by rw [HST2.out]; rfl, _, _, HP3, fun s e => by rw [HST2.out] at e; cases e; rfl⟩
      | false =>
        rw [hn] at HNAM
        have HST2 : Hid (stepE es a st = none) := HST.out.trans (by rw [if_pos rfl, if_pos ht, if_neg (by rw [hn]; decide)])
        clear HST HANS hn ht
        go_wp2_with fail
        refine HASK.out.mono ?_
        rintro e w2 ⟨rfl, os2, hp2⟩
        have HP2 : Hid (Pst w0 w2 P os2 (upd st c ((st c).1 ++ [(a, false)], (st c).2))) := hp2
        clear hp2
        go_wp2_with fail
        refine (HNAM.out _ _ HP2.out).mono ?_
        rintro e w3 ⟨rfl, hp3⟩
        have HP3 := hp3
        go_wp2_with fail
        go_ret
        exact ⟨by rw [HST2.out]; rfl, _, _, HP3, fun s e => by rw [HST2.out] at e; cases e⟩
    · rw [decide_eq_false ht] at HASK
      have HST2 : Hid (stepE es a st = none) := HST.out.trans (by rw [if_pos rfl, if_neg ht])
      clear HST HANS HNAM ht
      go_wp2_with fail
      refine HASK.out.mono ?_
      rintro e w2 ⟨rfl, os2, hp2⟩
      have HP2 : Hid (Pst w0 w2 P os2 (upd st c ((st c).1 ++ [(a, false)], (st c).2))) := hp2
      clear hp2
      go_wp2_with fail
      go_ret
      exact ⟨by rw [HST2.out]; rfl, _, _, HP2.out, fun s e => by rw [HST2.out] at e; cases e⟩
  · by_cases k2 : K = 2
    · subst k2
      by_cases ht : (es.getD a ev0).txn = (((st c).1.length + 1 : Nat) : Int)
      · rw [decide_eq_true ht] at HASK
        have HST2 : Hid (_ = _) := HST.out.trans (by rw [if_neg (by decide), if_pos rfl, if_pos ht])
        clear HST HANS HNAM ht
        go_wp2_with fail
        refine HASK.out.mono ?_
        rintro e w2 ⟨rfl, os2, hp2⟩
        have HP2 : Hid (Pst w0 w2 P os2 (upd st c ((st c).1 ++ [(a, false)], (st c).2))) := hp2
        clear hp2
        go_wp2_with fail
        go_ret
        exact ⟨by rw [HST2.out]; rfl, _, _, HP2.out, fun s e => by rw [HST2.out] at e; cases e; rfl⟩
      · rw [decide_eq_false ht] at HASK
        have HST2 : Hid (stepE es a st = none) := HST.out.trans (by rw [if_neg (by decide), if_pos rfl, if_neg ht])
        clear HST HANS HNAM ht
        go_wp2_with fail
        refine HASK.out.mono ?_
        rintro e w2 ⟨rfl, os2, hp2⟩
        have HP2 : Hid (Pst w0 w2 P os2 (upd st c ((st c).1 ++ [(a, false)], (st c).2))) := hp2
        clear hp2
        go_wp2_with fail
        go_ret
        exact ⟨by rw [HST2.out]; rfl, _, _, HP2.out, fun s e => by rw [HST2.out] at e; cases e⟩
    · cases hn : answB es a j (st c).1 with
      | true =>
        rw [hn] at HANS
        have HST2 : Hid (_ = _) := HST.out.trans (by rw [if_neg k1, if_neg k2, if_pos hn])
        clear HST HASK HNAM hn
        go_wp2_with fail
        refine HANS.out.mono ?_
        rintro e w2 ⟨rfl, st2, hp2, hst2⟩
        obtain rfl := hst2 trivial
        have HP2 : Hid (Pst w0 w2 P os _) := hp2
        go_wp2_with fail
        go_ret
        exact ⟨by rw [HST2.out]; rfl, _, _, HP2.out, fun s e => by rw [HST2.out] at e; cases e; rfl⟩
      | false =>
        rw [hn] at HANS
        have HST2 : Hid (stepE es a st = none) := HST.out.trans (by rw [if_neg k1, if_neg k2, if_neg (by rw [hn]; decide)])
        clear HST HASK HNAM hn
        go_wp2_with fail
        refine HANS.out.mono ?_
        rintro e w2 ⟨rfl, st2, hp2, -⟩
        have HP2 : Hid (Pst w0 w2 P os _) := hp2
        go_wp2_with fail
        go_ret
        exact ⟨by rw [HST2.out]; rfl, _, _, HP2.out, fun s e => by rw [HST2.out] at e; cases e⟩
/-- the past behind n events, if they may stand so -/
def st0 : PS := fun _ => ([], 0)
def runE (es : List Ev) : Nat → Option PS
  | 0 => some st0
  | n + 1 => match runE es n with
    | none => none
    | some st => if mayB (es.getD n ev0) = true then stepE es n st else none
def properB (es : List Ev) : Bool := (runE es es.length).isSome
theorem runE_none {es : List Ev} {n m : Nat} (h : runE es n = none) (hm : n ≤ m) : runE es m = none := by
  induction m with
  | zero => have : n = 0 := by omega
            subst this; exact h
  | succ m ih =>
    by_cases e : n = m + 1
    · subst e; exact h
    · rw [runE, ih (by omega)]
theorem runE_inv {es : List Ev} : ∀ {n : Nat} {st : PS}, runE es n = some st → InvP st n
  | 0, st, h => by
    cases h
    exact fun c => ⟨Nat.le_refl _, fun x hx => by simp [st0] at hx⟩
  | n + 1, st, h => by
    rw [runE] at h
    cases hr : runE es n with
    | none => rw [hr] at h; cases h
    | some s =>
      rw [hr] at h
      simp only at h
      split at h
      · exact (runE_inv hr).step h
      · cases h
abbrev c0P : Array Value := #[.slice none 0 0, .int .u64 0, .slice none 0 0, .int .u64 0, .slice none 0 0, .int .u64 0, .slice none 0 0, .int .u64 0, .slice none 0 0, .int .u64 0, .slice none 0 0, .int .u64 0, .slice none 0 0, .int .u64 0, .slice none 0 0, .int .u64 0, .slice none 0 0, .int .u64 0, .slice none 0 0, .int .u64 0, .slice none 0 0, .int .u64 0, .slice none 0 0, .int .u64 0, .slice none 0 0, .int .u64 0, .slice none 0 0, .int .u64 0, .slice none 0 0, .int .u64 0, .slice none 0 0, .int .u64 0]
def os0 : Nat → Option Addr × Nat := fun _ => (none, 0)
theorem Pst.first (w : World) : ∀ W, W = w.alloc (.cells c0P 63) → Pst w W w.heap.size os0 st0 := by
  rintro W rfl
  refine ⟨⟨c0P, blk_new w _, rfl, fun c hc => ?_⟩, fun c _ => own_nil _, fun c _ => new_none _, fun c d _ _ _ k hk => ?_, (Keeps.refl _ _).alloc _, Nat.le_refl _⟩
  · show c0P[2 * c]? = some (.slice none 0 0) ∧ c0P[2 * c + 1]? = some (.int .u64 ((0 : Nat) : Nat))
    match c, hc with
    | 0, _ => exact ⟨rfl, rfl⟩
    | 1, _ => exact ⟨rfl, rfl⟩
    | 2, _ => exact ⟨rfl, rfl⟩
    | 3, _ => exact ⟨rfl, rfl⟩
    | 4, _ => exact ⟨rfl, rfl⟩
    | 5, _ => exact ⟨rfl, rfl⟩
    | 6, _ => exact ⟨rfl, rfl⟩
    | 7, _ => exact ⟨rfl, rfl⟩
    | 8, _ => exact ⟨rfl, rfl⟩
    | 9, _ => exact ⟨rfl, rfl⟩
    | 10, _ => exact ⟨rfl, rfl⟩
    | 11, _ => exact ⟨rfl, rfl⟩
    | 12, _ => exact ⟨rfl, rfl⟩
    | 13, _ => exact ⟨rfl, rfl⟩
    | 14, _ => exact ⟨rfl, rfl⟩
    | 15, _ => exact ⟨rfl, rfl⟩
    | n + 16, h => omega
  · obtain ⟨x, e, _⟩ := hk
    cases e
set_option maxRecDepth 10000 in
set_option maxHeartbeats 8000000 in
theorem proper_any (w : World) (o : Option Addr) (n c : Nat) (rs : List RE) (es : List Ev) (hn : n = es.length) (he : Evs w o c rs es) (hz : SzL es) :
    Calls Tryz.prog 8 #[.slice o n c] w fun e w' => e = .returned (.bool (properB es)) ∧ Keeps no w w' := by
  have HV : Hid (n = es.length ∧ Evs w o c rs es ∧ SzL es) := ⟨hn, he, hz⟩
  have hnb : (n : Int) ≤ 1099511627000 := by have := hz.len; omega
  obtain ⟨R, hR⟩ : ∃ R, R = properB es := ⟨_, rfl⟩
  rw [← hR]
  have HR : Hid (R = properB es) := hR
  clear hn he hz hR
  have HF := Pst.first w
  go_enter Tryz.func8, Tryz.ntmps8
  go_upto_region 2 with fail
  have h1 := HF _ rfl
  clear HF
  generalize w.alloc (.cells c0P 63) = w1 at h1 ⊢
  generalize w.heap.size = P at h1 ⊢
  have H1 : Hid (Pst w w1 P os0 st0) := h1
  clear h1
  go_wp2_with fail
  go_loopw [8] (fun s8 wr => ∃ (k : Nat) (os : Nat → Option Addr × Nat) (st : PS), k ≤ n ∧ s8 = .int .i64 (k : Nat) ∧ Hid (Pst w wr P os st ∧ runE es k = some st)) (fun s8 _ => n - (intOf s8).toNat)
  case atStart => exact ⟨0, os0, st0, by omega, rfl, H1.out, rfl⟩
  case round =>
    rename World => wr
    obtain ⟨k, os, st, hkk, rfl, HI⟩ := hrel
    by_cases hlt : k < n
    · have hlt' : (k : Int) < n := by omega
      have hkl : k < es.length := by have := HV.out.1; omega
      have hvk := HV.out.2.1.keepsN HI.out.1.kp
      obtain ⟨g, off, e0', hcl⟩ := hvk.sl.atE (j := k) (by rw [hvk.len]; exact hkl)
      obtain ⟨r, hr⟩ : ∃ r, r = rs.getD k re0 := ⟨_, rfl⟩
      have hve := HV.out.2.1.each k hkl
      rw [← hr] at hcl hve
      have hsz := HV.out.2.2.each _ (getD_mem_lt ev0 hkl)
      obtain ⟨ek, ecl, et, ei, po, pn, pc, ko, kn, kc, ax, ar, ai, vo, vn, vc⟩ := r
      have HM : Hid (∀ W, Keeps no w W → Calls Tryz.prog 19 #[.agg #[.int .i64 ek, .int .i64 ecl, .int .i64 et, .int .u64 (ei : Nat), .slice po pn pc, .slice ko kn kc, .int .i64 ax, .int .i64 ar, .int .u64 (ai : Nat), .slice vo vn vc]] W fun E w' => E = .returned (.bool (mayB (es.getD k ev0))) ∧ Keeps no W w') := fun W hW => may_any W ⟨ek, ecl, et, ei, po, pn, pc, ko, kn, kc, ax, ar, ai, vo, vn, vc⟩ _ (hve.keepsN hW) hsz
      have HG : Hid (mayB (es.getD k ev0) = true → ∀ W, Pst w W P os st → Calls Tryz.prog 20 #[.pointer (some ⟨P, 0, none⟩), .slice o n c, .int .i64 (k : Nat)] W fun e w' => e = .returned (.bool (stepE es k st).isSome) ∧ ∃ os' st', Pst w w' P os' st' ∧ ∀ s, stepE es k st = some s → st' = s) := fun hm W hW => goesOn_any w W P os st hW o n c rs es HV.out.1 HV.out.2.1 HV.out.2.2.each hnb k (by omega) (runE_inv HI.out.2) hm
      have HRN : Hid (runE es (k + 1) = if mayB (es.getD k ev0) = true then stepE es k st else none) := by
        show _ = _
        rw [runE, HI.out.2]
      have HNO : Hid (runE es (k + 1) = none → R = false) := fun h => by
        rw [HR.out, properB, runE_none h (by omega)]
        rfl
      have HN : Hid (∀ cs t, Pst w (wr.alloc (.cells cs t)) P os st) := fun cs t => HI.out.1.keepsN ((Keeps.refl _ _).alloc _)
      obtain ⟨c0, c1, c2, c3, c4, c5, c6, c7, c8, c9⟩ := hcl
      simp only at c0 c1 c2 c3 c4 c5 c6 c7 c8 c9
      clear hr hve hvk hkl hsz
      subst e0'
      go_wp2_with fail
      refine (HM.out _ (HN.out _ _).kp).mono ?_
      rintro e' w2 ⟨rfl, hk2⟩
      have HP2 : Hid (Pst w w2 P os st) := (HN.out _ _).keepsN hk2
      clear hk2 c0 c1 c2 c3 c4 c5 c6 c7 c8 c9 HI HN HM
      cases hm : mayB (es.getD k ev0) with
      | false =>
        have HB : Hid (R = false) := HNO.out (by rw [HRN.out, if_neg (by rw [hm]; decide)])
        clear HG HRN HNO
        go_wp2_with fail
        go_ret
        exact ⟨by rw [HB.out]; rfl, HP2.out.kp⟩
      | true =>
        have HG2 := HG.out hm w2 HP2.out
        have HRN2 : Hid (runE es (k + 1) = stepE es k st) := by show _ = _; rw [HRN.out, if_pos hm]
        clear HG HRN
        cases hs : stepE es k st with
        | none =>
          have HB : Hid (R = false) := HNO.out (by rw [HRN2.out, hs])
          rw [hs] at HG2
          clear HRN2 HNO hs
          go_wp2_with fail
          refine HG2.mono ?_
          rintro e w3 ⟨rfl, os3, st3, hp3, -⟩
          have HP3 : Hid (Pst w w3 P os3 st3) := hp3
          clear hp3
          go_wp2_with fail
          go_ret
          exact ⟨by rw [HB.out]; rfl, HP3.out.kp⟩
        | some s =>
          have HRN3 : Hid (runE es (k + 1) = some s) := by show _ = _; rw [HRN2.out, hs]
          rw [hs] at HG2
          clear HRN2 HNO hs
          go_wp2_with fail
          refine HG2.mono ?_
          rintro e w3 ⟨rfl, os3, st3, hp3, h3⟩
          obtain rfl := h3 s rfl
          have HP3 : Hid (Pst w w3 P os3 st3) := hp3
          clear hp3 h3
          go_wp2_with fail
          go_roundw
          case rel => exact ⟨k + 1, os3, st3, by omega, by go_num, HP3.out, HRN3.out⟩
          case measure => first | (simp [intOf]; done) | (simp [intOf]; omega)
    · have hlt' : ¬ (k : Int) < n := by omega
      have HE : Hid (R = true) := by
        show _ = _
        have : k = es.length := by have := HV.out.1; omega
        rw [HR.out, properB, ← this, HI.out.2]
        rfl
      go_wp2_with fail
      go_ret
      exact ⟨by rw [HE.out]; rfl, HI.out.1.kp⟩
end Go.Proofs.YtjkljljmjjnneaaGreatDoor
