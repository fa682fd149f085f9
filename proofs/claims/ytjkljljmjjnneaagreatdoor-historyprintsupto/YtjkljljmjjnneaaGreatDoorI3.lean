/- What is read is what is written: Print behind Parse. -/
import Derived.Test.YtjkljljmjjnneaaGreatDoorI2
namespace Go.Proofs.YtjkljljmjjnneaaGreatDoor
open Go.RowKit Go.Sort Orl
set_option linter.unusedVariables false
set_option linter.unusedSimpArgs false

theorem vrB_key (v : Ver) : (vrB v).key = v.key.data.toList ∧ (vrB v).id = v.id ∧ (vrB v).val = v.val.data.toList ∧ (vrB v).keys = bts v.keys := ⟨rfl, rfl, rfl, rfl⟩
theorem keys_w (c : UInt8) (ks : List Tx) : ks.flatMap (keyW c) = (bts ks).flatMap (keyX c) := by
  unfold bts
  rw [List.flatMap_map]
  rfl
theorem ver_w (v : Ver) : verW v = verX (vrB v) := by
  unfold verW verX
  rw [keys_w]
  rfl
theorem evB_w {e : Ev} {x : Eb} (h : EvB e x) (ok : OkX x) : lineW e = lineX x := by
  have hp : e.pairs.flatMap pairW = x.pairs.flatMap (fun p => 32 :: pairX p) := by
    rw [← h.pairs, List.flatMap_map]; rfl
  have hv : e.vers.flatMap (fun v => 32 :: verW v) = x.vers.flatMap (fun v => 32 :: verX v) := by
    rw [← h.vers, List.flatMap_map]
    congr 1
    funext v
    rw [ver_w]
  have hk : e.keys.flatMap (keyW 32) = x.keys.flatMap (keyX 32) := by rw [keys_w, h.keys]
  have h1 : e.client.toNat = x.client := by have := h.client; omega
  have h2 : e.txn.toNat = x.txn := by have := h.txn; omega
  have h3 : e.ares.toNat = x.ares := by have := h.ares; omega
  have hev : evW e = evX x := by
    unfold evW evX
    have hkd := h.kind
    rcases ok.kd with k | k | k
    · rw [if_pos (by omega), if_pos k, writeW, pairsW, hp, h.id]
    · rw [if_neg (by omega), if_pos (by omega), if_neg (by omega), if_pos k, readW, keysW, hk]
    · rw [if_neg (by omega), if_neg (by omega), if_pos (by omega), if_neg (by omega), if_neg (by omega), if_pos k, ansW, versW, hv, h3, h.aid]
  unfold lineW lineX
  rw [h1, h2, hev]
theorem evB_may {e : Ev} {x : Eb} (h : EvB e x) (ok : OkX x) : mayB e = true := by
  have hc := h.client
  have ht := h.txn
  have hk := h.kind
  have o1 := ok.cl
  have o2 := ok.tx
  have lp : e.pairs.length = x.pairs.length := by rw [← h.pairs, List.length_map]
  have lk : e.keys.length = x.keys.length := by rw [← h.keys, bts_len]
  have lv : e.vers.length = x.vers.length := by rw [← h.vers, List.length_map]
  unfold mayB
  rw [decide_eq_true (by omega : 0 ≤ e.client ∧ e.client < 16), decide_eq_true (by omega : 1 ≤ e.txn), Bool.true_and, Bool.true_and]
  rcases ok.kd with k | k | k
  · obtain ⟨a1, a2, a3, a4⟩ := ok.wr k
    have x1 := h.atxn
    rw [if_neg (by omega)] at x1
    have x2 := h.ares
    have x3 := h.aid
    rw [if_pos (by omega), lk, a1]
    unfold zeroB
    rw [lv, a4, x1, x2, x3, a2, a3]
    rfl
  · obtain ⟨a0, a1, a2, a3, a4⟩ := ok.rd k
    have x1 := h.atxn
    rw [if_neg (by omega)] at x1
    have x2 := h.ares
    have x3 := h.aid
    rw [if_neg (by omega), if_pos (by omega), lp, a1, h.id, a0]
    unfold zeroB
    rw [lv, a4, x1, x2, x3, a2, a3]
    rfl
  · obtain ⟨a0, a1, a2, a3, a4, a5⟩ := ok.an k
    have x1 := h.atxn
    rw [if_pos (by omega)] at x1
    have x2 := h.ares
    rw [if_neg (by omega), if_neg (by omega), if_pos (by omega), lp, a1, lk, a2, h.id, a0]
    unfold ansB
    rw [decide_eq_true (by omega : e.atxn = e.txn), decide_eq_true (by omega : 1 ≤ e.ares), decide_eq_true (by omega : e.ares ≤ 6)]
    have hall : e.vers.all verB = true := by
      rw [List.all_eq_true]
      intro v hv
      have hm : vrB v ∈ x.vers := by rw [← h.vers]; exact List.mem_map_of_mem hv
      unfold verB
      by_cases hz : v.id = 0
      · obtain ⟨b1, b2⟩ := a5 _ hm hz
        have c1 : v.val.size = 0 := by
          have := congrArg List.length b1
          rw [(vrB_key v).2.2.1, data_len] at this
          exact this
        have c2 : v.keys.length = 0 := by
          have := congrArg List.length b2
          rw [(vrB_key v).2.2.2, bts_len] at this
          exact this
        simp [c1, c2]
      · simp [hz]
    rw [hall]
    rfl
theorem cut_join (c : UInt8) : ∀ l : List UInt8, (cutL c l).2.2 = true → (cutL c l).1 ++ ([c] ++ (cutL c l).2.1) = l
  | [], h => by cases h
  | x :: l, h => by
    rw [cutL] at h ⊢
    by_cases e : x = c
    · rw [if_pos e]; rw [e]; rfl
    · rw [if_neg e] at h ⊢
      have ih := cut_join c l h
      show x :: ((cutL c l).1 ++ ([c] ++ (cutL c l).2.1)) = _
      rw [ih]
theorem parse_back : ∀ (f : Nat) (l : List UInt8) (n : Nat), l.length ≤ f → ∀ xs k, parseF f l n = (some xs, k) → xs.flatMap lineX = l ∧ (∀ x ∈ xs, OkX x) ∧ k = 0
  | 0, l, n, hf, xs, k, h => by
    have e : l = [] := List.length_eq_zero_iff.1 (by omega)
    rw [parseF] at h
    cases h
    exact ⟨by rw [e]; rfl, fun x hx => by simp at hx, rfl⟩
  | f + 1, l, n, hf, xs, k, h => by
    rw [parseF] at h
    by_cases e : l = []
    · rw [if_pos e] at h
      cases h
      exact ⟨by rw [e]; rfl, fun x hx => by simp at hx, rfl⟩
    · rw [if_neg e] at h
      by_cases hb : (cutL 10 l).2.2 = false
      · rw [if_pos hb] at h; cases h
      · rw [if_neg hb] at h
        cases hev : eventR (cutL 10 l).1 with
        | none => rw [hev] at h; cases h
        | some x =>
          rw [hev] at h
          simp only at h
          have hlen := (cutL_len 10 l).2.2 e
          cases hp : parseF f (cutL 10 l).2.1 (n + 1) with
          | mk o k2 =>
            rw [hp] at h
            cases o with
            | none => cases h
            | some ys =>
              cases h
              obtain ⟨i1, i2, i3⟩ := parse_back f _ _ (by omega) ys k hp
              obtain ⟨j1, j2⟩ := event_back hev
              refine ⟨?_, fun y hy => ?_, i3⟩
              · rw [List.flatMap_cons, i1, j1, List.append_assoc]
                exact cut_join 10 l (by simpa using hb)
              · rcases List.mem_cons.1 hy with e2 | e2
                · rw [e2]; exact j2
                · exact i2 y e2
end Go.Proofs.YtjkljljmjjnneaaGreatDoor
