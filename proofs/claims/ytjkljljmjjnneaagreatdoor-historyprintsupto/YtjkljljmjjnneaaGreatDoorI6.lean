/- What is written is read: lines. -/
import Derived.Test.YtjkljljmjjnneaaGreatDoorI5
namespace Go.Proofs.YtjkljljmjjnneaaGreatDoor
open Go.RowKit Go.Sort Orl
set_option linter.unusedVariables false
set_option linter.unusedSimpArgs false

theorem pair_cl (p : List UInt8 × List UInt8) : ∀ c ∈ pairX p, c ≠ 32 ∧ c ≠ 10 := by
  intro c hc
  unfold pairX at hc
  rcases List.mem_append.1 hc with hc | hc
  · rcases List.mem_append.1 hc with hc | hc
    · exact ⟨(text_cl _ c hc).1, (text_cl _ c hc).2.2⟩
    · rw [List.mem_singleton.1 hc]; exact ⟨by decide, by decide⟩
  · exact ⟨(text_cl _ c hc).1, (text_cl _ c hc).2.2⟩
theorem ver_cl (v : Vr) : ∀ c ∈ verX v, c ≠ 32 ∧ c ≠ 10 := by
  intro c hc
  unfold verX at hc
  rcases List.mem_append.1 hc with hc | hc
  · rcases List.mem_append.1 hc with hc | hc
    · rcases List.mem_append.1 hc with hc | hc
      · exact ⟨(text_cl _ c hc).1, (text_cl _ c hc).2.2⟩
      · rw [List.mem_singleton.1 hc]; exact ⟨by decide, by decide⟩
    · exact ⟨(num_cl _ c hc).1, (num_cl _ c hc).2.2⟩
  · split at hc
    · cases hc
    · rcases List.mem_append.1 hc with hc | hc
      · rcases List.mem_append.1 hc with hc | hc
        · rw [List.mem_singleton.1 hc]; exact ⟨by decide, by decide⟩
        · exact ⟨(text_cl _ c hc).1, (text_cl _ c hc).2.2⟩
      · obtain ⟨k, _, hk⟩ := List.mem_flatMap.1 hc
        rcases List.mem_cons.1 hk with rfl | hk
        · exact ⟨by decide, by decide⟩
        · exact ⟨(text_cl _ c hk).1, (text_cl _ c hk).2.2⟩
theorem word_cl (r : Nat) : ∀ c ∈ wordL r, c ≠ 32 ∧ c ≠ 10 := by
  unfold wordL
  split <;> decide
theorem word_fwd {r : Nat} (h1 : 1 ≤ r) (h6 : r ≤ 6) : resR (wordL r) = r ∧ wordL r ≠ [119, 114, 105, 116, 101] ∧ wordL r ≠ [114, 101, 97, 100] := by
  obtain rfl | rfl | rfl | rfl | rfl | rfl : r = 1 ∨ r = 2 ∨ r = 3 ∨ r = 4 ∨ r = 5 ∨ r = 6 := by omega
  all_goals exact ⟨by decide, by decide, by decide⟩
/-- the words of a line behind its two numbers -/
def restX (x : Eb) : List (List UInt8) := if x.kind = 1 then [119, 114, 105, 116, 101] :: numW x.id :: x.pairs.map pairX else if x.kind = 2 then [114, 101, 97, 100] :: x.keys.map textW else wordL x.ares :: numW x.aid :: x.vers.map verX
theorem rest_cl (x : Eb) : ∀ q ∈ restX x, ∀ c ∈ q, c ≠ 32 ∧ c ≠ 10 := by
  intro q hq c hc
  have hn : ∀ u, ∀ c ∈ numW u, c ≠ 32 ∧ c ≠ 10 := fun u c hc => ⟨(num_cl _ c hc).1, (num_cl _ c hc).2.2⟩
  unfold restX at hq
  split at hq
  · rcases List.mem_cons.1 hq with rfl | hq
    · revert c; decide
    · rcases List.mem_cons.1 hq with rfl | hq
      · exact hn _ c hc
      · obtain ⟨p, _, rfl⟩ := List.mem_map.1 hq
        exact pair_cl p c hc
  · split at hq
    · rcases List.mem_cons.1 hq with rfl | hq
      · revert c; decide
      · obtain ⟨p, _, rfl⟩ := List.mem_map.1 hq
        exact ⟨(text_cl _ c hc).1, (text_cl _ c hc).2.2⟩
    · rcases List.mem_cons.1 hq with rfl | hq
      · exact word_cl _ c hc
      · rcases List.mem_cons.1 hq with rfl | hq
        · exact hn _ c hc
        · obtain ⟨p, _, rfl⟩ := List.mem_map.1 hq
          exact ver_cl p c hc
/-- a line without its end -/
def preX (x : Eb) : List UInt8 := numW x.client ++ jn 32 (numW x.txn :: restX x)
theorem ev_rest {x : Eb} (ok : OkX x) : jn 32 (restX x) = 32 :: evX x := by
  unfold restX evX
  rcases ok.kd with h | h | h
  · rw [if_pos h, if_pos h]
    simp [jn, flat_jn, ← flat_jn, List.flatMap_map]
  · rw [if_neg (by omega), if_pos h, if_neg (by omega), if_pos h, keys_jn]
    simp [jn]
  · rw [if_neg (by omega), if_neg (by omega), if_neg (by omega), if_neg (by omega), if_pos h]
    simp [jn, flat_jn, ← flat_jn, List.flatMap_map]
theorem line_pre {x : Eb} (ok : OkX x) : lineX x = preX x ++ [10] := by
  unfold lineX preX
  show _ = numW x.client ++ (32 :: numW x.txn ++ jn 32 (restX x)) ++ [10]
  rw [ev_rest ok]
  simp
theorem pre_cl (x : Eb) : ∀ c ∈ preX x, c ≠ 10 := by
  intro c hc
  unfold preX at hc
  rcases List.mem_append.1 hc with hc | hc
  · exact (num_cl _ c hc).2.2
  · obtain ⟨q, hq, h⟩ := List.mem_flatMap.1 hc
    rcases List.mem_cons.1 h with rfl | h
    · decide
    · rcases List.mem_cons.1 hq with rfl | hq
      · exact (num_cl _ c h).2.2
      · exact (rest_cl x q hq c h).2
theorem event_fwd {x : Eb} (ok : OkX x) (hi : IdX x) : eventR (preX x) = some x := by
  unfold eventR preX
  rw [split_fwd (fun c hc => (num_cl _ c hc).1) (fun q hq c hc => by
    rcases List.mem_cons.1 hq with rfl | hq
    · exact (num_cl _ c hc).1
    · exact (rest_cl x q hq c hc).1)]
  have hc := ok.cl
  have ht := ok.tx
  obtain ⟨i1, i2, i3⟩ := hi
  obtain ⟨k, cl, tx, id, ps, ks, ar, ai, vs⟩ := x
  simp only at hc ht i1 i2 i3
  have kd := ok.kd
  have wr := ok.wr
  have rd := ok.rd
  have an := ok.an
  simp only at kd wr rd an
  have hl : ¬ (numW cl :: numW tx :: restX ⟨k, cl, tx, id, ps, ks, ar, ai, vs⟩).length < 3 := by
    unfold restX
    simp only
    split
    · simp
    · split <;> simp
  unfold eventP
  rw [if_neg hl]
  simp only [List.getD_cons_zero, List.getD_cons_succ, num_fwd (show cl < 18446744073709551616 by omega), num_fwd (show tx < 18446744073709551616 by omega)]
  rw [if_neg (by omega), if_neg (by omega), if_neg (by omega)]
  rcases kd with rfl | rfl | rfl
  · obtain ⟨rfl, rfl, rfl, rfl⟩ := wr rfl
    simp only [restX, if_true, List.getD_cons_zero, List.drop_succ_cons, List.drop_zero]
    unfold writeE
    simp only [num_fwd i1, mapR_fwd (fun p _ => pair_fwd p)]
  · obtain ⟨rfl, rfl, rfl, rfl, rfl⟩ := rd rfl
    simp only [restX, show ¬ (2 = 1) by decide, if_false, if_true, List.getD_cons_zero, List.drop_succ_cons, List.drop_zero]
    rw [if_neg (by decide)]
    unfold readE
    rw [texts_fwd]
    rfl
  · obtain ⟨rfl, rfl, rfl, a1, a6, av⟩ := an rfl
    obtain ⟨w1, w2, w3⟩ := word_fwd a1 a6
    simp only [restX, show ¬ (3 = 1) by decide, show ¬ (3 = 2) by decide, if_false, List.getD_cons_zero, List.drop_succ_cons, List.drop_zero]
    rw [if_neg w2, if_neg w3]
    unfold ansE
    rw [w1, if_neg (by omega)]
    simp only [num_fwd i2, mapR_fwd (fun v hv => ver_fwd v (i3 v hv) (av v hv))]
theorem cut_app {c : UInt8} : ∀ {p : List UInt8} (r : List UInt8), (∀ x ∈ p, x ≠ c) → cutL c (p ++ c :: r) = (p, r, true)
  | [], r, _ => by rw [List.nil_append, cutL, if_pos rfl]
  | x :: p, r, h => by
    rw [List.cons_append, cutL, if_neg (h x (List.mem_cons_self)), cut_app r (fun y hy => h y (List.mem_cons_of_mem _ hy))]
theorem cut_none {c : UInt8} : ∀ {p : List UInt8}, (∀ x ∈ p, x ≠ c) → (cutL c p).2.2 = false
  | [], _ => rfl
  | x :: p, h => by
    rw [cutL, if_neg (h x (List.mem_cons_self))]
    exact cut_none (fun y hy => h y (List.mem_cons_of_mem _ hy))
/-- lines, and a piece of one behind them -/
theorem parse_lines : ∀ (xs : List Eb) (q : List UInt8) (f n : Nat), (∀ x ∈ xs, OkX x ∧ IdX x) → (∀ c ∈ q, c ≠ 10) → (xs.flatMap lineX ++ q).length ≤ f →
    parseF f (xs.flatMap lineX ++ q) n = if q = [] then (some xs, 0) else (none, n + xs.length + 1)
  | [], q, 0, n, _, _, hf => by
    have : q = [] := List.length_eq_zero_iff.1 (by simpa using hf)
    subst this; rfl
  | [], q, f + 1, n, _, hq, hf => by
    show parseF (f + 1) q n = _
    rw [parseF]
    by_cases h : q = []
    · rw [if_pos h, if_pos h]
    · rw [if_neg h, if_neg h, cut_none hq, if_pos rfl]
      rfl
  | x :: xs, q, f, n, hx, hq, hf => by
    obtain ⟨ok, hi⟩ := hx x (List.mem_cons_self)
    have he : (x :: xs).flatMap lineX ++ q = preX x ++ 10 :: (xs.flatMap lineX ++ q) := by
      rw [List.flatMap_cons, line_pre ok]
      simp
    rw [he] at hf ⊢
    rw [List.length_append, List.length_cons] at hf
    obtain ⟨f, rfl⟩ : ∃ g, f = g + 1 := ⟨f - 1, by omega⟩
    rw [parseF, if_neg (by simp), cut_app _ (pre_cl x)]
    simp only [event_fwd ok hi]
    rw [if_neg (by simp), parse_lines xs q f (n + 1) (fun y hy => hx y (List.mem_cons_of_mem _ hy)) hq (by omega)]
    by_cases h : q = []
    · rw [if_pos h, if_pos h]
    · rw [if_neg h, if_neg h, List.length_cons, show n + 1 + xs.length + 1 = n + (xs.length + 1) + 1 by omega]
/-- an event, as it is read -/
def ebE (e : Ev) : Eb := ⟨e.kind.toNat, e.client.toNat, e.txn.toNat, e.id, e.pairs.map prB, bts e.keys, e.ares.toNat, e.aid, e.vers.map vrB⟩
theorem eb_of {e : Ev} (h : mayB e = true) (hz : SzE e) : EvB e (ebE e) ∧ OkX (ebE e) ∧ IdX (ebE e) := by
  unfold mayB at h
  rw [Bool.and_eq_true, Bool.and_eq_true, decide_eq_true_eq, decide_eq_true_eq] at h
  obtain ⟨⟨hc, ht⟩, h⟩ := h
  have htx := hz.tx
  have hi : IdX (ebE e) := ⟨hz.id, hz.aid, fun v hv => by
    obtain ⟨u, hu, rfl⟩ := List.mem_map.1 hv
    exact hz.vid u hu⟩
  have zero : zeroB e.atxn e.ares e.aid e.vers = true → e.atxn = 0 ∧ e.ares = 0 ∧ e.aid = 0 ∧ e.vers = [] := fun h => by
    unfold zeroB at h
    simp only [Bool.and_eq_true, decide_eq_true_eq] at h
    exact ⟨h.1.1.1, h.1.1.2, h.1.2, List.length_eq_zero_iff.1 h.2⟩
  have base : ∀ (k : Nat), e.kind = (k : Nat) → (k = 1 ∨ k = 2 ∨ k = 3) → (e.atxn = if k = 3 then e.txn else 0) → 0 ≤ e.ares → EvB e (ebE e) := fun k hk h3 ha hr =>
    ⟨by show e.kind = ((e.kind.toNat : Nat) : Int); omega, by show e.client = ((e.client.toNat : Nat) : Int); omega, by show e.txn = ((e.txn.toNat : Nat) : Int); omega, rfl, rfl, rfl, by
      show e.atxn = if e.kind.toNat = 3 then ((e.txn.toNat : Nat) : Int) else 0
      rw [ha]
      by_cases h : k = 3
      · rw [if_pos h, if_pos (by omega)]; omega
      · rw [if_neg h, if_neg (by omega)], by show e.ares = ((e.ares.toNat : Nat) : Int); omega, rfl, rfl⟩
  split at h
  · rename_i hk
    rw [Bool.and_eq_true, decide_eq_true_eq] at h
    obtain ⟨z1, z2, z3, z4⟩ := zero h.2
    have hks : e.keys = [] := List.length_eq_zero_iff.1 h.1
    refine ⟨base 1 (by omega) (.inl rfl) (by rw [z1]; rfl) (by omega), ⟨?_, ?_, ?_, ?_, ?_, ?_⟩, hi⟩
    · show e.client.toNat < 16; omega
    · show 1 ≤ e.txn.toNat ∧ e.txn.toNat ≤ 9223372036854775807; omega
    · left; show e.kind.toNat = 1; omega
    · exact fun _ => ⟨by show bts e.keys = []; rw [hks]; rfl, by show e.ares.toNat = 0; omega, z3, by show e.vers.map vrB = []; rw [z4]; rfl⟩
    · exact fun h => absurd (show e.kind.toNat = 2 from h) (by omega)
    · exact fun h => absurd (show e.kind.toNat = 3 from h) (by omega)
  · split at h
    · rename_i hk
      rw [Bool.and_eq_true, Bool.and_eq_true, decide_eq_true_eq, decide_eq_true_eq] at h
      obtain ⟨z1, z2, z3, z4⟩ := zero h.2
      have hps : e.pairs = [] := List.length_eq_zero_iff.1 h.1.2
      refine ⟨base 2 (by omega) (.inr (.inl rfl)) (by rw [z1]; rfl) (by omega), ⟨?_, ?_, ?_, ?_, ?_, ?_⟩, hi⟩
      · show e.client.toNat < 16; omega
      · show 1 ≤ e.txn.toNat ∧ e.txn.toNat ≤ 9223372036854775807; omega
      · right; left; show e.kind.toNat = 2; omega
      · exact fun h => absurd (show e.kind.toNat = 1 from h) (by omega)
      · exact fun _ => ⟨h.1.1, by show e.pairs.map prB = []; rw [hps]; rfl, by show e.ares.toNat = 0; omega, z3, by show e.vers.map vrB = []; rw [z4]; rfl⟩
      · exact fun h => absurd (show e.kind.toNat = 3 from h) (by omega)
    · split at h
      · rename_i hk
        unfold ansB at h
        simp only [Bool.and_eq_true, decide_eq_true_eq] at h
        obtain ⟨⟨⟨h1, h2⟩, h3⟩, ⟨⟨h4, h5⟩, h6⟩, h7⟩ := h
        have hps : e.pairs = [] := List.length_eq_zero_iff.1 h2
        have hks : e.keys = [] := List.length_eq_zero_iff.1 h3
        refine ⟨base 3 (by omega) (.inr (.inr rfl)) (by rw [h4]; rfl) (by omega), ⟨?_, ?_, ?_, ?_, ?_, ?_⟩, hi⟩
        · show e.client.toNat < 16; omega
        · show 1 ≤ e.txn.toNat ∧ e.txn.toNat ≤ 9223372036854775807; omega
        · right; right; show e.kind.toNat = 3; omega
        · exact fun h => absurd (show e.kind.toNat = 1 from h) (by omega)
        · exact fun h => absurd (show e.kind.toNat = 2 from h) (by omega)
        · refine fun _ => ⟨h1, by show e.pairs.map prB = []; rw [hps]; rfl, by show bts e.keys = []; rw [hks]; rfl, by show 1 ≤ e.ares.toNat; omega, by show e.ares.toNat ≤ 6; omega, fun v hv hv0 => ?_⟩
          obtain ⟨u, hu, rfl⟩ := List.mem_map.1 hv
          have := List.all_eq_true.1 h7 u hu
          unfold verB at this
          have hu0 : u.id = 0 := hv0
          simp only [hu0, decide_true, Bool.not_true, Bool.false_or, Bool.and_eq_true, decide_eq_true_eq] at this
          refine ⟨?_, ?_⟩
          · show u.val.data.toList = []
            exact List.length_eq_zero_iff.1 (by rw [data_len]; exact this.1)
          · show bts u.keys = []
            rw [List.length_eq_zero_iff.1 this.2]; rfl
      · cases h
theorem flat_congr {α β : Type} {f g : α → List β} : ∀ {l : List α}, (∀ a ∈ l, f a = g a) → l.flatMap f = l.flatMap g
  | [], _ => rfl
  | a :: l, h => by rw [List.flatMap_cons, List.flatMap_cons, h a (List.mem_cons_self), flat_congr (fun b hb => h b (List.mem_cons_of_mem _ hb))]
/-- Parse of what is written -/
theorem parse_written {es : List Ev} (h : es.all mayB = true) (hz : ∀ e ∈ es, SzE e) (q : List UInt8) (hq : ∀ c ∈ q, c ≠ 10) :
    parseR (es.flatMap lineW ++ q) = if q = [] then (some (es.map ebE), 0) else (none, es.length + 1) := by
  have hl : es.flatMap lineW = (es.map ebE).flatMap lineX := by
    rw [List.flatMap_map]
    refine flat_congr fun e he => ?_
    obtain ⟨h1, h2, _⟩ := eb_of (List.all_eq_true.1 h e he) (hz e he)
    exact evB_w h1 h2
  rw [hl, parseR, parse_lines (es.map ebE) q _ 0 (fun x hx => by
    obtain ⟨e, he, rfl⟩ := List.mem_map.1 hx
    exact (eb_of (List.all_eq_true.1 h e he) (hz e he)).2) hq (Nat.le_refl _)]
  simp
theorem written_evB {es : List Ev} (h : es.all mayB = true) (hz : ∀ e ∈ es, SzE e) : ∀ j, j < (es.map ebE).length → EvB (es.getD j ev0) ((es.map ebE).getD j eb0) := fun j hj => by
  rw [List.length_map] at hj
  have hm := getD_mem_lt ev0 hj
  have := (eb_of (List.all_eq_true.1 h _ hm) (hz _ hm)).1
  rw [show (es.map ebE).getD j eb0 = ebE (es.getD j ev0) by simp [List.getD_eq_getElem?_getD, hj]]
  exact this
end Go.Proofs.YtjkljljmjjnneaaGreatDoor
