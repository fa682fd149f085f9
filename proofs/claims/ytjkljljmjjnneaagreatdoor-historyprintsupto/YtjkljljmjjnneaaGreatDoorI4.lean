/- What is read is small. -/
import Derived.Test.YtjkljljmjjnneaaGreatDoorI3
namespace Go.Proofs.YtjkljljmjjnneaaGreatDoor
open Go.RowKit Go.Sort Orl
set_option linter.unusedVariables false
set_option linter.unusedSimpArgs false

theorem num_lt {l : List UInt8} {u : Nat} (h : numR l = some u) : u < 18446744073709551616 := by
  unfold numR at h
  split at h
  · cases h
  · cases hp : Lib.parseUintB 64 l with
    | ok v =>
      rw [hp] at h
      simp only [Option.some.injEq] at h
      subst h
      have := Lib.parseUintB_le hp
      omega
    | «syntax» => rw [hp] at h; cases h
    | range => rw [hp] at h; cases h
theorem ver_lt (l : List UInt8) (v : Vr) (h : verR l = some v) : v.id < 18446744073709551616 := by
  unfold verR verP at h
  split at h
  · cases h
  · split at h
    · rename_i k i hk hi
      have hl := num_lt hi
      split at h
      · split at h
        · injection h with h; subst h; exact (by decide : 0 < 18446744073709551616)
        · cases h
      · split at h
        · cases h
        · split at h
          · injection h with h; subst h; exact hl
          · cases h
    · cases h
/-- its numbers fit -/
def IdX (x : Eb) : Prop := x.id < 18446744073709551616 ∧ x.aid < 18446744073709551616 ∧ ∀ v ∈ x.vers, v.id < 18446744073709551616
theorem event_ids {l : List UInt8} {x : Eb} (h : eventR l = some x) : IdX x := by
  unfold eventR eventP at h
  split at h
  · cases h
  · split at h
    · split at h
      · cases h
      · split at h
        · cases h
        · split at h
          · cases h
          · split at h
            · unfold writeE at h
              split at h
              · cases h
              · split at h
                · rename_i i ps hi hps
                  injection h with h; subst h
                  exact ⟨num_lt hi, (by decide : (0 : Nat) < 18446744073709551616), fun v hv => by simp at hv⟩
                · cases h
            · split at h
              · unfold readE at h
                obtain ⟨ks, h1, rfl⟩ := Option.map_eq_some_iff.1 h
                exact ⟨(by decide : (0 : Nat) < 18446744073709551616), (by decide : (0 : Nat) < 18446744073709551616), fun v hv => by simp at hv⟩
              · unfold ansE at h
                split at h
                · cases h
                · split at h
                  · cases h
                  · split at h
                    · rename_i i vs hi hvs
                      injection h with h; subst h
                      exact ⟨(by decide : (0 : Nat) < 18446744073709551616), num_lt hi, mapR_all (P := fun v => v.id < 18446744073709551616) ver_lt hvs⟩
                    · cases h
    · cases h
theorem parse_ids : ∀ (f : Nat) (l : List UInt8) (n : Nat) xs k, parseF f l n = (some xs, k) → ∀ x ∈ xs, IdX x
  | 0, l, n, xs, k, h => by
    rw [parseF] at h
    cases h
    exact fun x hx => by simp at hx
  | f + 1, l, n, xs, k, h => by
    rw [parseF] at h
    split at h
    · cases h
      exact fun x hx => by simp at hx
    · split at h
      · cases h
      · cases hev : eventR (cutL 10 l).1 with
        | none => rw [hev] at h; cases h
        | some x =>
          rw [hev] at h
          simp only at h
          cases hp : parseF f (cutL 10 l).2.1 (n + 1) with
          | mk o k2 =>
            rw [hp] at h
            cases o with
            | none => cases h
            | some ys =>
              cases h
              intro y hy
              rcases List.mem_cons.1 hy with e2 | e2
              · rw [e2]; exact event_ids hev
              · exact parse_ids f _ _ ys k hp y e2
theorem byteW_pos (c : UInt8) : 1 ≤ (byteW c).length := by unfold byteW; split <;> simp
theorem flat_ge {α : Type} (f : α → List UInt8) (hf : ∀ a, 1 ≤ (f a).length) : ∀ l : List α, l.length ≤ (l.flatMap f).length
  | [] => Nat.le_refl _
  | a :: l => by
    rw [List.flatMap_cons, List.length_append, List.length_cons]
    have := hf a
    have := flat_ge f hf l
    omega
theorem textW_ge (t : List UInt8) : t.length ≤ (textW t).length ∧ 1 ≤ (textW t).length := by
  have h := flat_ge byteW byteW_pos t
  unfold textW
  rw [List.length_append]
  refine ⟨by omega, ?_⟩
  cases t with
  | nil => simp
  | cons a t => simp at h ⊢; omega
theorem wtT_le (k : Tx) : wtT k ≤ 7 * (textW k.data.toList).length := by
  have := textW_ge k.data.toList
  rw [data_len] at this
  unfold wtT
  omega
theorem sum_le {α : Type} (f : α → Nat) (g : α → List UInt8) (m : Nat) : ∀ l : List α, (∀ a ∈ l, f a ≤ m * (g a).length) → (l.map f).sum ≤ m * (l.flatMap g).length
  | [], _ => by simp
  | a :: l, h => by
    rw [List.map_cons, List.sum_cons, List.flatMap_cons, List.length_append, Nat.mul_add]
    have := h a (by simp)
    have := sum_le f g m l (fun b hb => h b (by simp [hb]))
    omega
theorem wtP_le (p : Pr) : wtP p ≤ 9 * (pairW p).length := by
  have h1 := wtT_le p.1
  have h2 := wtT_le p.2
  unfold wtP pairW
  simp only [List.length_cons, List.length_append, List.length_nil]
  omega
theorem wtK_le (c : UInt8) (k : Tx) : wtT k + 1 ≤ 8 * (keyW c k).length := by
  have h1 := wtT_le k
  unfold keyW
  rw [List.length_cons]
  omega
theorem wtV_le (v : Ver) (hv : v.id = 0 → v.val.size = 0 ∧ v.keys = []) : wtV v + 1 ≤ 60 * (32 :: verW v).length := by
  have h1 := wtT_le v.key
  unfold wtV verW
  by_cases hz : v.id = 0
  · obtain ⟨a, b⟩ := hv hz
    rw [if_pos hz, b]
    have h2 : wtT v.val = 4 := by unfold wtT; rw [a]
    simp only [List.map_nil, List.sum_nil, List.length_cons, List.length_append, List.length_nil]
    omega
  · rw [if_neg hz]
    have h2 := wtT_le v.val
    have h3 := sum_le (fun k => wtT k + 1) (keyW 61) 8 v.keys (fun k _ => wtK_le 61 k)
    simp only [List.length_cons, List.length_append, List.length_nil]
    omega
theorem ver_ok {e : Ev} {x : Eb} (h : EvB e x) (k : x.kind = 3) (ok : OkX x) : ∀ v ∈ e.vers, v.id = 0 → v.val.size = 0 ∧ v.keys = [] := by
  intro v hv hz
  have hm : vrB v ∈ x.vers := by rw [← h.vers]; exact List.mem_map_of_mem hv
  obtain ⟨b1, b2⟩ := (ok.an k).2.2.2.2.2 _ hm hz
  refine ⟨?_, ?_⟩
  · have := congrArg List.length b1
    rw [(vrB_key v).2.2.1, data_len] at this
    exact this
  · have := congrArg List.length b2
    rw [(vrB_key v).2.2.2, bts_len] at this
    exact List.length_eq_zero_iff.1 this
theorem evW_pos {e : Ev} {x : Eb} (h : EvB e x) (ok : OkX x) : (lineW e).length = (numW e.client.toNat).length + (numW e.txn.toNat).length + (evW e).length + 3 := by
  unfold lineW
  simp only [List.length_cons, List.length_append, List.length_nil]
  omega
theorem wtE_le {e : Ev} {x : Eb} (h : EvB e x) (ok : OkX x) : wtE e ≤ 100 * (lineW e).length := by
  have hl := evW_pos h ok
  have hkd := h.kind
  have lp : e.pairs.length = x.pairs.length := by rw [← h.pairs, List.length_map]
  have lk : e.keys.length = x.keys.length := by rw [← h.keys, bts_len]
  have lv : e.vers.length = x.vers.length := by rw [← h.vers, List.length_map]
  unfold wtE
  rcases ok.kd with k | k | k
  · obtain ⟨a1, a2, a3, a4⟩ := ok.wr k
    have e1 : e.keys = [] := List.length_eq_zero_iff.1 (by rw [lk, a1]; rfl)
    have e2 : e.vers = [] := List.length_eq_zero_iff.1 (by rw [lv, a4]; rfl)
    have h1 := sum_le wtP pairW 9 e.pairs (fun p _ => wtP_le p)
    have h2 : (evW e).length = 6 + (numW e.id).length + (e.pairs.flatMap pairW).length := by
      unfold evW
      rw [if_pos (by omega), writeW, pairsW]
      simp only [List.length_cons, List.length_append, List.length_nil]
    rw [e1, e2]
    simp only [List.map_nil, List.sum_nil]
    omega
  · obtain ⟨a0, a1, a2, a3, a4⟩ := ok.rd k
    have e1 : e.pairs = [] := List.length_eq_zero_iff.1 (by rw [lp, a1]; rfl)
    have e2 : e.vers = [] := List.length_eq_zero_iff.1 (by rw [lv, a4]; rfl)
    have h1 := sum_le (fun k => wtT k + 1) (keyW 32) 8 e.keys (fun p _ => wtK_le 32 p)
    have h2 : (evW e).length = 4 + (e.keys.flatMap (keyW 32)).length := by
      unfold evW
      rw [if_neg (by omega), if_pos (by omega), readW, keysW]
      simp only [List.length_cons, List.length_append, List.length_nil]
    rw [e1, e2]
    simp only [List.map_nil, List.sum_nil]
    omega
  · obtain ⟨a0, a1, a2, a3, a4, a5⟩ := ok.an k
    have e1 : e.pairs = [] := List.length_eq_zero_iff.1 (by rw [lp, a1]; rfl)
    have e2 : e.keys = [] := List.length_eq_zero_iff.1 (by rw [lk, a2]; rfl)
    have h1 := sum_le (fun v => wtV v + 1) (fun v => 32 :: verW v) 60 e.vers (fun v hv => wtV_le v (ver_ok h k ok v hv))
    have h2 : (evW e).length = (wordL e.ares.toNat).length + 1 + (numW e.aid).length + (e.vers.flatMap (fun v => 32 :: verW v)).length := by
      unfold evW
      rw [if_neg (by omega), if_neg (by omega), if_pos (by omega), ansW, versW]
      simp only [List.length_cons, List.length_append, List.length_nil]
    rw [e1, e2]
    simp only [List.map_nil, List.sum_nil]
    omega
theorem len_le_line {e : Ev} {x : Eb} (h : EvB e x) (ok : OkX x) : e.pairs.length ≤ wtE e ∧ e.keys.length ≤ wtE e ∧ e.vers.length ≤ wtE e ∧ ∀ v ∈ e.vers, v.keys.length ≤ wtE e := by
  have one : ∀ {α : Type} (f : α → Nat) (hf : ∀ a, 1 ≤ f a) (l : List α), l.length ≤ (l.map f).sum := fun f hf l => by
    induction l with
    | nil => simp
    | cons a l ih => have := hf a; simp only [List.length_cons, List.map_cons, List.sum_cons]; omega
  have mem : ∀ {α : Type} (f : α → Nat) (l : List α) (a : α), a ∈ l → f a ≤ (l.map f).sum := fun f l a => by
    induction l with
    | nil => simp
    | cons b l ih =>
      intro hm
      simp only [List.map_cons, List.sum_cons]
      rcases List.mem_cons.1 hm with e | e
      · subst e; omega
      · have := ih e; omega
  have p1 := one wtP (fun p => by unfold wtP; omega) e.pairs
  have p2 := one (fun k => wtT k + 1) (fun k => by omega) e.keys
  have p3 := one (fun v => wtV v + 1) (fun v => by omega) e.vers
  unfold wtE
  refine ⟨by omega, by omega, by omega, fun v hv => ?_⟩
  have m1 := mem (fun v => wtV v + 1) e.vers v hv
  have m2 := one (fun k => wtT k + 1) (fun k => by omega) v.keys
  have : (v.keys.map fun k => wtT k + 1).sum ≤ wtV v := by unfold wtV; omega
  omega
theorem evB_sz {e : Ev} {x : Eb} (h : EvB e x) (ok : OkX x) (hi : IdX x) (hw : wtE e ≤ 2199023255500) : SzE e := by
  obtain ⟨l1, l2, l3, l4⟩ := len_le_line h ok
  refine ⟨by rw [h.id]; exact hi.1, by rw [h.aid]; exact hi.2.1, fun v hv => ?_, by omega, by omega, by omega, fun v hv => by have := l4 v hv; omega, by have := h.txn; have := ok.tx; omega⟩
  have hm : vrB v ∈ x.vers := by rw [← h.vers]; exact List.mem_map_of_mem hv
  exact hi.2.2 _ hm
/-- behind Parse: what is told is small, and Print writes the text -/
theorem parse_print {l : List UInt8} {xs : List Eb} {k : Nat} (h : parseR l = (some xs, k)) (hl : l.length ≤ 4294967000) {es : List Ev} (hn : es.length = xs.length) (he : ∀ j, j < xs.length → EvB (es.getD j ev0) (xs.getD j eb0)) : SzL es ∧ printV es = .tuple #[.string ⟨l.toArray⟩, .int .i64 0] ∧ k = 0 := by
  obtain ⟨h1, h2, h3⟩ := parse_back _ l 0 (Nat.le_refl _) xs k h
  have h4 := parse_ids _ l 0 xs k h
  have hE : ∀ e ∈ es, ∃ x ∈ xs, EvB e x := fun e hm => by
    obtain ⟨j, hj, rfl⟩ := List.getElem_of_mem hm
    have := he j (by omega)
    refine ⟨xs.getD j eb0, getD_mem_lt eb0 (by omega), ?_⟩
    rw [show es.getD j ev0 = es[j] by simp [List.getD_eq_getElem?_getD, hj]] at this
    exact this
  have hflat : es.flatMap lineW = l := by
    rw [← h1]
    clear h h1 h3 hl hE
    induction es generalizing xs with
    | nil =>
      have : xs = [] := List.length_eq_zero_iff.1 hn.symm
      rw [this]; rfl
    | cons e es ih =>
      cases xs with
      | nil => simp at hn
      | cons x xs =>
        rw [List.flatMap_cons, List.flatMap_cons]
        have e0 := he 0 (by simp)
        simp only [List.getD_cons_zero] at e0
        rw [evB_w e0 (h2 x (by simp)), ih (by simpa using hn) (fun j hj => by have := he (j + 1) (by simpa using hj); simpa using this) (fun y hy => h2 y (by simp [hy])) (fun y hy => h4 y (by simp [hy]))]
  have hw := sum_le wtE lineW 100 es (fun e hm => by obtain ⟨x, hx, hb⟩ := hE e hm; exact wtE_le hb (h2 x hx))
  rw [hflat] at hw
  have hin : ∀ e ∈ es, wtE e ≤ (es.map wtE).sum := fun e hm => by
    clear hw hflat hE he hn h
    induction es with
    | nil => simp at hm
    | cons b es ih =>
      simp only [List.map_cons, List.sum_cons]
      rcases List.mem_cons.1 hm with e1 | e1
      · subst e1; omega
      · have := ih e1; omega
  have hlen : es.length ≤ (es.map wtE).sum := by
    clear hw hflat hE he hn h hin
    induction es with
    | nil => simp
    | cons b es ih => simp only [List.length_cons, List.map_cons, List.sum_cons]; have : 1 ≤ wtE b := by unfold wtE; omega
                      omega
  refine ⟨⟨fun e hm => ?_, by omega, by omega⟩, ?_, h3⟩
  · obtain ⟨x, hx, hb⟩ := hE e hm
    exact evB_sz hb (h2 x hx) (h4 x hx) (by have := hin e hm; omega)
  · unfold printV
    rw [if_pos (List.all_eq_true.2 fun e hm => by obtain ⟨x, hx, hb⟩ := hE e hm; exact evB_may hb (h2 x hx)), hflat]
end Go.Proofs.YtjkljljmjjnneaaGreatDoor
