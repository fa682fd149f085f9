import Derived.Test.YtagekdmkidbhpaaC2
import Derived.Laws.MakeOwn
/- New; what only reads: has, Last, Has. -/
namespace Go.Proofs.Ytagekdmkidbhpaa
open Go.RowKit Go.Maps
set_option linter.unusedVariables false
set_option linter.unusedSimpArgs false

theorem new_any (w : World) : Calls Try.prog 10 #[] w fun e w' => ∃ p T, e = .returned (.pointer (some ⟨p, 0, none⟩)) ∧ IsS w' p T St.new 0 ∧ (∀ b, T b ≠ none → w.heap.size ≤ b) ∧ Keeps no w w' := by
  have hmm := @run_makeMap Try.prog
  go_enter Try.func10, Try.ntmps10
  go_wp2
  go_ret
  have hK : ∀ (a b c : World), Keeps no a b → Keeps no b c → Keeps no a c := fun a b c h1 h2 => h1.trans h2
  obtain ⟨B, hB⟩ : ∃ B, B = w.heap.size := ⟨_, rfl⟩
  have h1 : ∀ {κ β : Type} (K : Kk κ) (V : β → Value), IsMp K V (w.alloc (.map #[] 0)) B ([] : List (κ × β)) := fun K V => by rw [hB]; exact isMp_made w
  have h2 : ∀ {κ β : Type} (K : Kk κ) (V : β → Value), IsMp K V ((w.alloc (.map #[] 0)).alloc (.map #[] 0)) (B + 1) ([] : List (κ × β)) := fun K V => by
    have := isMp_made (K := K) (V := V) (w.alloc (.map #[] 0))
    rw [show (w.alloc (.map #[] 0)).heap.size = B + 1 by simp [hB]] at this
    exact this
  have h3 : ∀ {κ β : Type} (K : Kk κ) (V : β → Value), IsMp K V (((w.alloc (.map #[] 0)).alloc (.map #[] 0)).alloc (.map #[] 0)) (B + 2) ([] : List (κ × β)) := fun K V => by
    have := isMp_made (K := K) (V := V) ((w.alloc (.map #[] 0)).alloc (.map #[] 0))
    rw [show ((w.alloc (.map #[] 0)).alloc (.map #[] 0)).heap.size = B + 2 by simp [hB]] at this
    exact this
  have hb := blk_new (((w.alloc (.map #[] 0)).alloc (.map #[] 0)).alloc (.map #[] 0)) (.cells (scells ⟨B, B + 1, B + 2, [], [], []⟩) 77)
  rw [show (((w.alloc (.map #[] 0)).alloc (.map #[] 0)).alloc (.map #[] 0)).heap.size = B + 3 by simp [hB]] at hb
  have ka : ∀ (a : World) (o : Obj), Keeps no a (a.alloc o) := fun a o => (Keeps.refl no a).alloc o
  rw [← hB]
  refine ⟨B + 3, fun b => if b = B + 3 then some .pt else if b = B then some .vm else if b = B + 1 then some .lm else if b = B + 2 then some .wm else none, rfl, ⟨⟨B, B + 1, B + 2, [], [], []⟩, ?_⟩, ?_, ((((Keeps.refl no w).alloc _).alloc _).alloc _).alloc _⟩
  · refine { blk := hb, mv := (h1 KM vvV).keepsN ((((Keeps.refl no _).alloc _).alloc _).alloc _), ml := (h2 KT vvL).keepsN (((Keeps.refl no _).alloc _).alloc _), mw := (h3 KI vvW).keepsN ((Keeps.refl no _).alloc _), line := fun q hq => by simp at hq, set := fun q hq => by simp at hq, key := fun q hq => by simp at hq, tp := by simp, tv := by simp, tl := by simp, tw := by simp, tln := fun q hq => by simp at hq, tst := fun q hq => by simp at hq, lt := ?_, sv := fun m => rfl, sl := fun k => rfl, hv := fun k i h => absurd rfl h, fr := fun q hq => by simp at hq, sw := fun i k => ⟨fun h => absurd rfl h, fun ⟨x, h, _⟩ => by simp [fnd] at h⟩, wn := fun q hq => by simp at hq, la := fun q hq => by simp at hq, lv := (fun q hq => by simp at hq), nv := Nat.le_refl _, nl := Nat.le_refl _, nw := Nat.le_refl _, ns := fun q hq => by simp at hq, nf := fun q hq => by simp at hq }
    intro b hb
    have : b = B + 3 ∨ b = B ∨ b = B + 1 ∨ b = B + 2 := by
      by_cases e1 : b = B + 3
      · exact .inl e1
      · by_cases e2 : b = B
        · exact .inr (.inl e2)
        · by_cases e3 : b = B + 1
          · exact .inr (.inr (.inl e3))
          · by_cases e4 : b = B + 2
            · exact .inr (.inr (.inr e4))
            · simp [e1, e2, e3, e4] at hb
    simp [← hB]
    omega
  · intro b hb
    by_cases e1 : b = B + 3
    · omega
    · by_cases e2 : b = B
      · omega
      · by_cases e3 : b = B + 1
        · omega
        · by_cases e4 : b = B + 2
          · omega
          · simp [e1, e2, e3, e4] at hb

/-! ### the three cells -/
theorem SL.c0 {w : World} {p : Nat} {T : Nat → Option Ro} {s : St} {N : Nat} {y : Lay} (h : SL w p T s N y) : w.cell? ⟨p, 0, none⟩ = some (.map (some y.vm)) := cell_of_blk h.blk 0
theorem SL.c1 {w : World} {p : Nat} {T : Nat → Option Ro} {s : St} {N : Nat} {y : Lay} (h : SL w p T s N y) : w.cell? ⟨p, 1, none⟩ = some (.map (some y.lm)) := cell_of_blk h.blk 1
theorem SL.c2 {w : World} {p : Nat} {T : Nat → Option Ro} {s : St} {N : Nat} {y : Lay} (h : SL w p T s N y) : w.cell? ⟨p, 2, none⟩ = some (.map (some y.wm)) := cell_of_blk h.blk 2
theorem zeroV (w : World) : (zeroValue 90).run Try.prog w = .ok (.agg #[.string ⟨#[]⟩, .slice none 0 0, .int .i64 0]) w := Try.zeroValue90 w

/-- looks, written out -/
theorem lookL_some {w : World} {b : Nat} {L : List (Tx × Ln)} (h : IsMp KT vvL w b L) {k : Tx} (hk : k.size ≤ maxLen) {x : Ln} (hf : fnd k L = some x) : (Instr.lookup 74 (.map (some b)) (.string k) false).run Try.prog w = .ok (.pointer (some ⟨x.p, 0, none⟩)) w :=
  h.look_some lawT (t := 74) (e := 97) Try.underlying74 (z := .pointer none) (Try.zeroValue97 w) (k := k) hk hf
theorem lookL_none {w : World} {b : Nat} {L : List (Tx × Ln)} (h : IsMp KT vvL w b L) {k : Tx} (hk : k.size ≤ maxLen) (hf : fnd k L = none) : (Instr.lookup 74 (.map (some b)) (.string k) false).run Try.prog w = .ok (.pointer none) w :=
  h.look_none lawT (t := 74) (e := 97) Try.underlying74 (z := .pointer none) (Try.zeroValue97 w) (k := k) hk hf
theorem lookW_some {w : World} {b : Nat} {L : List (Nat × (Nat × List Tx))} (h : IsMp KI vvW w b L) {i : Nat} (hi : i < 18446744073709551616) {x : Nat × List Tx} (hf : fnd i L = some x) : (Instr.lookup 75 (.map (some b)) (.int .u64 ((i : Nat) : Int)) false).run Try.prog w = .ok (.map (some x.1)) w :=
  h.look_some lawI (t := 75) (e := 92) Try.underlying75 (z := .map none) (Try.zeroValue92 w) (k := i) hi hf
theorem lookW_none {w : World} {b : Nat} {L : List (Nat × (Nat × List Tx))} (h : IsMp KI vvW w b L) {i : Nat} (hi : i < 18446744073709551616) (hf : fnd i L = none) : (Instr.lookup 75 (.map (some b)) (.int .u64 ((i : Nat) : Int)) false).run Try.prog w = .ok (.map none) w :=
  h.look_none lawI (t := 75) (e := 92) Try.underlying75 (z := .map none) (Try.zeroValue92 w) (k := i) hi hf
theorem lookV_some {w : World} {b : Nat} {L : List (Mk × MV)} (h : IsMp KM vvV w b L) {k : Tx} {i : Nat} (hk : KM.ok (k, i)) {x : MV} (hf : fnd (k, i) L = some x) : (Instr.lookup 73 (.map (some b)) (.agg #[.string k, .int .u64 ((i : Nat) : Int)]) false).run Try.prog w = .ok (.agg #[.string x.val, .slice x.o x.keys.length x.c, .int .i64 x.stamp]) w :=
  h.look_some lawM (t := 73) (e := 90) Try.underlying73 (z := .agg #[.string ⟨#[]⟩, .slice none 0 0, .int .i64 0]) (zeroV w) (k := (k, i)) hk hf
theorem lookV2_some {w : World} {b : Nat} {L : List (Mk × MV)} (h : IsMp KM vvV w b L) {k : Tx} {i : Nat} (hk : KM.ok (k, i)) {x : MV} (hf : fnd (k, i) L = some x) : (Instr.lookup 73 (.map (some b)) (.agg #[.string k, .int .u64 ((i : Nat) : Int)]) true).run Try.prog w = .ok (.tuple #[.agg #[.string x.val, .slice x.o x.keys.length x.c, .int .i64 x.stamp], .bool true]) w :=
  h.look2_some lawM (t := 73) (e := 90) Try.underlying73 (z := .agg #[.string ⟨#[]⟩, .slice none 0 0, .int .i64 0]) (zeroV w) (k := (k, i)) hk hf
theorem lookV2_none {w : World} {b : Nat} {L : List (Mk × MV)} (h : IsMp KM vvV w b L) {k : Tx} {i : Nat} (hk : KM.ok (k, i)) (hf : fnd (k, i) L = none) : (Instr.lookup 73 (.map (some b)) (.agg #[.string k, .int .u64 ((i : Nat) : Int)]) true).run Try.prog w = .ok (.tuple #[.agg #[.string ⟨#[]⟩, .slice none 0 0, .int .i64 0], .bool false]) w :=
  h.look2_none lawM (t := 73) (e := 90) Try.underlying73 (z := .agg #[.string ⟨#[]⟩, .slice none 0 0, .int .i64 0]) (zeroV w) (k := (k, i)) hk hf

theorem last_any (w : World) (p : Nat) (T : Nat → Option Ro) (s : St) (N : Nat) (k : Tx) (h : IsS w p T s N) (hk : k.size ≤ maxLen) :
    Calls Try.prog 31 #[.pointer (some ⟨p, 0, none⟩), .string k] w fun e w' => e = .returned (.int .u64 ((s.last k : Nat) : Int)) ∧ w' = w := by
  obtain ⟨y, h⟩ := h
  have c1 := h.c1
  have hsl := h.sl k
  unfold lastOf at hsl
  cases hf : fnd k y.L with
  | none =>
    have hl := lookL_none h.ml hk hf
    rw [hf] at hsl
    simp only at hsl
    rw [hsl]
    clear h hf hsl
    go_enter Try.func31, Try.ntmps31
    go_wp2
    go_ret
    exact ⟨rfl, rfl⟩
  | some x =>
    have hl := lookL_some h.ml hk hf
    rw [hf] at hsl
    simp only at hsl
    rw [hsl]
    have d0 : w.cell? ⟨x.p, 0, none⟩ = some (.int .u64 ((x.last : Nat) : Int)) := cell_of_blk (h.line _ (fnd_mem hf)).blk 0
    clear h hf hsl
    go_enter Try.func31, Try.ntmps31
    go_wp2
    go_ret
    exact ⟨rfl, rfl⟩

set_option maxRecDepth 10000 in
theorem has_any (w : World) (p : Nat) (T : Nat → Option Ro) (s : St) (N : Nat) (m : Mk) (h : IsS w p T s N) (hm : KM.ok m) :
    Calls Try.prog 35 #[.pointer (some ⟨p, 0, none⟩), .agg #[.string m.1, .int .u64 ((m.2 : Nat) : Int)]] w fun e w' => e = .returned (.bool (s.V m).isSome) ∧ Keeps no w w' := by
  obtain ⟨y, h⟩ := h
  obtain ⟨k, i⟩ := m
  simp only
  have hsv := h.sv (k, i)
  obtain ⟨w0, hw0⟩ : ∃ w0, w0 = w.alloc (.cells #[.string k, .int .u64 ((i : Nat) : Int)] 87) := ⟨_, rfl⟩
  have hk0 : Keeps no w w0 := by rw [hw0]; exact (Keeps.refl no w).alloc _
  have c0 := hk0.cellN h.c0
  obtain ⟨w1, hw1⟩ : ∃ w1, w1 = w0.alloc (.cells #[.string ⟨#[]⟩, .slice none 0 0, .int .i64 0] 90) := ⟨_, rfl⟩
  have hk1 : Keeps no w w1 := by rw [hw1]; exact hk0.alloc _
  have hk01 : Keeps no w0 w1 := by rw [hw1]; exact (Keeps.refl no w0).alloc _
  have a0 : w0.cell? ⟨w.heap.size, 0, none⟩ = some (.string k) := by rw [hw0]; exact cell_of_blk (blk_new w _) 0
  have a1 : w0.cell? ⟨w.heap.size, 1, none⟩ = some (.int .u64 ((i : Nat) : Int)) := by rw [hw0]; exact cell_of_blk (blk_new w _) 1
  have b0 := hk01.cellN a0
  have b1 := hk01.cellN a1
  have c0' := hk01.cellN c0
  have HK0 : Hid (∀ o : Obj, Keeps no w (w0.drew.alloc o) ∧ Keeps no w (w0.alloc o).drew) := (show _ from fun o => ⟨hk0.drew.alloc o, (hk0.alloc o).drew⟩)
  cases hf : fnd (k, i) y.V with
  | none =>
    have hl := lookV2_none (h.mv.keepsN hk0.drew) hm hf
    have hl1 := lookV2_none (h.mv.keepsN hk1.drew) hm hf
    rw [hf] at hsv
    rw [hsv]
    rw [hw1] at hl1 b0 b1 c0'
    rw [hw0] at c0 hl hl1 HK0 a0 a1 b0 b1 c0'
    clear hf hsv h hw0 hk0 hm hw1 hk1 hk01
    go_enter Try.func35, Try.ntmps35
    go_wp2_with fail
    go_region_with (fail)
    all_goals go_wp2_with fail
    all_goals go_ret
    all_goals first | exact ⟨rfl, (HK0.out _).1⟩ | exact ⟨rfl, (HK0.out _).2⟩
  | some x =>
    have hl := lookV2_some (h.mv.keepsN hk0.drew) hm hf
    have hl1 := lookV2_some (h.mv.keepsN hk1.drew) hm hf
    generalize x.keys.length = n at hl hl1
    rw [hf] at hsv
    rw [hsv]
    rw [hw1] at hl1 b0 b1 c0'
    rw [hw0] at c0 hl hl1 HK0 a0 a1 b0 b1 c0'
    clear hf hsv h hw0 hk0 hm hw1 hk1 hk01
    go_enter Try.func35, Try.ntmps35
    go_wp2_with fail
    go_region_with (fail)
    all_goals go_wp2_with fail
    all_goals go_ret
    all_goals first | exact ⟨rfl, (HK0.out _).1⟩ | exact ⟨rfl, (HK0.out _).2⟩
theorem hasN_any (w : World) (p : Nat) (T : Nat → Option Ro) (s : St) (N : Nat) (i : Nat) (h : IsS w p T s N) (hi : i < 18446744073709551616) :
    Calls Try.prog 19 #[.pointer (some ⟨p, 0, none⟩), .int .u64 ((i : Nat) : Int)] w fun e w' => (∃ n : Nat, e = .returned (.int .i64 ((n : Nat) : Int)) ∧ Hid (∃ l : List Tx, n = l.length ∧ l.Nodup ∧ ∀ k, k ∈ l ↔ s.V (k, i) ≠ none)) ∧ w' = w := by
  obtain ⟨y, h⟩ := h
  have c2 := h.c2
  cases hf : fnd i y.W with
  | none =>
    have hl := lookW_none h.mw hi hf
    have hlen := fun ty => Maps.len_nil (P := Try.prog) (w := w) Try.underlying92 ty
    have HE : Hid (∃ l : List Tx, 0 = l.length ∧ l.Nodup ∧ ∀ k, k ∈ l ↔ s.V (k, i) ≠ none) := (show _ from ⟨[], rfl, List.nodup_nil, fun k => by
      rw [h.sw i k, hf]
      simp⟩)
    clear h hf hi
    go_enter Try.func19, Try.ntmps19
    go_wp2
    go_ret
    exact ⟨⟨0, rfl, HE⟩, rfl⟩
  | some x =>
    have hl := lookW_some h.mw hi hf
    have hm := h.set _ (fnd_mem hf)
    have hlen := fun ty => hm.len (t := 92) (e := 113) Try.underlying92 ty
    rw [show (setL x.2).length = x.2.length by simp [setL]] at hlen
    obtain ⟨n, hn⟩ : ∃ n, n = x.2.length := ⟨_, rfl⟩
    rw [← hn] at hlen
    have HE : Hid (∃ l : List Tx, n = l.length ∧ l.Nodup ∧ ∀ k, k ∈ l ↔ s.V (k, i) ≠ none) := (show _ from ⟨x.2, hn, nk_setL.1 hm.nk, fun k => by
      rw [h.sw i k, hf]
      simp⟩)
    clear h hf hi hm hn
    go_enter Try.func19, Try.ntmps19
    go_wp2
    go_ret
    exact ⟨⟨n, rfl, HE⟩, rfl⟩
end Go.Proofs.Ytagekdmkidbhpaa
