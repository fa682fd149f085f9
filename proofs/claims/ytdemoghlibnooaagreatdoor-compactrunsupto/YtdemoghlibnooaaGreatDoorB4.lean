import Derived.Test.YtdemoghlibnooaaGreatDoorB3
import Derived.Laws.MakeOwn
import Derived.Deep.RegionHeld3
namespace Go.Proofs.YtdemoghlibnooaaGreatDoor
open Go.RowKit Go.Maps
set_option linter.unusedVariables false
set_option linter.unusedSimpArgs false
theorem new_any (w : World) : Calls Tryz.prog 8 #[] w fun e w' => ∃ p T, e = .returned (.pointer (some ⟨p, 0, none⟩)) ∧ IsS w' p T St.new 0 ∧ (∀ b, T b ≠ none → w.heap.size ≤ b) ∧ Keeps no w w' := by
  have hmm := @run_makeMap Tryz.prog
  go_enter Tryz.func8, Tryz.ntmps8
  go_wp2
  go_ret
  have hK : ∀ (a b c : World), Keeps no a b → Keeps no b c → Keeps no a c := fun a b c h1 h2 => h1.trans h2
  obtain ⟨B, hB⟩ : ∃ B, B = w.heap.size := ⟨_, rfl⟩
  have h1 : ∀ {κ β : Type} (K : Kk κ) (V : β → Value), IsMp K V (w.alloc (.map #[] 0)) B ([] : List (κ × β)) := fun K V => by rw [hB]; exact isMp_made w
  have h2 : ∀ {κ β : Type} (K : Kk κ) (V : β → Value), IsMp K V ((w.alloc (.map #[] 0)).alloc (.map #[] 0)) (B + 1) ([] : List (κ × β)) := fun K V => by
    have := isMp_made (K := K) (V := V) (w.alloc (.map #[] 0))
    rw [show (w.alloc (.map #[] 0)).heap.size = B + 1 by simp [hB]] at this
    exact this
  have h3 : ∀ {κ β : Type} (K : Kk κ) (V : β → Value), IsMp K V (((w.alloc (.map #[] 0)).alloc (.map #[] 0)).alloc (.map #[] 0)) (B + 2) ([] : List (κ × β)) := fun K V => by
    have := isMp_made (K := K) (V := V) ((w.alloc (.map #[] 0)).alloc (.map #[] 0))
    rw [show ((w.alloc (.map #[] 0)).alloc (.map #[] 0)).heap.size = B + 2 by simp [hB]] at this
    exact this
  have hb := blk_new (((w.alloc (.map #[] 0)).alloc (.map #[] 0)).alloc (.map #[] 0)) (.cells (scells ⟨B, B + 1, B + 2, [], [], []⟩) 94)
  rw [show (((w.alloc (.map #[] 0)).alloc (.map #[] 0)).alloc (.map #[] 0)).heap.size = B + 3 by simp [hB]] at hb
  have ka : ∀ (a : World) (o : Obj), Keeps no a (a.alloc o) := fun a o => (Keeps.refl no a).alloc o
  rw [← hB]
  refine ⟨B + 3, fun b => if b = B + 3 then some .pt else if b = B then some .vm else if b = B + 1 then some .lm else if b = B + 2 then some .wm else none, rfl, ⟨⟨B, B + 1, B + 2, [], [], []⟩, ?_⟩, ?_, ((((Keeps.refl no w).alloc _).alloc _).alloc _).alloc _⟩
  · refine { blk := hb, mv := (h1 KM vvV).keepsN ((((Keeps.refl no _).alloc _).alloc _).alloc _), ml := (h2 KT vvL).keepsN (((Keeps.refl no _).alloc _).alloc _), mw := (h3 KI vvW).keepsN ((Keeps.refl no _).alloc _), line := fun q hq => by simp at hq, set := fun q hq => by simp at hq, key := fun q hq => by simp at hq, tp := by simp, tv := by simp, tl := by simp, tw := by simp, tln := fun q hq => by simp at hq, tst := fun q hq => by simp at hq, lt := ?_, sv := fun m => rfl, sl := fun k => rfl, hv := fun k i h => absurd rfl h, fr := fun q hq => by simp at hq, sw := fun i k => ⟨fun h => absurd rfl h, fun ⟨x, h, _⟩ => by simp [fnd] at h⟩, wn := fun q hq => by simp at hq, la := fun q hq => by simp at hq, nv := Nat.le_refl _, nl := Nat.le_refl _, nw := Nat.le_refl _, ns := fun q hq => by simp at hq, nf := fun q hq => by simp at hq }
    intro b hb
    have : b = B + 3 ∨ b = B ∨ b = B + 1 ∨ b = B + 2 := by
      by_cases e1 : b = B + 3
      · exact .inl e1
      · by_cases e2 : b = B
        · exact .inr (.inl e2)
        · by_cases e3 : b = B + 1
          · exact .inr (.inr (.inl e3))
          · by_cases e4 : b = B + 2
            · exact .inr (.inr (.inr e4))
            · simp [e1, e2, e3, e4] at hb
    simp [← hB]
    omega
  · intro b hb
    by_cases e1 : b = B + 3
    · omega
    · by_cases e2 : b = B
      · omega
      · by_cases e3 : b = B + 1
        · omega
        · by_cases e4 : b = B + 2
          · omega
          · simp [e1, e2, e3, e4] at hb
theorem SL.c0 {w : World} {p : Nat} {T : Nat → Option Ro} {s : St} {N : Nat} {y : Lay} (h : SL w p T s N y) : w.cell? ⟨p, 0, none⟩ = some (.map (some y.vm)) := cell_of_blk h.blk 0
theorem SL.c1 {w : World} {p : Nat} {T : Nat → Option Ro} {s : St} {N : Nat} {y : Lay} (h : SL w p T s N y) : w.cell? ⟨p, 1, none⟩ = some (.map (some y.lm)) := cell_of_blk h.blk 1
theorem SL.c2 {w : World} {p : Nat} {T : Nat → Option Ro} {s : St} {N : Nat} {y : Lay} (h : SL w p T s N y) : w.cell? ⟨p, 2, none⟩ = some (.map (some y.wm)) := cell_of_blk h.blk 2
theorem zeroV (w : World) : (zeroValue 150).run Tryz.prog w = .ok (.agg #[.string ⟨#[]⟩, .slice none 0 0, .int .i64 0]) w := Tryz.zeroValue150 w
theorem lookL_some {w : World} {b : Nat} {L : List (Tx × Ln)} (h : IsMp KT vvL w b L) {k : Tx} (hk : k.size ≤ maxLen) {x : Ln} (hf : fnd k L = some x) : (Instr.lookup 91 (.map (some b)) (.string k) false).run Tryz.prog w = .ok (.pointer (some ⟨x.p, 0, none⟩)) w :=
  h.look_some lawT (t := 91) (e := 178) Tryz.underlying91 (z := .pointer none) (Tryz.zeroValue178 w) (k := k) hk hf
theorem lookL_none {w : World} {b : Nat} {L : List (Tx × Ln)} (h : IsMp KT vvL w b L) {k : Tx} (hk : k.size ≤ maxLen) (hf : fnd k L = none) : (Instr.lookup 91 (.map (some b)) (.string k) false).run Tryz.prog w = .ok (.pointer none) w :=
  h.look_none lawT (t := 91) (e := 178) Tryz.underlying91 (z := .pointer none) (Tryz.zeroValue178 w) (k := k) hk hf
theorem lookW_some {w : World} {b : Nat} {L : List (Nat × (Nat × List Tx))} (h : IsMp KI vvW w b L) {i : Nat} (hi : i < 18446744073709551616) {x : Nat × List Tx} (hf : fnd i L = some x) : (Instr.lookup 92 (.map (some b)) (.int .u64 ((i : Nat) : Int)) false).run Tryz.prog w = .ok (.map (some x.1)) w :=
  h.look_some lawI (t := 92) (e := 173) Tryz.underlying92 (z := .map none) (Tryz.zeroValue173 w) (k := i) hi hf
theorem lookW_none {w : World} {b : Nat} {L : List (Nat × (Nat × List Tx))} (h : IsMp KI vvW w b L) {i : Nat} (hi : i < 18446744073709551616) (hf : fnd i L = none) : (Instr.lookup 92 (.map (some b)) (.int .u64 ((i : Nat) : Int)) false).run Tryz.prog w = .ok (.map none) w :=
  h.look_none lawI (t := 92) (e := 173) Tryz.underlying92 (z := .map none) (Tryz.zeroValue173 w) (k := i) hi hf
theorem lookV_some {w : World} {b : Nat} {L : List (Mk × MV)} (h : IsMp KM vvV w b L) {k : Tx} {i : Nat} (hk : KM.ok (k, i)) {x : MV} (hf : fnd (k, i) L = some x) : (Instr.lookup 90 (.map (some b)) (.agg #[.string k, .int .u64 ((i : Nat) : Int)]) false).run Tryz.prog w = .ok (.agg #[.string x.val, .slice x.o x.keys.length x.c, .int .i64 x.stamp]) w :=
  h.look_some lawM (t := 90) (e := 150) Tryz.underlying90 (z := .agg #[.string ⟨#[]⟩, .slice none 0 0, .int .i64 0]) (zeroV w) (k := (k, i)) hk hf
theorem lookV2_some {w : World} {b : Nat} {L : List (Mk × MV)} (h : IsMp KM vvV w b L) {k : Tx} {i : Nat} (hk : KM.ok (k, i)) {x : MV} (hf : fnd (k, i) L = some x) : (Instr.lookup 90 (.map (some b)) (.agg #[.string k, .int .u64 ((i : Nat) : Int)]) true).run Tryz.prog w = .ok (.tuple #[.agg #[.string x.val, .slice x.o x.keys.length x.c, .int .i64 x.stamp], .bool true]) w :=
  h.look2_some lawM (t := 90) (e := 150) Tryz.underlying90 (z := .agg #[.string ⟨#[]⟩, .slice none 0 0, .int .i64 0]) (zeroV w) (k := (k, i)) hk hf
theorem lookV2_none {w : World} {b : Nat} {L : List (Mk × MV)} (h : IsMp KM vvV w b L) {k : Tx} {i : Nat} (hk : KM.ok (k, i)) (hf : fnd (k, i) L = none) : (Instr.lookup 90 (.map (some b)) (.agg #[.string k, .int .u64 ((i : Nat) : Int)]) true).run Tryz.prog w = .ok (.tuple #[.agg #[.string ⟨#[]⟩, .slice none 0 0, .int .i64 0], .bool false]) w :=
  h.look2_none lawM (t := 90) (e := 150) Tryz.underlying90 (z := .agg #[.string ⟨#[]⟩, .slice none 0 0, .int .i64 0]) (zeroV w) (k := (k, i)) hk hf
theorem last_any (w : World) (p : Nat) (T : Nat → Option Ro) (s : St) (N : Nat) (k : Tx) (h : IsS w p T s N) (hk : k.size ≤ maxLen) :
    Calls Tryz.prog 44 #[.pointer (some ⟨p, 0, none⟩), .string k] w fun e w' => e = .returned (.int .u64 ((s.last k : Nat) : Int)) ∧ w' = w := by
  obtain ⟨y, h⟩ := h
  have c1 := h.c1
  have hsl := h.sl k
  unfold lastOf at hsl
  cases hf : fnd k y.L with
  | none =>
    have hl := lookL_none h.ml hk hf
    rw [hf] at hsl
    simp only at hsl
    rw [hsl]
    clear h hf hsl
    go_enter Tryz.func44, Tryz.ntmps44
    go_wp2
    go_ret
    exact ⟨rfl, rfl⟩
  | some x =>
    have hl := lookL_some h.ml hk hf
    rw [hf] at hsl
    simp only at hsl
    rw [hsl]
    have d0 : w.cell? ⟨x.p, 0, none⟩ = some (.int .u64 ((x.last : Nat) : Int)) := cell_of_blk (h.line _ (fnd_mem hf)).blk 0
    clear h hf hsl
    go_enter Tryz.func44, Tryz.ntmps44
    go_wp2
    go_ret
    exact ⟨rfl, rfl⟩
set_option maxRecDepth 10000 in
theorem has_any (w : World) (p : Nat) (T : Nat → Option Ro) (s : St) (N : Nat) (m : Mk) (h : IsS w p T s N) (hm : KM.ok m) :
    Calls Tryz.prog 136 #[.pointer (some ⟨p, 0, none⟩), .agg #[.string m.1, .int .u64 ((m.2 : Nat) : Int)]] w fun e w' => e = .returned (.bool (s.V m).isSome) ∧ Keeps no w w' := by
  obtain ⟨y, h⟩ := h
  obtain ⟨k, i⟩ := m
  simp only
  have hsv := h.sv (k, i)
  obtain ⟨w0, hw0⟩ : ∃ w0, w0 = w.alloc (.cells #[.string k, .int .u64 ((i : Nat) : Int)] 145) := ⟨_, rfl⟩
  have hk0 : Keeps no w w0 := by rw [hw0]; exact (Keeps.refl no w).alloc _
  have c0 := hk0.cellN h.c0
  obtain ⟨w1, hw1⟩ : ∃ w1, w1 = w0.alloc (.cells #[.string ⟨#[]⟩, .slice none 0 0, .int .i64 0] 150) := ⟨_, rfl⟩
  have hk1 : Keeps no w w1 := by rw [hw1]; exact hk0.alloc _
  have hk01 : Keeps no w0 w1 := by rw [hw1]; exact (Keeps.refl no w0).alloc _
  have a0 : w0.cell? ⟨w.heap.size, 0, none⟩ = some (.string k) := by rw [hw0]; exact cell_of_blk (blk_new w _) 0
  have a1 : w0.cell? ⟨w.heap.size, 1, none⟩ = some (.int .u64 ((i : Nat) : Int)) := by rw [hw0]; exact cell_of_blk (blk_new w _) 1
  have b0 := hk01.cellN a0
  have b1 := hk01.cellN a1
  have c0' := hk01.cellN c0
  have HK0 : Hid (∀ o : Obj, Keeps no w (w0.drew.alloc o) ∧ Keeps no w (w0.alloc o).drew) := (show _ from fun o => ⟨hk0.drew.alloc o, (hk0.alloc o).drew⟩)
  cases hf : fnd (k, i) y.V with
  | none =>
    have hl := lookV2_none (h.mv.keepsN hk0.drew) hm hf
    have hl1 := lookV2_none (h.mv.keepsN hk1.drew) hm hf
    rw [hf] at hsv
    rw [hsv]
    rw [hw1] at hl1 b0 b1 c0'
    rw [hw0] at c0 hl hl1 HK0 a0 a1 b0 b1 c0'
    clear hf hsv h hw0 hk0 hm hw1 hk1 hk01
    go_enter Tryz.func136, Tryz.ntmps136
    go_wp2_with fail
    go_region_with (fail)
    all_goals go_wp2_with fail
    all_goals go_ret
    all_goals first | exact ⟨rfl, (HK0.out _).1⟩ | exact ⟨rfl, (HK0.out _).2⟩
  | some x =>
    have hl := lookV2_some (h.mv.keepsN hk0.drew) hm hf
    have hl1 := lookV2_some (h.mv.keepsN hk1.drew) hm hf
    generalize x.keys.length = n at hl hl1
    rw [hf] at hsv
    rw [hsv]
    rw [hw1] at hl1 b0 b1 c0'
    rw [hw0] at c0 hl hl1 HK0 a0 a1 b0 b1 c0'
    clear hf hsv h hw0 hk0 hm hw1 hk1 hk01
    go_enter Tryz.func136, Tryz.ntmps136
    go_wp2_with fail
    go_region_with (fail)
    all_goals go_wp2_with fail
    all_goals go_ret
    all_goals first | exact ⟨rfl, (HK0.out _).1⟩ | exact ⟨rfl, (HK0.out _).2⟩
theorem hasN_any (w : World) (p : Nat) (T : Nat → Option Ro) (s : St) (N : Nat) (i : Nat) (h : IsS w p T s N) (hi : i < 18446744073709551616) :
    Calls Tryz.prog 97 #[.pointer (some ⟨p, 0, none⟩), .int .u64 ((i : Nat) : Int)] w fun e w' => (∃ n : Nat, e = .returned (.int .i64 ((n : Nat) : Int)) ∧ Hid (∃ l : List Tx, n = l.length ∧ l.Nodup ∧ ∀ k, k ∈ l ↔ s.V (k, i) ≠ none)) ∧ w' = w := by
  obtain ⟨y, h⟩ := h
  have c2 := h.c2
  cases hf : fnd i y.W with
  | none =>
    have hl := lookW_none h.mw hi hf
    have hlen := fun ty => Maps.len_nil (P := Tryz.prog) (w := w) Tryz.underlying173 ty
    have HE : Hid (∃ l : List Tx, 0 = l.length ∧ l.Nodup ∧ ∀ k, k ∈ l ↔ s.V (k, i) ≠ none) := (show _ from ⟨[], rfl, List.nodup_nil, fun k => by
      rw [h.sw i k, hf]
      simp⟩)
    clear h hf hi
    go_enter Tryz.func97, Tryz.ntmps97
    go_wp2
    go_ret
    exact ⟨⟨0, rfl, HE⟩, rfl⟩
  | some x =>
    have hl := lookW_some h.mw hi hf
    have hm := h.set _ (fnd_mem hf)
    have hlen := fun ty => hm.len (t := 173) (e := 210) Tryz.underlying173 ty
    rw [show (setL x.2).length = x.2.length by simp [setL]] at hlen
    obtain ⟨n, hn⟩ : ∃ n, n = x.2.length := ⟨_, rfl⟩
    rw [← hn] at hlen
    have HE : Hid (∃ l : List Tx, n = l.length ∧ l.Nodup ∧ ∀ k, k ∈ l ↔ s.V (k, i) ≠ none) := (show _ from ⟨x.2, hn, nk_setL.1 hm.nk, fun k => by
      rw [h.sw i k, hf]
      simp⟩)
    clear h hf hi hm hn
    go_enter Tryz.func97, Tryz.ntmps97
    go_wp2
    go_ret
    exact ⟨⟨n, rfl, HE⟩, rfl⟩
end Go.Proofs.YtdemoghlibnooaaGreatDoor
namespace Go.Proofs.YtdemoghlibnooaaGreatDoor
open Go.RowKit Go.Maps
set_option linter.unusedVariables false
set_option linter.unusedSimpArgs false
theorem sizeV (a b c d : Value) : (Tryz.prog.info? 112).map (·.size) = some (#[a, b, c, d] : Array Value).size := by
  show _ = some 4
  kernel_rfl
theorem sizeK (a b c d e : Value) : (Tryz.prog.info? 114).map (·.size) = some (#[a, b, c, d, e] : Array Value).size := by
  show _ = some 5
  kernel_rfl
theorem loadV {w : World} {g : Nat} {a b c d : Value} (h : w.heap[g]? = some (.cells #[a, b, c, d] 112 (0, 0))) : (loadVar 112 ⟨g, 0, none⟩).run Tryz.prog w = .ok (.agg #[a, b, c, d]) w := run_loadVar_row _ _ _ _ _ _ _ h Tryz.underlying112 rfl (sizeV _ _ _ _)
theorem loadK {w : World} {g : Nat} {a b c d e : Value} (h : w.heap[g]? = some (.cells #[a, b, c, d, e] 114 (0, 0))) : (loadVar 114 ⟨g, 0, none⟩).run Tryz.prog w = .ok (.agg #[a, b, c, d, e]) w := run_loadVar_row _ _ _ _ _ _ _ h Tryz.underlying114 rfl (sizeK _ _ _ _ _)
def set4w (w : World) (g : Nat) (a0 a1 a2 a3 : Value) : World := (((w.setCell ⟨g, 0, none⟩ a0).setCell ⟨g, 1, none⟩ a1).setCell ⟨g, 2, none⟩ a2).setCell ⟨g, 3, none⟩ a3
def set5w (w : World) (g : Nat) (a0 a1 a2 a3 a4 : Value) : World := ((((w.setCell ⟨g, 0, none⟩ a0).setCell ⟨g, 1, none⟩ a1).setCell ⟨g, 2, none⟩ a2).setCell ⟨g, 3, none⟩ a3).setCell ⟨g, 4, none⟩ a4
theorem set4 {w : World} {g : Nat} {z0 z1 z2 z3 : Value} {t : TypeId} (h : w.heap[g]? = some (.cells #[z0, z1, z2, z3] t (0, 0))) (a0 a1 a2 a3 : Value) :
    (set4w w g a0 a1 a2 a3).heap[g]? = some (.cells #[a0, a1, a2, a3] t (0, 0)) ∧ Keeps (eqA g) w (set4w w g a0 a1 a2 a3) := by
  unfold set4w
  have h1 : (w.setCell ⟨g, 0, none⟩ a0).heap[g]? = some (.cells #[a0, z1, z2, z3] t (0, 0)) := by rw [blk_set h 0 a0]; rfl
  have h2 : ((w.setCell ⟨g, 0, none⟩ a0).setCell ⟨g, 1, none⟩ a1).heap[g]? = some (.cells #[a0, a1, z2, z3] t (0, 0)) := by rw [blk_set h1 1 a1]; rfl
  have h3 : (((w.setCell ⟨g, 0, none⟩ a0).setCell ⟨g, 1, none⟩ a1).setCell ⟨g, 2, none⟩ a2).heap[g]? = some (.cells #[a0, a1, a2, z3] t (0, 0)) := by rw [blk_set h2 2 a2]; rfl
  exact ⟨by rw [blk_set h3 3 a3]; rfl, ((((Keeps.refl (eqA g) w).setA 0 a0).setA 1 a1).setA 2 a2).setA 3 a3⟩
theorem set5 {w : World} {g : Nat} {z0 z1 z2 z3 z4 : Value} {t : TypeId} (h : w.heap[g]? = some (.cells #[z0, z1, z2, z3, z4] t (0, 0))) (a0 a1 a2 a3 a4 : Value) :
    (set5w w g a0 a1 a2 a3 a4).heap[g]? = some (.cells #[a0, a1, a2, a3, a4] t (0, 0)) ∧ Keeps (eqA g) w (set5w w g a0 a1 a2 a3 a4) := by
  unfold set5w
  have h1 : (w.setCell ⟨g, 0, none⟩ a0).heap[g]? = some (.cells #[a0, z1, z2, z3, z4] t (0, 0)) := by rw [blk_set h 0 a0]; rfl
  have h2 : ((w.setCell ⟨g, 0, none⟩ a0).setCell ⟨g, 1, none⟩ a1).heap[g]? = some (.cells #[a0, a1, z2, z3, z4] t (0, 0)) := by rw [blk_set h1 1 a1]; rfl
  have h3 : (((w.setCell ⟨g, 0, none⟩ a0).setCell ⟨g, 1, none⟩ a1).setCell ⟨g, 2, none⟩ a2).heap[g]? = some (.cells #[a0, a1, a2, z3, z4] t (0, 0)) := by rw [blk_set h2 2 a2]; rfl
  have h4 : ((((w.setCell ⟨g, 0, none⟩ a0).setCell ⟨g, 1, none⟩ a1).setCell ⟨g, 2, none⟩ a2).setCell ⟨g, 3, none⟩ a3).heap[g]? = some (.cells #[a0, a1, a2, a3, z4] t (0, 0)) := by rw [blk_set h3 3 a3]; rfl
  exact ⟨by rw [blk_set h4 4 a4]; rfl, (((((Keeps.refl (eqA g) w).setA 0 a0).setA 1 a1).setA 2 a2).setA 3 a3).setA 4 a4⟩
structure OkV (s : St) : Prop where
  keys : ∀ m v, s.V m = some v → okKeys v.keys = true ∧ m.1 ∈ v.keys ∧ v.val.size ≤ 65535
  id : ∀ m v, s.V m = some v → 65536 ≤ m.2 ∧ m.2 < 18446744073709551616
structure Ok (s : St) : Prop where
  v : OkV s
  st : ∀ m v, s.V m = some v → (m.2 < s.last m.1 → 0 ≤ v.stamp ∧ v.stamp ≤ 1099511627776) ∧ (¬ m.2 < s.last m.1 → v.stamp = -1)
  la : ∀ k, s.last k ≠ 0 → s.V (k, s.last k) ≠ none
theorem OkV.size {s : St} (h : OkV s) {m : Mk} {v : Vr} (hv : s.V m = some v) : m.1.size ≤ 65535 := (okKeys_iff.1 (h.keys m v hv).1).2.1 _ (h.keys m v hv).2.1
theorem OkV.len {s : St} (h : OkV s) {m : Mk} {v : Vr} (hv : s.V m = some v) : v.keys.length ≤ 1024 := (okKeys_iff.1 (h.keys m v hv).1).1.2
theorem Ok.last_lt {s : St} (h : Ok s) (k : Tx) : s.last k < 18446744073709551616 := by
  by_cases e : s.last k = 0
  · omega
  · have := h.la k e
    cases hv : s.V (k, s.last k) with
    | none => exact absurd hv this
    | some v => exact (h.v.id _ v hv).2
end Go.Proofs.YtdemoghlibnooaaGreatDoor
namespace Go.Proofs.YtdemoghlibnooaaGreatDoor
open Go.RowKit Go.Maps
set_option linter.unusedVariables false
set_option linter.unusedSimpArgs false
def Tk (w : World) (v : Value) (m : Mk) (r : Vr) (w' : World) : Prop := ∃ o n c, v = .agg #[.string m.1, .int .u64 ((m.2 : Nat) : Int), .string r.val, .slice o n c, .int .i64 r.stamp] ∧ Hid (n = r.keys.length) ∧ Own TE w' o c r.keys ∧ New w o ∧ Keeps no w w'
set_option maxRecDepth 10000 in
set_option maxHeartbeats 1000000 in
theorem told_any (w : World) (p : Nat) (T : Nat → Option Ro) (s : St) (N : Nat) (m : Mk) (v : Vr) (h : IsS w p T s N) (hv : s.V m = some v) (hlen : v.keys.length ≤ 100000) (hks : m.1.size ≤ 281474976710656) :
    Calls Tryz.prog 76 #[.pointer (some ⟨p, 0, none⟩), .agg #[.string m.1, .int .u64 ((m.2 : Nat) : Int)]] w fun e w' => ∃ u, e = .returned u ∧ Tk w u m v w' := by
  obtain ⟨y, h⟩ := h
  obtain ⟨k, i⟩ := m
  simp only at hks ⊢
  have hm := h.okM (m := (k, i)) (by rw [hv]; simp)
  have hsv := h.sv (k, i)
  rw [hv] at hsv
  cases hf : fnd (k, i) y.V with
  | none => rw [hf] at hsv; cases hsv
  | some x =>
  rw [hf] at hsv
  obtain rfl : v = x.vr := by simpa using hsv
  have hS0 := (h.key _ (fnd_mem hf)).1
  simp only at hS0
  obtain ⟨w0, hw0⟩ : ∃ w0, w0 = (w.alloc (.cells #[.string k, .int .u64 ((i : Nat) : Int)] 145)).alloc (.cells #[.string ⟨#[]⟩, .int .u64 0, .string ⟨#[]⟩, .slice none 0 0, .int .i64 0] 114) := ⟨_, rfl⟩
  have hk0 : Keeps no w w0 := by rw [hw0]; exact ((Keeps.refl no w).alloc _).alloc _
  obtain ⟨B, hB⟩ : ∃ B, B = w.heap.size := ⟨_, rfl⟩
  have hb0 : w0.heap[B]? = some (.cells #[.string k, .int .u64 ((i : Nat) : Int)] 145 (0, 0)) := by rw [hw0, hB]; exact blk_alloc (blk_new w _) _
  have hb1 : w0.heap[B + 1]? = some (.cells #[.string ⟨#[]⟩, .int .u64 0, .string ⟨#[]⟩, .slice none 0 0, .int .i64 0] 114 (0, 0)) := by
    have := blk_new (w.alloc (.cells #[.string k, .int .u64 ((i : Nat) : Int)] 145)) (.cells #[.string ⟨#[]⟩, .int .u64 0, .string ⟨#[]⟩, .slice none 0 0, .int .i64 0] 114)
    rw [show (w.alloc (.cells #[.string k, .int .u64 ((i : Nat) : Int)] 145)).heap.size = B + 1 by simp [hB]] at this
    rw [hw0]; exact this
  have hsz0 : w0.heap.size = B + 2 := by rw [hw0]; simp [hB]
  have c0 := hk0.cellN h.c0
  obtain ⟨val, xo, xc, keys, stamp⟩ := x
  simp only [MV.vr] at hS0 hlen ⊢
  obtain ⟨n, hn⟩ : ∃ n, n = keys.length := ⟨_, rfl⟩
  have HST : Hid (∀ X, Keeps no w0 X → X.cell? ⟨p, 0, none⟩ = some (.map (some y.vm)) ∧ X.cell? ⟨B, 0, none⟩ = some (.string k) ∧ X.cell? ⟨B, 1, none⟩ = some (.int .u64 ((i : Nat) : Int)) ∧ (Instr.lookup 90 (.map (some y.vm)) (.agg #[.string k, .int .u64 ((i : Nat) : Int)]) false).run Tryz.prog X = .ok (.agg #[.string val, .slice xo n xc, .int .i64 stamp]) X) := fun X hX =>
    ⟨hX.cellN c0, hX.cellN (cell_of_blk hb0 0), hX.cellN (cell_of_blk hb0 1), by rw [hn]; exact lookV_some (h.mv.keepsN (hk0.trans hX)) hm hf⟩
  have HS : Hid (Sl TE w xo xc keys) := hS0
  have HN : Hid (n = keys.length) := hn
  have HL : Hid (keys.length ≤ 100000) := hlen
  have HKS : Hid (k.size ≤ 281474976710656) := hks
  have HB2 : Hid (w0.heap.size = B + 2) := hsz0
  have HB0 : Hid (w0.heap[B]? = some (.cells #[.string k, .int .u64 ((i : Nat) : Int)] 145 (0, 0)) ∧ w0.heap[B + 1]? = some (.cells #[.string ⟨#[]⟩, .int .u64 0, .string ⟨#[]⟩, .slice none 0 0, .int .i64 0] 114 (0, 0))) := ⟨hb0, hb1⟩
  rw [hw0] at HST HB2 HB0
  clear hf hsv hv h hw0 hk0 hm hS0 hn hlen hks hb0 hb1 hsz0 c0
  subst hB
  go_enter Tryz.func76, Tryz.ntmps76
  go_upto_region 1 with fail
  go_cut [5] from 6 to 25 (fun t5 U => t5 = .pointer (some ⟨w.heap.size + 1 + 1, 0, none⟩) ∧ Hid (Keeps no w U ∧ U.heap[w.heap.size]? = some (.cells #[.string k, .int .u64 ((i : Nat) : Int)] 145 (0, 0)) ∧ U.heap[w.heap.size + 1]? = some (.cells #[.string ⟨#[]⟩, .int .u64 0, .string ⟨#[]⟩, .slice none 0 0, .int .i64 0] 114 (0, 0)) ∧ U.heap[w.heap.size + 1 + 1]? = some (.cells #[.string val, .slice xo n xc, .int .i64 stamp] 150 (0, 0))))
  case first =>
    go_region_held3 (fun X => X.cell? ⟨p, 0, none⟩ = some (.map (some y.vm)) ∧ X.cell? ⟨w.heap.size, 0, none⟩ = some (.string k) ∧ X.cell? ⟨w.heap.size, 1, none⟩ = some (.int .u64 ((i : Nat) : Int)) ∧ (Instr.lookup 90 (.map (some y.vm)) (.agg #[.string k, .int .u64 ((i : Nat) : Int)]) false).run Tryz.prog X = .ok (.agg #[.string val, .slice xo n xc, .int .i64 stamp]) X) (first | exact HST.out _ (Keeps.refl no _) | exact HST.out _ ((Keeps.refl no _).drew) | exact HST.out _ (((Keeps.refl no _).drew).alloc _) | exact HST.out _ (((Keeps.refl no _).alloc _).drew)) (fail)
    all_goals (rename _ ∧ _ => hh; clear hh)
    all_goals
      go_wp2_with fail
      go_meet
      case rel =>
      refine ⟨rfl, ((((Keeps.refl no w).alloc _).alloc _).alloc _).drew, blk_alloc HB0.out.1 _, blk_alloc HB0.out.2 _, ?_⟩
      have := blk_new ((w.alloc (Obj.cells #[Value.string k, Value.int IntKind.u64 ((i : Nat) : Int)] 145)).alloc (Obj.cells #[Value.string ⟨#[]⟩, Value.int IntKind.u64 0, Value.string ⟨#[]⟩, Value.slice none 0 0, Value.int IntKind.i64 0] 114)) (Obj.cells #[Value.string val, Value.slice xo n xc, Value.int IntKind.i64 stamp] 150)
      rw [HB2.out] at this
      exact this
  case rest =>
  obtain ⟨rfl, HH⟩ := hcut
  rename World => U
  obtain ⟨hK, hu0, hu1, hu2⟩ := HH.out
  have HK : Hid (Keeps no w U) := hK
  have HT : Hid (∀ X, Keeps (eqA (w.heap.size + 1)) U X → X.cell? ⟨w.heap.size, 0, none⟩ = some (.string k) ∧ X.cell? ⟨w.heap.size, 1, none⟩ = some (.int .u64 ((i : Nat) : Int)) ∧ X.cell? ⟨w.heap.size + 1 + 1, 0, none⟩ = some (.string val) ∧ X.cell? ⟨w.heap.size + 1 + 1, 1, none⟩ = some (.slice xo n xc) ∧ X.cell? ⟨w.heap.size + 1 + 1, 2, none⟩ = some (.int .i64 stamp)) := fun X hX =>
    ⟨hX.cell (cell_of_blk hu0 0) (by simp [eqA]), hX.cell (cell_of_blk hu0 1) (by simp [eqA]), hX.cell (cell_of_blk hu2 0) (by simp [eqA]), hX.cell (cell_of_blk hu2 1) (by simp [eqA]), hX.cell (cell_of_blk hu2 2) (by simp [eqA])⟩
  have HU1 : Hid (U.heap[w.heap.size + 1]? = some (.cells #[.string ⟨#[]⟩, .int .u64 0, .string ⟨#[]⟩, .slice none 0 0, .int .i64 0] 114 (0, 0))) := hu1
  have HSU : Hid (Sl TE U xo xc keys) := HS.out.keepsN HK.out
  obtain ⟨B, hB⟩ : ∃ B, B = w.heap.size := ⟨_, rfl⟩
  have HB : Hid (B = w.heap.size) := hB
  rw [← hB] at HT HU1 ⊢
  clear hu0 hu1 hu2 HST HB0 HB2 HS hB HH hK
  go_wp2_with fail
  go_region_held3 (fun X => X.cell? ⟨B, 0, none⟩ = some (.string k) ∧ X.cell? ⟨B, 1, none⟩ = some (.int .u64 ((i : Nat) : Int)) ∧ X.cell? ⟨B + 1 + 1, 0, none⟩ = some (.string val) ∧ X.cell? ⟨B + 1 + 1, 1, none⟩ = some (.slice xo n xc) ∧ X.cell? ⟨B + 1 + 1, 2, none⟩ = some (.int .i64 stamp)) (first | exact HT.out _ HF.out.1.of_no | exact HT.out _ (((((HF.out.1.of_no.setA 0 _).setA 1 _).setA 2 _).setA 3 _).setA 4 _) | exact HT.out _ KS.out.of_no | exact HT.out _ ((Keeps.refl _ U).drew) | exact HT.out _ (Keeps.refl _ U)) ((first | (go_at_call 121; refine (clone_any _ xo n xc keys HN.out (HSU.out.keepsN KS.out) HL.out).mono ?_; rintro e uF ⟨vv, rfl, o', m', c', rfl, hm', ho', hn', hk'⟩; have HF : Hid (Keeps no U uF ∧ Own TE uF o' c' keys ∧ New U o' ∧ m' = keys.length) := ⟨KS.out.trans hk', ho', hn'.of_le KS.out.size, hm'.out⟩; have hb := HF.out.1.at HU1.out id; have q0 := cell_of_blk hb 0; have q1 := cell_of_blk hb 1; have q2 := cell_of_blk hb 2; have q3 := cell_of_blk hb 3; have q4 := cell_of_blk hb 4; have f0 := frozen_of_blk hb 0; have f1 := frozen_of_blk hb 1; have f2 := frozen_of_blk hb 2; have f3 := frozen_of_blk hb 3; have f4 := frozen_of_blk hb 4; clear ho' hn' hk' hm' hb) | (go_at_call 95; refine (sclone_any _ k HKS.out).mono ?_; rintro e u1 ⟨rfl, hk'⟩; have KS : Hid (Keeps no U u1) := (Keeps.refl no U).drew.trans hk'; clear hk')))
  all_goals (rename _ ∧ _ => hh; clear hh)
  all_goals
    have hs5 := set5 (HF.out.1.at HU1.out id) (.string k) (.int .u64 ((i : Nat) : Int)) (.string val) (.slice o' m' c') (.int .i64 stamp)
    unfold set5w at hs5
    have HE : Hid (∃ o n c, Value.agg #[.string k, .int .u64 ((i : Nat) : Int), .string val, .slice o' m' c', .int .i64 stamp] = .agg #[.string k, .int .u64 ((i : Nat) : Int), .string val, .slice o n c, .int .i64 stamp] ∧ Hid (n = keys.length) ∧ Own TE (set5w uF (B + 1) (.string k) (.int .u64 ((i : Nat) : Int)) (.string val) (.slice o' m' c') (.int .i64 stamp)) o c keys ∧ New w o ∧ Keeps no w (set5w uF (B + 1) (.string k) (.int .u64 ((i : Nat) : Int)) (.string val) (.slice o' m' c') (.int .i64 stamp))) := by
      refine ⟨o', m', c', rfl, HF.out.2.2.2, HF.out.2.1.keeps hs5.2 (fun b hb e => ?_), HF.out.2.2.1.of_le HK.out.size, (HK.out.trans HF.out.1).then hs5.2 (fun b hb => .inr ?_)⟩
      · obtain ⟨cur, hc⟩ := HF.out.2.1.tag b hb
        have hb1 := HF.out.1.at HU1.out id
        have : b = B + 1 := e
        rw [this, hb1] at hc
        injection hc with hc
        injection hc with _ hc _
        cases hc
      · have : b = B + 1 := hb
        have := HB.out
        omega
    go_wp2_with fail
    refine bodyPost_ret (results_row1 rfl _ _ (B + 1) _ rfl (loadK hs5.1)) rfl ?_
    exact ⟨_, rfl, HE.out⟩
end Go.Proofs.YtdemoghlibnooaaGreatDoor
namespace Go.Proofs.YtdemoghlibnooaaGreatDoor
open Go.RowKit Go.Maps
set_option linter.unusedVariables false
set_option linter.unusedSimpArgs false
theorem makeT (w : World) (n : Nat) (h : n ≤ 100000) : ∃ w', (Instr.makeSlice 45 (.int .i64 0) (.int .i64 (n : Int))).run Tryz.prog w = .ok (.slice (some ⟨w.heap.size, 0, none⟩) 0 n) w' ∧ Own TE w' (some ⟨w.heap.size, 0, none⟩) n [] ∧ Keeps no w w' := by
  obtain ⟨i0, hi, hz0, hz1, hz2⟩ := info_parts info9
  obtain ⟨w', hr, ho, hg⟩ := run_make_own (P := Tryz.prog) w 0 45 9 i0 _ 1 Tryz.underlying45 hi hz0 hz1 .i64 .i64 n (by rw [hz2]; omega) (by unfold maxLen; omega) (Nat.zero_le _)
  exact ⟨w', hr, ho, (Keeps.refl _ _).grown hg (fun k hk => by cases hk)⟩
theorem own_one (w : World) (x : Tx) : Sl TE (w.alloc (.cells #[.string x] 9)) (some ⟨w.heap.size, 0, none⟩) 1 [x] := by
  refine ⟨.inr ⟨_, 0, rfl, fun j u hj => ?_⟩, by simp, fun e => by cases e⟩
  rw [Nat.zero_add, cell_of_blk (blk_new w _)]
  simpa [El.cells, TE] using hj
set_option maxRecDepth 10000 in
theorem copied_any (w : World) (a : Option Addr) (n c : Nat) (xs : List Tx) (hn : n = xs.length) (hl : xs.length ≤ 100000) (hz : ∀ x ∈ xs, x.size ≤ 281474976710656) (hs : Sl TE w a c xs) :
    Calls Tryz.prog 93 #[.slice a n c] w fun e w' => ∃ v, e = .returned v ∧ Gives TE w xs v w' := by
  have HA : Hid (n = xs.length) := hn
  have hA : (n : Int) ≤ 100000 := by omega
  have HL : Hid (xs.length ≤ 100000) := hl
  have HZ : Hid (∀ x ∈ xs, x.size ≤ 281474976710656) := hz
  obtain ⟨w1, hr1, ho1, hk1⟩ := makeT w n (by omega)
  clear hn hl hz
  go_enter Tryz.func93, Tryz.ntmps93
  go_wp2_with fail
  go_loopw [3, 11] (fun s3 i wr => ∃ (k : Nat) (v : Value), k ≤ n ∧ i = .int .i64 k ∧ s3 = v ∧ Hid (Gives TE w (xs.take k) v wr)) (fun _ i _ => n - (intOf i).toNat)
  case atStart => exact ⟨0, _, by omega, rfl, rfl, ⟨_, _, _, rfl, (show 0 = _ by simp), by simpa using ho1, new_fresh _ _ (Nat.le_refl _) _, hk1⟩⟩
  case round =>
    obtain ⟨k, v, hk, rfl, rfl, HG⟩ := hrel
    obtain ⟨o, m, d, rfl, hm, ho, hnw, hkp⟩ := HG.out
    by_cases h2 : k < n
    · have hka : k < xs.length := by have := HA.out; omega
      have hs' := hs.keepsN hkp
      obtain ⟨b1, off1, rfl, d1⟩ := hs'.at hka
      obtain ⟨x, hx⟩ : ∃ x, x = xs.getD k e0 := ⟨_, rfl⟩
      rw [← hx] at d1
      have HX : Hid (x = xs.getD k e0) := hx
      have HXZ : Hid (x.size ≤ 281474976710656) := (show _ ≤ _ by rw [hx]; exact HZ.out _ (Orl.getD_mem_lt e0 hka))
      have HLen : Hid ((xs.take k).length ≤ 100000) := (show _ ≤ _ by rw [List.length_take]; have := HL.out; omega)
      clear hx hka
      go_wp2_with fail
      refine (sclone_any _ x HXZ.out).mono ?_
      rintro e w2 ⟨rfl, hk2⟩
      have HO2 : Hid (Own TE w2 o d (xs.take k)) := ho.keepsN hk2
      have HK2 : Hid (Keeps no w w2) := hkp.trans hk2
      clear hk2
      go_wp2_with (at_builtin; refine wpList_app okT rfl _ _ rfl _ _ _ (xs.take k) rfl hm.out (HO2.out.keepsN ((Keeps.refl _ _).alloc _)) _ _ _ [x] rfl rfl (fun h => by cases h) (own_one _ x).row (by have := HLen.out; simp [TE]; omega) (by have := HLen.out; simp; omega) ?_; intro o1 c1 w3 ho3 hap3)
      go_roundw
      case rel =>
        have k4 := hap3.new (w0 := w) hnw (HK2.out.alloc _)
        refine ⟨k + 1, _, by omega, by go_num, rfl, ?_⟩
        show Gives TE w (xs.take (k + 1)) _ _
        rw [take_succ_getD xs k e0 (by have := HA.out; omega), ← HX.out]
        exact ⟨o1, _, c1, rfl, (show _ = _ by have h := hm.out; rw [List.length_append, ← h]; simp), ho3, k4.1, k4.2⟩
      case measure => simp [intOf] <;> omega
    · go_wp2_with fail
      go_ret
      have he : xs.take k = xs := List.take_of_length_le (by have := HA.out; omega)
      rw [he] at hm ho
      exact ⟨_, rfl, o, m, d, rfl, hm, ho, hnw, hkp⟩
end Go.Proofs.YtdemoghlibnooaaGreatDoor
namespace Go.Proofs.YtdemoghlibnooaaGreatDoor
open Go.RowKit Go.Maps
set_option linter.unusedVariables false
set_option linter.unusedSimpArgs false
theorem SL.retag {w : World} {p : Nat} {T T' : Nat → Option Ro} {s : St} {N : Nat} {y : Lay} (h : SL w p T s N y) (hT : ∀ b, T b ≠ none → T' b = T b) (hl : ∀ b, T' b ≠ none → b < w.heap.size) : SL w p T' s N y := by
  have ht : ∀ {b r}, T b = some r → T' b = some r := fun {b r} e => by rw [hT b (by rw [e]; simp), e]
  exact { h with
    key := fun q hq => ⟨(h.key q hq).1, fun b hb => ht ((h.key q hq).2 b hb)⟩
    tp := ht h.tp
    tv := ht h.tv
    tl := ht h.tl
    tw := ht h.tw
    tln := fun q hq => ⟨ht (h.tln q hq).1, fun b hb => ht ((h.tln q hq).2 b hb)⟩
    tst := fun q hq => ht (h.tst q hq)
    lt := hl }
def Mut (T : Nat → Option Ro) (b : Nat) : Prop := T b ≠ none ∧ T b ≠ some .ky
def addS (y : Lay) (k : Tx) (i : Nat) (b : Nat) : Prop := b = y.vm ∨ b = y.wm ∨ b = y.lm ∨ (∃ q, fnd i y.W = some q ∧ b = q.1) ∨ (∃ x, fnd k y.L = some x ∧ (b = x.p ∨ inO x.o b))
theorem addS_tag {w : World} {p : Nat} {T : Nat → Option Ro} {s : St} {N : Nat} {y : Lay} (h : SL w p T s N y) {k : Tx} {i b : Nat} (hb : addS y k i b) : T b = some .vm ∨ T b = some .wm ∨ T b = some .lm ∨ T b = some (.st i) ∨ T b = some (.ln k) ∨ T b = some (.fr k) := by
  rcases hb with rfl | rfl | rfl | ⟨q, hq, rfl⟩ | ⟨x, hx, rfl | hb⟩
  · exact .inl h.tv
  · exact .inr (.inl h.tw)
  · exact .inr (.inr (.inl h.tl))
  · exact .inr (.inr (.inr (.inl (h.tst _ (fnd_mem hq)))))
  · exact .inr (.inr (.inr (.inr (.inl (h.tln _ (fnd_mem hx)).1))))
  · exact .inr (.inr (.inr (.inr (.inr ((h.tln _ (fnd_mem hx)).2 b hb)))))
theorem addS_not {w : World} {p : Nat} {T : Nat → Option Ro} {s : St} {N : Nat} {y : Lay} (h : SL w p T s N y) {k : Tx} {i b : Nat} {r : Ro} (hr : T b = some r) (h1 : r ≠ .vm) (h2 : r ≠ .wm) (h3 : r ≠ .lm) (h4 : r ≠ .st i) (h5 : r ≠ .ln k) (h6 : r ≠ .fr k) : ¬ addS y k i b := by
  intro hb
  rcases addS_tag h hb with e | e | e | e | e | e <;> rw [hr] at e <;> injection e with e
  · exact h1 e
  · exact h2 e
  · exact h3 e
  · exact h4 e
  · exact h5 e
  · exact h6 e
theorem SL.line_facts {w : World} {p : Nat} {T : Nat → Option Ro} {s : St} {N : Nat} {y : Lay} (h : SL w p T s N y) {k : Tx} {x : Ln} (hL : fnd k y.L = some x ∨ (fnd k y.L = none ∧ x.fr = [] ∧ x.last = 0)) :
    Hp.Heap x.fr ∧ x.fr.Nodup ∧ (∀ i, i ∈ x.fr ↔ ∃ v, s.V (k, i) = some v ∧ v.stamp = -1) ∧ x.last = lastOf y.L k ∧ x.last < 18446744073709551616 ∧ x.fr.length ≤ N := by
  rcases hL with hf | ⟨hf, e1, e2⟩
  · have hm := fnd_mem hf
    obtain ⟨a, b, c⟩ := h.fr _ hm
    exact ⟨a, b, c, by simp [lastOf, hf], h.la _ hm, h.nf _ hm⟩
  · rw [e1, e2]
    refine ⟨Hp.heap_nil, List.nodup_nil, fun i => ?_, by simp [lastOf, hf], by omega, Nat.zero_le _⟩
    constructor
    · intro h; cases h
    · rintro ⟨v, hv, _⟩
      obtain ⟨x, hx⟩ := h.hv k i (by rw [hv]; simp)
      rw [hf] at hx; cases hx
theorem SL.add {w w' : World} {p : Nat} {T : Nat → Option Ro} {s : St} {N : Nat} {y : Lay} (h : SL w p T s N y) {k : Tx} {i : Nat} {v : MV} (hnew : s.V (k, i) = none)
    {sb : Nat} {l : List Tx} (hW : fnd i y.W = some (sb, l) ∨ (fnd i y.W = none ∧ l = [] ∧ w.heap.size ≤ sb))
    {x x' : Ln} (hL : fnd k y.L = some x ∨ (fnd k y.L = none ∧ x.fr = [] ∧ x.last = 0)) (hLn : fnd k y.L = none → w.heap.size ≤ x'.p ∧ ∀ b, inO x'.o b → w.heap.size ≤ b)
    (hx1 : x'.p = x.p) (hx2 : x'.last = x.last) (hx3 : ∀ b, inO x'.o b → inO x.o b ∨ w.heap.size ≤ b) (hh : Hp.Heap x'.fr) (hp : x'.fr.Perm (if v.stamp = -1 then x.fr ++ [i] else x.fr))
    (mv' : IsMp KM vvV w' y.vm (put (k, i) v y.V)) (mw' : IsMp KI vvW w' y.wm (put i (sb, k :: l) y.W)) (set' : IsMp KT vvU w' sb (setL (k :: l))) (ml' : IsMp KT vvL w' y.lm (put k x' y.L)) (line' : LineAt w' x')
    (key' : Sl TE w' v.o v.c v.keys ∧ ∀ b, inO v.o b → T b = some .ky) (hk : Keeps (addS y k i) w w') :
    ∃ T', SL w' p T' (s.add (k, i) v.vr) (N + 1) ⟨y.vm, y.lm, y.wm, put (k, i) v y.V, put k x' y.L, put i (sb, k :: l) y.W⟩ ∧ ∀ b, b < w.heap.size → T' b = T b := by
  classical
  obtain ⟨xf1, xf2, xf3, xf4, xf5, xf6⟩ := h.line_facts hL
  obtain ⟨ses, sclk, hsb⟩ := set'.obj
  have hpsb : x'.p ≠ sb := fun e => by have := line'.blk; rw [e, hsb] at this; cases this
  have hosb : ∀ b, inO x'.o b → b ≠ sb := fun b hb e => by obtain ⟨cur, hc⟩ := line'.own.tag b hb; rw [e, hsb] at hc; cases hc
  have hop : ∀ b, inO x'.o b → b ≠ x'.p := line'.o_p line'
  have hnV : fnd (k, i) y.V = none := by
    have := h.sv (k, i); rw [hnew] at this
    cases e : fnd (k, i) y.V with
    | none => rfl
    | some u => rw [e] at this; cases this
  let T' : Nat → Option Ro := fun b => if b < w.heap.size then T b else if b = sb then some (.st i) else if b = x'.p then some (.ln k) else if inO x'.o b then some (.fr k) else none
  have hold : ∀ b, b < w.heap.size → T' b = T b := fun b hb => if_pos hb
  have ht : ∀ {b r}, T b = some r → T' b = some r := fun {b r} e => by rw [hold b (h.lt b (by rw [e]; simp)), e]
  have tsb : T' sb = some (.st i) := by
    by_cases e : sb < w.heap.size
    · rcases hW with hf | ⟨_, _, hs⟩
      · exact ht (h.tst _ (fnd_mem hf))
      · omega
    · simp [T', e]
  have tp' : T' x'.p = some (.ln k) := by
    by_cases e : x'.p < w.heap.size
    · rcases hL with hf | ⟨hf, _, _⟩
      · rw [hx1]; exact ht (h.tln _ (fnd_mem hf)).1
      · have := (hLn hf).1; omega
    · simp [T', e, hpsb]
  have to' : ∀ b, inO x'.o b → T' b = some (.fr k) := fun b hb => by
    by_cases e : b < w.heap.size
    · rcases hL with hf | ⟨hf, _, _⟩
      · rcases hx3 b hb with h1 | h1
        · exact ht ((h.tln _ (fnd_mem hf)).2 b h1)
        · omega
      · have := (hLn hf).2 b hb; omega
    · simp [T', e, hosb b hb, hop b hb, hb]
  refine ⟨T', ?_, hold⟩
  have hiV : ∀ m, (s.add (k, i) v.vr).V m = if m = (k, i) then some v.vr else s.V m := fun m => rfl
  have mem_fr : ∀ i', i' ∈ x'.fr ↔ ∃ u, (s.add (k, i) v.vr).V (k, i') = some u ∧ u.stamp = -1 := by
    intro i'
    rw [hp.mem_iff, hiV]
    by_cases e : i' = i
    · subst e
      rw [if_pos rfl]
      have hno : i' ∉ x.fr := fun hc => by obtain ⟨u, hu, _⟩ := (xf3 i').1 hc; rw [hnew] at hu; cases hu
      by_cases es : v.stamp = -1
      · rw [if_pos es]
        exact ⟨fun _ => ⟨_, rfl, es⟩, fun _ => by simp⟩
      · rw [if_neg es]
        exact ⟨fun hc => absurd hc hno, fun ⟨u, hu, hs⟩ => by cases hu; exact absurd hs es⟩
    · have e2 : ¬ ((k, i') = (k, i)) := fun ee => e (by injection ee)
      rw [if_neg e2, ← xf3 i']
      split
      · simp [e]
      · rfl
  have nd : x'.fr.Nodup := by
    rw [hp.nodup_iff]
    split
    · have hno : i ∉ x.fr := fun hc => by obtain ⟨u, hu, _⟩ := (xf3 i).1 hc; rw [hnew] at hu; cases hu
      exact List.nodup_append.2 ⟨xf2, by simp, fun a ha b hb => by simp at hb; subst hb; rintro rfl; exact hno ha⟩
    · exact xf2
  have hl' : k ∉ l := by
    have := nk_setL.1 set'.nk
    exact (List.nodup_cons.1 this).1
  refine { blk := ?_, mv := mv', ml := ml', mw := mw', line := ?_, set := ?_, key := ?_, tp := ht h.tp, tv := ht h.tv, tl := ht h.tl, tw := ht h.tw, tln := ?_, tst := ?_, lt := ?_, sv := ?_, sl := ?_, hv := ?_, fr := ?_, sw := ?_, wn := ?_, la := ?_, nv := ?_, nl := ?_, nw := ?_, ns := ?_, nf := ?_ }
  · exact hk.at h.blk (addS_not h h.tp (by simp) (by simp) (by simp) (by simp) (by simp) (by simp))
  · intro q hq
    rcases mem_put.1 hq with rfl | ⟨hq, hne⟩
    · exact line'
    · refine (h.line q hq).keeps hk (addS_not h (h.tln q hq).1 (by simp) (by simp) (by simp) (by simp) (by simp [hne]) (by simp)) (fun b hb => addS_not h ((h.tln q hq).2 b hb) (by simp) (by simp) (by simp) (by simp) (by simp) (by simp [hne]))
  · intro q hq
    rcases mem_put.1 hq with rfl | ⟨hq, hne⟩
    · exact set'
    · exact (h.set q hq).keeps hk (addS_not h (h.tst q hq) (by simp) (by simp) (by simp) (by simp [hne]) (by simp) (by simp))
  · intro q hq
    rcases mem_put.1 hq with rfl | ⟨hq, hne⟩
    · exact ⟨key'.1, fun b hb => ht (key'.2 b hb)⟩
    · exact ⟨(h.key q hq).1.keeps hk (fun b hb => addS_not h ((h.key q hq).2 b hb) (by simp) (by simp) (by simp) (by simp) (by simp) (by simp)), fun b hb => ht ((h.key q hq).2 b hb)⟩
  · intro q hq
    rcases mem_put.1 hq with rfl | ⟨hq, hne⟩
    · exact ⟨tp', to'⟩
    · exact ⟨ht (h.tln q hq).1, fun b hb => ht ((h.tln q hq).2 b hb)⟩
  · intro q hq
    rcases mem_put.1 hq with rfl | ⟨hq, hne⟩
    · exact tsb
    · exact ht (h.tst q hq)
  · intro b hb
    by_cases e : b < w.heap.size
    · exact Nat.lt_of_lt_of_le e hk.size
    · by_cases e1 : b = sb
      · subst e1; exact set'.lt
      · by_cases e2 : b = x'.p
        · subst e2; exact lt_of_block line'.blk
        · by_cases e3 : inO x'.o b
          · exact line'.own.lt b e3
          · simp [T', e, e1, e2, e3] at hb
  · intro m
    rw [hiV, fnd_put]
    split
    · rfl
    · exact h.sv m
  · intro k'
    show s.last k' = lastOf (put k x' y.L) k'
    rw [h.sl k']
    unfold lastOf
    rw [fnd_put]
    by_cases e : k' = k
    · subst e
      rw [if_pos rfl]
      have := xf4
      unfold lastOf at this
      rw [← this]
      exact hx2.symm
    · rw [if_neg e]
  · intro k' i' hv'
    rw [fnd_put]
    by_cases e : k' = k
    · exact ⟨x', by rw [if_pos e]⟩
    · rw [if_neg e]
      rw [hiV, if_neg (fun ee => e (by injection ee))] at hv'
      exact h.hv k' i' hv'
  · intro q hq
    rcases mem_put.1 hq with rfl | ⟨hq, hne⟩
    · exact ⟨hh, nd, mem_fr⟩
    · obtain ⟨a, b, c⟩ := h.fr q hq
      refine ⟨a, b, fun i' => ?_⟩
      rw [c i', hiV, if_neg (fun ee => hne (by injection ee))]
  · intro i' k'
    rw [hiV, fnd_put]
    by_cases e : i' = i
    · subst e
      rw [if_pos rfl]
      by_cases e2 : k' = k
      · subst e2
        rw [if_pos rfl]
        exact ⟨fun _ => ⟨_, rfl, by simp⟩, fun _ => by simp⟩
      · rw [if_neg (fun ee => e2 (by injection ee)), h.sw i' k']
        rcases hW with hf | ⟨hf, rfl, _⟩
        · rw [hf]; simp [e2]
        · rw [hf]; simp [e2]
    · rw [if_neg e, if_neg (fun ee => e (by injection ee)), h.sw i' k']
  · intro q hq
    rcases mem_put.1 hq with rfl | ⟨hq, hne⟩
    · simp
    · exact h.wn q hq
  · intro q hq
    rcases mem_put.1 hq with rfl | ⟨hq, hne⟩
    · show x'.last < _; rw [hx2]; exact xf5
    · exact h.la q hq
  · exact Nat.le_trans (length_put_le _ _ _) (by have := h.nv; omega)
  · exact Nat.le_trans (length_put_le _ _ _) (by have := h.nl; omega)
  · exact Nat.le_trans (length_put_le _ _ _) (by have := h.nw; omega)
  · intro q hq
    rcases mem_put.1 hq with rfl | ⟨hq, hne⟩
    · show (k :: l).length ≤ N + 1
      rcases hW with hf | ⟨_, rfl, _⟩
      · have := h.ns _ (fnd_mem hf)
        simp at this ⊢; omega
      · simp
    · have := h.ns q hq; omega
  · intro q hq
    rcases mem_put.1 hq with rfl | ⟨hq, hne⟩
    · show x'.fr.length ≤ N + 1
      rw [hp.length_eq]
      split
      · simp; omega
      · omega
    · have := h.nf q hq; omega
end Go.Proofs.YtdemoghlibnooaaGreatDoor
