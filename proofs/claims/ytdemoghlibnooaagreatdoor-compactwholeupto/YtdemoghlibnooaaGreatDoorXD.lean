import Derived.Test.YtdemoghlibnooaaGreatDoorXC
import Derived.Test.YtdemoghlibnooaaGreatDoorG3
/- Opens of a disk of the law's own; known. -/
namespace Go.Proofs.YtdemoghlibnooaaGreatDoor
open Go.RowKit Go.Maps Go.Sort Orl Pk
set_option linter.unusedVariables false
set_option linter.unusedSimpArgs false

theorem Tabs.no {w0 w : World} {p : Nat} {F : Nat → Prop} {s : Dk.St} (h : Dn w0 w p F s) (ht : Tabs w0) : ¬ F 2 ∧ ¬ F 1 :=
  ⟨h.no0 ht.crc, fun h0 => by have := h.new 1 h0; have := ht.pow.lt; omega⟩
theorem Dn.tabs {w0 w : World} {p : Nat} {F : Nat → Prop} {s : Dk.St} (h : Dn w0 w p F s) (ht : Tabs w0) : Tabs w := ht.keepsN h.kept
def DBootTo (w0 w : World) (p : Nat) (F : Nat → Prop) (s s' : Dk.St) (g : Nat) (st : St) (k : Nat) (e : Ending) (w' : World) : Prop :=
  ∃ q l, e = .returned (.tuple #[.pointer (some ⟨q, 0, none⟩), .pointer (some ⟨l, 0, none⟩), .int .i64 (g : Nat), .int .i64 0]) ∧ Hid (IsL w' l p (logN g) k ∧ w.heap.size ≤ l ∧ ¬ F l) ∧ Hid (∃ N, N ≤ 440000000 ∧ NvB s N ∧ Sto w.heap.size w' q st N (fun b => b = l)) ∧ Hid (Dn w0 w' p F s') ∧ Hid (Keeps F w w')
theorem dn_boot {w0 w : World} {p : Nat} {F : Nat → Prop} {s s' : Dk.St} {g : Nat} {st : St} {k : Nat} {now : Int} (h : Dn w0 w p F s) (ht : Tabs w0) (hz : Sz s) (hnow : tickB now = true) (hB : Boot now s s' 0 g st k) :
    Calls Tryz.prog 13 #[.pointer (some ⟨p, 0, none⟩), .int .i64 now] w (DBootTo w0 w p F s s' g st k) := by
  refine (boot_any w p F s h.is now hnow (h.tabs ht) (Tabs.no h ht).1 (Tabs.no h ht).2 hz).mono ?_
  rintro e w' (⟨s2, E, rfl, hB2, hE, hi⟩ | ⟨s2, g2, st2, k2, q, l, rfl, hB2, hL, hS, hi⟩)
  · exact absurd (hB.one hB2.out).2.1.symm hE
  · obtain ⟨rfl, _, rfl, rfl, rfl⟩ := hB.one hB2.out
    exact ⟨q, l, rfl, ⟨hL.out.1, hL.out.2, fun hF => by have := h.is.lt l hF; have := hL.out.2; omega⟩, hS, h.same hi.out.1 hi.out.2, hi.out.2⟩
theorem dn_newB (w : World) : Calls Tryz.prog 7 #[] w fun e w' => ∃ p, e = .returned (.pointer (some ⟨p, 0, none⟩)) ∧ Hid (Dn w w' p (fun k => w.heap.size ≤ k ∧ k < w'.heap.size) Dk.new) := by
  refine (new_anyW w).mono ?_
  rintro e w' ⟨p, rfl, hi, hk⟩
  exact ⟨p, rfl, ⟨hi, fun k hk => hk.1, hk⟩⟩

/-! ### an empty disk, a disk with one record -/
theorem on_new : On Dk.new := ⟨rfl, rfl⟩
theorem sz_new : Sz Dk.new := fun q hq => by cases hq
end Go.Proofs.YtdemoghlibnooaaGreatDoor
