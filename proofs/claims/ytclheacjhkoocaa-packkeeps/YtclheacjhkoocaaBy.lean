import Derived.Test.YtclheacjhkoocaaFr
namespace Go.Proofs.Ytclheacjhkoocaa
open Go.ChangeShapes Go.WideShapes Go.ChangeAt Go.RowKit
open Pk
set_option linter.unusedVariables false
set_option linter.unusedSimpArgs false

theorem open_bytes2 {H : Type} {enc : TypeId × Value → H} {W : World} {held : Bool} {fuel : Nat} {a : Option Addr} {len cap : Nat} {x : DataW H × List MemPlace}
    (hf : DataW.trod enc Try.prog W 0 (fun _ => true) held fuel 23 [.slice a len cap] = some x) :
    ∃ bs : List Nat, bs.length = len ∧ Row W a bs ∧ len ≤ cap ∧ (a = none → cap = 0) ∧ ((x.1 = .nil ∧ cap = 0) ∨ ∃ elems spare, x.1 = .slice elems spare ∧ elems.length + spare.length = cap) := by
  rcases open_ints Try.underlying23 Try.underlying5 cells5 hf with ⟨hcs, hx⟩ | ⟨y, l, c, zs, hcs, _, hl, hm, hz, hx, hcell, hwz⟩
  · simp at hcs
    obtain ⟨rfl, rfl, rfl⟩ := hcs
    exact ⟨[], rfl, ⟨by simp, by simp, .inl rfl⟩, Nat.le_refl _, fun _ => rfl, .inl ⟨by rw [hx], rfl⟩⟩
  · simp at hcs
    obtain ⟨rfl, rfl, rfl⟩ := hcs
    have hz' : zs.length = cap := by simpa using hz
    have hby : ∀ c ∈ (zs.take len).map Int.toNat, c < 256 := by
      intro c hc
      simp only [List.mem_map] at hc
      obtain ⟨z, hz1, rfl⟩ := hc
      have := bounds_u8 (hwz z (List.mem_of_mem_take hz1))
      omega
    have hl' : ((zs.take len).map Int.toNat).length = len := by rw [List.length_map, List.length_take]; omega
    refine ⟨(zs.take len).map Int.toNat, hl', ⟨hby, by rw [hl']; unfold maxLen at hm; omega, ?_⟩, hl, by simp, .inr ⟨_, _, by rw [hx], by simp [lits]; omega⟩⟩
    by_cases h0 : len = 0
    · left; subst h0; simp
    · right
      obtain ⟨b, off, spot⟩ := y
      have hc := hcell 0 (by omega)
      have hspot : spot = none := by simpa [Addr.add] using World.cell?_spot hc
      subst hspot
      refine ⟨b, off, rfl, fun j hj => ?_⟩
      rw [hl'] at hj
      have h1 := hcell j (by omega)
      rw [addr_add] at h1
      rw [h1]
      have hjz : j < zs.length := by omega
      have hb := bounds_u8 (hwz zs[j] (List.getElem_mem hjz))
      simp [hj, hjz]
      omega

theorem bulk_one {H : Type} (d : DataW H) : 1 ≤ Rows.uptoBulk d := by
  cases d with
  | lit l => cases l <;> simp [Rows.uptoBulk]
  | _ => simp [Rows.uptoBulk]
theorem bulk_len {H : Type} (l : List (DataW H)) : l.length ≤ Rows.uptoBulkAll l := by
  induction l with
  | nil => simp
  | cons x l ih =>
    have := bulk_one x
    simp only [Rows.uptoBulkAll, List.length_cons]
    omega
theorem bulk_cap {H : Type} {d : DataW H} {cap : Nat} (h : (d = .nil ∧ cap = 0) ∨ ∃ elems spare, d = .slice elems spare ∧ elems.length + spare.length = cap) : cap ≤ Rows.uptoBulk d := by
  rcases h with ⟨_, h⟩ | ⟨elems, spare, rfl, h⟩
  · omega
  · have := bulk_len elems
    have := bulk_len spare
    simp only [Rows.uptoBulk]
    omega
end Go.Proofs.Ytclheacjhkoocaa
