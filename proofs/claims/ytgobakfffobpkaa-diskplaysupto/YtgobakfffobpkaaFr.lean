/- What came in: bytes. -/
import Derived.Test.YtgobakfffobpkaaKin
import Derived.ProofKit
import Derived.OpenShut
import Derived.JoinedCond
import Derived.SizedLaws
import Derived.Deep.Strs
import Derived.Deep.DeepHandedRow
import Derived.Lib.LaidTab
namespace Go.Proofs.Ytgobakfffobpkaa
open Go.ChangeShapes Go.WideShapes Go.ChangeAt Go.RowKit Go.Deep
set_option linter.unusedVariables false
set_option linter.unusedSimpArgs false

theorem own : ownKnob Try.prog.godebug = none := by kernel_rfl
theorem laidOut : laidOutB Try.prog = true := by kernel_rfl
theorem cells5 : Try.prog.cellsOf 5 = 1 := by kernel_rfl
theorem bytes5 : Try.prog.bytesOf 5 = 1 := by kernel_rfl

theorem row_of_atB {W : World} {b off : Nat} {bs : List UInt8} (h : ∀ j, j < bs.length → W.cell? ⟨b, off + j, none⟩ = some (bv (bs.getD j 0))) : Row BE W (some ⟨b, off, none⟩) bs := by
  refine .inr ⟨b, off, rfl, fun j u hj => ?_⟩
  rw [cells_B] at hj
  have hjl : j < bs.length := by
    have := (List.getElem?_eq_some_iff.mp hj).1
    simpa using this
  rw [h j hjl]
  simp [hjl] at hj
  simp [hjl, hj]
def toB (zs : List Int) : List UInt8 := zs.map fun z => UInt8.ofNat z.toNat
theorem bv_toB {z : Int} (h : 0 ≤ z ∧ z ≤ 255) : bv (UInt8.ofNat z.toNat) = .int .u8 z := by
  simp only [bv]
  congr 1
  have : (UInt8.ofNat z.toNat).toNat = z.toNat := by simp; omega
  omega

theorem open_bytes {H : Type} {enc : TypeId × Value → H} {W : World} {held : Bool} {fuel : Nat} {a : Option Addr} {len cap : Nat} {x : DataW H × List MemPlace}
    (hf : DataW.trod enc Try.prog W 0 (fun _ => true) held fuel 22 [.slice a len cap] = some x) :
    ∃ bs : List UInt8, bs.length = len ∧ Sl BE W a cap bs ∧ (∀ k, inO a k → 0 < cap → k < W.heap.size) ∧ ((x.1 = .nil ∧ bs = [] ∧ cap = 0) ∨ ∃ elems spare, x.1 = .slice elems spare ∧ elems.length = bs.length ∧ elems.length + spare.length = cap) := by
  rcases open_ints Try.underlying22 Try.underlying5 cells5 hf with ⟨hcs, hx⟩ | ⟨y, l, c, zs, hcs, _, hl, hm, hz, hx, hcell, hwz⟩
  · simp at hcs
    obtain ⟨rfl, rfl, rfl⟩ := hcs
    exact ⟨[], rfl, ⟨.inl rfl, by simp, fun _ => rfl⟩, fun k _ h => absurd h (by omega), .inl ⟨by rw [hx], rfl, rfl⟩⟩
  · simp at hcs
    obtain ⟨rfl, rfl, rfl⟩ := hcs
    have hz' : zs.length = cap := by simpa using hz
    have hl' : (toB (zs.take len)).length = len := by simp only [toB]; rw [List.length_map, List.length_take]; omega
    refine ⟨toB (zs.take len), hl', ⟨?_, by rw [hl']; exact hl, by simp⟩, ?_, .inr ⟨_, _, by rw [hx], by rw [hl']; simp [lits]; omega, by simp [lits]; omega⟩⟩
    · by_cases h0 : len = 0
      · left; subst h0; simp [toB]
      · obtain ⟨b, off, spot⟩ := y
        have hc := hcell 0 (by omega)
        have hspot : spot = none := by simpa [Addr.add] using World.cell?_spot hc
        subst hspot
        refine row_of_atB fun j hj => ?_
        rw [hl'] at hj
        have h1 := hcell j (by omega)
        rw [addr_add] at h1
        rw [h1]
        have hjz : j < zs.length := by omega
        have hb := bounds_u8 (hwz zs[j] (List.getElem_mem hjz))
        simp [toB, hj, hjz]
        exact (bv_toB ⟨hb.1, by omega⟩).symm
    · rintro k ⟨z, e, rfl⟩ hpos
      cases e
      have hc := hcell 0 (by omega)
      have := World.block_lt_of_cell? W _ hc
      simpa [Addr.add] using this
theorem size_bytes {H : Type} {cap : Nat} {bs : List UInt8} {d : DataW H} (h : (d = .nil ∧ bs = [] ∧ cap = 0) ∨ ∃ elems spare, d = .slice elems spare ∧ elems.length = bs.length ∧ elems.length + spare.length = cap) {ts : List TypeId} {ds : List (DataW H)} (hsz : (DataW.weightsEach Try.prog ts ds).all (· ≤ reachBytes) = true) {j : Nat} (ht : ts[j]? = some 22) (hd : ds[j]? = some d) : cap ≤ 140737488351232 := by
  rcases h with ⟨_, _, h⟩ | ⟨elems, spare, h, _, hlen⟩
  · omega
  · subst h
    have := sized_slice hsz ht hd Try.underlying22
    rw [bytes5, hlen] at this
    simp only [reachBytes] at this
    omega
end Go.Proofs.Ytgobakfffobpkaa
