/- What came in: bytes. -/
import Derived.Test.YtjklpcamlppegaaGreatPm
import Derived.Test.YtjklpcamlppegaaGreatR1
import Derived.ProofKit
import Derived.OpenShut
import Derived.JoinedCond
import Derived.SizedLaws
import Derived.Deep.Strs
import Derived.Deep.DeepHandedRow
import Derived.Lib.LaidTab
namespace Go.Proofs.YtjklpcamlppegaaGreat
open Go.ChangeShapes Go.WideShapes Go.ChangeAt Go.RowKit Go.Deep
set_option linter.unusedVariables false
set_option linter.unusedSimpArgs false

theorem own : ownKnob Tryz.prog.godebug = none := by kernel_rfl
theorem laidOut : laidOutB Tryz.prog = true := by kernel_rfl
theorem fcells5 : Tryz.prog.cellsOf 5 = 1 := by kernel_rfl
theorem fbytes5 : Tryz.prog.bytesOf 5 = 1 := by kernel_rfl

def toN (zs : List Int) : List Nat := zs.map fun z => z.toNat
theorem open_bytes {H : Type} {enc : TypeId × Value → H} {W : World} {held : Bool} {fuel : Nat} {a : Option Addr} {len cap : Nat} {x : DataW H × List MemPlace}
    (hf : DataW.trod enc Tryz.prog W 0 (fun _ => true) held fuel 38 [.slice a len cap] = some x) :
    ∃ bs : List Nat, bs.length = len ∧ (cap ≤ 9223372036854775807 → BSl W a cap bs) ∧ ((x.1 = .nil ∧ bs = [] ∧ cap = 0) ∨ ∃ elems spare, x.1 = .slice elems spare ∧ elems.length = bs.length ∧ elems.length + spare.length = cap) := by
  rcases open_ints Tryz.underlying38 Tryz.underlying5 fcells5 hf with ⟨hcs, hx⟩ | ⟨y, l, c, zs, hcs, _, hl, hm, hz, hx, hcell, hwz⟩
  · simp at hcs
    obtain ⟨rfl, rfl, rfl⟩ := hcs
    exact ⟨[], rfl, fun _ => ⟨⟨fun c hc => (by cases hc), by simp, .inl rfl⟩, by simp, fun _ => rfl⟩, .inl ⟨by rw [hx], rfl, rfl⟩⟩
  · simp at hcs
    obtain ⟨rfl, rfl, rfl⟩ := hcs
    have hz' : zs.length = cap := by simpa using hz
    have hl' : (toN (zs.take len)).length = len := by simp only [toN]; rw [List.length_map, List.length_take]; omega
    have hby : ∀ c ∈ toN (zs.take len), c < 256 := by
      intro c hc
      simp only [toN, List.mem_map] at hc
      obtain ⟨z, hz1, rfl⟩ := hc
      have hb := bounds_u8 (hwz z (List.mem_of_mem_take hz1))
      omega
    refine ⟨toN (zs.take len), hl', fun hcap => ⟨⟨hby, by rw [hl']; omega, ?_⟩, by rw [hl']; exact hl, by simp⟩, .inr ⟨_, _, by rw [hx], by rw [hl']; simp [lits]; omega, by simp [lits]; omega⟩⟩
    by_cases h0 : len = 0
    · left; subst h0; simp [toN]
    · right
      obtain ⟨b, off, spot⟩ := y
      have hc := hcell 0 (by omega)
      have hspot : spot = none := by simpa [Addr.add] using World.cell?_spot hc
      subst hspot
      refine ⟨b, off, rfl, fun j hj => ?_⟩
      rw [hl'] at hj
      have h1 := hcell j (by omega)
      rw [addr_add] at h1
      rw [h1]
      have hjz : j < zs.length := by omega
      have hb := bounds_u8 (hwz zs[j] (List.getElem_mem hjz))
      simp [toN, hj, hjz]
      omega
theorem size_bytes {H : Type} {cap : Nat} {bs : List Nat} {d : DataW H} (h : (d = .nil ∧ bs = [] ∧ cap = 0) ∨ ∃ elems spare, d = .slice elems spare ∧ elems.length = bs.length ∧ elems.length + spare.length = cap) {ts : List TypeId} {ds : List (DataW H)} (hsz : (DataW.weightsEach Tryz.prog ts ds).all (· ≤ reachBytes) = true) {j : Nat} (ht : ts[j]? = some 38) (hd : ds[j]? = some d) : cap ≤ 140737488351232 := by
  rcases h with ⟨_, _, h⟩ | ⟨elems, spare, h, _, hlen⟩
  · omega
  · subst h
    have := sized_slice hsz ht hd Tryz.underlying38
    rw [fbytes5, hlen] at this
    simp only [reachBytes] at this
    omega
end Go.Proofs.YtjklpcamlppegaaGreat
