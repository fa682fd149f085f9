/- What came in: bytes; the table that was laid. -/
import Derived.Test.YtgamhblkgojapaaGreatDoorCards
import Derived.Test.YtgamhblkgojapaaGreatDoorTie
import Derived.Test.YtgamhblkgojapaaGreatDoorCs
import Derived.Test.YtgamhblkgojapaaGreatDoorR1
import Derived.ProofKit
import Derived.OpenShut
import Derived.JoinedCond
import Derived.SizedLaws
import Derived.Deep.Strs
import Derived.Deep.DeepHandedRow
import Derived.Lib.LaidTab
namespace Go.Proofs.YtgamhblkgojapaaGreatDoor
open Go.ChangeShapes Go.WideShapes Go.ChangeAt Go.RowKit Go.Deep
set_option linter.unusedVariables false
set_option linter.unusedSimpArgs false

theorem own : ownKnob Tryz.prog.godebug = none := by kernel_rfl
theorem laidOut : laidOutB Tryz.prog = true := by kernel_rfl
theorem fcells5 : Tryz.prog.cellsOf 5 = 1 := by kernel_rfl
theorem fbytes5 : Tryz.prog.bytesOf 5 = 1 := by kernel_rfl

def toN (zs : List Int) : List Nat := zs.map fun z => z.toNat
theorem open_bytes {H : Type} {enc : TypeId × Value → H} {W : World} {held : Bool} {fuel : Nat} {a : Option Addr} {len cap : Nat} {x : DataW H × List MemPlace}
    (hf : DataW.trod enc Tryz.prog W 0 (fun _ => true) held fuel 42 [.slice a len cap] = some x) :
    ∃ bs : List Nat, bs.length = len ∧ (cap ≤ 9223372036854775807 → BSl W a cap bs) ∧ ((x.1 = .nil ∧ bs = [] ∧ cap = 0) ∨ ∃ elems spare, x.1 = .slice elems spare ∧ elems.length = bs.length ∧ elems.length + spare.length = cap) := by
  rcases open_ints Tryz.underlying42 Tryz.underlying5 fcells5 hf with ⟨hcs, hx⟩ | ⟨y, l, c, zs, hcs, _, hl, hm, hz, hx, hcell, hwz⟩
  · simp at hcs
    obtain ⟨rfl, rfl, rfl⟩ := hcs
    exact ⟨[], rfl, fun _ => ⟨⟨fun c hc => (by cases hc), by simp, .inl rfl⟩, by simp, fun _ => rfl⟩, .inl ⟨by rw [hx], rfl, rfl⟩⟩
  · simp at hcs
    obtain ⟨rfl, rfl, rfl⟩ := hcs
    have hz' : zs.length = cap := by simpa using hz
    have hl' : (toN (zs.take len)).length = len := by simp only [toN]; rw [List.length_map, List.length_take]; omega
    have hby : ∀ c ∈ toN (zs.take len), c < 256 := by
      intro c hc
      simp only [toN, List.mem_map] at hc
      obtain ⟨z, hz1, rfl⟩ := hc
      have hb := bounds_u8 (hwz z (List.mem_of_mem_take hz1))
      omega
    refine ⟨toN (zs.take len), hl', fun hcap => ⟨⟨hby, by rw [hl']; omega, ?_⟩, by rw [hl']; exact hl, by simp⟩, .inr ⟨_, _, by rw [hx], by rw [hl']; simp [lits]; omega, by simp [lits]; omega⟩⟩
    by_cases h0 : len = 0
    · left; subst h0; simp [toN]
    · right
      obtain ⟨b, off, spot⟩ := y
      have hc := hcell 0 (by omega)
      have hspot : spot = none := by simpa [Addr.add] using World.cell?_spot hc
      subst hspot
      refine ⟨b, off, rfl, fun j hj => ?_⟩
      rw [hl'] at hj
      have h1 := hcell j (by omega)
      rw [addr_add] at h1
      rw [h1]
      have hjz : j < zs.length := by omega
      have hb := bounds_u8 (hwz zs[j] (List.getElem_mem hjz))
      simp [toN, hj, hjz]
      omega
theorem size_bytes {H : Type} {cap : Nat} {bs : List Nat} {d : DataW H} (h : (d = .nil ∧ bs = [] ∧ cap = 0) ∨ ∃ elems spare, d = .slice elems spare ∧ elems.length = bs.length ∧ elems.length + spare.length = cap) {ts : List TypeId} {ds : List (DataW H)} (hsz : (DataW.weightsEach Tryz.prog ts ds).all (· ≤ reachBytes) = true) {j : Nat} (ht : ts[j]? = some 42) (hd : ds[j]? = some d) : cap ≤ 140737488351232 := by
  rcases h with ⟨_, _, h⟩ | ⟨elems, spare, h, _, hlen⟩
  · omega
  · subst h
    have := sized_slice hsz ht hd Tryz.underlying42
    rw [fbytes5, hlen] at this
    simp only [reachBytes] at this
    omega
theorem gTab : Tryz.prog.globalNamed "rampart/sum.halfSteps" = some 0 := by kernel_rfl
theorem gTabType : (Tryz.prog.globals[0]?).map (·.type) = some 181 := by kernel_rfl
theorem cellsTab : Tryz.prog.cellsOf 181 = 16 := by kernel_rfl
theorem cellsU32 : Tryz.prog.cellsOf 115 = 1 := by kernel_rfl
/-- What the rows' list gives: the table's cells hold its sixteen numbers. -/
theorem table {W : World} (h : laidMetH Tryz.prog [("rampart/sum.halfSteps", Rows.laid_rampart_sum_halfSteps)] W) : TabIn W := by
  have t : Lib.TabIs Tryz.prog W "rampart/sum.halfSteps" .u32 [0, 498536548, 997073096, 651767980, 1994146192, 1802195444, 1303535960, 1342533948, 3988292384, 4027552580, 3604390888, 3412177804, 2607071920, 2262029012, 2685067896, 3183342108] :=
    Lib.tabIs_of_head (rest := []) gTab gTabType Tryz.underlying181 Tryz.underlying115 cellsU32 cellsTab h
  intro k hk
  have c := t.cell gTab k (by simpa using hk)
  rw [c]
  have e : ∀ k, k < 16 → ([0, 498536548, 997073096, 651767980, 1994146192, 1802195444, 1303535960, 1342533948, 3988292384, 4027552580, 3604390888, 3412177804, 2607071920, 2262029012, 2685067896, 3183342108] : List Int).getD k 0 = (Crc.tab.getD k 0 : Nat) := by decide
  rw [e k hk]
/-- A world for the witness: the settled one, the table (block 0) holding what its initialiser lays. -/
noncomputable def laidWorld (os : Os) : World :=
  { World.holding Tryz.prog os ⟨#[], #[], []⟩ with heap := (World.holding Tryz.prog os ⟨#[], #[], []⟩).heap.modify 0 fun
      | .cells _ t frozen => .cells #[.int .u32 0, .int .u32 498536548, .int .u32 997073096, .int .u32 651767980, .int .u32 1994146192, .int .u32 1802195444, .int .u32 1303535960, .int .u32 1342533948, .int .u32 3988292384, .int .u32 4027552580, .int .u32 3604390888, .int .u32 3412177804, .int .u32 2607071920, .int .u32 2262029012, .int .u32 2685067896, .int .u32 3183342108] t frozen
      | o => o }
end Go.Proofs.YtgamhblkgojapaaGreatDoor
