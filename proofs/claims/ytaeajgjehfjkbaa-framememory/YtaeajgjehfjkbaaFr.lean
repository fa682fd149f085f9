/- What came in: bytes. -/
import Derived.Test.YtaeajgjehfjkbaaC6
import Derived.ProofKit
import Derived.OpenShut
import Derived.JoinedCond
import Derived.SizedLaws
import Derived.Deep.Strs
import Derived.Deep.DeepHandedRow
import Derived.Lib.LaidTab
namespace Go.Proofs.Ytaeajgjehfjkbaa
open Go.ChangeShapes Go.WideShapes Go.ChangeAt Go.RowKit Go.Deep
set_option linter.unusedVariables false
set_option linter.unusedSimpArgs false

theorem own : ownKnob Try.prog.godebug = none := by kernel_rfl
theorem laidOut : laidOutB Try.prog = true := by kernel_rfl
theorem cells5 : Try.prog.cellsOf 5 = 1 := by kernel_rfl
theorem bytes5 : Try.prog.bytesOf 5 = 1 := by kernel_rfl

theorem row_of_atB {W : World} {b off : Nat} {bs : List UInt8} (h : ∀ j, j < bs.length → W.cell? ⟨b, off + j, none⟩ = some (bv (bs.getD j 0))) : Row BE W (some ⟨b, off, none⟩) bs := by
  refine .inr ⟨b, off, rfl, fun j u hj => ?_⟩
  rw [cells_B] at hj
  have hjl : j < bs.length := by
    have := (List.getElem?_eq_some_iff.mp hj).1
    simpa using this
  rw [h j hjl]
  simp [hjl] at hj
  simp [hjl, hj]
def toB (zs : List Int) : List UInt8 := zs.map fun z => UInt8.ofNat z.toNat
theorem bv_toB {z : Int} (h : 0 ≤ z ∧ z ≤ 255) : bv (UInt8.ofNat z.toNat) = .int .u8 z := by
  simp only [bv]
  congr 1
  have : (UInt8.ofNat z.toNat).toNat = z.toNat := by simp; omega
  omega

theorem open_bytes {H : Type} {enc : TypeId × Value → H} {W : World} {held : Bool} {fuel : Nat} {a : Option Addr} {len cap : Nat} {x : DataW H × List MemPlace}
    (hf : DataW.trod enc Try.prog W 0 (fun _ => true) held fuel 24 [.slice a len cap] = some x) :
    ∃ bs : List UInt8, bs.length = len ∧ Sl BE W a cap bs ∧ (∀ k, inO a k → 0 < cap → k < W.heap.size) ∧ ((x.1 = .nil ∧ bs = [] ∧ cap = 0) ∨ ∃ elems spare, x.1 = .slice elems spare ∧ elems.length = bs.length ∧ elems.length + spare.length = cap) := by
  rcases open_ints Try.underlying24 Try.underlying5 cells5 hf with ⟨hcs, hx⟩ | ⟨y, l, c, zs, hcs, _, hl, hm, hz, hx, hcell, hwz⟩
  · simp at hcs
    obtain ⟨rfl, rfl, rfl⟩ := hcs
    exact ⟨[], rfl, ⟨.inl rfl, by simp, fun _ => rfl⟩, fun k _ h => absurd h (by omega), .inl ⟨by rw [hx], rfl, rfl⟩⟩
  · simp at hcs
    obtain ⟨rfl, rfl, rfl⟩ := hcs
    have hz' : zs.length = cap := by simpa using hz
    have hl' : (toB (zs.take len)).length = len := by simp only [toB]; rw [List.length_map, List.length_take]; omega
    refine ⟨toB (zs.take len), hl', ⟨?_, by rw [hl']; exact hl, by simp⟩, ?_, .inr ⟨_, _, by rw [hx], by rw [hl']; simp [lits]; omega, by simp [lits]; omega⟩⟩
    · by_cases h0 : len = 0
      · left; subst h0; simp [toB]
      · obtain ⟨b, off, spot⟩ := y
        have hc := hcell 0 (by omega)
        have hspot : spot = none := by simpa [Addr.add] using World.cell?_spot hc
        subst hspot
        refine row_of_atB fun j hj => ?_
        rw [hl'] at hj
        have h1 := hcell j (by omega)
        rw [addr_add] at h1
        rw [h1]
        have hjz : j < zs.length := by omega
        have hb := bounds_u8 (hwz zs[j] (List.getElem_mem hjz))
        simp [toB, hj, hjz]
        exact (bv_toB ⟨hb.1, by omega⟩).symm
    · rintro k ⟨z, e, rfl⟩ hpos
      cases e
      have hc := hcell 0 (by omega)
      have := World.block_lt_of_cell? W _ hc
      simpa [Addr.add] using this
theorem size_bytes {H : Type} {cap : Nat} {bs : List UInt8} {d : DataW H} (h : (d = .nil ∧ bs = [] ∧ cap = 0) ∨ ∃ elems spare, d = .slice elems spare ∧ elems.length = bs.length ∧ elems.length + spare.length = cap) {ts : List TypeId} {ds : List (DataW H)} (hsz : (DataW.weightsEach Try.prog ts ds).all (· ≤ reachBytes) = true) {j : Nat} (ht : ts[j]? = some 24) (hd : ds[j]? = some d) : cap ≤ 140737488351232 := by
  rcases h with ⟨_, _, h⟩ | ⟨elems, spare, h, _, hlen⟩
  · omega
  · subst h
    have := sized_slice hsz ht hd Try.underlying24
    rw [bytes5, hlen] at this
    simp only [reachBytes] at this
    omega

/-! ### numbers, lists of bytes -/
def JE : El Int := ⟨3, 37, 1, 8, fun z => [.int .i64 z]⟩
theorem okJ : JE.Ok := by
  obtain ⟨i0, hi, hz0, hz1, hz2⟩ := info_parts info3
  exact ⟨fun _ => rfl, fun x u hu => by simp [JE] at hu; subst hu; rfl, by decide, Try.underlying37, i0, _, hi, hz0, hz1, hz2, rfl⟩
theorem rowJ_at {w : World} {a : Option Addr} {zs : List Int} (h : Row JE w a zs) {j : Nat} (hj : j < zs.length) : ∃ b off, a = some ⟨b, off, none⟩ ∧ w.cell? ⟨b, off + j, none⟩ = some (.int .i64 (zs.getD j 0)) := h.at okJ rfl 0 hj _ rfl
theorem cells_J (zs : List Int) : JE.cells zs = zs.map (.int .i64) := by
  induction zs with
  | nil => rfl
  | cons x r ih => simp [El.cells, JE] at ih ⊢; exact ih
theorem cells3 : Try.prog.cellsOf 3 = 1 := by kernel_rfl
theorem cells24 : Try.prog.cellsOf 24 = 1 := by kernel_rfl
theorem open_nums {H : Type} {enc : TypeId × Value → H} {W : World} {held : Bool} {fuel : Nat} {a : Option Addr} {len cap : Nat} {x : DataW H × List MemPlace}
    (hf : DataW.trod enc Try.prog W 0 (fun _ => true) held fuel 37 [.slice a len cap] = some x) :
    ∃ zs : List Int, zs.length = len ∧ Row JE W a zs ∧ (∀ z ∈ zs, -9223372036854775808 ≤ z ∧ z ≤ 9223372036854775807) ∧ ((x.1 = .nil ∧ zs = []) ∨ ∃ elems spare, x.1 = .slice elems spare ∧ elems.length = zs.length) := by
  rcases open_ints Try.underlying37 Try.underlying3 cells3 hf with ⟨hcs, hx⟩ | ⟨y, l, c, zs, hcs, _, hl, hm, hz, hx, hcell, hwz⟩
  · simp at hcs
    obtain ⟨rfl, rfl, rfl⟩ := hcs
    exact ⟨[], rfl, .inl rfl, fun z hz => (by cases hz), .inl ⟨by rw [hx], rfl⟩⟩
  · simp at hcs
    obtain ⟨rfl, rfl, rfl⟩ := hcs
    have hz' : zs.length = cap := by simpa using hz
    have hl' : (zs.take len).length = len := by rw [List.length_take]; omega
    refine ⟨zs.take len, hl', ?_, fun z hz => bounds_i64 (hwz z (List.mem_of_mem_take hz)), .inr ⟨_, _, by rw [hx], by simp [lits]⟩⟩
    by_cases h0 : len = 0
    · left; subst h0; simp
    · right
      obtain ⟨b, off, spot⟩ := y
      have hc := hcell 0 (by omega)
      have hspot : spot = none := by simpa [Addr.add] using World.cell?_spot hc
      subst hspot
      refine ⟨b, off, rfl, fun j u hj => ?_⟩
      rw [cells_J] at hj
      have hjl : j < len := by
        have := (List.getElem?_eq_some_iff.mp hj).1
        simpa [hz', hl] using this
      have h1 := hcell j (by omega)
      rw [addr_add] at h1
      rw [h1]
      have hjz : j < zs.length := by omega
      simp [hjl, hjz] at hj
      simp [hjz, hj]
theorem cells?_get {w : World} {base : Nat} {a : Addr} {n : Nat} {cs : List Value} (h : w.cells? base a n = some cs) : base ≤ a.block ∧ cs.length = n ∧ ∀ i, i < n → w.cell? (a.add i) = cs[i]? := by
  unfold World.cells? at h
  split at h
  · rename_i hb
    have hl := mapM_some_length h
    refine ⟨hb, by simpa using hl, fun i hi => ?_⟩
    have := mapM_some_get h i i (by simp [hi])
    simpa using this
  · cases h
theorem open_bytes1 {H : Type} {enc : TypeId × Value → H} {W : World} {held : Bool} {fuel : Nat} {c : Value} {x : DataW H × List MemPlace}
    (hf : DataW.trod enc Try.prog W 0 (fun _ => true) held fuel 24 [c] = some x) : ∃ a len cap, c = .slice a len cap := by
  rcases open_ints Try.underlying24 Try.underlying5 cells5 hf with ⟨hcs, hx⟩ | ⟨y, l, c, zs, hcs, _, hl, hm, hz, hx, hcell, hwz⟩
  · simp at hcs; exact ⟨_, _, _, hcs⟩
  · simp at hcs; exact ⟨_, _, _, hcs⟩
def dBy {H : Type} (d : DataW H) (bs : List UInt8) : Prop := (d = .nil ∧ bs = []) ∨ ∃ elems spare, d = .slice elems spare ∧ elems.length = bs.length
/-- bodies that came in -/
structure Bodies (w : World) (o : Option Addr) (ls : List (LS UInt8)) : Prop where
  l : Row XE w o ls
  x : ∀ j, j < ls.length → Sl BE w (ls.getD j ls0).o (ls.getD j ls0).c (ls.getD j ls0).xs
theorem Bodies.lst {w : World} {o : Option Addr} {ls : List (LS UInt8)} (h : Bodies w o ls) : Lst w o ls := ⟨h.l, fun j hj => (h.x j hj).row⟩
theorem Bodies.keepsN {w w' : World} {o : Option Addr} {ls : List (LS UInt8)} (h : Bodies w o ls) (hk : Keeps no w w') : Bodies w' o ls := ⟨h.l.keepsN hk, fun j hj => (h.x j hj).keepsN hk⟩
theorem open_bodies {H : Type} {enc : TypeId × Value → H} {W : World} {held : Bool} {fuel : Nat} {a : Option Addr} {len cap : Nat} {x : DataW H × List MemPlace}
    (hf : DataW.trod enc Try.prog W 0 (fun _ => true) held fuel 29 [.slice a len cap] = some x) :
    ∃ ls : List (LS UInt8), ls.length = len ∧ Bodies W a ls ∧ ((x.1 = .nil ∧ ls = []) ∨ ∃ (ds rest : List (DataW H)), x.1 = .slice ds rest ∧ ds.length = ls.length ∧ ∀ j, j < ls.length → ∃ d, ds[j]? = some d ∧ dBy d (ls.getD j ls0).xs) := by
  rcases open_slice Try.underlying29 hf with ⟨hcs, hx⟩ | ⟨y, l, c, m, n, D, Pl, hcs, _, hl, hm, hmm, hx, hel⟩
  · simp at hcs
    obtain ⟨rfl, rfl, rfl⟩ := hcs
    exact ⟨[], rfl, ⟨.inl rfl, fun j hj => by simp at hj⟩, .inl ⟨by rw [hx], rfl⟩⟩
  · simp at hcs
    obtain ⟨rfl, rfl, rfl⟩ := hcs
    have hmm' : m = cap := by simpa using hmm
    subst hmm'
    have each : ∀ i, i < len → ∃ p : LS UInt8, W.cells? 0 (y.add (i * 1)) 1 = some [.slice p.o p.xs.length p.c] ∧ Sl BE W p.o p.c p.xs ∧ dBy (D i) p.xs := by
      intro i hi
      obtain ⟨cs', hc, ht⟩ := hel i (by omega)
      rw [cells24] at hc
      have hl1 := (cells?_get hc).2.1
      match cs', hl1 with
      | [c'], _ =>
        obtain ⟨ob, nb, cb, e4⟩ := open_bytes1 (c := c') ht
        subst e4
        obtain ⟨bs, rfl, hs, _, hd⟩ := open_bytes ht
        refine ⟨⟨ob, cb, bs⟩, hc, hs, ?_⟩
        rcases hd with ⟨h1, h2, _⟩ | ⟨elems, spare, h1, h2, _⟩
        · exact .inl ⟨h1, h2⟩
        · exact .inr ⟨elems, spare, h1, h2⟩
    have inh : Inhabited (LS UInt8) := ⟨ls0⟩
    obtain ⟨F, hF⟩ := choose_lt each
    have hget : ∀ j, j < len → ((List.range len).map F).getD j ls0 = F j := fun j hj => by simp [List.getD_eq_getElem?_getD, hj]
    refine ⟨(List.range len).map F, by simp, ⟨?_, ?_⟩, .inr ⟨(List.range len).map D, (List.range (m - len)).map fun j => D (len + j), by rw [hx], by simp, ?_⟩⟩
    · by_cases h0 : len = 0
      · left; subst h0; simp
      · right
        obtain ⟨b, off, spot⟩ := y
        have hc0 := (cells?_get (hF 0 (by omega)).1).2.2 0 (by omega)
        have hspot : spot = none := by simpa [Addr.add] using World.cell?_spot hc0
        subst hspot
        refine ⟨b, off, rfl, fun j u hj => ?_⟩
        rw [cells_X] at hj
        have hjl : j < len := by
          have := (List.getElem?_eq_some_iff.mp hj).1
          simpa using this
        have hc := (cells?_get (hF j hjl).1).2.2 0 (by omega)
        rw [addr_add, addr_add] at hc
        simp [hjl] at hj
        rw [← hj]
        simpa using hc
    · intro j hj
      simp at hj
      rw [hget j hj]
      exact (hF j hj).2.1
    · intro j hj
      simp at hj
      rw [hget j hj]
      exact ⟨D j, by simp [hj], (hF j hj).2.2⟩

/-! ### sizes out of the bound -/
theorem bulk_pos {H : Type} (d : DataW H) : 1 ≤ Rows.uptoBulk d := by
  cases d with
  | lit l => cases l <;> simp [Rows.uptoBulk]
  | _ => simp [Rows.uptoBulk]
theorem bulk_len {H : Type} (l : List (DataW H)) : l.length ≤ Rows.uptoBulkAll l := by
  induction l with
  | nil => simp
  | cons d r ih => simp only [Rows.uptoBulkAll, List.length_cons]; have := bulk_pos d; omega
theorem bulk_by {H : Type} {d : DataW H} {bs : List UInt8} (h : dBy d bs) : bs.length + 1 ≤ Rows.uptoBulk d := by
  rcases h with ⟨rfl, h⟩ | ⟨elems, spare, rfl, h⟩
  · rw [h]; simp [Rows.uptoBulk]
  · have := bulk_len elems
    simp only [Rows.uptoBulk]
    omega
theorem bulk_bods {H : Type} : ∀ (ls : List (LS UInt8)) (ds : List (DataW H)), ds.length = ls.length → (∀ j, j < ls.length → ∃ d, ds[j]? = some d ∧ dBy d (ls.getD j ls0).xs) → (bods ls).flatten.length + ls.length ≤ Rows.uptoBulkAll ds
  | [], ds, _, _ => by simp [bods]
  | x :: r, [], hl, _ => by simp at hl
  | x :: r, d :: ds, hl, h => by
    have h0 := h 0 (by simp)
    obtain ⟨d', e, hd⟩ := h0
    simp at e
    subst e
    have hd := bulk_by hd
    have ih := bulk_bods r ds (by simpa using hl) (fun j hj => by
      obtain ⟨d', e, hd⟩ := h (j + 1) (by simpa using hj)
      exact ⟨d', by simpa using e, by simpa using hd⟩)
    simp only [bods, List.map_cons, List.flatten_cons, List.length_append, List.length_cons, Rows.uptoBulkAll] at ih ⊢
    simp at hd
    omega
theorem upto_bytes {H : Type} {cap : Nat} {bs : List UInt8} {d : DataW H} (h : (d = .nil ∧ bs = [] ∧ cap = 0) ∨ ∃ elems spare, d = .slice elems spare ∧ elems.length = bs.length ∧ elems.length + spare.length = cap) : bs.length + 1 ≤ Rows.uptoBulk d := by
  refine bulk_by ?_
  rcases h with ⟨h1, h2, _⟩ | ⟨elems, spare, h1, h2, _⟩
  · exact .inl ⟨h1, h2⟩
  · exact .inr ⟨elems, spare, h1, h2⟩
theorem upto_nums {H : Type} {zs : List Int} {d : DataW H} (h : (d = .nil ∧ zs = []) ∨ ∃ elems spare, d = .slice elems spare ∧ elems.length = zs.length) : zs.length + 1 ≤ Rows.uptoBulk d := by
  rcases h with ⟨rfl, h⟩ | ⟨elems, spare, rfl, h⟩
  · rw [h]; simp [Rows.uptoBulk]
  · have := bulk_len elems
    simp only [Rows.uptoBulk]
    omega
theorem upto_bodies {H : Type} {ls : List (LS UInt8)} {d : DataW H} (h : (d = .nil ∧ ls = []) ∨ ∃ (ds rest : List (DataW H)), d = .slice ds rest ∧ ds.length = ls.length ∧ ∀ j, j < ls.length → ∃ d, ds[j]? = some d ∧ dBy d (ls.getD j ls0).xs) : (bods ls).flatten.length + ls.length + 1 ≤ Rows.uptoBulk d := by
  rcases h with ⟨rfl, h⟩ | ⟨ds, rest, rfl, hl, h⟩
  · rw [h]; simp [Rows.uptoBulk, bods]
  · have := bulk_bods ls ds hl h
    simp only [Rows.uptoBulk]
    omega
end Go.Proofs.Ytaeajgjehfjkbaa
