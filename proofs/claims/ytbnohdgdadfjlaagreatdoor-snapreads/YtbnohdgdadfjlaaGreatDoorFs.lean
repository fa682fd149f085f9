import Derived.Test.YtbnohdgdadfjlaaGreatDoorCards
import Derived.Test.YtbnohdgdadfjlaaGreatDoorTie
import Derived.ProofKit
import Derived.OpenShut
import Derived.JoinedCond
import Derived.SizedLaws
import Derived.Deep.Strs
import Derived.Deep.Slices
import Derived.Deep.DeepHandedRow
import Derived.Lib.LaidTab
import Derived.Test.YtbnohdgdadfjlaaGreatDoorLBu
/- What came in: scripts, bytes; the table that was laid. -/
namespace Go.Proofs.YtbnohdgdadfjlaaGreatDoor
open Go.ChangeShapes Go.WideShapes Go.ChangeAt Go.RowKit Go.Deep
set_option linter.unusedVariables false
set_option linter.unusedSimpArgs false

theorem own : ownKnob Tryz.prog.godebug = none := by kernel_rfl
theorem weightsAll_mem {H : Type} {P : Program} {e : TypeId} : ∀ {l : List (DataW H)} {d : DataW H}, d ∈ l → ∀ n ∈ d.weights P e, n ∈ DataW.weightsAll P e l := by
  intro l
  induction l with
  | nil => intro d h; cases h
  | cons x l ih =>
    intro d h n hn
    simp only [DataW.weightsAll, List.mem_append]
    rcases List.mem_cons.mp h with rfl | h
    · exact .inl hn
    · exact .inr (ih h n hn)
theorem str_len (s : ByteArray) : s.data.toList.length = s.size := by rw [Array.length_toList]; rfl
theorem mcells?_get {w : World} {base : Nat} {a : Addr} {n : Nat} {cs : List Value} (h : w.cells? base a n = some cs) : base ≤ a.block ∧ cs.length = n ∧ ∀ i, i < n → w.cell? (a.add i) = cs[i]? := by
  unfold World.cells? at h
  split at h
  · rename_i hb
    have hl := mapM_some_length h
    refine ⟨hb, by simpa using hl, fun i hi => ?_⟩
    have := mapM_some_get h i i (by simp [hi])
    simpa using this
  · cases h

theorem row_of_el {α : Type} {E : El α} (hE : E.Ok) (z : α) {W : World} {b off : Nat} {ss : List α} (h : ∀ j, j < ss.length → ∀ k, k < E.k → W.cell? ⟨b, off + j * E.k + k, none⟩ = (E.enc (ss.getD j z))[k]?) : Row E W (some ⟨b, off, none⟩) ss := by
  refine .inr ⟨b, off, rfl, fun j u hj => ?_⟩
  have hjl : j < ss.length * E.k := by
    have := (List.getElem?_eq_some_iff.mp hj).1
    rw [cells_length hE] at this
    exact this
  have hp := hE.pos
  have hd : j / E.k < ss.length := (Nat.div_lt_iff_lt_mul hp).2 hjl
  have hm : j % E.k < E.k := Nat.mod_lt _ hp
  have hc := cells_at hE z ss (j / E.k) (j % E.k) hd hm
  have hjj : j / E.k * E.k + j % E.k = j := Nat.div_add_mod' j E.k
  rw [hjj, hj] at hc
  have hh := h (j / E.k) hd (j % E.k) hm
  rw [Nat.add_assoc, hjj] at hh
  rw [hh, ← hc]

/-- a list of any kind, each element opened by its own -/
theorem open_list {α : Type} (E : El α) (hE : E.Ok) (z : α) (OKp : α → Prop) (hcl : Tryz.prog.cellsOf E.e = E.k) (hby : Tryz.prog.bytesOf E.e = E.nb)
    {H : Type} {enc : TypeId × Value → H} {W : World} {held : Bool}
    (one : ∀ (fuel : Nat) (cs : List Value) (x : DataW H × List MemPlace), DataW.trod enc Tryz.prog W 0 (fun _ => true) held fuel E.e cs = some x → (∀ n ∈ x.1.weights Tryz.prog E.e, n ≤ reachBytes) → ∃ p, cs = E.enc p ∧ OKp p)
    {fuel : Nat} {a : Option Addr} {len cap : Nat} {x : DataW H × List MemPlace}
    (hf : DataW.trod enc Tryz.prog W 0 (fun _ => true) held fuel E.t [.slice a len cap] = some x) (hw : ∀ n ∈ x.1.weights Tryz.prog E.t, n ≤ reachBytes) :
    ∃ ps : List α, ps.length = len ∧ Sl E W a cap ps ∧ (∀ p ∈ ps, OKp p) ∧ cap * E.nb ≤ reachBytes := by
  rcases open_slice hE.und hf with ⟨hcs, hx⟩ | ⟨y, l, c, m, n, D, Pl, hcs, _, hl, hm, hmm, hx, hel⟩
  · simp at hcs
    obtain ⟨rfl, rfl, rfl⟩ := hcs
    exact ⟨[], rfl, ⟨.inl rfl, by simp, fun _ => rfl⟩, fun p hp => (by cases hp), by simp [reachBytes]⟩
  · simp at hcs
    obtain ⟨rfl, rfl, rfl⟩ := hcs
    have hmm' : m = cap := by simpa using hmm
    subst hmm'
    have hw' : ∀ n ∈ (DataW.slice ((List.range len).map D) ((List.range (m - len)).map fun j => D (len + j))).weights Tryz.prog E.t, n ≤ reachBytes := by rw [hx] at hw; exact hw
    simp only [DataW.weights, hE.und] at hw'
    have hcapw := hw' _ (List.mem_cons_self)
    rw [hby] at hcapw
    simp only [List.length_map, List.length_range] at hcapw
    rw [show len + (m - len) = m by omega] at hcapw
    have each : ∀ i, i < len → ∃ p : α, (W.cells? 0 (y.add (i * E.k)) E.k = some (E.enc p)) ∧ OKp p := by
      intro i hi
      obtain ⟨cs', hc, ht⟩ := hel i (by omega)
      rw [hcl] at hc
      obtain ⟨p, rfl, h2⟩ := one n cs' _ ht (fun k hk => hw' k (List.mem_cons_of_mem _ (List.mem_append_left _ (weightsAll_mem (List.mem_map.2 ⟨i, by simp [hi], rfl⟩) k hk))))
      exact ⟨p, hc, h2⟩
    have inh : Inhabited α := ⟨z⟩
    obtain ⟨F, hF⟩ := choose_lt each
    have hget : ∀ j, j < len → ((List.range len).map F).getD j z = F j := fun j hj => by simp [List.getD_eq_getElem?_getD, hj]
    refine ⟨(List.range len).map F, by simp, ⟨?_, by simpa using hl, fun h => (by cases h)⟩, ?_, hcapw⟩
    · by_cases h0 : len = 0
      · left; subst h0; simp
      · obtain ⟨b, off, spot⟩ := y
        obtain ⟨_, hl2, hce⟩ := mcells?_get (hF 0 (by omega)).1
        have hc0 := hce 0 hE.pos
        have hspot : spot = none := by
          have h7 : (E.enc (F 0))[0]? = some ((E.enc (F 0))[0]'(by rw [hE.len]; exact hE.pos)) := List.getElem?_eq_getElem _
          rw [h7] at hc0
          simpa [Addr.add] using World.cell?_spot hc0
        subst hspot
        refine row_of_el hE z fun j hj k hk => ?_
        simp at hj
        obtain ⟨_, _, hce⟩ := mcells?_get (hF j hj).1
        have g0 := hce k hk
        rw [addr_add, addr_add] at g0
        rw [hget j hj]
        exact g0
    · intro p hp
      simp only [List.mem_map, List.mem_range] at hp
      obtain ⟨i, hi, rfl⟩ := hp
      exact (hF i hi).2

theorem mc9 : Tryz.prog.cellsOf 9 = 1 := by kernel_rfl
theorem mb9 : Tryz.prog.bytesOf 9 = 16 := by kernel_rfl
section
variable {H : Type} {enc : TypeId × Value → H} {W : World} {held : Bool}
theorem reach_eq : reachBytes = 140737488351232 := by decide
theorem one_text (fuel : Nat) (cs : List Value) (x : DataW H × List MemPlace) (h : DataW.trod enc Tryz.prog W 0 (fun _ => true) held fuel 9 cs = some x) (hw : ∀ n ∈ x.1.weights Tryz.prog 9, n ≤ reachBytes) :
    ∃ p : Tx, cs = [.string p] ∧ p.size ≤ 140737488351232 := by
  obtain ⟨s, rfl, rfl, _⟩ := DataW.trod_string Tryz.underlying9 h
  refine ⟨s, rfl, ?_⟩
  have := hw s.data.toList.length (by simp [DataW.weights])
  rw [str_len, reach_eq] at this
  exact this
/-- a list's header -/
theorem is_slice {t e : TypeId} (ht : Tryz.prog.underlying t = some (.slice e)) {fuel : Nat} {c : Value} {x : DataW H × List MemPlace} (h : DataW.trod enc Tryz.prog W 0 (fun _ => true) held fuel t [c] = some x) : ∃ a len cap, c = .slice a len cap := by
  rcases open_slice ht h with ⟨hcs, hx⟩ | ⟨y, l, c, m, n, D, Pl, hcs, _⟩
  · exact ⟨_, _, _, by simpa using hcs⟩
  · exact ⟨_, _, _, by simpa using hcs⟩
theorem open_txs {fuel : Nat} {a : Option Addr} {len cap : Nat} {x : DataW H × List MemPlace}
    (hf : DataW.trod enc Tryz.prog W 0 (fun _ => true) held fuel 47 [.slice a len cap] = some x) (hw : ∀ n ∈ x.1.weights Tryz.prog 47, n ≤ reachBytes) :
    ∃ ss : List Tx, ss.length = len ∧ Sl TE W a cap ss ∧ (∀ s ∈ ss, s.size ≤ 140737488351232) ∧ cap * 16 ≤ reachBytes :=
  open_list TE okT e0 (fun p => p.size ≤ 140737488351232) mc9 mb9 (fun fuel cs x h hw => one_text fuel cs x h hw) hf hw
/-- fields' weights -/
theorem each_mem {t : TypeId} {fs : Array Field} (ht : Tryz.prog.underlying t = some (.struct fs)) {xs : List (DataW H × List MemPlace)} (hw : ∀ n ∈ (DataW.agg (xs.map (·.1))).weights Tryz.prog t, n ≤ reachBytes) {j : Nat} {f : Field} {x : DataW H × List MemPlace} (hj : fs.toList[j]? = some f) (hx : xs[j]? = some x) : ∀ n ∈ x.1.weights Tryz.prog f.type, n ≤ reachBytes := by
  intro n hn
  refine hw n ?_
  simp only [DataW.weights, ht]
  exact DataW.weights_mem_each (j := j) (t := f.type) (d := x.1) (by simp [hj]) (by simp [hx]) n hn
theorem u64_nat {z : Int} (w : (Lit.int .u64 z).wf = true) : ∃ n : Nat, z = (n : Int) ∧ n < 18446744073709551616 := by
  have := bounds_u64 w
  exact ⟨z.toNat, by omega, by omega⟩
end
theorem fcells5 : Tryz.prog.cellsOf 5 = 1 := by kernel_rfl
theorem fbytes5 : Tryz.prog.bytesOf 5 = 1 := by kernel_rfl

def toN (zs : List Int) : List Nat := zs.map fun z => z.toNat
theorem open_bytes {H : Type} {enc : TypeId × Value → H} {W : World} {held : Bool} {fuel : Nat} {a : Option Addr} {len cap : Nat} {x : DataW H × List MemPlace}
    (hf : DataW.trod enc Tryz.prog W 0 (fun _ => true) held fuel 27 [.slice a len cap] = some x) :
    ∃ bs : List Nat, bs.length = len ∧ (cap ≤ 9223372036854775807 → BSl W a cap bs) ∧ ((x.1 = .nil ∧ bs = [] ∧ cap = 0) ∨ ∃ elems spare, x.1 = .slice elems spare ∧ elems.length = bs.length ∧ elems.length + spare.length = cap) := by
  rcases open_ints Tryz.underlying27 Tryz.underlying5 fcells5 hf with ⟨hcs, hx⟩ | ⟨y, l, c, zs, hcs, _, hl, hm, hz, hx, hcell, hwz⟩
  · simp at hcs
    obtain ⟨rfl, rfl, rfl⟩ := hcs
    exact ⟨[], rfl, fun _ => ⟨⟨fun c hc => (by cases hc), by simp, .inl rfl⟩, by simp, fun _ => rfl⟩, .inl ⟨by rw [hx], rfl, rfl⟩⟩
  · simp at hcs
    obtain ⟨rfl, rfl, rfl⟩ := hcs
    have hz' : zs.length = cap := by simpa using hz
    have hl' : (toN (zs.take len)).length = len := by simp only [toN]; rw [List.length_map, List.length_take]; omega
    have hby : ∀ c ∈ toN (zs.take len), c < 256 := by
      intro c hc
      simp only [toN, List.mem_map] at hc
      obtain ⟨z, hz1, rfl⟩ := hc
      have hb := bounds_u8 (hwz z (List.mem_of_mem_take hz1))
      omega
    refine ⟨toN (zs.take len), hl', fun hcap => ⟨⟨hby, by rw [hl']; omega, ?_⟩, by rw [hl']; exact hl, by simp⟩, .inr ⟨_, _, by rw [hx], by rw [hl']; simp [lits]; omega, by simp [lits]; omega⟩⟩
    by_cases h0 : len = 0
    · left; subst h0; simp [toN]
    · right
      obtain ⟨b, off, spot⟩ := y
      have hc := hcell 0 (by omega)
      have hspot : spot = none := by simpa [Addr.add] using World.cell?_spot hc
      subst hspot
      refine ⟨b, off, rfl, fun j hj => ?_⟩
      rw [hl'] at hj
      have h1 := hcell j (by omega)
      rw [addr_add] at h1
      rw [h1]
      have hjz : j < zs.length := by omega
      have hb := bounds_u8 (hwz zs[j] (List.getElem_mem hjz))
      simp [toN, hj, hjz]
      omega
theorem size_bytes {H : Type} {cap : Nat} {bs : List Nat} {d : DataW H} (h : (d = .nil ∧ bs = [] ∧ cap = 0) ∨ ∃ elems spare, d = .slice elems spare ∧ elems.length = bs.length ∧ elems.length + spare.length = cap) {ts : List TypeId} {ds : List (DataW H)} (hsz : (DataW.weightsEach Tryz.prog ts ds).all (· ≤ reachBytes) = true) {j : Nat} (ht : ts[j]? = some 27) (hd : ds[j]? = some d) : cap ≤ 140737488351232 := by
  rcases h with ⟨_, _, h⟩ | ⟨elems, spare, h, _, hlen⟩
  · omega
  · subst h
    have := sized_slice hsz ht hd Tryz.underlying27
    rw [fbytes5, hlen] at this
    simp only [reachBytes] at this
    omega
theorem gTab : Tryz.prog.globalNamed "rampart/sum.halfSteps" = some 0 := by kernel_rfl
theorem gTabType : (Tryz.prog.globals[0]?).map (·.type) = some 223 := by kernel_rfl
theorem cellsTab : Tryz.prog.cellsOf 223 = 16 := by kernel_rfl
theorem cellsU32 : Tryz.prog.cellsOf 23 = 1 := by kernel_rfl
/-- What the rows' list gives: the table's cells hold its sixteen numbers. -/
theorem table {W : World} (h : laidMetH Tryz.prog [("rampart/sum.halfSteps", Rows.laid_rampart_sum_halfSteps)] W) : TabIn W := by
  have t : Lib.TabIs Tryz.prog W "rampart/sum.halfSteps" .u32 [0, 498536548, 997073096, 651767980, 1994146192, 1802195444, 1303535960, 1342533948, 3988292384, 4027552580, 3604390888, 3412177804, 2607071920, 2262029012, 2685067896, 3183342108] :=
    Lib.tabIs_of_head (rest := []) gTab gTabType Tryz.underlying223 Tryz.underlying23 cellsU32 cellsTab h
  intro k hk
  have c := t.cell gTab k (by simpa using hk)
  rw [c]
  have e : ∀ k, k < 16 → ([0, 498536548, 997073096, 651767980, 1994146192, 1802195444, 1303535960, 1342533948, 3988292384, 4027552580, 3604390888, 3412177804, 2607071920, 2262029012, 2685067896, 3183342108] : List Int).getD k 0 = (Crc.tab.getD k 0 : Nat) := by decide
  rw [e k hk]
/-- A world for the witness: the settled one, the table (block 0) holding what its initialiser lays. -/
noncomputable def laidWorld (os : Os) : World :=
  { World.holding Tryz.prog os ⟨#[], #[], []⟩ with heap := (World.holding Tryz.prog os ⟨#[], #[], []⟩).heap.modify 0 fun
      | .cells _ t frozen => .cells #[.int .u32 0, .int .u32 498536548, .int .u32 997073096, .int .u32 651767980, .int .u32 1994146192, .int .u32 1802195444, .int .u32 1303535960, .int .u32 1342533948, .int .u32 3988292384, .int .u32 4027552580, .int .u32 3604390888, .int .u32 3412177804, .int .u32 2607071920, .int .u32 2262029012, .int .u32 2685067896, .int .u32 3183342108] t frozen
      | o => o }
theorem mcO : Tryz.prog.cellsOf 55 = 6 := by kernel_rfl
theorem mbO : Tryz.prog.bytesOf 55 = 88 := by kernel_rfl
theorem mcP : Tryz.prog.cellsOf 70 = 2 := by kernel_rfl
theorem mbP : Tryz.prog.bytesOf 70 = 32 := by kernel_rfl
theorem bulk_one {H : Type} (d : DataW H) : 1 ≤ Rows.uptoBulk d := by
  cases d with
  | lit l => cases l <;> simp [Rows.uptoBulk]
  | _ => simp [Rows.uptoBulk]
theorem bulk_len {H : Type} : ∀ (l : List (DataW H)), l.length ≤ Rows.uptoBulkAll l
  | [] => by simp [Rows.uptoBulkAll]
  | d :: l => by
    have := bulk_len l
    have := bulk_one d
    simp only [Rows.uptoBulkAll, List.length_cons]; omega
/-- what each weighs, all together -/
theorem bulk_sum {H : Type} {α : Type} (f : α → Nat) (F : Nat → α) (D : Nat → DataW H) : ∀ (L : List Nat), (∀ i ∈ L, f (F i) ≤ Rows.uptoBulk (D i)) → ((L.map F).map f).sum ≤ Rows.uptoBulkAll (L.map D)
  | [], _ => by simp [Rows.uptoBulkAll]
  | i :: L, h => by
    have := bulk_sum f F D L (fun j hj => h j (List.mem_cons_of_mem _ hj))
    have := h i List.mem_cons_self
    simp only [List.map_cons, List.sum_cons, Rows.uptoBulkAll]
    omega
theorem open_listB {H : Type} {α : Type} (E : El α) (hE : E.Ok) (z : α) (OKp : α → DataW H → Prop) (f : α → Nat) (hfd : ∀ p d, OKp p d → f p ≤ Rows.uptoBulk d) (hcl : Tryz.prog.cellsOf E.e = E.k) (hby : Tryz.prog.bytesOf E.e = E.nb)
    {enc : TypeId × Value → H} {W : World} {held : Bool}
    (one : ∀ (fuel : Nat) (cs : List Value) (x : DataW H × List MemPlace), DataW.trod enc Tryz.prog W 0 (fun _ => true) held fuel E.e cs = some x → (∀ n ∈ x.1.weights Tryz.prog E.e, n ≤ reachBytes) → ∃ p, cs = E.enc p ∧ OKp p x.1)
    {fuel : Nat} {a : Option Addr} {len cap : Nat} {x : DataW H × List MemPlace}
    (hf : DataW.trod enc Tryz.prog W 0 (fun _ => true) held fuel E.t [.slice a len cap] = some x) (hw : ∀ n ∈ x.1.weights Tryz.prog E.t, n ≤ reachBytes) :
    ∃ ps : List α, ps.length = len ∧ Sl E W a cap ps ∧ (∀ p ∈ ps, ∃ d, OKp p d) ∧ cap * E.nb ≤ reachBytes ∧ len ≤ Rows.uptoBulk x.1 ∧ (ps.map f).sum ≤ Rows.uptoBulk x.1 := by
  rcases open_slice hE.und hf with ⟨hcs, hx⟩ | ⟨y, l, c, m, n, D, Pl, hcs, _, hl, hm, hmm, hx, hel⟩
  · simp at hcs
    obtain ⟨rfl, rfl, rfl⟩ := hcs
    exact ⟨[], rfl, ⟨.inl rfl, by simp, fun _ => rfl⟩, fun p hp => (by cases hp), by simp [reachBytes], by simp, by simp⟩
  · simp at hcs
    obtain ⟨rfl, rfl, rfl⟩ := hcs
    have hmm' : m = cap := by simpa using hmm
    subst hmm'
    have hw' : ∀ n ∈ (DataW.slice ((List.range len).map D) ((List.range (m - len)).map fun j => D (len + j))).weights Tryz.prog E.t, n ≤ reachBytes := by rw [hx] at hw; exact hw
    simp only [DataW.weights, hE.und] at hw'
    have hcapw := hw' _ (List.mem_cons_self)
    rw [hby] at hcapw
    simp only [List.length_map, List.length_range] at hcapw
    rw [show len + (m - len) = m by omega] at hcapw
    have each : ∀ i, i < len → ∃ p : α, (W.cells? 0 (y.add (i * E.k)) E.k = some (E.enc p)) ∧ OKp p (D i) := by
      intro i hi
      obtain ⟨cs', hc, ht⟩ := hel i (by omega)
      rw [hcl] at hc
      obtain ⟨p, rfl, h2⟩ := one n cs' _ ht (fun k hk => hw' k (List.mem_cons_of_mem _ (List.mem_append_left _ (weightsAll_mem (List.mem_map.2 ⟨i, by simp [hi], rfl⟩) k hk))))
      exact ⟨p, hc, h2⟩
    have inh : Inhabited α := ⟨z⟩
    obtain ⟨F, hF⟩ := choose_lt each
    have hget : ∀ j, j < len → ((List.range len).map F).getD j z = F j := fun j hj => by simp [List.getD_eq_getElem?_getD, hj]
    have hb1 : Rows.uptoBulkAll ((List.range len).map D) ≤ Rows.uptoBulk x.1 := by rw [hx]; simp only [Rows.uptoBulk]; omega
    refine ⟨(List.range len).map F, by simp, ⟨?_, by simpa using hl, fun h => (by cases h)⟩, ?_, hcapw, Nat.le_trans (by have := bulk_len ((List.range len).map D); simpa using this) hb1, Nat.le_trans (bulk_sum f F D _ (fun i hi => hfd _ _ (hF i (List.mem_range.1 hi)).2)) hb1⟩
    · by_cases h0 : len = 0
      · left; subst h0; simp
      · obtain ⟨b, off, spot⟩ := y
        obtain ⟨_, hl2, hce⟩ := mcells?_get (hF 0 (by omega)).1
        have hc0 := hce 0 hE.pos
        have hspot : spot = none := by
          have h7 : (E.enc (F 0))[0]? = some ((E.enc (F 0))[0]'(by rw [hE.len]; exact hE.pos)) := List.getElem?_eq_getElem _
          rw [h7] at hc0
          simpa [Addr.add] using World.cell?_spot hc0
        subst hspot
        refine row_of_el hE z fun j hj k hk => ?_
        simp at hj
        obtain ⟨_, _, hce⟩ := mcells?_get (hF j hj).1
        have g0 := hce k hk
        rw [addr_add, addr_add] at g0
        rw [hget j hj]
        exact g0
    · intro p hp
      simp only [List.mem_map, List.mem_range] at hp
      obtain ⟨i, hi, rfl⟩ := hp
      exact ⟨D i, (hF i hi).2⟩
theorem list6 {α : Type} {cs : List α} (h : cs.length = 6) : ∃ c0 c1 c2 c3 c4 c5, cs = [c0, c1, c2, c3, c4, c5] := by
  match cs, h with
  | [c0, c1, c2, c3, c4, c5], _ => exact ⟨c0, c1, c2, c3, c4, c5, rfl⟩
def OkD {H : Type} (W : World) (v : OV) (d : DataW H) : Prop := (∃ (ps : List Pr) (keys : List Tx), v.np = ps.length ∧ v.nk = keys.length ∧ v.i < 18446744073709551616 ∧ v.y.size ≤ 140737488351232 ∧ Sl PE W v.ap v.cp ps ∧ Sl TE W v.ak v.ck keys ∧ (∀ x ∈ ps, x.2.size ≤ 140737488351232) ∧ (∀ x ∈ keys, x.size ≤ 140737488351232)) ∧ v.np + v.nk ≤ Rows.uptoBulk d
section
variable {H : Type} {enc : TypeId × Value → H} {W : World} {held : Bool}
set_option maxRecDepth 100000 in
theorem one_pair (fuel : Nat) (cs : List Value) (x : DataW H × List MemPlace) (h : DataW.trod enc Tryz.prog W 0 (fun _ => true) held fuel 70 cs = some x) (hw : ∀ n ∈ x.1.weights Tryz.prog 70, n ≤ reachBytes) :
    ∃ p : Pr, cs = PE.enc p ∧ p.2.size ≤ 140737488351232 := by
  obtain ⟨xs, n, _, rfl, hlen, hxl, hfs⟩ := DataW.trod_struct Tryz.underlying70 h
  rw [mcP] at hlen
  match cs, hlen with
  | [c0, c1], _ =>
    have hxl2 : xs.length = 2 := hxl
    match xs, hxl2 with
    | [x0, x1], _ =>
      obtain ⟨s0, e0, z0⟩ := one_text _ _ _ (hfs 0 _ rfl) (each_mem Tryz.underlying70 (j := 0) hw rfl rfl)
      obtain ⟨s1, e1, z1⟩ := one_text _ _ _ (hfs 1 _ rfl) (each_mem Tryz.underlying70 (j := 1) hw rfl rfl)
      have q0 : [c0] = [Value.string s0] := e0
      have q1 : [c1] = [Value.string s1] := e1
      injection q0 with q0 _
      injection q1 with q1 _
      subst q0 q1
      exact ⟨(s0, s1), rfl, z1⟩
set_option maxRecDepth 100000 in
theorem one_op (fuel : Nat) (cs : List Value) (x : DataW H × List MemPlace) (h : DataW.trod enc Tryz.prog W 0 (fun _ => true) held fuel 55 cs = some x) (hw : ∀ n ∈ x.1.weights Tryz.prog 55, n ≤ reachBytes) :
    ∃ v : OV, cs = OE.enc v ∧ OkD W v x.1 := by
  obtain ⟨xs, n, _, rfl, hlen, hxl, hff⟩ := DataW.trod_struct Tryz.underlying55 h
  rw [mcO] at hlen
  obtain ⟨c0, c1, c2, c3, c4, c5, rfl⟩ := list6 hlen
  obtain ⟨y0, y1, y2, y3, y4, y5, rfl⟩ := list6 hxl
  have f0 := hff 0 _ rfl
  have f1 := hff 1 _ rfl
  have f3 := hff 3 _ rfl
  have f4 := hff 4 _ rfl
  have f5 := hff 5 _ rfl
  obtain ⟨kd, e0, _, w0⟩ := DataW.trod_int (k := .i64) Tryz.underlying3 f0
  obtain ⟨i1, e1, _, w1⟩ := DataW.trod_int (k := .u64) Tryz.underlying46 f1
  obtain ⟨y, e2, z2⟩ := one_text _ _ _ (hff 2 _ rfl) (each_mem Tryz.underlying55 (j := 2) hw rfl rfl)
  obtain ⟨ap, np, cp, e3⟩ := is_slice (c := c3) Tryz.underlying53 f3
  obtain ⟨ak, nk, ck, e4⟩ := is_slice (c := c4) Tryz.underlying47 f4
  subst e3 e4
  obtain ⟨now, e5, _, w5⟩ := DataW.trod_int (k := .i64) Tryz.underlying2 f5
  obtain ⟨ps, lp, sp, gp, _, bp, _⟩ := open_listB PE okP p0 (fun p _ => p.2.size ≤ 140737488351232) (fun _ => 0) (fun _ _ _ => Nat.zero_le _) mcP mbP (fun fuel cs x h hw => one_pair fuel cs x h hw) f3 (each_mem Tryz.underlying55 (j := 3) hw rfl rfl)
  obtain ⟨keys, lk, sk, gk, _, bk, _⟩ := open_listB TE okT (⟨#[]⟩ : Tx) (fun p _ => p.size ≤ 140737488351232) (fun _ => 0) (fun _ _ _ => Nat.zero_le _) mc9 mb9 (fun fuel cs x h hw => one_text fuel cs x h hw) f4 (each_mem Tryz.underlying55 (j := 4) hw rfl rfl)
  have q0 : [c0] = [Value.int .i64 kd] := e0
  have q1 : [c1] = [Value.int .u64 i1] := e1
  have q2 : [c2] = [Value.string y] := e2
  have q5 : [c5] = [Value.int .i64 now] := e5
  injection q0 with q0 _
  injection q1 with q1 _
  injection q2 with q2 _
  injection q5 with q5 _
  subst q0 q1 q2 q5
  obtain ⟨i, rfl, hi⟩ := u64_nat w1
  refine ⟨⟨kd, i, y, ap, np, cp, ak, nk, ck, now⟩, rfl, ⟨ps, keys, lp.symm, lk.symm, hi, z2, sp, sk, fun x hx => (gp x hx).elim fun _ h => h, fun x hx => (gk x hx).elim fun _ h => h⟩, ?_⟩
  have bp' : np ≤ Rows.uptoBulk y3.1 := bp
  have bk' : nk ≤ Rows.uptoBulk y4.1 := bk
  simp only [Rows.uptoBulk, Rows.uptoBulkAll, List.map_cons, List.map_nil]
  omega
end
theorem sum_mem : ∀ (l : List OV) (v : OV), v ∈ l → v.np + v.nk ≤ (l.map (fun v => v.np + v.nk)).sum
  | [], v, h => by cases h
  | o :: l, v, h => by
    simp only [List.map_cons, List.sum_cons]
    rcases List.mem_cons.1 h with rfl | h
    · omega
    · have := sum_mem l v h; omega
theorem totP_sum (F : OV → PO) : ∀ (l : List OV), (∀ v ∈ l, v.np = (F v).ps.length) → totP (l.map F) ≤ (l.map (fun v => v.np + v.nk)).sum
  | [], _ => by simp [totP]
  | o :: l, h => by
    have := totP_sum F l (fun v hv => h v (List.mem_cons_of_mem _ hv))
    have := h o List.mem_cons_self
    simp only [totP, List.map_cons, List.sum_cons]; omega
/-- a script that came in -/
theorem open_script {H : Type} {enc : TypeId × Value → H} {W : World} {held : Bool} {fuel : Nat} {a : Option Addr} {len cap : Nat} {x : DataW H × List MemPlace}
    (hf : DataW.trod enc Tryz.prog W 0 (fun _ => true) held fuel 22 [.slice a len cap] = some x) (hw : ∀ n ∈ x.1.weights Tryz.prog 22, n ≤ reachBytes) (hb : Rows.uptoBulk x.1 ≤ 1048576) :
    ∃ l L, Scr W a len cap l L := by
  obtain ⟨l, hl, hs, hok, _, hb0, hsum⟩ := open_listB OE okO ov0 (OkD W) (fun v => v.np + v.nk) (fun p d h => h.2) mcO mbO (fun fuel cs x h hw => one_op fuel cs x h hw) hf hw
  have hex : ∀ v : OV, ∃ y : PO, v ∈ l → OkOp W v y := fun v => by
    by_cases hv : v ∈ l
    · obtain ⟨d, ⟨ps, keys, q1, q2, q3, q4, q5, q6, q7, q8⟩, _⟩ := hok v hv
      have := sum_mem l v hv
      exact ⟨⟨v.kd, v.i, v.y, ps, keys, v.now⟩, fun _ => ⟨rfl, rfl, rfl, rfl, q1, q2, q3, q4, q5, q6, q7, q8, by show ps.length ≤ _; omega, by show keys.length ≤ _; omega⟩⟩
    · exact ⟨po0, fun h => absurd h hv⟩
  obtain ⟨F, hF⟩ := Classical.axiomOfChoice hex
  refine ⟨l, l.map F, hl.symm, hs, ⟨by simp, fun j hj => ?_⟩, by omega, ?_⟩
  · have e : (l.map F).getD j po0 = F (l.getD j ov0) := by simp [List.getD_eq_getElem?_getD, hj]
    rw [e]
    exact hF _ (Orl.getD_mem_lt ov0 hj)
  · have := totP_sum F l (fun v hv => (hF v hv).np)
    omega
end Go.Proofs.YtbnohdgdadfjlaaGreatDoor
