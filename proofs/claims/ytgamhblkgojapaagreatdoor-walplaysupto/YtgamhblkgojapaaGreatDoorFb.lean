/- What came in: scripts of calls, and their bulk. -/
import Derived.Test.YtgamhblkgojapaaGreatDoorFo
namespace Go.Proofs.YtgamhblkgojapaaGreatDoor
open Go.ChangeShapes Go.WideShapes Go.ChangeAt Go.RowKit Go.Deep
set_option linter.unusedVariables false
set_option linter.unusedSimpArgs false

theorem bulk_one {H : Type} (d : DataW H) : 1 ≤ Rows.uptoBulk d := by
  cases d with
  | lit l => cases l <;> simp [Rows.uptoBulk]
  | _ => simp [Rows.uptoBulk]
theorem bulk_len {H : Type} : ∀ (l : List (DataW H)), l.length ≤ Rows.uptoBulkAll l
  | [] => by simp [Rows.uptoBulkAll]
  | d :: l => by
    have := bulk_len l
    have := bulk_one d
    simp only [Rows.uptoBulkAll, List.length_cons]; omega
theorem bulk_part {H : Type} : ∀ {l : List (DataW H)} {d : DataW H}, d ∈ l → Rows.uptoBulk d ≤ Rows.uptoBulkAll l
  | [], d, h => by cases h
  | x :: l, d, h => by
    simp only [Rows.uptoBulkAll]
    rcases List.mem_cons.1 h with rfl | h
    · omega
    · have := bulk_part h; omega
theorem bulk_two {H : Type} : ∀ (l : List (DataW H)), (∀ d ∈ l, 2 ≤ Rows.uptoBulk d) → l.length * 2 ≤ Rows.uptoBulkAll l
  | [], _ => by simp [Rows.uptoBulkAll]
  | d :: l, h => by
    have := bulk_two l (fun x hx => h x (List.mem_cons_of_mem _ hx))
    have := h d List.mem_cons_self
    simp only [Rows.uptoBulkAll, List.length_cons]; omega
theorem open_listB {H : Type} {α : Type} (E : El α) (hE : E.Ok) (z : α) (OKp : α → DataW H → Prop) (hcl : Tryz.prog.cellsOf E.e = E.k) (hby : Tryz.prog.bytesOf E.e = E.nb)
    {enc : TypeId × Value → H} {W : World} {held : Bool}
    (one : ∀ (fuel : Nat) (cs : List Value) (x : DataW H × List MemPlace), DataW.trod enc Tryz.prog W 0 (fun _ => true) held fuel E.e cs = some x → (∀ n ∈ x.1.weights Tryz.prog E.e, n ≤ reachBytes) → ∃ p, cs = E.enc p ∧ OKp p x.1)
    {fuel : Nat} {a : Option Addr} {len cap : Nat} {x : DataW H × List MemPlace}
    (hf : DataW.trod enc Tryz.prog W 0 (fun _ => true) held fuel E.t [.slice a len cap] = some x) (hw : ∀ n ∈ x.1.weights Tryz.prog E.t, n ≤ reachBytes) :
    ∃ ps : List α, ps.length = len ∧ Sl E W a cap ps ∧ (∀ p ∈ ps, ∃ d, OKp p d ∧ Rows.uptoBulk d ≤ Rows.uptoBulk x.1) ∧ cap * E.nb ≤ reachBytes ∧ ∃ l : List (DataW H), l.length = len ∧ Rows.uptoBulkAll l ≤ Rows.uptoBulk x.1 ∧ ∀ d ∈ l, ∃ p, OKp p d := by
  rcases open_slice hE.und hf with ⟨hcs, hx⟩ | ⟨y, l, c, m, n, D, Pl, hcs, _, hl, hm, hmm, hx, hel⟩
  · simp at hcs
    obtain ⟨rfl, rfl, rfl⟩ := hcs
    exact ⟨[], rfl, ⟨.inl rfl, by simp, fun _ => rfl⟩, fun p hp => (by cases hp), by simp [reachBytes], [], rfl, by simp [Rows.uptoBulkAll], fun d hd => (by cases hd)⟩
  · simp at hcs
    obtain ⟨rfl, rfl, rfl⟩ := hcs
    have hmm' : m = cap := by simpa using hmm
    subst hmm'
    have hw' : ∀ n ∈ (DataW.slice ((List.range len).map D) ((List.range (m - len)).map fun j => D (len + j))).weights Tryz.prog E.t, n ≤ reachBytes := by rw [hx] at hw; exact hw
    simp only [DataW.weights, hE.und] at hw'
    have hcapw := hw' _ (List.mem_cons_self)
    rw [hby] at hcapw
    simp only [List.length_map, List.length_range] at hcapw
    rw [show len + (m - len) = m by omega] at hcapw
    have each : ∀ i, i < len → ∃ p : α, (W.cells? 0 (y.add (i * E.k)) E.k = some (E.enc p)) ∧ OKp p (D i) := by
      intro i hi
      obtain ⟨cs', hc, ht⟩ := hel i (by omega)
      rw [hcl] at hc
      obtain ⟨p, rfl, h2⟩ := one n cs' _ ht (fun k hk => hw' k (List.mem_cons_of_mem _ (List.mem_append_left _ (weightsAll_mem (List.mem_map.2 ⟨i, by simp [hi], rfl⟩) k hk))))
      exact ⟨p, hc, h2⟩
    have hbe : ∀ i, i < len → Rows.uptoBulk (D i) ≤ Rows.uptoBulk x.1 := fun i hi => by
      rw [hx]
      have h1 := bulk_part (l := (List.range len).map D) (d := D i) (List.mem_map.2 ⟨i, by simp [hi], rfl⟩)
      simp only [Rows.uptoBulk]
      omega
    have inh : Inhabited α := ⟨z⟩
    obtain ⟨F, hF⟩ := choose_lt each
    have hget : ∀ j, j < len → ((List.range len).map F).getD j z = F j := fun j hj => by simp [List.getD_eq_getElem?_getD, hj]
    refine ⟨(List.range len).map F, by simp, ⟨?_, by simpa using hl, fun h => (by cases h)⟩, ?_, hcapw, (List.range len).map D, by simp, by rw [hx]; simp only [Rows.uptoBulk]; omega, fun d hd => ?_⟩
    · by_cases h0 : len = 0
      · left; subst h0; simp
      · obtain ⟨b, off, spot⟩ := y
        obtain ⟨_, hl2, hce⟩ := mcells?_get (hF 0 (by omega)).1
        have hc0 := hce 0 hE.pos
        have hspot : spot = none := by
          have h7 : (E.enc (F 0))[0]? = some ((E.enc (F 0))[0]'(by rw [hE.len]; exact hE.pos)) := List.getElem?_eq_getElem _
          rw [h7] at hc0
          simpa [Addr.add] using World.cell?_spot hc0
        subst hspot
        refine row_of_el hE z fun j hj k hk => ?_
        simp at hj
        obtain ⟨_, _, hce⟩ := mcells?_get (hF j hj).1
        have g0 := hce k hk
        rw [addr_add, addr_add] at g0
        rw [hget j hj]
        exact g0
    · intro p hp
      simp only [List.mem_map, List.mem_range] at hp
      obtain ⟨i, hi, rfl⟩ := hp
      exact ⟨D i, (hF i hi).2, hbe i hi⟩
    · simp only [List.mem_map, List.mem_range] at hd
      obtain ⟨i, hi, rfl⟩ := hd
      exact ⟨F i, (hF i hi).2⟩
def OkD {H : Type} (W : World) (v : OV) (d : DataW H) : Prop := ∃ r bs, OkO W v r bs ∧ bs.length ≤ Rows.uptoBulk d ∧ 2 ≤ Rows.uptoBulk d
section
variable {H : Type} {enc : TypeId × Value → H} {W : World} {held : Bool}
set_option maxRecDepth 100000 in
theorem one_opB (fuel : Nat) (cs : List Value) (x : DataW H × List MemPlace) (h : DataW.trod enc Tryz.prog W 0 (fun _ => true) held fuel 44 cs = some x) (hw : ∀ n ∈ x.1.weights Tryz.prog 44, n ≤ reachBytes) :
    ∃ v : OV, cs = OE.enc v ∧ OkD W v x.1 := by
  obtain ⟨xs, n, _, rfl, hlen, hxl, hff⟩ := DataW.trod_struct Tryz.underlying44 h
  rw [mcO] at hlen
  obtain ⟨c0, c1, c2, c3, c4, c5, c6, c7, c8, rfl⟩ := list9 hlen
  obtain ⟨y0, y1, y2, y3, y4, y5, rfl⟩ := list6 hxl
  have f0 := hff 0 _ rfl
  have f1 := hff 1 _ rfl
  have f2 := hff 2 _ rfl
  have f3 := hff 3 _ rfl
  have f5 := hff 5 _ rfl
  obtain ⟨kd, e0, _, w0⟩ := DataW.trod_int (k := .i64) Tryz.underlying3 f0
  obtain ⟨rv, e1, r, hr⟩ := one_rec _ _ _ f1 (each_mem Tryz.underlying44 (j := 1) hw rfl rfl)
  obtain ⟨zn, e2, _, w2⟩ := DataW.trod_int (k := .i64) Tryz.underlying3 f2
  obtain ⟨zk, e3, _, w3⟩ := DataW.trod_int (k := .i64) Tryz.underlying3 f3
  obtain ⟨s4, e4, z4⟩ := one_text _ _ _ (hff 4 _ rfl) (each_mem Tryz.underlying44 (j := 4) hw rfl rfl)
  obtain ⟨ob, nb, cb, e5⟩ := is_slice (c := c8) Tryz.underlying42 f5
  subst e5
  obtain ⟨bs, lb, sb, _, zb, lD, hlD, hlB, _⟩ := open_listB BU okU 0 (fun _ _ => True) mc5 mb5 (fun fuel cs x h hw => one_byte fuel cs x h hw) f5 (each_mem Tryz.underlying44 (j := 5) hw rfl rfl)
  have q0 : [c0] = [Value.int .i64 kd] := e0
  have q1 : [c1, c2, c3, c4] = [Value.int .i64 rv.k, Value.int .u64 (rv.i : Nat), Value.slice rv.op rv.np rv.cp, Value.slice rv.ok rv.nk rv.ck] := e1
  have q2 : [c5] = [Value.int .i64 zn] := e2
  have q3 : [c6] = [Value.int .i64 zk] := e3
  have q4 : [c7] = [Value.string s4] := e4
  injection q0 with q0 _
  injection q1 with q1 q1'
  injection q1' with q5 q1''
  injection q1'' with q6 q1'''
  injection q1''' with q7 _
  injection q2 with q2 _
  injection q3 with q3 _
  injection q4 with q4 _
  subst q0 q1 q2 q3 q4 q5 q6 q7
  have b2 := bounds_i64 w2
  have b3 := bounds_i64 w3
  have hc := sb.cap
  have zb' : cb * 1 ≤ reachBytes := zb
  rw [reach_eq] at zb'
  exact ⟨⟨kd, rv, zn, zk, s4, ob, nb, cb⟩, rfl, r, bs, ⟨hr, b2.1, b2.2, b3.1, b3.2, z4, lb.symm, sb, by omega⟩, by rw [lb, ← hlD]; have := bulk_len lD; simp only [Rows.uptoBulk, Rows.uptoBulkAll, List.map_cons, List.map_nil]; omega, by simp only [Rows.uptoBulk, Rows.uptoBulkAll, List.map_cons, List.map_nil]; have := bulk_one y0.1; have := bulk_one y1.1; omega⟩
end
end Go.Proofs.YtgamhblkgojapaaGreatDoor
