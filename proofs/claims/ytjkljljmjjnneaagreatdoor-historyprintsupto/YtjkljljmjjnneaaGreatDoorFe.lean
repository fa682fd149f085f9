/- The events that came in. -/
import Derived.Test.YtjkljljmjjnneaaGreatDoorFa
import Derived.Test.YtjkljljmjjnneaaGreatDoorFl
namespace Go.Proofs.YtjkljljmjjnneaaGreatDoor
open Go.ChangeShapes Go.WideShapes Go.ChangeAt Go.RowKit Go.Deep
set_option linter.unusedVariables false
set_option linter.unusedSimpArgs false

theorem mcells?_get {w : World} {base : Nat} {a : Addr} {n : Nat} {cs : List Value} (h : w.cells? base a n = some cs) : base ≤ a.block ∧ cs.length = n ∧ ∀ i, i < n → w.cell? (a.add i) = cs[i]? := by
  unfold World.cells? at h
  split at h
  · rename_i hb
    have hl := mapM_some_length h
    refine ⟨hb, by simpa using hl, fun i hi => ?_⟩
    have := mapM_some_get h i i (by simp [hi])
    simpa using this
  · cases h

theorem row_of_el {α : Type} {E : El α} (hE : E.Ok) (z : α) {W : World} {b off : Nat} {ss : List α} (h : ∀ j, j < ss.length → ∀ k, k < E.k → W.cell? ⟨b, off + j * E.k + k, none⟩ = (E.enc (ss.getD j z))[k]?) : Row E W (some ⟨b, off, none⟩) ss := by
  refine .inr ⟨b, off, rfl, fun j u hj => ?_⟩
  have hjl : j < ss.length * E.k := by
    have := (List.getElem?_eq_some_iff.mp hj).1
    rw [cells_length hE] at this
    exact this
  have hp := hE.pos
  have hd : j / E.k < ss.length := (Nat.div_lt_iff_lt_mul hp).2 hjl
  have hm : j % E.k < E.k := Nat.mod_lt _ hp
  have hc := cells_at hE z ss (j / E.k) (j % E.k) hd hm
  have hjj : j / E.k * E.k + j % E.k = j := Nat.div_add_mod' j E.k
  rw [hjj, hj] at hc
  have hh := h (j / E.k) hd (j % E.k) hm
  rw [Nat.add_assoc, hjj] at hh
  rw [hh, ← hc]

theorem bulk_one {H : Type} (d : DataW H) : 1 ≤ Rows.uptoBulk d := by
  cases d with
  | lit l => cases l <;> simp [Rows.uptoBulk]
  | _ => simp [Rows.uptoBulk]
theorem bulk_len {H : Type} : ∀ (l : List (DataW H)), l.length ≤ Rows.uptoBulkAll l
  | [] => by simp [Rows.uptoBulkAll]
  | d :: l => by
    have := bulk_len l
    have := bulk_one d
    simp only [Rows.uptoBulkAll, List.length_cons]; omega
/-- what each weighs, all together -/
theorem bulk_sum {H : Type} {α : Type} (f : α → Nat) (F : Nat → α) (D : Nat → DataW H) : ∀ (L : List Nat), (∀ i ∈ L, f (F i) ≤ Rows.uptoBulk (D i)) → ((L.map F).map f).sum ≤ Rows.uptoBulkAll (L.map D)
  | [], _ => by simp [Rows.uptoBulkAll]
  | i :: L, h => by
    have := bulk_sum f F D L (fun j hj => h j (List.mem_cons_of_mem _ hj))
    have := h i List.mem_cons_self
    simp only [List.map_cons, List.sum_cons, Rows.uptoBulkAll]
    omega
theorem open_listB {H : Type} {α : Type} (E : El α) (hE : E.Ok) (z : α) (OKp : α → DataW H → Prop) (f : α → Nat) (hfd : ∀ p d, OKp p d → f p ≤ Rows.uptoBulk d) (hcl : Tryz.prog.cellsOf E.e = E.k) (hby : Tryz.prog.bytesOf E.e = E.nb)
    {enc : TypeId × Value → H} {W : World} {held : Bool}
    (one : ∀ (fuel : Nat) (cs : List Value) (x : DataW H × List MemPlace), DataW.trod enc Tryz.prog W 0 (fun _ => true) held fuel E.e cs = some x → (∀ n ∈ x.1.weights Tryz.prog E.e, n ≤ reachBytes) → ∃ p, cs = E.enc p ∧ OKp p x.1)
    {fuel : Nat} {a : Option Addr} {len cap : Nat} {x : DataW H × List MemPlace}
    (hf : DataW.trod enc Tryz.prog W 0 (fun _ => true) held fuel E.t [.slice a len cap] = some x) (hw : ∀ n ∈ x.1.weights Tryz.prog E.t, n ≤ reachBytes) :
    ∃ ps : List α, ps.length = len ∧ Sl E W a cap ps ∧ (∀ p ∈ ps, ∃ d, OKp p d) ∧ cap * E.nb ≤ reachBytes ∧ len ≤ Rows.uptoBulk x.1 ∧ (ps.map f).sum ≤ Rows.uptoBulk x.1 := by
  rcases open_slice hE.und hf with ⟨hcs, hx⟩ | ⟨y, l, c, m, n, D, Pl, hcs, _, hl, hm, hmm, hx, hel⟩
  · simp at hcs
    obtain ⟨rfl, rfl, rfl⟩ := hcs
    exact ⟨[], rfl, ⟨.inl rfl, by simp, fun _ => rfl⟩, fun p hp => (by cases hp), by simp [reachBytes], by simp, by simp⟩
  · simp at hcs
    obtain ⟨rfl, rfl, rfl⟩ := hcs
    have hmm' : m = cap := by simpa using hmm
    subst hmm'
    have hw' : ∀ n ∈ (DataW.slice ((List.range len).map D) ((List.range (m - len)).map fun j => D (len + j))).weights Tryz.prog E.t, n ≤ reachBytes := by rw [hx] at hw; exact hw
    simp only [DataW.weights, hE.und] at hw'
    have hcapw := hw' _ (List.mem_cons_self)
    rw [hby] at hcapw
    simp only [List.length_map, List.length_range] at hcapw
    rw [show len + (m - len) = m by omega] at hcapw
    have each : ∀ i, i < len → ∃ p : α, (W.cells? 0 (y.add (i * E.k)) E.k = some (E.enc p)) ∧ OKp p (D i) := by
      intro i hi
      obtain ⟨cs', hc, ht⟩ := hel i (by omega)
      rw [hcl] at hc
      obtain ⟨p, rfl, h2⟩ := one n cs' _ ht (fun k hk => hw' k (List.mem_cons_of_mem _ (List.mem_append_left _ (weightsAll_mem (List.mem_map.2 ⟨i, by simp [hi], rfl⟩) k hk))))
      exact ⟨p, hc, h2⟩
    have inh : Inhabited α := ⟨z⟩
    obtain ⟨F, hF⟩ := choose_lt each
    have hget : ∀ j, j < len → ((List.range len).map F).getD j z = F j := fun j hj => by simp [List.getD_eq_getElem?_getD, hj]
    have hb1 : Rows.uptoBulkAll ((List.range len).map D) ≤ Rows.uptoBulk x.1 := by rw [hx]; simp only [Rows.uptoBulk]; omega
    refine ⟨(List.range len).map F, by simp, ⟨?_, by simpa using hl, fun h => (by cases h)⟩, ?_, hcapw, Nat.le_trans (by have := bulk_len ((List.range len).map D); simpa using this) hb1, Nat.le_trans (bulk_sum f F D _ (fun i hi => hfd _ _ (hF i (List.mem_range.1 hi)).2)) hb1⟩
    · by_cases h0 : len = 0
      · left; subst h0; simp
      · obtain ⟨b, off, spot⟩ := y
        obtain ⟨_, hl2, hce⟩ := mcells?_get (hF 0 (by omega)).1
        have hc0 := hce 0 hE.pos
        have hspot : spot = none := by
          have h7 : (E.enc (F 0))[0]? = some ((E.enc (F 0))[0]'(by rw [hE.len]; exact hE.pos)) := List.getElem?_eq_getElem _
          rw [h7] at hc0
          simpa [Addr.add] using World.cell?_spot hc0
        subst hspot
        refine row_of_el hE z fun j hj k hk => ?_
        simp at hj
        obtain ⟨_, _, hce⟩ := mcells?_get (hF j hj).1
        have g0 := hce k hk
        rw [addr_add, addr_add] at g0
        rw [hget j hj]
        exact g0
    · intro p hp
      simp only [List.mem_map, List.mem_range] at hp
      obtain ⟨i, hi, rfl⟩ := hp
      exact ⟨D i, (hF i hi).2⟩

theorem reach_eq : reachBytes = 140737488351232 := by decide
theorem mc9 : Tryz.prog.cellsOf 9 = 1 := by kernel_rfl
theorem mb9 : Tryz.prog.bytesOf 9 = 16 := by kernel_rfl
theorem mcP : Tryz.prog.cellsOf 49 = 2 := by kernel_rfl
theorem mbP : Tryz.prog.bytesOf 49 = 32 := by kernel_rfl
theorem mcV : Tryz.prog.cellsOf 56 = 4 := by kernel_rfl
theorem mbV : Tryz.prog.bytesOf 56 = 64 := by kernel_rfl
theorem mcE : Tryz.prog.cellsOf 36 = 10 := by kernel_rfl
theorem mbE : Tryz.prog.bytesOf 36 = 128 := by kernel_rfl
theorem mcA : Tryz.prog.cellsOf 34 = 4 := by kernel_rfl
def mT (t : Tx) : Nat := t.size + 1
def mP (p : Pr) : Nat := mT p.1 + mT p.2
def mV (v : Ver) : Nat := mT v.key + mT v.val + (v.keys.map mT).sum + 1
def mE (e : Ev) : Nat := (e.pairs.map mP).sum + (e.keys.map mT).sum + (e.vers.map mV).sum + 7
/-- cells with what they hold -/
def VE2 : El (RV × Ver) := ⟨56, 32, 4, 64, fun p => VE.enc p.1⟩
theorem okV2 : VE2.Ok := by
  obtain ⟨i0, hi, hz0, hz1, hz2⟩ := info_parts infoV
  exact ⟨fun _ => rfl, fun x u hu => okV.one x.1 u hu, by decide, Tryz.underlying32, i0, _, hi, hz0, hz1, hz2, rfl⟩
def EE2 : El (RE × Ev) := ⟨36, 23, 10, 128, fun p => EE.enc p.1⟩
theorem okE2 : EE2.Ok := by
  obtain ⟨i0, hi, hz0, hz1, hz2⟩ := info_parts infoE
  exact ⟨fun _ => rfl, fun x u hu => okE.one x.1 u hu, by decide, Tryz.underlying23, i0, _, hi, hz0, hz1, hz2, rfl⟩
theorem cells_fst {α β : Type} {E : El α} {F : El (α × β)} (h : F.enc = fun p => E.enc p.1) (ps : List (α × β)) : F.cells ps = E.cells (ps.map Prod.fst) := by
  unfold El.cells
  rw [h, List.flatMap_map]
theorem sl_fst {α β : Type} {E : El α} {F : El (α × β)} (h : F.enc = fun p => E.enc p.1) {W : World} {a : Option Addr} {c : Nat} {ps : List (α × β)} (hs : Sl F W a c ps) : Sl E W a c (ps.map Prod.fst) := by
  refine ⟨?_, by rw [List.length_map]; exact hs.cap, hs.nil⟩
  rcases hs.row with e | ⟨b, off, e, hc⟩
  · left; rw [e]; rfl
  · right
    refine ⟨b, off, e, fun j u hj => hc j u ?_⟩
    rw [cells_fst h]
    exact hj
section
variable {H : Type} {enc : TypeId × Value → H} {W : World} {held : Bool}
/-- a list's header -/
theorem is_slice {t e : TypeId} (ht : Tryz.prog.underlying t = some (.slice e)) {fuel : Nat} {c : Value} {x : DataW H × List MemPlace} (h : DataW.trod enc Tryz.prog W 0 (fun _ => true) held fuel t [c] = some x) : ∃ a len cap, c = .slice a len cap := by
  rcases open_slice ht h with ⟨hcs, hx⟩ | ⟨y, l, c, m, n, D, Pl, hcs, _⟩
  · exact ⟨_, _, _, by simpa using hcs⟩
  · exact ⟨_, _, _, by simpa using hcs⟩
/-- fields' weights -/
theorem each_mem {t : TypeId} {fs : Array Field} (ht : Tryz.prog.underlying t = some (.struct fs)) {xs : List (DataW H × List MemPlace)} (hw : ∀ n ∈ (DataW.agg (xs.map (·.1))).weights Tryz.prog t, n ≤ reachBytes) {j : Nat} {f : Field} {x : DataW H × List MemPlace} (hj : fs.toList[j]? = some f) (hx : xs[j]? = some x) : ∀ n ∈ x.1.weights Tryz.prog f.type, n ≤ reachBytes := by
  intro n hn
  refine hw n ?_
  simp only [DataW.weights, ht]
  exact DataW.weights_mem_each (j := j) (t := f.type) (d := x.1) (by simp [hj]) (by simp [hx]) n hn
theorem u64_nat {z : Int} (w : (Lit.int .u64 z).wf = true) : ∃ n : Nat, z = (n : Int) ∧ n < 18446744073709551616 := by
  have := bounds_u64 w
  exact ⟨z.toNat, by omega, by omega⟩
theorem one_textB (fuel : Nat) (cs : List Value) (x : DataW H × List MemPlace) (h : DataW.trod enc Tryz.prog W 0 (fun _ => true) held fuel 9 cs = some x) :
    ∃ p : Tx, cs = [.string p] ∧ mT p ≤ Rows.uptoBulk x.1 := by
  obtain ⟨s, rfl, rfl, _⟩ := DataW.trod_string Tryz.underlying9 h
  refine ⟨s, rfl, ?_⟩
  simp only [Rows.uptoBulk]
  rw [str_len]
  exact Nat.le_refl _
theorem open_txs {fuel : Nat} {a : Option Addr} {len cap : Nat} {x : DataW H × List MemPlace}
    (hf : DataW.trod enc Tryz.prog W 0 (fun _ => true) held fuel 31 [.slice a len cap] = some x) (hw : ∀ n ∈ x.1.weights Tryz.prog 31, n ≤ reachBytes) :
    ∃ ss : List Tx, ss.length = len ∧ Sl TE W a cap ss ∧ ss.length ≤ 8796093022000 ∧ (ss.map mT).sum ≤ Rows.uptoBulk x.1 := by
  obtain ⟨ss, h1, h2, _, h4, _, h6⟩ := open_listB TE okT e0 (fun p d => mT p ≤ Rows.uptoBulk d) mT (fun _ _ h => h) mc9 mb9 (fun fuel cs x h _ => one_textB fuel cs x h) hf hw
  have hc := h2.cap
  have h5 : cap * 16 ≤ reachBytes := h4
  rw [reach_eq] at h5
  exact ⟨ss, h1, h2, by omega, h6⟩
set_option maxRecDepth 100000 in
theorem one_pairB (fuel : Nat) (cs : List Value) (x : DataW H × List MemPlace) (h : DataW.trod enc Tryz.prog W 0 (fun _ => true) held fuel 49 cs = some x) :
    ∃ p : Pr, cs = PE.enc p ∧ mP p ≤ Rows.uptoBulk x.1 := by
  obtain ⟨xs, n, _, rfl, hlen, hxl, hfs⟩ := DataW.trod_struct Tryz.underlying49 h
  rw [mcP] at hlen
  match cs, hlen with
  | [c0, c1], _ =>
    have hxl2 : xs.length = 2 := hxl
    match xs, hxl2 with
    | [x0, x1], _ =>
      obtain ⟨s0, e0, z0⟩ := one_textB _ _ _ (hfs 0 _ rfl)
      obtain ⟨s1, e1, z1⟩ := one_textB _ _ _ (hfs 1 _ rfl)
      have q0 : [c0] = [Value.string s0] := e0
      have q1 : [c1] = [Value.string s1] := e1
      injection q0 with q0 _
      injection q1 with q1 _
      subst q0 q1
      refine ⟨(s0, s1), rfl, ?_⟩
      simp only [Rows.uptoBulk, Rows.uptoBulkAll, List.map_cons, List.map_nil]
      unfold mP
      have z0' : mT s0 ≤ Rows.uptoBulk x0.1 := z0
      have z1' : mT s1 ≤ Rows.uptoBulk x1.1 := z1
      simp only
      omega
theorem open_prs {fuel : Nat} {a : Option Addr} {len cap : Nat} {x : DataW H × List MemPlace}
    (hf : DataW.trod enc Tryz.prog W 0 (fun _ => true) held fuel 30 [.slice a len cap] = some x) (hw : ∀ n ∈ x.1.weights Tryz.prog 30, n ≤ reachBytes) :
    ∃ ss : List Pr, ss.length = len ∧ Sl PE W a cap ss ∧ ss.length ≤ 4398046511000 ∧ (ss.map mP).sum ≤ Rows.uptoBulk x.1 := by
  obtain ⟨ss, h1, h2, _, h4, _, h6⟩ := open_listB PE okP p0 (fun p d => mP p ≤ Rows.uptoBulk d) mP (fun _ _ h => h) mcP mbP (fun fuel cs x h _ => one_pairB fuel cs x h) hf hw
  have hc := h2.cap
  have h5 : cap * 32 ≤ reachBytes := h4
  rw [reach_eq] at h5
  exact ⟨ss, h1, h2, by omega, h6⟩
set_option maxRecDepth 100000 in
theorem one_verB (fuel : Nat) (cs : List Value) (x : DataW H × List MemPlace) (h : DataW.trod enc Tryz.prog W 0 (fun _ => true) held fuel 56 cs = some x) (hw : ∀ n ∈ x.1.weights Tryz.prog 56, n ≤ reachBytes) :
    ∃ p : RV × Ver, cs = VE2.enc p ∧ (VerOf W p.1 p.2 ∧ p.2.id < 18446744073709551616 ∧ p.2.keys.length ≤ 8796093022000) ∧ mV p.2 ≤ Rows.uptoBulk x.1 := by
  obtain ⟨xs, n, _, rfl, hlen, hxl, hfs⟩ := DataW.trod_struct Tryz.underlying56 h
  rw [mcV] at hlen
  match cs, hlen with
  | [c0, c1, c2, c3], _ =>
    have hxl2 : xs.length = 4 := hxl
    match xs, hxl2 with
    | [x0, x1, x2, x3], _ =>
      obtain ⟨s0, e0, z0⟩ := one_textB _ _ _ (hfs 0 _ rfl)
      obtain ⟨i1, e1, b1, w1⟩ := DataW.trod_int (k := .u64) Tryz.underlying29 (hfs 1 _ rfl)
      obtain ⟨s2, e2, z2⟩ := one_textB _ _ _ (hfs 2 _ rfl)
      have t3 := hfs 3 _ rfl
      obtain ⟨a, len, cap, e3⟩ := is_slice (c := c3) Tryz.underlying31 t3
      subst e3
      obtain ⟨ss, hl, hsl, hsz, hsm⟩ := open_txs t3 (each_mem Tryz.underlying56 (j := 3) hw rfl rfl)
      have q0 : [c0] = [Value.string s0] := e0
      have q1 : [c1] = [Value.int .u64 i1] := e1
      have q2 : [c2] = [Value.string s2] := e2
      injection q0 with q0 _
      injection q1 with q1 _
      injection q2 with q2 _
      subst q0 q1 q2
      obtain ⟨m, rfl, hm⟩ := u64_nat w1
      refine ⟨(⟨s0, m, s2, a, len, cap⟩, ⟨s0, m, s2, ss⟩), rfl, ⟨⟨rfl, rfl, rfl, hl.symm, hsl⟩, hm, hsz⟩, ?_⟩
      simp only [Rows.uptoBulk, Rows.uptoBulkAll, List.map_cons, List.map_nil]
      unfold mV
      have z0' : mT s0 ≤ Rows.uptoBulk x0.1 := z0
      have z2' : mT s2 ≤ Rows.uptoBulk x2.1 := z2
      have z3' : (ss.map mT).sum ≤ Rows.uptoBulk x3.1 := hsm
      have := bulk_one x1.1
      simp only
      omega
theorem vers_of {a : Option Addr} {c : Nat} {ps : List (RV × Ver)} (hs : Sl VE2 W a c ps) (h : ∀ p ∈ ps, VerOf W p.1 p.2) : Vers W a c (ps.map Prod.fst) (ps.map Prod.snd) := by
  refine ⟨sl_fst rfl hs, by rw [List.length_map, List.length_map], fun j hj => ?_⟩
  rw [List.length_map] at hj
  have := h ps[j] (List.getElem_mem hj)
  rw [show (ps.map Prod.fst).getD j r0 = ps[j].1 by simp [List.getD_eq_getElem?_getD, hj], show (ps.map Prod.snd).getD j v0 = ps[j].2 by simp [List.getD_eq_getElem?_getD, hj]]
  exact this
theorem open_vers {fuel : Nat} {a : Option Addr} {len cap : Nat} {x : DataW H × List MemPlace}
    (hf : DataW.trod enc Tryz.prog W 0 (fun _ => true) held fuel 32 [.slice a len cap] = some x) (hw : ∀ n ∈ x.1.weights Tryz.prog 32, n ≤ reachBytes) :
    ∃ (rs : List RV) (vs : List Ver), vs.length = len ∧ Vers W a cap rs vs ∧ vs.length ≤ 2199023255500 ∧ (∀ v ∈ vs, v.id < 18446744073709551616 ∧ v.keys.length ≤ 8796093022000) ∧ (vs.map mV).sum ≤ Rows.uptoBulk x.1 := by
  obtain ⟨ps, h1, h2, h3, h4, _, h6⟩ := open_listB VE2 okV2 (r0, v0) (fun p d => (VerOf W p.1 p.2 ∧ p.2.id < 18446744073709551616 ∧ p.2.keys.length ≤ 8796093022000) ∧ mV p.2 ≤ Rows.uptoBulk d) (fun p => mV p.2) (fun _ _ h => h.2) mcV mbV (fun fuel cs x h hw => one_verB fuel cs x h hw) hf hw
  have hc := h2.cap
  have h5 : cap * 64 ≤ reachBytes := h4
  rw [reach_eq] at h5
  refine ⟨ps.map Prod.fst, ps.map Prod.snd, by rw [List.length_map]; exact h1, vers_of h2 (fun p hp => by obtain ⟨d, hd⟩ := h3 p hp; exact hd.1.1), by rw [List.length_map]; omega, fun v hv => ?_, by rw [List.map_map]; exact h6⟩
  obtain ⟨p, hp, rfl⟩ := List.mem_map.1 hv
  obtain ⟨d, hd⟩ := h3 p hp
  exact hd.1.2
def OkEv (W : World) (p : RE × Ev) : Prop := EvOf W p.1 p.2 ∧ SzE p.2 ∧ I64 p.2.kind ∧ I64 p.2.client ∧ I64 p.2.txn ∧ I64 p.2.ares
theorem list10 {α : Type} {cs : List α} (h : cs.length = 10) : ∃ c0 c1 c2 c3 c4 c5 c6 c7 c8 c9, cs = [c0, c1, c2, c3, c4, c5, c6, c7, c8, c9] := by
  match cs, h with
  | [c0, c1, c2, c3, c4, c5, c6, c7, c8, c9], _ => exact ⟨c0, c1, c2, c3, c4, c5, c6, c7, c8, c9, rfl⟩
theorem list7 {α : Type} {cs : List α} (h : cs.length = 7) : ∃ c0 c1 c2 c3 c4 c5 c6, cs = [c0, c1, c2, c3, c4, c5, c6] := by
  match cs, h with
  | [c0, c1, c2, c3, c4, c5, c6], _ => exact ⟨c0, c1, c2, c3, c4, c5, c6, rfl⟩
theorem list4 {α : Type} {cs : List α} (h : cs.length = 4) : ∃ c0 c1 c2 c3, cs = [c0, c1, c2, c3] := by
  match cs, h with
  | [c0, c1, c2, c3], _ => exact ⟨c0, c1, c2, c3, rfl⟩
set_option maxRecDepth 100000 in
theorem one_event (fuel : Nat) (cs : List Value) (x : DataW H × List MemPlace) (h : DataW.trod enc Tryz.prog W 0 (fun _ => true) held fuel 36 cs = some x) (hw : ∀ n ∈ x.1.weights Tryz.prog 36, n ≤ reachBytes) :
    ∃ p : RE × Ev, cs = EE2.enc p ∧ OkEv W p ∧ mE p.2 ≤ Rows.uptoBulk x.1 := by
  obtain ⟨xs, n, _, rfl, hlen, hxl, hff⟩ := DataW.trod_struct Tryz.underlying36 h
  rw [mcE] at hlen
  obtain ⟨c0, c1, c2, c3, c4, c5, c6, c7, c8, c9, rfl⟩ := list10 hlen
  obtain ⟨y0, y1, y2, y3, y4, y5, y6, rfl⟩ := list7 hxl
  obtain ⟨z0, e0, _, w0⟩ := DataW.trod_int (k := .i64) Tryz.underlying3 (hff 0 _ rfl)
  obtain ⟨z1, e1, _, w1⟩ := DataW.trod_int (k := .i64) Tryz.underlying3 (hff 1 _ rfl)
  obtain ⟨z2, e2, _, w2⟩ := DataW.trod_int (k := .i64) Tryz.underlying3 (hff 2 _ rfl)
  obtain ⟨z3, e3, _, w3⟩ := DataW.trod_int (k := .u64) Tryz.underlying29 (hff 3 _ rfl)
  have f4 := hff 4 _ rfl
  have f5 := hff 5 _ rfl
  have f6 : DataW.trod enc Tryz.prog W 0 (fun _ => true) held n 34 [c6, c7, c8, c9] = some y6 := hff 6 _ rfl
  have hw6 := each_mem Tryz.underlying36 (j := 6) hw rfl rfl
  obtain ⟨po, pn, pc, g4⟩ := is_slice (c := c4) Tryz.underlying30 f4
  obtain ⟨ko, kn, kc, g5⟩ := is_slice (c := c5) Tryz.underlying31 f5
  subst g4 g5
  obtain ⟨ps, l4, s4, n4, m4⟩ := open_prs f4 (each_mem Tryz.underlying36 (j := 4) hw rfl rfl)
  obtain ⟨ks, l5, s5, n5, m5⟩ := open_txs f5 (each_mem Tryz.underlying36 (j := 5) hw rfl rfl)
  obtain ⟨xa, n6, _, ea, hla, hxa, hfa⟩ := DataW.trod_struct Tryz.underlying34 f6
  subst ea
  obtain ⟨a0, a1, a2, a3, rfl⟩ := list4 hxa
  obtain ⟨t0, b0, _, v0'⟩ := DataW.trod_int (k := .i64) Tryz.underlying3 (hfa 0 _ rfl)
  obtain ⟨t1, b1, _, v1⟩ := DataW.trod_int (k := .i64) Tryz.underlying3 (hfa 1 _ rfl)
  obtain ⟨t2, b2, _, v2⟩ := DataW.trod_int (k := .u64) Tryz.underlying29 (hfa 2 _ rfl)
  have f9 := hfa 3 _ rfl
  obtain ⟨vo, vn, vc, g9⟩ := is_slice (c := c9) Tryz.underlying32 f9
  subst g9
  obtain ⟨rs, vs, l9, s9, n9, i9, m9⟩ := open_vers f9 (each_mem Tryz.underlying34 (j := 3) hw6 rfl rfl)
  have q0 : [c0] = [Value.int .i64 z0] := e0
  have q1 : [c1] = [Value.int .i64 z1] := e1
  have q2 : [c2] = [Value.int .i64 z2] := e2
  have q3 : [c3] = [Value.int .u64 z3] := e3
  have q6 : [c6] = [Value.int .i64 t0] := b0
  have q7 : [c7] = [Value.int .i64 t1] := b1
  have q8 : [c8] = [Value.int .u64 t2] := b2
  injection q0 with q0 _
  injection q1 with q1 _
  injection q2 with q2 _
  injection q3 with q3 _
  injection q6 with q6 _
  injection q7 with q7 _
  injection q8 with q8 _
  subst q0 q1 q2 q3 q6 q7 q8
  obtain ⟨i, rfl, hi⟩ := u64_nat w3
  obtain ⟨ai, rfl, hai⟩ := u64_nat v2
  have k0 := i64_lit w0
  have k1 := i64_lit w1
  have k2 := i64_lit w2
  have k7 := i64_lit v1
  refine ⟨(⟨z0, z1, z2, i, po, pn, pc, ko, kn, kc, t0, t1, ai, vo, vn, vc⟩, ⟨z0, z1, z2, i, ps, ks, t0, t1, ai, vs⟩), rfl, ⟨⟨rfl, rfl, rfl, rfl, l4.symm, s4, l5.symm, s5, rfl, rfl, rfl, l9.symm, rs, s9⟩, ⟨hi, hai, fun v hv => (i9 v hv).1, n4, n5, n9, fun v hv => (i9 v hv).2, by simp only; omega⟩, k0, k1, k2, k7⟩, ?_⟩
  simp only [Rows.uptoBulk, Rows.uptoBulkAll, List.map_cons, List.map_nil]
  unfold mE
  have z4' : (ps.map mP).sum ≤ Rows.uptoBulk y4.1 := m4
  have z5' : (ks.map mT).sum ≤ Rows.uptoBulk y5.1 := m5
  have z9' : (vs.map mV).sum ≤ Rows.uptoBulk a3.1 := m9
  have := bulk_one y0.1
  have := bulk_one y1.1
  have := bulk_one y2.1
  have := bulk_one y3.1
  have := bulk_one a0.1
  have := bulk_one a1.1
  have := bulk_one a2.1
  simp only [Rows.uptoBulk, Rows.uptoBulkAll, List.map_cons, List.map_nil]
  omega
end
theorem wtT_m (t : Tx) : wtT t + 1 ≤ 10 * mT t := by unfold wtT mT; omega
theorem sum_mul {α : Type} (f g : α → Nat) (m : Nat) : ∀ l : List α, (∀ a ∈ l, f a ≤ m * g a) → (l.map f).sum ≤ m * (l.map g).sum
  | [], _ => by simp
  | a :: l, h => by
    simp only [List.map_cons, List.sum_cons]
    have := h a (List.mem_cons_self)
    have := sum_mul f g m l (fun b hb => h b (List.mem_cons_of_mem _ hb))
    rw [Nat.mul_add]
    omega
theorem wtV_m (v : Ver) : wtV v + 1 ≤ 15 * mV v := by
  have h := sum_mul (fun k => wtT k + 1) mT 10 v.keys (fun k _ => wtT_m k)
  unfold wtV mV
  have := wtT_m v.key
  have := wtT_m v.val
  unfold wtT mT at *
  omega
theorem wtE_m (e : Ev) : wtE e ≤ 15 * mE e := by
  have h1 := sum_mul wtP mP 10 e.pairs (fun p _ => by unfold wtP mP; have := wtT_m p.1; have := wtT_m p.2; unfold wtT mT at *; omega)
  have h2 := sum_mul (fun k => wtT k + 1) mT 10 e.keys (fun k _ => wtT_m k)
  have h3 := sum_mul (fun v => wtV v + 1) mV 15 e.vers (fun v _ => wtV_m v)
  unfold wtE mE
  omega
/-- a list of events that came in -/
theorem open_events {H : Type} {enc : TypeId × Value → H} {W : World} {held : Bool} {fuel : Nat} {a : Option Addr} {len cap : Nat} {x : DataW H × List MemPlace}
    (hf : DataW.trod enc Tryz.prog W 0 (fun _ => true) held fuel 23 [.slice a len cap] = some x) (hw : ∀ n ∈ x.1.weights Tryz.prog 23, n ≤ reachBytes) (hB : Rows.uptoBulk x.1 ≤ 1048576) :
    ∃ (rs : List RE) (es : List Ev), len = es.length ∧ Evs W a cap rs es ∧ RawOk es ∧ len ≤ 1048576 := by
  obtain ⟨ps, h1, h2, h3, _, h5, h6⟩ := open_listB EE2 okE2 (re0, ev0) (fun p d => OkEv W p ∧ mE p.2 ≤ Rows.uptoBulk d) (fun p => mE p.2) (fun _ _ h => h.2) mcE mbE (fun fuel cs x h hw => one_event fuel cs x h hw) hf hw
  have hm : ∀ e ∈ ps.map Prod.snd, ∃ p ∈ ps, p.2 = e ∧ OkEv W p := fun e he => by
    obtain ⟨p, hp, rfl⟩ := List.mem_map.1 he
    obtain ⟨d, hd⟩ := h3 p hp
    exact ⟨p, hp, rfl, hd.1⟩
  refine ⟨ps.map Prod.fst, ps.map Prod.snd, by rw [List.length_map]; exact h1.symm, ⟨sl_fst rfl h2, by rw [List.length_map, List.length_map], fun j hj => ?_⟩, ⟨fun e he => ?_, fun e he => ?_, fun e he => ?_, fun e he => ?_, fun e he => ?_, ?_⟩, by omega⟩
  · rw [List.length_map] at hj
    obtain ⟨d, hd⟩ := h3 ps[j] (List.getElem_mem hj)
    rw [show (ps.map Prod.fst).getD j re0 = ps[j].1 by simp [List.getD_eq_getElem?_getD, hj], show (ps.map Prod.snd).getD j ev0 = ps[j].2 by simp [List.getD_eq_getElem?_getD, hj]]
    exact hd.1.1
  · obtain ⟨p, _, rfl, h⟩ := hm e he; exact h.2.1
  · obtain ⟨p, _, rfl, h⟩ := hm e he; exact h.2.2.1
  · obtain ⟨p, _, rfl, h⟩ := hm e he; exact h.2.2.2.1
  · obtain ⟨p, _, rfl, h⟩ := hm e he; exact h.2.2.2.2.1
  · obtain ⟨p, _, rfl, h⟩ := hm e he; exact h.2.2.2.2.2
  · have h7 := sum_mul wtE mE 15 (ps.map Prod.snd) (fun e _ => wtE_m e)
    rw [List.map_map] at h7
    have h8 : (ps.map (mE ∘ Prod.snd)).sum ≤ Rows.uptoBulk x.1 := h6
    rw [List.map_map] at h7 ⊢
    omega
end Go.Proofs.YtjkljljmjjnneaaGreatDoor
