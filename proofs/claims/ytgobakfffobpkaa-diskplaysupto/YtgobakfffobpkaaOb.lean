/- A disk in memory: a block, a map, a block a file, a slice of bytes a file. -/
import Derived.Test.YtgobakfffobpkaaKin
namespace Go.Proofs.Ytgobakfffobpkaa
open Go.RowKit Dk
set_option linter.unusedVariables false
set_option linter.unusedSimpArgs false

/-- a file in memory -/
structure Lo where
  p : Nat
  o : Option Addr
  c : Nat
  bs : List UInt8
  sy : Nat
def Lo.fl (x : Lo) : Fl := ⟨x.bs, x.sy⟩
def fcells (x : Lo) : Array Value := #[.slice x.o x.bs.length x.c, .int .i64 ((x.sy : Nat) : Int)]
structure FileAt (w : World) (x : Lo) : Prop where
  blk : w.heap[x.p]? = some (.cells (fcells x) 72 (0, 0))
  own : Own BE w x.o x.c x.bs

/-- how a file's pointer reads -/
def R70 : Value → Option (DataW Unit × List MemPlace)
  | .pointer none => some (.nil, [])
  | .pointer (some a) => if a.off = 0 ∧ a.spot = none then some (.lit (.int .i64 ((a.block : Nat) : Int)), []) else none
  | _ => none
theorem R70_nil : R70 (.pointer none) = some (.nil, []) := rfl
theorem R70_mk (p : Nat) : R70 (.pointer (some ⟨p, 0, none⟩)) = some (.lit (.int .i64 ((p : Nat) : Int)), []) := by simp [R70]
theorem R70_inv {v : Value} {y : DataW Unit × List MemPlace} (h : R70 v = some y) : (v = .pointer none ∧ y.1 = .nil) ∨ ∃ p : Nat, v = .pointer (some ⟨p, 0, none⟩) ∧ y.1 = .lit (.int .i64 ((p : Nat) : Int)) := by
  unfold R70 at h
  split at h
  · cases h; exact .inl ⟨rfl, rfl⟩
  · rename_i a
    split at h
    · rename_i hc
      cases h
      obtain ⟨b, off, spot⟩ := a
      obtain ⟨rfl, rfl⟩ := hc
      exact .inr ⟨b, rfl, rfl⟩
    · cases h
  · cases h
theorem R70_shape (v : Value) (y : DataW Unit × List MemPlace) (h : R70 v = some y) : ∃ c : Option Addr, v = .pointer c := by
  rcases R70_inv h with ⟨rfl, _⟩ | ⟨p, rfl, _⟩ <;> exact ⟨_, rfl⟩
theorem law9 : Maps.Keyed Try.prog 9 := Maps.string_keyed Try.underlying9
theorem key9 (s : Tx) (h : s.size ≤ maxLen) : keyOf Try.prog 9 (.string s) = some (.string s.data.toList) := by
  simp [keyOf, Try.underlying9, mapKey, h]
theorem key9_inv (key : Value) (kl : Lit) (h : keyOf Try.prog 9 key = some kl) : ∃ s : Tx, key = .string s := by
  cases key <;> simp [keyOf, Try.underlying9, mapKey] at h
  exact ⟨_, rfl⟩
theorem key9_lit {s : Tx} {kl : Lit} (h : keyOf Try.prog 9 (.string s) = some kl) : kl = .string s.data.toList := by
  simp [keyOf, Try.underlying9, mapKey] at h
  exact h.2.symm

abbrev LL := List (Nm × Lo)
def dat1 (q : Nm × Lo) : Lit × DataW Unit := (.string q.1, .lit (.int .i64 ((q.2.p : Nat) : Int)))
def dat (L : LL) : DataW Unit := .map (L.map dat1)
theorem dat_ins (n : Nm) (x : Lo) : ∀ L : LL, (ins (n, x) L).map dat1 = DataW.insert (dat1 (n, x)) (L.map dat1)
  | [] => rfl
  | y :: r => by
    have ih := dat_ins n x r
    simp only [ins, List.map_cons, DataW.insert]
    have e : (dat1 (n, x)).1.before (dat1 y).1 = bytesBefore n y.1 := rfl
    rw [e]
    split
    · simp
    · rw [List.map_cons, ih]
theorem dat_del' (n : Nm) (L : LL) : (del n L).map dat1 = (L.map dat1).filter (fun p => !p.1.sameKey (.string n)) := by
  rw [List.filter_map]
  rfl
theorem dat_del (n : Nm) (L : LL) : (dat L).del (.string n) = dat (del n L) := by
  show DataW.map _ = DataW.map _
  rw [dat_del']
theorem dat_put (n : Nm) (x : Lo) (L : LL) : (dat L).put (.string n) (.lit (.int .i64 ((x.p : Nat) : Int))) = dat (put n x L) := by
  show DataW.map _ = DataW.map _
  rw [put, dat_ins, dat_del']
  rfl
theorem dat_at (n : Nm) (zd : DataW Unit) : ∀ L : LL, (dat L).atKey (.string n) zd = match find n L with | none => zd | some x => .lit (.int .i64 ((x.p : Nat) : Int))
  | [] => rfl
  | y :: r => by
    have ih := dat_at n zd r
    simp only [dat, DataW.atKey, List.map_cons, List.find?_cons, find] at ih ⊢
    have e : (dat1 y).1.sameKey (.string n) = (y.1 == n) := rfl
    rw [e]
    cases h : (y.1 == n)
    · simpa using ih
    · simp [dat1]
theorem dat_size (L : LL) : Maps.size (dat L) = L.length := by simp [dat, Maps.size]
theorem dat_has (n : Nm) : ∀ L : LL, Maps.has (dat L) (.string n) = (find n L).isSome
  | [] => rfl
  | y :: r => by
    have ih := dat_has n r
    simp only [dat, Maps.has, List.map_cons, List.any_cons, find] at ih ⊢
    have e : (dat1 y).1.sameKey (.string n) = (y.1 == n) := rfl
    rw [e, ih]
    cases h : (y.1 == n) <;> simp
theorem dat_same {n : Nm} {x x' : Lo} {L : LL} (hL : Inc L) (hf : find n L = some x) (hp : x'.p = x.p) : dat (put n x' L) = dat L := by
  rw [← dat_put, hp, dat_put, put_same hL hf]

theorem dat_mapv (g : Lo → Lo) (hg : ∀ x, (g x).p = x.p) (L : LL) : dat (mapv g L) = dat L := by
  simp [dat, mapv, dat1, Function.comp_def, hg]
def IsM (w : World) (bm : Nat) (L : LL) : Prop := w.ownsMap Try.prog 9 R70 bm L.length (dat L)
theorem IsM.keeps {S : Nat → Prop} {w w' : World} {bm : Nat} {L : LL} (h : IsM w bm L) (hk : Keeps S w w') (hb : ¬ S bm) : IsM w' bm L := by
  obtain ⟨es, clock, hh, r⟩ := h
  exact ⟨es, clock, hk.at hh hb, r⟩
theorem IsM.obj {w : World} {bm : Nat} {L : LL} (h : IsM w bm L) : ∃ es clock, w.heap[bm]? = some (.map es clock) := by
  obtain ⟨es, clock, hh, r⟩ := h
  exact ⟨es, clock, hh⟩
theorem isM_of {w : World} {bm n : Nat} {L : LL} (h : w.ownsMap Try.prog 9 R70 bm n (dat L)) : IsM w bm L := by
  obtain ⟨es, clock, hh, F, hs, hD⟩ := h
  refine ⟨es, clock, hh, F, ?_, hD⟩
  have : Maps.size (dat L) = es.size := by rw [hD]; simp [Maps.size, length_sorted]
  rw [dat_size] at this
  omega

/-- five cells of a disk -/
def dcells (bm : Nat) (off : Bool) (ref : Nat) (c keep : Int) : Array Value := #[.map (some bm), .bool off, .int .i64 ((ref : Nat) : Int), .int .i64 c, .int .i64 keep]
def i64 (x : Int) : Prop := -9223372036854775808 ≤ x ∧ x ≤ 9223372036854775807
/-- a disk at p, with all that it holds, in the blocks of F -/
structure DL (w : World) (p : Nat) (F : Nat → Prop) (s : St) (bm : Nat) (c : Int) (L : LL) : Prop where
  blk : w.heap[p]? = some (.cells (dcells bm s.off s.ref c s.keep) 68 (0, 0))
  map : IsM w bm L
  fs : s.fs = mapv Lo.fl L
  files : ∀ q ∈ L, FileAt w q.2
  apart : L.Pairwise fun q r => q.2.p ≠ r.2.p ∧ ∀ k, inO q.2.o k → ¬ inO r.2.o k
  fp : F p
  fm : F bm
  ff : ∀ q ∈ L, F q.2.p ∧ ∀ k, inO q.2.o k → F k
  lt : ∀ k, F k → k < w.heap.size
  ok : Ok s
  cc : max c (-1) = s.calls
  ci : i64 c
  ki : i64 s.keep
  ri : (s.ref : Int) ≤ 9223372036854775807
def IsD (w : World) (p : Nat) (F : Nat → Prop) (s : St) : Prop := ∃ bm c L, DL w p F s bm c L

theorem FileAt.keeps {S : Nat → Prop} {w w' : World} {x : Lo} (h : FileAt w x) (hk : Keeps S w w') (hp : ¬ S x.p) (ho : ∀ k, inO x.o k → ¬ S k) : FileAt w' x := ⟨hk.at h.blk hp, h.own.keeps hk ho⟩
theorem DL.keeps {S : Nat → Prop} {w w' : World} {p : Nat} {F : Nat → Prop} {s : St} {bm : Nat} {c : Int} {L : LL} (h : DL w p F s bm c L) (hk : Keeps S w w') (hS : ∀ k, F k → ¬ S k) : DL w' p F s bm c L :=
  ⟨hk.at h.blk (hS p h.fp), h.map.keeps hk (hS bm h.fm), h.fs, fun q hq => (h.files q hq).keeps hk (hS _ (h.ff q hq).1) (fun k hh => hS k ((h.ff q hq).2 k hh)), h.apart, h.fp, h.fm, h.ff, fun k hk' => Nat.lt_of_lt_of_le (h.lt k hk') hk.size, h.ok, h.cc, h.ci, h.ki, h.ri⟩
theorem IsD.keeps {S : Nat → Prop} {w w' : World} {p : Nat} {F : Nat → Prop} {s : St} (h : IsD w p F s) (hk : Keeps S w w') (hS : ∀ k, F k → ¬ S k) : IsD w' p F s := by
  obtain ⟨bm, c, L, h⟩ := h
  exact ⟨bm, c, L, h.keeps hk hS⟩
theorem IsD.keepsN {w w' : World} {p : Nat} {F : Nat → Prop} {s : St} (h : IsD w p F s) (hk : Keeps no w w') : IsD w' p F s := h.keeps hk (fun _ _ => id)
theorem IsD.ok {w : World} {p : Nat} {F : Nat → Prop} {s : St} (h : IsD w p F s) : Ok s := by
  obtain ⟨bm, c, L, h⟩ := h
  exact h.ok
theorem IsD.lt {w : World} {p : Nat} {F : Nat → Prop} {s : St} (h : IsD w p F s) : ∀ k, F k → k < w.heap.size := by
  obtain ⟨bm, c, L, h⟩ := h
  exact h.lt
/-- more blocks -/
theorem DL.wide {w : World} {p : Nat} {F F' : Nat → Prop} {s : St} {bm : Nat} {c : Int} {L : LL} (h : DL w p F s bm c L) (hF : ∀ k, F k → F' k) (hl : ∀ k, F' k → k < w.heap.size) : DL w p F' s bm c L :=
  ⟨h.blk, h.map, h.fs, h.files, h.apart, hF _ h.fp, hF _ h.fm, fun q hq => ⟨hF _ (h.ff q hq).1, fun k hk => hF _ ((h.ff q hq).2 k hk)⟩, hl, h.ok, h.cc, h.ci, h.ki, h.ri⟩

theorem ne_cells {w : World} {a b : Nat} {ca cb : Array Value} {ta tb : TypeId} {fa fb : Nat × Nat} (ha : w.heap[a]? = some (.cells ca ta fa)) (hb : w.heap[b]? = some (.cells cb tb fb)) (ht : ta ≠ tb) : a ≠ b := by
  rintro rfl
  rw [ha] at hb
  injection hb with hb
  injection hb with _ hb _
  exact ht hb
theorem ne_map {w : World} {a b : Nat} {ca : Array Value} {ta : TypeId} {fa : Nat × Nat} {es : Array MapEntry} {cl : Nat} (ha : w.heap[a]? = some (.cells ca ta fa)) (hb : w.heap[b]? = some (.map es cl)) : a ≠ b := by
  rintro rfl
  rw [ha] at hb
  cases hb
/-- unlike kinds of blocks are unlike blocks -/
theorem DL.p_bm {w : World} {p : Nat} {F : Nat → Prop} {s : St} {bm : Nat} {c : Int} {L : LL} (h : DL w p F s bm c L) : p ≠ bm := by
  obtain ⟨es, cl, hm⟩ := h.map.obj
  exact ne_map h.blk hm
theorem FileAt.ne_p {w : World} {x : Lo} {p : Nat} {cs : Array Value} (h : FileAt w x) (hb : w.heap[p]? = some (.cells cs 68 (0, 0))) : x.p ≠ p := ne_cells h.blk hb (by decide)
theorem FileAt.ne_bm {w : World} {x : Lo} {bm : Nat} {L : LL} (h : FileAt w x) (hm : IsM w bm L) : x.p ≠ bm := by
  obtain ⟨es, cl, hm⟩ := hm.obj
  exact ne_map h.blk hm
theorem FileAt.o_p {w : World} {x y : Lo} (h : FileAt w x) (h' : FileAt w y) : ∀ k, inO x.o k → k ≠ y.p := by
  intro k hk
  obtain ⟨cur, hc⟩ := h.own.tag k hk
  exact ne_cells hc h'.blk (by decide)
theorem FileAt.o_d {w : World} {x : Lo} {p : Nat} {cs : Array Value} (h : FileAt w x) (hb : w.heap[p]? = some (.cells cs 68 (0, 0))) : ∀ k, inO x.o k → k ≠ p := by
  intro k hk
  obtain ⟨cur, hc⟩ := h.own.tag k hk
  exact ne_cells hc hb (by decide)
theorem FileAt.o_bm {w : World} {x : Lo} {bm : Nat} {L : LL} (h : FileAt w x) (hm : IsM w bm L) : ∀ k, inO x.o k → k ≠ bm := by
  intro k hk
  obtain ⟨cur, hc⟩ := h.own.tag k hk
  obtain ⟨es, cl, hm⟩ := hm.obj
  exact ne_map hc hm

theorem apart_of {L : LL} (ha : L.Pairwise fun q r => q.2.p ≠ r.2.p ∧ ∀ k, inO q.2.o k → ¬ inO r.2.o k) {q r : Nm × Lo} (hq : q ∈ L) (hr : r ∈ L) (hne : q.1 ≠ r.1) : q.2.p ≠ r.2.p ∧ ∀ k, inO q.2.o k → ¬ inO r.2.o k := by
  induction L with
  | nil => simp at hq
  | cons a t ih =>
    obtain ⟨h1, h2⟩ := List.pairwise_cons.1 ha
    rcases List.mem_cons.1 hq with rfl | hq'
    · rcases List.mem_cons.1 hr with rfl | hr'
      · exact absurd rfl hne
      · exact h1 r hr'
    · rcases List.mem_cons.1 hr with rfl | hr'
      · obtain ⟨a1, a2⟩ := h1 q hq'
        exact ⟨a1.symm, fun k hk hk' => a2 k hk' hk⟩
      · exact ih h2 hq' hr'
theorem apart_mk {L : LL} (hL : Inc L) (h : ∀ q ∈ L, ∀ r ∈ L, q.1 ≠ r.1 → q.2.p ≠ r.2.p ∧ ∀ k, inO q.2.o k → ¬ inO r.2.o k) : L.Pairwise fun q r => q.2.p ≠ r.2.p ∧ ∀ k, inO q.2.o k → ¬ inO r.2.o k := by
  refine List.Pairwise.imp_of_mem ?_ (inc_nodup hL)
  intro a b ha hb hne
  exact h a ha b hb hne
theorem DL.inc {w : World} {p : Nat} {F : Nat → Prop} {s : St} {bm : Nat} {c : Int} {L : LL} (h : DL w p F s bm c L) : Inc L := by
  have := h.ok.inc
  rw [h.fs] at this
  rw [inc_names, names_mapv, ← inc_names] at this
  exact this
theorem DL.len {w : World} {p : Nat} {F : Nat → Prop} {s : St} {bm : Nat} {c : Int} {L : LL} (h : DL w p F s bm c L) : s.fs.length = L.length := by rw [h.fs, length_mapv]
theorem DL.find {w : World} {p : Nat} {F : Nat → Prop} {s : St} {bm : Nat} {c : Int} {L : LL} (h : DL w p F s bm c L) (n : Nm) : find n s.fs = (find n L).map Lo.fl := by rw [h.fs, find_mapv]

/-- one file turns -/
theorem DL.upd {w w' : World} {p : Nat} {F F' : Nat → Prop} {s : St} {bm : Nat} {c : Int} {L : LL} (h : DL w p F s bm c L) {n : Nm} {x x' : Lo} (hf : Dk.find n L = some x)
    (hk : Keeps (fun k => k = x.p ∨ inO x.o k) w w') (hx : FileAt w' x') (hp : x'.p = x.p) (ho : ∀ k, inO x'.o k → inO x.o k ∨ w.heap.size ≤ k) (hF : ∀ k, F k → F' k) (hF2 : ∀ k, inO x'.o k → F' k) (hl : ∀ k, F' k → k < w'.heap.size)
    (hok : Ok { s with fs := put n x'.fl s.fs }) : DL w' p F' { s with fs := put n x'.fl s.fs } bm c (put n x' L) := by
  have hm := find_mem hf
  have hxw := h.files _ hm
  have hin : ∀ q ∈ L, q.1 ≠ n → FileAt w' q.2 := fun q hq hne => by
    have hap := apart_of h.apart hq hm hne
    have hqw := h.files q hq
    refine hqw.keeps hk ?_ ?_
    · rintro (e | e)
      · exact hap.1 e
      · exact hxw.o_p hqw _ e rfl
    · rintro k hk1 (e | e)
      · exact hqw.o_p hxw k hk1 e
      · exact hap.2 k hk1 e
  refine ⟨?_, ?_, ?_, ?_, ?_, hF _ h.fp, hF _ h.fm, ?_, hl, hok, h.cc, h.ci, h.ki, h.ri⟩
  · refine hk.at h.blk ?_
    rintro (e | e)
    · exact hxw.ne_p h.blk e.symm
    · exact hxw.o_d h.blk _ e rfl
  · have : IsM w' bm L := h.map.keeps hk (by
      rintro (e | e)
      · exact hxw.ne_bm h.map e.symm
      · exact hxw.o_bm h.map _ e rfl)
    refine isM_of (n := L.length) ?_
    rw [dat_same h.inc hf hp]
    exact this
  · show put n x'.fl s.fs = _
    rw [h.fs, mapv_put]
  · intro q hq
    rcases mem_put.1 hq with rfl | ⟨hq, hne⟩
    · exact hx
    · exact hin q hq hne
  · refine apart_mk (inc_put h.inc) ?_
    intro q hq r hr hne
    rcases mem_put.1 hq with rfl | ⟨hq, hqn⟩
    · rcases mem_put.1 hr with rfl | ⟨hr, hrn⟩
      · exact absurd rfl hne
      · have hap := apart_of h.apart hm hr (Ne.symm hrn)
        refine ⟨by simpa [hp] using hap.1, fun k hk1 hk2 => ?_⟩
        rcases ho k hk1 with e | e
        · exact hap.2 k e hk2
        · have := h.lt k ((h.ff r hr).2 k hk2); omega
    · rcases mem_put.1 hr with rfl | ⟨hr, hrn⟩
      · have hap := apart_of h.apart hq hm hqn
        refine ⟨by simpa [hp] using hap.1, fun k hk1 hk2 => ?_⟩
        rcases ho k hk2 with e | e
        · exact hap.2 k hk1 e
        · have := h.lt k ((h.ff q hq).2 k hk1); omega
      · exact apart_of h.apart hq hr hne
  · intro q hq
    rcases mem_put.1 hq with rfl | ⟨hq, hqn⟩
    · exact ⟨by show F' x'.p; rw [hp]; exact hF _ (h.ff _ hm).1, hF2⟩
    · exact ⟨hF _ (h.ff q hq).1, fun k hk => hF _ ((h.ff q hq).2 k hk)⟩
end Go.Proofs.Ytgobakfffobpkaa
