/- A net in pure lists; in memory. -/
import Derived.Test.YtdbejihkliafiaaB0
namespace Go.Proofs.Ytdbejihkliafiaa
open Go.RowKit Go.Sort
set_option linter.unusedVariables false
set_option linter.unusedSimpArgs false

structure Fr where
  num : Nat
  frm : Int
  dst : Int
  bs : List UInt8
def fr0 : Fr := ⟨0, 0, 0, []⟩
structure NS where
  parts : Int
  clients : Int
  num : Nat
  fl : List Fr
def nodeS (s : NS) (k : Int) : Bool := decide (-s.clients ≤ k) && decide (k < s.parts)
def canS (s : NS) (a b : Int) : Bool := nodeS s a && nodeS s b && (decide (a < 0) != decide (b < 0))
def putS (s : NS) (a b : Int) (bs : List UInt8) : NS := { s with num := s.num + 1, fl := s.fl ++ [⟨s.num + 1, a, b, bs⟩] }
def hasS (s : NS) (pl : Int) : Bool := decide (0 ≤ pl) && decide (pl < (s.fl.length : Int))
def sendS (s : NS) (a b : Int) (bs : List UInt8) : NS := if canS s a b = true then putS s a b bs else s
def sendN (s : NS) (a b : Int) : Nat := if canS s a b = true then s.num + 1 else 0
def sendE (s : NS) (a b : Int) : Int := if canS s a b = true then 0 else 210
def errS (s : NS) (pl : Int) : Int := if hasS s pl = true then 0 else 210
def delS (s : NS) (pl : Int) : NS := if hasS s pl = true then { s with fl := s.fl.eraseIdx pl.toNat } else s
def delF (s : NS) (pl : Int) : Fr := if hasS s pl = true then s.fl.getD pl.toNat fr0 else fr0
def twinS (s : NS) (pl : Int) : NS := if hasS s pl = true then putS s (delF s pl).frm (delF s pl).dst (delF s pl).bs else s
def twinN (s : NS) (pl : Int) : Nat := if hasS s pl = true then s.num + 1 else 0
def newS (P C : Int) : NS := ⟨P, C, 0, []⟩
/-- what a net keeps to; K: how many frames there ever were -/
structure NWf (s : NS) (K : Nat) : Prop where
  p1 : 1 ≤ s.parts
  p2 : s.parts ≤ 64
  c1 : 1 ≤ s.clients
  c2 : s.clients ≤ 16
  num : s.num ≤ K
  len : s.fl.length ≤ s.num
  each : ∀ f ∈ s.fl, f.num ≤ s.num ∧ f.bs.length ≤ 140737488355328 ∧ -16 ≤ f.frm ∧ f.frm ≤ 64 ∧ -16 ≤ f.dst ∧ f.dst ≤ 64
theorem getD_mem_lt {α : Type} {l : List α} {j : Nat} (d : α) (h : j < l.length) : l.getD j d ∈ l := by
  rw [getD_at h]; exact List.getElem_mem h
theorem has_iff (s : NS) (pl : Int) : hasS s pl = true ↔ ∃ k : Nat, pl = k ∧ k < s.fl.length := by
  unfold hasS
  simp only [Bool.and_eq_true, decide_eq_true_eq]
  constructor
  · rintro ⟨h1, h2⟩; exact ⟨pl.toNat, by omega, by omega⟩
  · rintro ⟨k, rfl, h⟩; omega
theorem NWf.put {s : NS} {K : Nat} (h : NWf s K) {a b : Int} {bs : List UInt8} (ha : -16 ≤ a ∧ a ≤ 64) (hb : -16 ≤ b ∧ b ≤ 64) (hl : bs.length ≤ 140737488355328) : NWf (putS s a b bs) (K + 1) where
  p1 := h.p1
  p2 := h.p2
  c1 := h.c1
  c2 := h.c2
  num := Nat.add_le_add_right h.num 1
  len := by show (s.fl ++ [_]).length ≤ s.num + 1; have := h.len; simp; omega
  each := fun f hf => by
    show f.num ≤ s.num + 1 ∧ _
    rcases List.mem_append.1 hf with e | e
    · have := h.each f e; exact ⟨by omega, this.2⟩
    · rw [List.mem_singleton.1 e]; exact ⟨Nat.le_refl _, hl, ha.1, ha.2, hb.1, hb.2⟩
theorem NWf.mono {s : NS} {K L : Nat} (h : NWf s K) (hl : K ≤ L) : NWf s L := ⟨h.p1, h.p2, h.c1, h.c2, Nat.le_trans h.num hl, h.len, h.each⟩
theorem node_lt {s : NS} {K : Nat} (h : NWf s K) {k : Int} (hn : nodeS s k = true) : -16 ≤ k ∧ k ≤ 64 := by
  unfold nodeS at hn
  simp only [Bool.and_eq_true, decide_eq_true_eq] at hn
  have := h.p2; have := h.c2
  omega
theorem NWf.send {s : NS} {K : Nat} (h : NWf s K) (a b : Int) {bs : List UInt8} (hl : bs.length ≤ 140737488355328) : NWf (sendS s a b bs) (K + 1) := by
  unfold sendS
  split
  · rename_i hc
    unfold canS at hc
    simp only [Bool.and_eq_true] at hc
    exact h.put (node_lt h hc.1.1) (node_lt h hc.1.2) hl
  · exact h.mono (by omega)
theorem NWf.del {s : NS} {K : Nat} (h : NWf s K) (pl : Int) : NWf (delS s pl) K := by
  unfold delS
  split
  · rename_i hp
    refine ⟨h.p1, h.p2, h.c1, h.c2, h.num, ?_, fun f hf => h.each f (List.mem_of_mem_eraseIdx hf)⟩
    show (s.fl.eraseIdx _).length ≤ s.num
    have := h.len
    rw [List.length_eraseIdx]; split <;> omega
  · exact h
theorem NWf.delF {s : NS} {K : Nat} (h : NWf s K) {pl : Int} (hp : hasS s pl = true) : (delF s pl).num ≤ s.num ∧ (delF s pl).bs.length ≤ 140737488355328 ∧ -16 ≤ (delF s pl).frm ∧ (delF s pl).frm ≤ 64 ∧ -16 ≤ (delF s pl).dst ∧ (delF s pl).dst ≤ 64 := by
  obtain ⟨k, rfl, hk⟩ := (has_iff s pl).1 hp
  have e : Ytdbejihkliafiaa.delF s (k : Int) = s.fl.getD k fr0 := by unfold Ytdbejihkliafiaa.delF; rw [if_pos hp]; rfl
  rw [e]
  exact h.each _ (getD_mem_lt fr0 hk)
theorem NWf.twin {s : NS} {K : Nat} (h : NWf s K) (pl : Int) : NWf (twinS s pl) (K + 1) := by
  unfold twinS
  split
  · rename_i hp
    have := h.delF hp
    exact h.put ⟨this.2.2.1, this.2.2.2.1⟩ ⟨this.2.2.2.2.1, this.2.2.2.2.2⟩ this.2.1
  · exact h.mono (by omega)
theorem newS_wf {P C : Int} (h1 : 1 ≤ P) (h2 : P ≤ 64) (h3 : 1 ≤ C) (h4 : C ≤ 16) : NWf (newS P C) 0 := ⟨h1, h2, h3, h4, Nat.le_refl _, Nat.le_refl _, fun f hf => by cases hf⟩

/-! ### in memory -/
/-- a slice of the call's own; its block may bear a conversion's mark behind its room -/
def OwnM {α : Type} (E : El α) (w : World) (o : Option Addr) (c : Nat) (xs : List α) : Prop := ∃ (g : Nat) (cur : Array Value) (fz : Nat × Nat), o = some ⟨g, 0, none⟩ ∧ w.heap[g]? = some (.cells cur E.e fz) ∧ (fz = (0, 0) ∨ cur.size ≤ fz.1) ∧ xs.length ≤ c ∧ c ≤ maxLen ∧ cur.size = c * E.k ∧ cur.toList.take (xs.length * E.k) = E.cells xs
/-- a slice of its own, or one with no room -/
def Oz {α : Type} (E : El α) (w : World) (o : Option Addr) (c : Nat) (xs : List α) : Prop := (c = 0 ∧ xs = []) ∨ (0 < c ∧ OwnM E w o c xs)
def zO (o : Option Addr) (c : Nat) (i : Nat) : Prop := 0 < c ∧ inO o i
section
variable {α : Type} {E : El α} {w w' : World} {o : Option Addr} {c : Nat} {xs : List α}
theorem Own.oz (h : Own E w o c xs) : Oz E w o c xs := by
  by_cases hc : c = 0
  · refine .inl ⟨hc, ?_⟩
    have := h.cap.1
    exact List.length_eq_zero_iff.1 (by omega)
  · refine .inr ⟨by omega, ?_⟩
    rcases h.shape with ⟨_, e, _⟩ | ⟨g, cur, e1, e2, e3, e4, e5, e6⟩
    · exact absurd e hc
    · exact ⟨g, cur, (0, 0), e1, e2, .inl rfl, e3, e4, e5, e6⟩
theorem OwnM.keeps {S : Nat → Prop} (h : OwnM E w o c xs) (k : Keeps S w w') (hs : ∀ i, inO o i → ¬ S i) : OwnM E w' o c xs := by
  obtain ⟨g, cur, fz, e1, e2, e3⟩ := h
  exact ⟨g, cur, fz, e1, k.at e2 (hs g ⟨_, e1, rfl⟩), e3⟩
theorem OwnM.row (h : OwnM E w o c xs) : Row E w o xs := by
  obtain ⟨g, cur, fz, e1, hg, _, _, _, _, ht⟩ := h
  refine .inr ⟨g, 0, e1, fun j u hj => ?_⟩
  rw [Nat.zero_add, cell_of_blk hg, ← Array.getElem?_toList]
  rw [← ht] at hj
  rw [List.getElem?_take] at hj
  split at hj
  · exact hj
  · cases hj
theorem Oz.keeps {S : Nat → Prop} (h : Oz E w o c xs) (k : Keeps S w w') (hs : ∀ i, zO o c i → ¬ S i) : Oz E w' o c xs := by
  rcases h with h | ⟨h1, h2⟩
  · exact .inl h
  · exact .inr ⟨h1, h2.keeps k (fun i hi => hs i ⟨h1, hi⟩)⟩
theorem Oz.keepsN (h : Oz E w o c xs) (k : Keeps no w w') : Oz E w' o c xs := h.keeps k (fun _ _ h => h)
theorem Oz.row (h : Oz E w o c xs) : Row E w o xs := by
  rcases h with ⟨_, e⟩ | ⟨_, h⟩
  · exact .inl e
  · exact h.row
theorem Oz.sl (h : Oz E w o c xs) : Sl E w o c xs := by
  rcases h with ⟨e1, e⟩ | ⟨_, h⟩
  · exact ⟨.inl e, by rw [e]; simp, fun _ => e1⟩
  · refine ⟨h.row, ?_, fun e => ?_⟩
    · obtain ⟨g, cur, fz, e1, hg, _, h3, _⟩ := h; exact h3
    · obtain ⟨g, cur, fz, e1, _⟩ := h; rw [e1] at e; cases e
theorem Oz.tag (h : Oz E w o c xs) : ∀ k, zO o c k → ∃ cur : Array Value × (Nat × Nat), w.heap[k]? = some (.cells cur.1 E.e cur.2) := by
  rintro i ⟨h1, x, hx, rfl⟩
  rcases h with ⟨e, _⟩ | ⟨_, g, cur, fz, e1, e2, _⟩
  · omega
  · rw [e1] at hx; cases hx; exact ⟨(cur, fz), e2⟩
theorem Oz.lt (h : Oz E w o c xs) : ∀ i, zO o c i → i < w.heap.size := by
  intro i hi
  obtain ⟨cur, h1⟩ := h.tag i hi
  exact lt_of_block h1
end
structure RF where
  num : Nat
  frm : Int
  dst : Int
  o : Option Addr
  n : Nat
  c : Nat
def rf0 : RF := ⟨0, 0, 0, none, 0, 0⟩
def fe (e l : TypeId) : El RF := ⟨e, l, 4, 48, fun r => [.int .i64 (r.num : Nat), .int .i64 r.frm, .int .i64 r.dst, .slice r.o r.n r.c]⟩
def FE : El RF := fe 33 44
def DE : El RF := fe 72 57
theorem infoFE : (Try.prog.info? 33).map (fun i => (i.zero, i.size, i.bytes)) = some (some (.agg #[.int .i64 0, .int .i64 0, .int .i64 0, .slice none 0 0]), 4, 48) := by kernel_rfl
theorem infoDE : (Try.prog.info? 72).map (fun i => (i.zero, i.size, i.bytes)) = some (some (.agg #[.int .i64 0, .int .i64 0, .int .i64 0, .slice none 0 0]), 4, 48) := by kernel_rfl
theorem okF : FE.Ok := by
  obtain ⟨i0, hi, hz0, hz1, hz2⟩ := info_parts infoFE
  exact ⟨fun _ => rfl, fun x u hu => by simp [FE, fe] at hu; rcases hu with rfl | rfl | rfl | rfl <;> rfl, by decide, Try.underlying44, i0, _, hi, hz0, hz1, hz2, rfl⟩
theorem okD : DE.Ok := by
  obtain ⟨i0, hi, hz0, hz1, hz2⟩ := info_parts infoDE
  exact ⟨fun _ => rfl, fun x u hu => by simp [DE, fe] at hu; rcases hu with rfl | rfl | rfl | rfl <;> rfl, by decide, Try.underlying57, i0, _, hi, hz0, hz1, hz2, rfl⟩
/-- the four cells of the j-th -/
structure At4 (w : World) (b off j : Nat) (r : RF) : Prop where
  c0 : w.cell? ⟨b, off + j * 4, none⟩ = some (.int .i64 (r.num : Nat))
  c1 : w.cell? ⟨b, off + j * 4 + 1, none⟩ = some (.int .i64 r.frm)
  c2 : w.cell? ⟨b, off + j * 4 + 2, none⟩ = some (.int .i64 r.dst)
  c3 : w.cell? ⟨b, off + j * 4 + 3, none⟩ = some (.slice r.o r.n r.c)
theorem row_at4 {e l : TypeId} (hE : (fe e l).Ok) {w : World} {a : Option Addr} {xs : List RF} (h : Row (fe e l) w a xs) {j : Nat} (hj : j < xs.length) : ∃ b off, a = some ⟨b, off, none⟩ ∧ At4 w b off j (xs.getD j rf0) := by
  rcases h with e | ⟨b, off, rfl, hc⟩
  · subst e; simp at hj
  · have key : ∀ i, i < 4 → ∀ u, ((fe e l).enc (xs.getD j rf0))[i]? = some u → w.cell? ⟨b, off + j * 4 + i, none⟩ = some u := by
      intro i hi u hu
      rw [Nat.add_assoc]
      refine hc (j * 4 + i) _ ?_
      have := cells_at hE rf0 xs j i hj hi
      rw [show j * 4 + i = j * (fe e l).k + i from rfl, this]
      exact hu
    exact ⟨b, off, rfl, key 0 (by decide) _ rfl, key 1 (by decide) _ rfl, key 2 (by decide) _ rfl, key 3 (by decide) _ rfl⟩
theorem own_at4 {e l : TypeId} (hE : (fe e l).Ok) {w : World} {a : Option Addr} {c : Nat} {xs : List RF} (h : Own (fe e l) w a c xs) {j : Nat} (hj : j < xs.length) : ∃ b, a = some ⟨b, 0, none⟩ ∧ (∀ i, w.frozen? ⟨b, i, none⟩ = false) ∧ At4 w b 0 j (xs.getD j rf0) := by
  obtain ⟨b, off, e1, h1⟩ := row_at4 hE h.row hj
  rcases h.shape with ⟨_, _, e2⟩ | ⟨g, cur, e2, hg, _⟩
  · rw [e2] at hj; simp at hj
  · rw [e1] at e2; cases e2
    exact ⟨b, e1, fun i => frozen_of_blk hg i, h1⟩
structure FOf (w : World) (r : RF) (f : Fr) : Prop where
  num : r.num = f.num
  frm : r.frm = f.frm
  dst : r.dst = f.dst
  n : r.n = f.bs.length
  bz : Oz BE w r.o r.c f.bs
theorem FOf.keeps {S : Nat → Prop} {w w' : World} {r : RF} {f : Fr} (h : FOf w r f) (k : Keeps S w w') (hs : ∀ i, zO r.o r.c i → ¬ S i) : FOf w' r f := ⟨h.num, h.frm, h.dst, h.n, h.bz.keeps k hs⟩
theorem FOf.keepsN {w w' : World} {r : RF} {f : Fr} (h : FOf w r f) (k : Keeps no w w') : FOf w' r f := h.keeps k (fun _ _ h => h)
theorem fof_zero (w : World) : FOf w rf0 fr0 := ⟨rfl, rfl, rfl, rfl, .inl ⟨rfl, rfl⟩⟩
/-- frames in memory: each one's bytes by themselves -/
structure Fs (E : El RF) (w : World) (o : Option Addr) (c : Nat) (rs : List RF) (fs : List Fr) : Prop where
  own : Own E w o c rs
  len : rs.length = fs.length
  each : ∀ j, j < fs.length → FOf w (rs.getD j rf0) (fs.getD j fr0)
  sep : ∀ i j, i < j → j < fs.length → ∀ k, zO (rs.getD i rf0).o (rs.getD i rf0).c k → ¬ zO (rs.getD j rf0).o (rs.getD j rf0).c k
/-- the blocks of it -/
def FB (o : Option Addr) (rs : List RF) (n : Nat) (i : Nat) : Prop := inO o i ∨ ∃ j, j < n ∧ zO (rs.getD j rf0).o (rs.getD j rf0).c i
section
variable {E : El RF} {w w' : World} {o : Option Addr} {c : Nat} {rs : List RF} {fs : List Fr}
theorem Fs.keeps {S : Nat → Prop} (h : Fs E w o c rs fs) (k : Keeps S w w') (hs : ∀ i, FB o rs fs.length i → ¬ S i) : Fs E w' o c rs fs :=
  ⟨h.own.keeps k (fun i hi => hs i (.inl hi)), h.len, fun j hj => (h.each j hj).keeps k (fun i hi => hs i (.inr ⟨j, hj, hi⟩)), h.sep⟩
theorem Fs.keepsN (h : Fs E w o c rs fs) (k : Keeps no w w') : Fs E w' o c rs fs := h.keeps k (fun _ _ h => h)
theorem Fs.lt (h : Fs E w o c rs fs) : ∀ i, FB o rs fs.length i → i < w.heap.size := by
  rintro i (hi | ⟨j, hj, hi⟩)
  · exact h.own.lt i hi
  · exact (h.each j hj).bz.lt i hi
theorem fs_nil (w : World) : Fs E w none 0 [] [] := ⟨own_nil w, rfl, fun j hj => by simp at hj, fun i j _ hj => by simp at hj⟩
theorem getD_app1 {α : Type} (l : List α) (x d : α) (j : Nat) : (l ++ [x]).getD j d = if j < l.length then l.getD j d else if j = l.length then x else d := by
  by_cases h : j < l.length
  · rw [if_pos h]; simp [List.getD_eq_getElem?_getD, List.getElem?_append_left h]
  · rw [if_neg h]
    simp only [List.getD_eq_getElem?_getD]
    rw [List.getElem?_append_right (by omega)]
    by_cases e : j = l.length
    · rw [if_pos e]; simp [e]
    · rw [if_neg e, List.getElem?_eq_none (by simp; omega)]; rfl
/-- one more at the end -/
theorem Fs.push (h : Fs E w o c rs fs) {o' : Option Addr} {c' : Nat} {r : RF} {f : Fr} (ho : Own E w' o' c' (rs ++ [r])) (hk : Keeps (inO o) w w') (hE : E.e ≠ BE.e) (hf : FOf w' r f) (hn : ∀ i, zO r.o r.c i → w.heap.size ≤ i) : Fs E w' o' c' (rs ++ [r]) (fs ++ [f]) := by
  have tagk : ∀ j, j < fs.length → ∀ i, zO (rs.getD j rf0).o (rs.getD j rf0).c i → ¬ inO o i := by
    intro j hj i hi h2
    obtain ⟨ca, ha⟩ := (h.each j hj).bz.tag i hi
    obtain ⟨cb, hb⟩ := h.own.tag i h2
    rw [ha] at hb
    injection hb with hb
    injection hb with _ hb _
    exact hE hb.symm
  refine ⟨ho, by simp [h.len], fun j hj => ?_, fun i j hij hj k hi hk2 => ?_⟩
  · rw [getD_app1, getD_app1, h.len]
    by_cases e : j < fs.length
    · rw [if_pos e, if_pos e]; exact (h.each j e).keeps hk (tagk j e)
    · have e2 : j = fs.length := by simp at hj; omega
      rw [if_neg e, if_neg e, if_pos e2, if_pos e2]; exact hf
  · rw [getD_app1, h.len] at hi hk2
    have hj' : j ≤ fs.length := by simp at hj; omega
    rw [if_pos (by omega)] at hi
    by_cases e : j < fs.length
    · rw [if_pos e] at hk2; exact h.sep i j hij e k hi hk2
    · rw [if_neg e, if_pos (by omega)] at hk2
      have h1 := hn k hk2
      have h2 := (h.each i (by omega)).bz.lt k hi
      omega
theorem getD_erase {α : Type} (l : List α) (k j : Nat) (d : α) : (l.eraseIdx k).getD j d = if j < k then l.getD j d else l.getD (j + 1) d := by
  simp only [List.getD_eq_getElem?_getD, List.getElem?_eraseIdx]
  split <;> rfl
theorem len_erase {α : Type} (l : List α) (k : Nat) (h : k < l.length) : (l.eraseIdx k).length = l.length - 1 := by
  rw [List.length_eraseIdx, if_pos h]
/-- one taken out -/
theorem Fs.erase (h : Fs E w o c rs fs) {k : Nat} (hk : k < fs.length) {S : Nat → Prop} {o' : Option Addr} {c' : Nat} (ho : Own E w' o' c' (rs.eraseIdx k)) (kp : Keeps S w w') (hS : ∀ j, j < fs.length → ∀ i, zO (rs.getD j rf0).o (rs.getD j rf0).c i → ¬ S i) : Fs E w' o' c' (rs.eraseIdx k) (fs.eraseIdx k) := by
  have hl : (fs.eraseIdx k).length = fs.length - 1 := len_erase fs k hk
  refine ⟨ho, by rw [hl, len_erase rs k (by rw [h.len]; exact hk), h.len], fun j hj => ?_, fun i j hij hj x hi hx => ?_⟩
  · rw [hl] at hj
    rw [getD_erase, getD_erase]
    split
    · exact (h.each j (by omega)).keeps kp (hS j (by omega))
    · exact (h.each (j + 1) (by omega)).keeps kp (hS (j + 1) (by omega))
  · rw [hl] at hj
    rw [getD_erase] at hi hx
    by_cases e1 : i < k
    · rw [if_pos e1] at hi
      by_cases e2 : j < k
      · rw [if_pos e2] at hx; exact h.sep i j hij (by omega) x hi hx
      · rw [if_neg e2] at hx; exact h.sep i (j + 1) (by omega) (by omega) x hi hx
    · rw [if_neg e1] at hi
      rw [if_neg (by omega)] at hx
      exact h.sep (i + 1) (j + 1) (by omega) (by omega) x hi hx
/-- the one taken out lies by itself -/
theorem Fs.out (h : Fs E w o c rs fs) {k : Nat} (hk : k < fs.length) (hE : E.e ≠ BE.e) : ∀ i, zO (rs.getD k rf0).o (rs.getD k rf0).c i → ¬ inO o i ∧ ∀ j, j < fs.length - 1 → ¬ zO ((rs.eraseIdx k).getD j rf0).o ((rs.eraseIdx k).getD j rf0).c i := by
  intro i hi
  refine ⟨fun h2 => ?_, fun j hj h2 => ?_⟩
  · obtain ⟨ca, ha⟩ := (h.each k hk).bz.tag i hi
    obtain ⟨cb, hb⟩ := h.own.tag i h2
    rw [ha] at hb
    injection hb with hb
    injection hb with _ hb _
    exact hE hb.symm
  · rw [getD_erase] at h2
    split at h2
    · rename_i e; exact h.sep j k e hk i h2 hi
    · rename_i e; exact h.sep k (j + 1) (by omega) (by omega) i hi h2
end
/-- a net in memory; C: its cells, T: its type -/
structure NtL (E : El RF) (T : TypeId) (C : Int → Int → Nat → Value → Array Value) (w : World) (p : Nat) (F : Nat → Prop) (s : NS) (o : Option Addr) (n c : Nat) (rs : List RF) : Prop where
  blk : w.heap[p]? = some (.cells (C s.parts s.clients s.num (.slice o n c)) T (0, 0))
  n : n = s.fl.length
  fs : Fs E w o c rs s.fl
  pF : F p
  fF : ∀ i, FB o rs s.fl.length i → F i
  lt : ∀ i, F i → i < w.heap.size
def Nt (E : El RF) (T : TypeId) (C : Int → Int → Nat → Value → Array Value) (w : World) (p : Nat) (F : Nat → Prop) (s : NS) : Prop := ∃ o n c rs, NtL E T C w p F s o n c rs
theorem Nt.keeps {E : El RF} {T : TypeId} {C : Int → Int → Nat → Value → Array Value} {S : Nat → Prop} {w w' : World} {p : Nat} {F : Nat → Prop} {s : NS} (h : Nt E T C w p F s) (k : Keeps S w w') (hs : ∀ i, F i → ¬ S i) : Nt E T C w' p F s := by
  obtain ⟨o, n, c, rs, h⟩ := h
  exact ⟨o, n, c, rs, k.at h.blk (hs p h.pF), h.n, h.fs.keeps k (fun i hi => hs i (h.fF i hi)), h.pF, h.fF, fun i hi => Nat.lt_of_lt_of_le (h.lt i hi) k.size⟩
theorem Nt.keepsN {E : El RF} {T : TypeId} {C : Int → Int → Nat → Value → Array Value} {w w' : World} {p : Nat} {F : Nat → Prop} {s : NS} (h : Nt E T C w p F s) (k : Keeps no w w') : Nt E T C w' p F s := h.keeps k (fun _ _ h => h)
theorem Nt.lt {E : El RF} {T : TypeId} {C : Int → Int → Nat → Value → Array Value} {w : World} {p : Nat} {F : Nat → Prop} {s : NS} (h : Nt E T C w p F s) : ∀ i, F i → i < w.heap.size := by
  obtain ⟨o, n, c, rs, h⟩ := h
  exact h.lt
/-- a call on a net: the answer, the net behind it -/
def NTo (Is : World → Nat → (Nat → Prop) → NS → Prop) (w : World) (p : Nat) (F : Nat → Prop) (v : Value) (s' : NS) (e : Ending) (w' : World) : Prop := e = .returned v ∧ ∃ G, Is w' p G s' ∧ (∀ i, G i → F i ∨ w.heap.size ≤ i) ∧ Keeps F w w'
def aggF (r : RF) : Value := .agg #[.int .i64 (r.num : Nat), .int .i64 r.frm, .int .i64 r.dst, .slice r.o r.n r.c]
def DTo (Is : World → Nat → (Nat → Prop) → NS → Prop) (w : World) (p : Nat) (F : Nat → Prop) (s : NS) (pl : Int) (e : Ending) (w' : World) : Prop := ∃ (r : RF) (G : Nat → Prop), e = .returned (.tuple #[aggF r, .int .i64 (errS s pl)]) ∧ FOf w' r (delF s pl) ∧ (∀ i, zO r.o r.c i → (F i ∨ w.heap.size ≤ i) ∧ ¬ G i) ∧ Is w' p G (delS s pl) ∧ (∀ i, G i → F i ∨ w.heap.size ≤ i) ∧ Keeps F w w'
/-- a flight told: new memory -/
def FTo (E : El RF) (w : World) (fs : List Fr) (e : Ending) (w' : World) : Prop := ∃ o n c rs, e = .returned (.slice o n c) ∧ n = fs.length ∧ ((c = 0 ∧ fs = [] ∧ rs = []) ∨ Fs E w' o c rs fs) ∧ (∀ i, 0 < c → FB o rs fs.length i → w.heap.size ≤ i) ∧ Keeps no w w'
end Go.Proofs.Ytdbejihkliafiaa
