import Derived.Maps.RangeWalk
import Derived.Maps.Ext
import Derived.Test.YtdemoghlibnooaaGreatDoorA0
import Derived.Test.YtdemoghlibnooaaGreatDoorA2
import Derived.Test.YtdemoghlibnooaaGreatDoorShelf
namespace Go.Proofs.YtdemoghlibnooaaGreatDoor
set_option linter.unusedVariables false
set_option linter.unusedSimpArgs false
namespace Dk
abbrev Nm := List UInt8
variable {β γ : Type}
def ins (x : Nm × β) : List (Nm × β) → List (Nm × β)
  | [] => [x]
  | y :: r => if bytesBefore x.1 y.1 then x :: y :: r else y :: ins x r
def del (n : Nm) (l : List (Nm × β)) : List (Nm × β) := l.filter fun p => !(p.1 == n)
def put (n : Nm) (v : β) (l : List (Nm × β)) : List (Nm × β) := ins (n, v) (del n l)
def find (n : Nm) : List (Nm × β) → Option β
  | [] => none
  | p :: r => if p.1 == n then some p.2 else find n r
def Inc (l : List (Nm × β)) : Prop := l.Pairwise fun p q => bytesBefore p.1 q.1 = true
def names (l : List (Nm × β)) : List Nm := l.map (·.1)
def mapv (g : β → γ) (l : List (Nm × β)) : List (Nm × γ) := l.map fun p => (p.1, g p.2)
theorem bb_irrefl (a : Nm) : bytesBefore a a = false := WideAt.bytes_irrefl a
theorem bb_asym {a b : Nm} (h : bytesBefore a b = true) : bytesBefore b a = false := by
  cases e : bytesBefore b a with
  | false => rfl
  | true => have := WideShapes.bytes_trans a b a h e; rw [bb_irrefl] at this; cases this
theorem bb_tri {a b : Nm} (h : bytesBefore a b = false) (hne : a ≠ b) : bytesBefore b a = true := by
  rcases WideAt.bytes_total a b hne with h' | h'
  · rw [h] at h'; cases h'
  · exact h'
theorem bb_ne {a b : Nm} (h : bytesBefore a b = true) : a ≠ b := by rintro rfl; rw [bb_irrefl] at h; cases h
theorem mapv_ins (g : β → γ) (n : Nm) (v : β) : ∀ l : List (Nm × β), mapv g (ins (n, v) l) = ins (n, g v) (mapv g l)
  | [] => rfl
  | y :: r => by
    have ih := mapv_ins g n v r
    simp only [mapv, ins, List.map_cons] at ih ⊢
    split <;> simp [ih]
theorem mapv_del (g : β → γ) (n : Nm) (l : List (Nm × β)) : mapv g (del n l) = del n (mapv g l) := by
  simp [mapv, del, List.filter_map, Function.comp_def]
theorem mapv_put (g : β → γ) (n : Nm) (v : β) (l : List (Nm × β)) : mapv g (put n v l) = put n (g v) (mapv g l) := by
  simp only [put, mapv_ins, mapv_del]
theorem find_mapv (g : β → γ) (n : Nm) : ∀ l : List (Nm × β), find n (mapv g l) = (find n l).map g
  | [] => rfl
  | y :: r => by
    have ih := find_mapv g n r
    simp only [mapv, find, List.map_cons] at ih ⊢
    split <;> simp [ih]
theorem names_mapv (g : β → γ) (l : List (Nm × β)) : names (mapv g l) = names l := by simp [names, mapv]
theorem length_mapv (g : β → γ) (l : List (Nm × β)) : (mapv g l).length = l.length := by simp [mapv]
theorem inc_names {l : List (Nm × β)} : Inc l ↔ (names l).Pairwise (fun a b => bytesBefore a b = true) := by simp [Inc, names, List.pairwise_map]
theorem inc_mapv (g : β → γ) {l : List (Nm × β)} (h : Inc l) : Inc (mapv g l) := by
  rw [inc_names, names_mapv, ← inc_names]; exact h
theorem mem_ins {x y : Nm × β} : ∀ {l : List (Nm × β)}, y ∈ ins x l ↔ y = x ∨ y ∈ l
  | [] => by simp [ins]
  | z :: r => by
    simp only [ins]
    split
    · simp
    · simp [mem_ins (l := r)]; grind
theorem mem_del {n : Nm} {y : Nm × β} {l : List (Nm × β)} : y ∈ del n l ↔ y ∈ l ∧ y.1 ≠ n := by simp [del]
theorem mem_put {n : Nm} {v : β} {y : Nm × β} {l : List (Nm × β)} : y ∈ put n v l ↔ y = (n, v) ∨ (y ∈ l ∧ y.1 ≠ n) := by simp [put, mem_ins, mem_del]
theorem inc_ins {x : Nm × β} : ∀ {l : List (Nm × β)}, Inc l → (∀ p ∈ l, p.1 ≠ x.1) → Inc (ins x l)
  | [], _, _ => by simp [ins, Inc]
  | y :: r, h, hne => by
    obtain ⟨h1, h2⟩ := List.pairwise_cons.1 h
    simp only [ins]
    split
    · rename_i hb
      refine List.pairwise_cons.2 ⟨fun q hq => ?_, h⟩
      rcases List.mem_cons.1 hq with rfl | hq
      · exact hb
      · exact WideShapes.bytes_trans _ _ _ hb (h1 q hq)
    · rename_i hb
      have hyx := bb_tri (a := x.1) (b := y.1) (by simpa using hb) (hne y (by simp)).symm
      refine List.pairwise_cons.2 ⟨fun q hq => ?_, inc_ins (l := r) h2 (fun p hp => hne p (by simp [hp]))⟩
      rcases mem_ins.1 hq with rfl | hq
      · exact hyx
      · exact h1 q hq
theorem inc_del {n : Nm} {l : List (Nm × β)} (h : Inc l) : Inc (del n l) := List.Pairwise.filter _ h
theorem inc_put {n : Nm} {v : β} {l : List (Nm × β)} (h : Inc l) : Inc (put n v l) := inc_ins (inc_del h) (fun p hp => (mem_del.1 hp).2)
theorem length_ins (x : Nm × β) : ∀ l : List (Nm × β), (ins x l).length = l.length + 1
  | [] => rfl
  | y :: r => by simp only [ins]; split <;> simp [length_ins x r]
theorem find_none {n : Nm} : ∀ {l : List (Nm × β)}, find n l = none ↔ ∀ p ∈ l, p.1 ≠ n
  | [] => by simp [find]
  | y :: r => by
    simp only [find]
    by_cases h : y.1 = n
    · simp [h]
    · simp [h, find_none (l := r)]
theorem find_mem {n : Nm} {v : β} : ∀ {l : List (Nm × β)}, find n l = some v → (n, v) ∈ l
  | [], h => by simp [find] at h
  | y :: r, h => by
    simp only [find] at h
    split at h
    · rename_i he
      have : y.1 = n := by simpa using he
      cases h; subst this; simp
    · exact List.mem_cons_of_mem _ (find_mem h)
theorem inc_nodup {l : List (Nm × β)} (h : Inc l) : l.Pairwise fun p q => p.1 ≠ q.1 := List.Pairwise.imp (fun h => bb_ne h) h
theorem find_of_mem {n : Nm} {v : β} : ∀ {l : List (Nm × β)}, Inc l → (n, v) ∈ l → find n l = some v
  | [], _, h => by simp at h
  | y :: r, hi, h => by
    obtain ⟨h1, h2⟩ := List.pairwise_cons.1 hi
    simp only [find]
    rcases List.mem_cons.1 h with rfl | h
    · simp
    · have := bb_ne (h1 _ h)
      rw [if_neg (by simpa using this)]
      exact find_of_mem h2 h
theorem del_none {n : Nm} {l : List (Nm × β)} (h : find n l = none) : del n l = l := by
  rw [find_none] at h
  exact List.filter_eq_self.2 fun p hp => by simpa using h p hp
theorem find_ins_same {n : Nm} {v : β} : ∀ {l : List (Nm × β)}, find n l = none → find n (ins (n, v) l) = some v
  | [], _ => by simp [ins, find]
  | y :: r, h => by
    simp only [find] at h
    split at h
    · cases h
    · rename_i hy
      simp only [ins]
      split
      · simp [find]
      · simp only [find]; rw [if_neg hy]; exact find_ins_same h
theorem find_ins_other {n m : Nm} {v : β} (hne : m ≠ n) : ∀ {l : List (Nm × β)}, find m (ins (n, v) l) = find m l
  | [] => by simp [ins, find, Ne.symm hne]
  | y :: r => by
    simp only [ins]
    split
    · simp [find, Ne.symm hne]
    · simp only [find]; split
      · rfl
      · exact find_ins_other hne
theorem find_del_same {n : Nm} (l : List (Nm × β)) : find n (del n l) = none := find_none.2 fun p hp => (mem_del.1 hp).2
theorem find_del_other {n m : Nm} (hne : m ≠ n) : ∀ l : List (Nm × β), find m (del n l) = find m l
  | [] => rfl
  | y :: r => by
    have ih := find_del_other hne r
    by_cases hy : y.1 = n
    · have e1 : del n (y :: r) = del n r := by simp [del, hy]
      have e2 : find m (y :: r) = find m r := by simp [find, hy, Ne.symm hne]
      rw [e1, e2, ih]
    · have : (!(y.1 == n)) = true := by simp [hy]
      simp only [del, List.filter_cons, this, if_true, find] at ih ⊢
      rw [ih]
theorem find_put_same {n : Nm} {v : β} (l : List (Nm × β)) : find n (put n v l) = some v := find_ins_same (find_del_same l)
theorem find_put_other {n m : Nm} {v : β} (hne : m ≠ n) (l : List (Nm × β)) : find m (put n v l) = find m l := by
  unfold put; rw [find_ins_other hne, find_del_other hne]
theorem inc_ext : ∀ {l1 l2 : List (Nm × β)}, Inc l1 → Inc l2 → (∀ n, find n l1 = find n l2) → l1 = l2 := by
  intro l1 l2 h1 h2 hf
  have hm : ∀ x, x ∈ l1 ↔ x ∈ l2 := fun x => by
    constructor
    · intro hx
      have := find_of_mem h1 (show (x.1, x.2) ∈ l1 from hx)
      rw [hf] at this
      exact find_mem this
    · intro hx
      have := find_of_mem h2 (show (x.1, x.2) ∈ l2 from hx)
      rw [← hf] at this
      exact find_mem this
  induction l1 generalizing l2 with
  | nil => cases l2 with
    | nil => rfl
    | cons y r => exact absurd ((hm y).2 (by simp)) (by simp)
  | cons x r1 ih => cases l2 with
    | nil => exact absurd ((hm x).1 (by simp)) (by simp)
    | cons y r2 =>
      have p1 := List.pairwise_cons.1 h1
      have p2 := List.pairwise_cons.1 h2
      have hxy : x = y := by
        rcases List.mem_cons.1 ((hm x).1 (by simp)) with e | hx
        · exact e
        · rcases List.mem_cons.1 ((hm y).2 (by simp)) with e | hy
          · exact e.symm
          · have a := p2.1 x hx
            have b := p1.1 y hy
            rw [bb_asym a] at b; cases b
      subst hxy
      have hm' : ∀ z, z ∈ r1 ↔ z ∈ r2 := fun z => by
        constructor
        · intro hz
          rcases List.mem_cons.1 ((hm z).1 (by simp [hz])) with rfl | h'
          · have := p1.1 z hz; rw [bb_irrefl] at this; cases this
          · exact h'
        · intro hz
          rcases List.mem_cons.1 ((hm z).2 (by simp [hz])) with rfl | h'
          · have := p2.1 z hz; rw [bb_irrefl] at this; cases this
          · exact h'
      have hf' : ∀ n, find n r1 = find n r2 := fun n => by
        cases e1 : find n r1 with
        | none =>
          cases e2 : find n r2 with
          | none => rfl
          | some v => have := find_of_mem p1.2 ((hm' _).2 (find_mem e2)); rw [e1] at this; cases this
        | some v => exact (find_of_mem p2.2 ((hm' _).1 (find_mem e1))).symm
      rw [ih p1.2 p2.2 hf' hm']
theorem put_same {n : Nm} {v : β} {l : List (Nm × β)} (h : Inc l) (hf : find n l = some v) : put n v l = l := by
  refine inc_ext (inc_put h) h fun m => ?_
  by_cases e : m = n
  · subst e; rw [find_put_same, hf]
  · exact find_put_other e l
theorem length_put_some {n : Nm} {v u : β} {l : List (Nm × β)} (h : Inc l) (hf : find n l = some u) : (put n v l).length = l.length := by
  have e : (put n u l).length = (put n v l).length := by simp [put, length_ins]
  rw [← e, put_same h hf]
theorem length_put_none {n : Nm} {v : β} {l : List (Nm × β)} (hf : find n l = none) : (put n v l).length = l.length + 1 := by
  rw [put, del_none hf, length_ins]
theorem length_del_le {n : Nm} (l : List (Nm × β)) : (del n l).length ≤ l.length := List.length_filter_le _ _
theorem length_del_some {n : Nm} {u : β} {l : List (Nm × β)} (h : Inc l) (hf : find n l = some u) : (del n l).length + 1 = l.length := by
  have := length_put_some (v := u) h hf
  rw [put, length_ins] at this
  exact this
structure Fl where
  bs : List UInt8
  sy : Nat
structure St where
  fs : List (Nm × Fl)
  off : Bool
  ref : Nat
  calls : Int
  keep : Int
def cutN (k : Int) (f : Fl) : Nat := f.sy + min k.toNat (f.bs.length - f.sy)
def crF (k : Int) (f : Fl) : Fl := ⟨f.bs.take (cutN k f), cutN k f⟩
def crash (k : Int) (s : St) : St := if s.off then s else ⟨mapv (crF k) s.fs, true, s.ref, -1, s.keep⟩
def tick (s : St) : St := if s.calls = 0 then crash s.keep s else if 0 < s.calls then { s with calls := s.calls - 1 } else s
def up (s : St) : St := { s with off := false, calls := -1 }
def full (n : Int) (s : St) : St := { s with ref := n.toNat }
def arm (n k : Int) (s : St) : St := { s with calls := max n (-1), keep := k }
def good (n : Nm) : Bool := decide (1 ≤ n.length) && decide (n.length ≤ 32)
def new : St := ⟨[], false, 0, -1, 0⟩
def noRoom (b : List UInt8) (s : St) : Bool := decide (0 < b.length) && decide (0 < s.ref)
def appendOn (n : Nm) (b : List UInt8) (s : St) : St × Int :=
  if good n then
    match find n s.fs with
    | none => if 16 ≤ s.fs.length then (s, 3) else if noRoom b s then ({ s with ref := s.ref - 1 }, 60) else ({ s with fs := put n ⟨b, 0⟩ s.fs }, 0)
    | some f => if noRoom b s then ({ s with ref := s.ref - 1 }, 60) else ({ s with fs := put n ⟨f.bs ++ b, f.sy⟩ s.fs }, 0)
  else (s, 1)
def onF (n : Nm) (s : St) (g : Fl → St × Int) : St × Int := match find n s.fs with | none => (s, 61) | some f => g f
def syncOn (n : Nm) (s : St) : St × Int := onF n s fun f => ({ s with fs := put n ⟨f.bs, f.bs.length⟩ s.fs }, 0)
def cutOn (n : Nm) (k : Int) (s : St) : St × Int := onF n s fun f => if k < 0 ∨ (f.bs.length : Int) < k then (s, 1) else ({ s with fs := put n ⟨f.bs.take k.toNat, min f.sy k.toNat⟩ s.fs }, 0)
def deleteOn (n : Nm) (s : St) : St × Int := onF n s fun _ => ({ s with fs := del n s.fs }, 0)
def renameOn (a b : Nm) (s : St) : St × Int := if good b then onF a s fun f => ({ s with fs := put b f (del a s.fs) }, 0) else (s, 1)
def counted (s : St) (g : St → St × Int) : St × Int := if (tick s).off then (tick s, 62) else g (tick s)
def readB (n : Nm) (s : St) : List UInt8 := if s.off then [] else match find n s.fs with | none => [] | some f => f.bs
def readE (n : Nm) (s : St) : Int := if s.off then 62 else match find n s.fs with | none => 61 | some _ => 0
def listN (s : St) : List Nm := if s.off then [] else names s.fs
def listE (s : St) : Int := if s.off then 62 else 0
structure Ok (s : St) : Prop where
  inc : Inc s.fs
  len : s.fs.length ≤ 16
  sy : ∀ p ∈ s.fs, p.2.sy ≤ p.2.bs.length
  nm : ∀ p ∈ s.fs, good p.1 = true
  calls : -1 ≤ s.calls
theorem cutN_le (k : Int) {f : Fl} (h : f.sy ≤ f.bs.length) : cutN k f ≤ f.bs.length := by unfold cutN; omega
theorem new_ok : Ok new := ⟨List.Pairwise.nil, by simp [new], by simp [new], by simp [new], by simp [new]⟩
theorem crash_ok {k : Int} {s : St} (h : Ok s) : Ok (crash k s) := by
  unfold crash
  split
  · exact h
  · refine ⟨inc_mapv _ h.inc, by simpa [length_mapv] using h.len, ?_, ?_, by simp⟩
    · intro p hp
      simp only [mapv, List.mem_map] at hp
      obtain ⟨q, hq, rfl⟩ := hp
      have := cutN_le k (h.sy q hq)
      simp [crF]; omega
    · intro p hp
      simp only [mapv, List.mem_map] at hp
      obtain ⟨q, hq, rfl⟩ := hp
      exact h.nm q hq
theorem up_ok {s : St} (h : Ok s) : Ok (up s) := ⟨h.inc, h.len, h.sy, h.nm, by simp [up]⟩
theorem full_ok {n : Int} {s : St} (h : Ok s) : Ok (full n s) := ⟨h.inc, h.len, h.sy, h.nm, h.calls⟩
theorem arm_ok {n k : Int} {s : St} (h : Ok s) : Ok (arm n k s) := ⟨h.inc, h.len, h.sy, h.nm, by simp [arm]; omega⟩
theorem ok_put {n : Nm} {f : Fl} {s : St} (h : Ok s) (hn : good n = true) (hf : f.sy ≤ f.bs.length) (hl : (put n f s.fs).length ≤ 16) : Ok { s with fs := put n f s.fs } :=
  ⟨inc_put h.inc, hl, fun p hp => by rcases mem_put.1 hp with rfl | hp; exact hf; exact h.sy p hp.1, fun p hp => by rcases mem_put.1 hp with rfl | hp; exact hn; exact h.nm p hp.1, h.calls⟩
theorem good_of {n : Nm} {f : Fl} {s : St} (h : Ok s) (hf : find n s.fs = some f) : good n = true ∧ f.sy ≤ f.bs.length := ⟨h.nm _ (find_mem hf), h.sy _ (find_mem hf)⟩
theorem ok_ref {s : St} (h : Ok s) (r : Nat) : Ok { s with ref := r } := ⟨h.inc, h.len, h.sy, h.nm, h.calls⟩
theorem appendOn_ok {n : Nm} {b : List UInt8} {s : St} (h : Ok s) : Ok (appendOn n b s).1 := by
  unfold appendOn
  split
  · rename_i hn
    split
    · rename_i hf
      split
      · exact h
      · split
        · exact ok_ref h _
        · exact ok_put h hn (Nat.zero_le _) (by rw [length_put_none hf]; omega)
    · rename_i f hf
      split
      · exact ok_ref h _
      · exact ok_put h hn (by have := (good_of h hf).2; simp; omega) (by rw [length_put_some h.inc hf]; exact h.len)
  · exact h
theorem syncOn_ok {n : Nm} {s : St} (h : Ok s) : Ok (syncOn n s).1 := by
  unfold syncOn onF
  split
  · exact h
  · rename_i f hf
    exact ok_put h (good_of h hf).1 (Nat.le_refl _) (by rw [length_put_some h.inc hf]; exact h.len)
theorem cutOn_ok {n : Nm} {k : Int} {s : St} (h : Ok s) : Ok (cutOn n k s).1 := by
  unfold cutOn onF
  split
  · exact h
  · rename_i f hf
    show Ok (if k < 0 ∨ (f.bs.length : Int) < k then (s, 1) else _).1
    split
    · exact h
    · exact ok_put h (good_of h hf).1 (by simp; omega) (by rw [length_put_some h.inc hf]; exact h.len)
theorem ok_del {n : Nm} {s : St} (h : Ok s) : Ok { s with fs := del n s.fs } :=
  ⟨inc_del h.inc, Nat.le_trans (length_del_le _) h.len, fun p hp => h.sy p (mem_del.1 hp).1, fun p hp => h.nm p (mem_del.1 hp).1, h.calls⟩
theorem renameOn_ok {a b : Nm} {s : St} (h : Ok s) : Ok (renameOn a b s).1 := by
  unfold renameOn onF
  split
  · rename_i hb
    split
    · exact h
    · rename_i f hf
      refine ok_put (s := { s with fs := del a s.fs }) (ok_del h) hb (good_of h hf).2 ?_
      have h1 := length_del_some h.inc hf
      have h2 := h.len
      have h3 := length_del_le (n := b) (del a s.fs)
      simp only [put, length_ins]
      omega
  · exact h
end Dk
end Go.Proofs.YtdemoghlibnooaaGreatDoor
namespace Go.Proofs.YtdemoghlibnooaaGreatDoor
open Go.RowKit
set_option linter.unusedVariables false
set_option linter.unusedSimpArgs false
def bv (c : UInt8) : Value := .int .u8 ((c.toNat : Nat) : Int)
def BU : El UInt8 := ⟨5, 29, 1, 1, fun c => [bv c]⟩
theorem okU : BU.Ok := by
  obtain ⟨i0, hi, hz0, hz1, hz2⟩ := info_parts info5
  exact ⟨fun _ => rfl, fun x u hu => by simp [BU] at hu; subst hu; rfl, by decide, Tryz.underlying29, i0, _, hi, hz0, hz1, hz2, rfl⟩
theorem cells_U (bs : List UInt8) : BU.cells bs = bs.map bv := by
  induction bs with
  | nil => rfl
  | cons x r ih => simp [El.cells, BU] at ih ⊢; exact ih
theorem cells_TG (xs : List Tx) : TE.cells xs = xs.map Value.string := by
  induction xs with
  | nil => rfl
  | cons x r ih => simp [El.cells, TE] at ih ⊢; exact ih
variable {α : Type} {E : El α}
theorem take_succ_getDG {α : Type} (l : List α) (k : Nat) (d : α) (h : k < l.length) : l.take (k + 1) = l.take k ++ [l.getD k d] := by
  rw [List.take_add_one]; simp [h]
theorem Own.cut (hE : E.Ok) {w : World} {o : Option Addr} {c : Nat} {xs : List α} (h : Own E w o c xs) {n : Nat} (hn : n ≤ xs.length) : Own E w o c (xs.take n) := by
  rcases h.shape with ⟨rfl, rfl, rfl⟩ | ⟨g, cur, rfl, hg, h2, h3, h4, h5⟩
  · simpa using h
  · refine own_of_shape hE hg (by simp; omega) h3 h4 ?_
    have e : (xs.take n).length = n := by simp; omega
    have e2 : E.cells xs = E.cells (xs.take n) ++ E.cells (xs.drop n) := by rw [← cells_append, List.take_append_drop]
    have e3 : cur.toList.take (n * E.k) = (cur.toList.take (xs.length * E.k)).take (n * E.k) := by
      rw [List.take_take, Nat.min_eq_left (Nat.mul_le_mul_right _ hn)]
    rw [e, e3, h5, e2, List.take_append_of_le_length (by rw [cells_length hE, e]; exact Nat.le_refl _), List.take_of_length_le (by rw [cells_length hE, e]; exact Nat.le_refl _)]
theorem slBy : Tryz.prog.underlying 29 = some (.slice (Tryz.prog.elem 29)) := by kernel_rfl
theorem cutO (o : Option Addr) (n c I : Nat) (h1 : I ≤ c) (hnil : o = none → c = 0) : ∀ w, (Instr.slice 29 (.slice o n c) none (some (.int .i64 ((I : Nat) : Int))) none).run Tryz.prog w = .ok (.slice o I c) w := by
  intro w
  match o, hnil with
  | none, hnil =>
    obtain rfl : c = 0 := hnil rfl
    obtain rfl : I = 0 := by omega
    rw [run_slice_h w 29 none _ 0 slBy .i64 _ (by omega) (by omega)]
    go_simp
  | some ad, _ =>
    rw [run_slice_h w 29 (some ad) _ c slBy .i64 _ (by omega) (by omega)]
    go_simp
theorem cutL (w0 : World) (o : Option Addr) (c : Nat) (bs : List UInt8) (n I : Nat) (hn : n = bs.length) (hI : I ≤ n) (h : Sl BU w0 o c bs) :
    ∃ A d, (∀ w, (Instr.slice 29 (.slice o n c) (some (.int .i64 ((I : Nat) : Int))) none none).run Tryz.prog w = .ok (.slice A (n - I) d) w) ∧ Sl BU w0 A d (bs.drop I) := by
  subst hn
  have hcap := h.cap
  match o, h with
  | none, h =>
    obtain rfl : c = 0 := h.nil rfl
    obtain rfl : I = 0 := by omega
    have h0 : bs = [] := List.length_eq_zero_iff.mp (by omega)
    subst h0
    refine ⟨none, 0, fun w => ?_, ⟨h.row.drop okU 0 (fun _ b off e => by cases e), by simp, fun _ => rfl⟩⟩
    rw [run_slice_l w 29 none _ 0 slBy .i64 _ (by omega) (by simp)]
    go_simp
  | some ad, h =>
    refine ⟨some (if c = I then ad else ad.add I), c - I, fun w => ?_, ⟨h.row.drop okU I (fun hlt b off e => ?_), by rw [List.length_drop]; omega, by simp⟩⟩
    · rw [run_slice_l w 29 (some ad) _ c slBy .i64 _ (by omega) (by omega)]
      by_cases h : c = I
      · go_simp
      · go_simp
    · cases e
      rw [if_neg (by omega), addr_add]
      simp [BU]
end Go.Proofs.YtdemoghlibnooaaGreatDoor
namespace Go.Proofs.YtdemoghlibnooaaGreatDoor
open Go.RowKit Dk
set_option linter.unusedVariables false
set_option linter.unusedSimpArgs false
structure Dlo where
  p : Nat
  o : Option Addr
  c : Nat
  bs : List UInt8
  sy : Nat
def Dlo.fl (x : Dlo) : Fl := ⟨x.bs, x.sy⟩
def fcells (x : Dlo) : Array Value := #[.slice x.o x.bs.length x.c, .int .i64 ((x.sy : Nat) : Int)]
structure FileAt (w : World) (x : Dlo) : Prop where
  blk : w.heap[x.p]? = some (.cells (fcells x) 98 (0, 0))
  own : Own BU w x.o x.c x.bs
def R70 : Value → Option (DataW Unit × List MemPlace)
  | .pointer none => some (.nil, [])
  | .pointer (some a) => if a.off = 0 ∧ a.spot = none then some (.lit (.int .i64 ((a.block : Nat) : Int)), []) else none
  | _ => none
theorem R70_nil : R70 (.pointer none) = some (.nil, []) := rfl
theorem R70_mk (p : Nat) : R70 (.pointer (some ⟨p, 0, none⟩)) = some (.lit (.int .i64 ((p : Nat) : Int)), []) := by simp [R70]
theorem R70_inv {v : Value} {y : DataW Unit × List MemPlace} (h : R70 v = some y) : (v = .pointer none ∧ y.1 = .nil) ∨ ∃ p : Nat, v = .pointer (some ⟨p, 0, none⟩) ∧ y.1 = .lit (.int .i64 ((p : Nat) : Int)) := by
  unfold R70 at h
  split at h
  · cases h; exact .inl ⟨rfl, rfl⟩
  · rename_i a
    split at h
    · rename_i hc
      cases h
      obtain ⟨b, off, spot⟩ := a
      obtain ⟨rfl, rfl⟩ := hc
      exact .inr ⟨b, rfl, rfl⟩
    · cases h
  · cases h
theorem R70_shape (v : Value) (y : DataW Unit × List MemPlace) (h : R70 v = some y) : ∃ c : Option Addr, v = .pointer c := by
  rcases R70_inv h with ⟨rfl, _⟩ | ⟨p, rfl, _⟩ <;> exact ⟨_, rfl⟩
theorem law9 : Maps.Keyed Tryz.prog 9 := Maps.string_keyed Tryz.underlying9
theorem key9 (s : Tx) (h : s.size ≤ maxLen) : keyOf Tryz.prog 9 (.string s) = some (.string s.data.toList) := by
  simp [keyOf, Tryz.underlying9, mapKey, h]
theorem key9_inv (key : Value) (kl : Lit) (h : keyOf Tryz.prog 9 key = some kl) : ∃ s : Tx, key = .string s := by
  cases key <;> simp [keyOf, Tryz.underlying9, mapKey] at h
  exact ⟨_, rfl⟩
theorem key9_lit {s : Tx} {kl : Lit} (h : keyOf Tryz.prog 9 (.string s) = some kl) : kl = .string s.data.toList := by
  simp [keyOf, Tryz.underlying9, mapKey] at h
  exact h.2.symm
abbrev LL := List (Nm × Dlo)
def dat1 (q : Nm × Dlo) : Lit × DataW Unit := (.string q.1, .lit (.int .i64 ((q.2.p : Nat) : Int)))
def datW (L : LL) : DataW Unit := .map (L.map dat1)
theorem dat_ins (n : Nm) (x : Dlo) : ∀ L : LL, (ins (n, x) L).map dat1 = DataW.insert (dat1 (n, x)) (L.map dat1)
  | [] => rfl
  | y :: r => by
    have ih := dat_ins n x r
    simp only [ins, List.map_cons, DataW.insert]
    have e : (dat1 (n, x)).1.before (dat1 y).1 = bytesBefore n y.1 := rfl
    rw [e]
    split
    · simp
    · rw [List.map_cons, ih]
theorem dat_del' (n : Nm) (L : LL) : (del n L).map dat1 = (L.map dat1).filter (fun p => !p.1.sameKey (.string n)) := by
  rw [List.filter_map]
  rfl
theorem dat_delW (n : Nm) (L : LL) : (datW L).del (.string n) = datW (del n L) := by
  show DataW.map _ = DataW.map _
  rw [dat_del']
theorem dat_putW (n : Nm) (x : Dlo) (L : LL) : (datW L).put (.string n) (.lit (.int .i64 ((x.p : Nat) : Int))) = datW (put n x L) := by
  show DataW.map _ = DataW.map _
  rw [put, dat_ins, dat_del']
  rfl
theorem dat_at (n : Nm) (zd : DataW Unit) : ∀ L : LL, (datW L).atKey (.string n) zd = match find n L with | none => zd | some x => .lit (.int .i64 ((x.p : Nat) : Int))
  | [] => rfl
  | y :: r => by
    have ih := dat_at n zd r
    simp only [datW, DataW.atKey, List.map_cons, List.find?_cons, find] at ih ⊢
    have e : (dat1 y).1.sameKey (.string n) = (y.1 == n) := rfl
    rw [e]
    cases h : (y.1 == n)
    · simpa using ih
    · simp [dat1]
theorem dat_sizeW (L : LL) : Maps.size (datW L) = L.length := by simp [datW, Maps.size]
theorem dat_hasW (n : Nm) : ∀ L : LL, Maps.has (datW L) (.string n) = (find n L).isSome
  | [] => rfl
  | y :: r => by
    have ih := dat_hasW n r
    simp only [datW, Maps.has, List.map_cons, List.any_cons, find] at ih ⊢
    have e : (dat1 y).1.sameKey (.string n) = (y.1 == n) := rfl
    rw [e, ih]
    cases h : (y.1 == n) <;> simp
theorem dat_same {n : Nm} {x x' : Dlo} {L : LL} (hL : Inc L) (hf : find n L = some x) (hp : x'.p = x.p) : datW (put n x' L) = datW L := by
  rw [← dat_putW, hp, dat_putW, put_same hL hf]
theorem dat_mapv (g : Dlo → Dlo) (hg : ∀ x, (g x).p = x.p) (L : LL) : datW (mapv g L) = datW L := by
  simp [datW, mapv, dat1, Function.comp_def, hg]
def IsM (w : World) (bm : Nat) (L : LL) : Prop := w.ownsMap Tryz.prog 9 R70 bm L.length (datW L)
theorem IsM.keeps {S : Nat → Prop} {w w' : World} {bm : Nat} {L : LL} (h : IsM w bm L) (hk : Keeps S w w') (hb : ¬ S bm) : IsM w' bm L := by
  obtain ⟨es, clock, hh, r⟩ := h
  exact ⟨es, clock, hk.at hh hb, r⟩
theorem IsM.obj {w : World} {bm : Nat} {L : LL} (h : IsM w bm L) : ∃ es clock, w.heap[bm]? = some (.map es clock) := by
  obtain ⟨es, clock, hh, r⟩ := h
  exact ⟨es, clock, hh⟩
theorem isM_of {w : World} {bm n : Nat} {L : LL} (h : w.ownsMap Tryz.prog 9 R70 bm n (datW L)) : IsM w bm L := by
  obtain ⟨es, clock, hh, F, hs, hD⟩ := h
  refine ⟨es, clock, hh, F, ?_, hD⟩
  have : Maps.size (datW L) = es.size := by rw [hD]; simp [Maps.size, length_sorted]
  rw [dat_sizeW] at this
  omega
def dcells (bm : Nat) (off : Bool) (ref : Nat) (c keep : Int) : Array Value := #[.map (some bm), .bool off, .int .i64 ((ref : Nat) : Int), .int .i64 c, .int .i64 keep]
def i64 (x : Int) : Prop := -9223372036854775808 ≤ x ∧ x ≤ 9223372036854775807
structure DL (w : World) (p : Nat) (F : Nat → Prop) (s : St) (bm : Nat) (c : Int) (L : LL) : Prop where
  blk : w.heap[p]? = some (.cells (dcells bm s.off s.ref c s.keep) 89 (0, 0))
  map : IsM w bm L
  fs : s.fs = mapv Dlo.fl L
  files : ∀ q ∈ L, FileAt w q.2
  apart : L.Pairwise fun q r => q.2.p ≠ r.2.p ∧ ∀ k, inO q.2.o k → ¬ inO r.2.o k
  fp : F p
  fm : F bm
  ff : ∀ q ∈ L, F q.2.p ∧ ∀ k, inO q.2.o k → F k
  lt : ∀ k, F k → k < w.heap.size
  ok : Ok s
  cc : max c (-1) = s.calls
  ci : i64 c
  ki : i64 s.keep
  ri : (s.ref : Int) ≤ 9223372036854775807
def IsD (w : World) (p : Nat) (F : Nat → Prop) (s : St) : Prop := ∃ bm c L, DL w p F s bm c L
theorem FileAt.keeps {S : Nat → Prop} {w w' : World} {x : Dlo} (h : FileAt w x) (hk : Keeps S w w') (hp : ¬ S x.p) (ho : ∀ k, inO x.o k → ¬ S k) : FileAt w' x := ⟨hk.at h.blk hp, h.own.keeps hk ho⟩
theorem DL.keeps {S : Nat → Prop} {w w' : World} {p : Nat} {F : Nat → Prop} {s : St} {bm : Nat} {c : Int} {L : LL} (h : DL w p F s bm c L) (hk : Keeps S w w') (hS : ∀ k, F k → ¬ S k) : DL w' p F s bm c L :=
  ⟨hk.at h.blk (hS p h.fp), h.map.keeps hk (hS bm h.fm), h.fs, fun q hq => (h.files q hq).keeps hk (hS _ (h.ff q hq).1) (fun k hh => hS k ((h.ff q hq).2 k hh)), h.apart, h.fp, h.fm, h.ff, fun k hk' => Nat.lt_of_lt_of_le (h.lt k hk') hk.size, h.ok, h.cc, h.ci, h.ki, h.ri⟩
theorem IsD.keeps {S : Nat → Prop} {w w' : World} {p : Nat} {F : Nat → Prop} {s : St} (h : IsD w p F s) (hk : Keeps S w w') (hS : ∀ k, F k → ¬ S k) : IsD w' p F s := by
  obtain ⟨bm, c, L, h⟩ := h
  exact ⟨bm, c, L, h.keeps hk hS⟩
theorem IsD.keepsN {w w' : World} {p : Nat} {F : Nat → Prop} {s : St} (h : IsD w p F s) (hk : Keeps no w w') : IsD w' p F s := h.keeps hk (fun _ _ => id)
theorem IsD.ok {w : World} {p : Nat} {F : Nat → Prop} {s : St} (h : IsD w p F s) : Ok s := by
  obtain ⟨bm, c, L, h⟩ := h
  exact h.ok
theorem IsD.lt {w : World} {p : Nat} {F : Nat → Prop} {s : St} (h : IsD w p F s) : ∀ k, F k → k < w.heap.size := by
  obtain ⟨bm, c, L, h⟩ := h
  exact h.lt
theorem DL.wide {w : World} {p : Nat} {F F' : Nat → Prop} {s : St} {bm : Nat} {c : Int} {L : LL} (h : DL w p F s bm c L) (hF : ∀ k, F k → F' k) (hl : ∀ k, F' k → k < w.heap.size) : DL w p F' s bm c L :=
  ⟨h.blk, h.map, h.fs, h.files, h.apart, hF _ h.fp, hF _ h.fm, fun q hq => ⟨hF _ (h.ff q hq).1, fun k hk => hF _ ((h.ff q hq).2 k hk)⟩, hl, h.ok, h.cc, h.ci, h.ki, h.ri⟩
theorem ne_cells {w : World} {a b : Nat} {ca cb : Array Value} {ta tb : TypeId} {fa fb : Nat × Nat} (ha : w.heap[a]? = some (.cells ca ta fa)) (hb : w.heap[b]? = some (.cells cb tb fb)) (ht : ta ≠ tb) : a ≠ b := by
  rintro rfl
  rw [ha] at hb
  injection hb with hb
  injection hb with _ hb _
  exact ht hb
theorem ne_map {w : World} {a b : Nat} {ca : Array Value} {ta : TypeId} {fa : Nat × Nat} {es : Array MapEntry} {cl : Nat} (ha : w.heap[a]? = some (.cells ca ta fa)) (hb : w.heap[b]? = some (.map es cl)) : a ≠ b := by
  rintro rfl
  rw [ha] at hb
  cases hb
theorem DL.p_bm {w : World} {p : Nat} {F : Nat → Prop} {s : St} {bm : Nat} {c : Int} {L : LL} (h : DL w p F s bm c L) : p ≠ bm := by
  obtain ⟨es, cl, hm⟩ := h.map.obj
  exact ne_map h.blk hm
theorem FileAt.ne_p {w : World} {x : Dlo} {p : Nat} {cs : Array Value} (h : FileAt w x) (hb : w.heap[p]? = some (.cells cs 89 (0, 0))) : x.p ≠ p := ne_cells h.blk hb (by decide)
theorem FileAt.ne_bm {w : World} {x : Dlo} {bm : Nat} {L : LL} (h : FileAt w x) (hm : IsM w bm L) : x.p ≠ bm := by
  obtain ⟨es, cl, hm⟩ := hm.obj
  exact ne_map h.blk hm
theorem FileAt.o_p {w : World} {x y : Dlo} (h : FileAt w x) (h' : FileAt w y) : ∀ k, inO x.o k → k ≠ y.p := by
  intro k hk
  obtain ⟨cur, hc⟩ := h.own.tag k hk
  exact ne_cells hc h'.blk (by decide)
theorem FileAt.o_d {w : World} {x : Dlo} {p : Nat} {cs : Array Value} (h : FileAt w x) (hb : w.heap[p]? = some (.cells cs 89 (0, 0))) : ∀ k, inO x.o k → k ≠ p := by
  intro k hk
  obtain ⟨cur, hc⟩ := h.own.tag k hk
  exact ne_cells hc hb (by decide)
theorem FileAt.o_bm {w : World} {x : Dlo} {bm : Nat} {L : LL} (h : FileAt w x) (hm : IsM w bm L) : ∀ k, inO x.o k → k ≠ bm := by
  intro k hk
  obtain ⟨cur, hc⟩ := h.own.tag k hk
  obtain ⟨es, cl, hm⟩ := hm.obj
  exact ne_map hc hm
theorem apart_of {L : LL} (ha : L.Pairwise fun q r => q.2.p ≠ r.2.p ∧ ∀ k, inO q.2.o k → ¬ inO r.2.o k) {q r : Nm × Dlo} (hq : q ∈ L) (hr : r ∈ L) (hne : q.1 ≠ r.1) : q.2.p ≠ r.2.p ∧ ∀ k, inO q.2.o k → ¬ inO r.2.o k := by
  induction L with
  | nil => simp at hq
  | cons a t ih =>
    obtain ⟨h1, h2⟩ := List.pairwise_cons.1 ha
    rcases List.mem_cons.1 hq with rfl | hq'
    · rcases List.mem_cons.1 hr with rfl | hr'
      · exact absurd rfl hne
      · exact h1 r hr'
    · rcases List.mem_cons.1 hr with rfl | hr'
      · obtain ⟨a1, a2⟩ := h1 q hq'
        exact ⟨a1.symm, fun k hk hk' => a2 k hk' hk⟩
      · exact ih h2 hq' hr'
theorem apart_mk {L : LL} (hL : Inc L) (h : ∀ q ∈ L, ∀ r ∈ L, q.1 ≠ r.1 → q.2.p ≠ r.2.p ∧ ∀ k, inO q.2.o k → ¬ inO r.2.o k) : L.Pairwise fun q r => q.2.p ≠ r.2.p ∧ ∀ k, inO q.2.o k → ¬ inO r.2.o k := by
  refine List.Pairwise.imp_of_mem ?_ (inc_nodup hL)
  intro a b ha hb hne
  exact h a ha b hb hne
theorem DL.inc {w : World} {p : Nat} {F : Nat → Prop} {s : St} {bm : Nat} {c : Int} {L : LL} (h : DL w p F s bm c L) : Inc L := by
  have := h.ok.inc
  rw [h.fs] at this
  rw [inc_names, names_mapv, ← inc_names] at this
  exact this
theorem DL.len {w : World} {p : Nat} {F : Nat → Prop} {s : St} {bm : Nat} {c : Int} {L : LL} (h : DL w p F s bm c L) : s.fs.length = L.length := by rw [h.fs, length_mapv]
theorem DL.find {w : World} {p : Nat} {F : Nat → Prop} {s : St} {bm : Nat} {c : Int} {L : LL} (h : DL w p F s bm c L) (n : Nm) : find n s.fs = (find n L).map Dlo.fl := by rw [h.fs, find_mapv]
theorem DL.upd {w w' : World} {p : Nat} {F F' : Nat → Prop} {s : St} {bm : Nat} {c : Int} {L : LL} (h : DL w p F s bm c L) {n : Nm} {x x' : Dlo} (hf : Dk.find n L = some x)
    (hk : Keeps (fun k => k = x.p ∨ inO x.o k) w w') (hx : FileAt w' x') (hp : x'.p = x.p) (ho : ∀ k, inO x'.o k → inO x.o k ∨ w.heap.size ≤ k) (hF : ∀ k, F k → F' k) (hF2 : ∀ k, inO x'.o k → F' k) (hl : ∀ k, F' k → k < w'.heap.size)
    (hok : Ok { s with fs := put n x'.fl s.fs }) : DL w' p F' { s with fs := put n x'.fl s.fs } bm c (put n x' L) := by
  have hm := find_mem hf
  have hxw := h.files _ hm
  have hin : ∀ q ∈ L, q.1 ≠ n → FileAt w' q.2 := fun q hq hne => by
    have hap := apart_of h.apart hq hm hne
    have hqw := h.files q hq
    refine hqw.keeps hk ?_ ?_
    · rintro (e | e)
      · exact hap.1 e
      · exact hxw.o_p hqw _ e rfl
    · rintro k hk1 (e | e)
      · exact hqw.o_p hxw k hk1 e
      · exact hap.2 k hk1 e
  refine ⟨?_, ?_, ?_, ?_, ?_, hF _ h.fp, hF _ h.fm, ?_, hl, hok, h.cc, h.ci, h.ki, h.ri⟩
  · refine hk.at h.blk ?_
    rintro (e | e)
    · exact hxw.ne_p h.blk e.symm
    · exact hxw.o_d h.blk _ e rfl
  · have : IsM w' bm L := h.map.keeps hk (by
      rintro (e | e)
      · exact hxw.ne_bm h.map e.symm
      · exact hxw.o_bm h.map _ e rfl)
    refine isM_of (n := L.length) ?_
    rw [dat_same h.inc hf hp]
    exact this
  · show put n x'.fl s.fs = _
    rw [h.fs, mapv_put]
  · intro q hq
    rcases mem_put.1 hq with rfl | ⟨hq, hne⟩
    · exact hx
    · exact hin q hq hne
  · refine apart_mk (inc_put h.inc) ?_
    intro q hq r hr hne
    rcases mem_put.1 hq with rfl | ⟨hq, hqn⟩
    · rcases mem_put.1 hr with rfl | ⟨hr, hrn⟩
      · exact absurd rfl hne
      · have hap := apart_of h.apart hm hr (Ne.symm hrn)
        refine ⟨by simpa [hp] using hap.1, fun k hk1 hk2 => ?_⟩
        rcases ho k hk1 with e | e
        · exact hap.2 k e hk2
        · have := h.lt k ((h.ff r hr).2 k hk2); omega
    · rcases mem_put.1 hr with rfl | ⟨hr, hrn⟩
      · have hap := apart_of h.apart hq hm hqn
        refine ⟨by simpa [hp] using hap.1, fun k hk1 hk2 => ?_⟩
        rcases ho k hk2 with e | e
        · exact hap.2 k hk1 e
        · have := h.lt k ((h.ff q hq).2 k hk1); omega
      · exact apart_of h.apart hq hr hne
  · intro q hq
    rcases mem_put.1 hq with rfl | ⟨hq, hqn⟩
    · exact ⟨by show F' x'.p; rw [hp]; exact hF _ (h.ff _ hm).1, hF2⟩
    · exact ⟨hF _ (h.ff q hq).1, fun k hk => hF _ ((h.ff q hq).2 k hk)⟩
end Go.Proofs.YtdemoghlibnooaaGreatDoor
namespace Go.Proofs.YtdemoghlibnooaaGreatDoor
open Go.RowKit Dk
set_option linter.unusedVariables false
set_option linter.unusedSimpArgs false
theorem keeps_setG (w : World) (a i : Nat) (u : Value) : Keeps (fun k => k = a) w (w.setCell ⟨a, i, none⟩ u) :=
  (Keeps.refl (fun k => k = a) w).setCell (p := ⟨a, i, none⟩) (.inl rfl) u
theorem mkT_inj {a b : List UInt8} : mkT a = mkT b ↔ a = b := by
  constructor
  · intro h; have := congrArg (fun t : Tx => t.data.toList) h; simpa [mkT] using this
  · rintro rfl; rfl
theorem foldl_pushG (s : ByteArray) : ∀ ns : List Int, ns.foldl (fun r n => r.push (UInt8.ofNat n.toNat)) s = ⟨s.data ++ (ns.map fun n => UInt8.ofNat n.toNat).toArray⟩ := by
  intro ns
  induction ns generalizing s with
  | nil => simp
  | cons n r ih =>
    rw [List.foldl_cons, ih]
    simp [ByteArray.push]
theorem run_textG (w : World) (a : Option Addr) (bs : List UInt8) (n cap : Nat) (hn : n = bs.length) (hr : Row BU w a bs) :
    (convert 29 9 (.slice a n cap)).run Tryz.prog w = .ok (.string (mkT bs)) w := by
  subst hn
  rw [run_convert_bytes_string w 29 9 5 a bs.length cap Tryz.underlying29 Tryz.underlying5 Tryz.underlying9]
  match a, hr with
  | none, hr =>
    obtain rfl : bs = [] := by rcases hr with h | ⟨b, off, h, _⟩; exact h; cases h
    simp [Conv.bytesToString, mkT]
    rfl
  | some ad, hr =>
    have hload := run_loadCells_list (P := Tryz.prog) w ad (BU.cells bs) hr.news
    have e : BU.cells bs = (bs.map fun c => ((c.toNat : Nat) : Int)).map (Value.int .u8) := by rw [cells_U]; simp [bv]
    have e2 : (BU.cells bs).length = bs.length := by rw [cells_U]; simp
    rw [e2, e] at hload
    rw [run_bytesToString w ad bs.length cap _ hload, foldl_pushG]
    congr 2
    simp [mkT, Function.comp_def]
theorem clone_anyW (w : World) (a : Option Addr) (n c : Nat) (xs : List UInt8) (hn : n = xs.length) (hs : Sl BU w a c xs) (hb : xs.length ≤ 140737488355328) :
    Calls Tryz.prog 130 #[.slice a n c] w fun e w' => ∃ v, e = .returned v ∧ Gives BU w xs v w' := by
  have HN : Hid (n = xs.length) := hn
  have hb' : Hid (xs.length ≤ 140737488355328) := hb
  match a, hs with
  | none, hs =>
    have h0 : xs = [] := by rcases hs.row with h | ⟨b, off, h, _⟩; exact h; cases h
    have hnil := fun w => Lib.run_eql_slice_nil (P := Tryz.prog) w 29 5 none n c 0 0 Tryz.underlying29
    clear hn hb
    go_enter Tryz.func130, Tryz.ntmps130
    go_wp2_with fail
    go_ret
    subst h0
    exact ⟨_, rfl, none, 0, 0, rfl, (show 0 = _ by simp), own_nil _, new_none _, Keeps.refl _ _⟩
  | some ad, hs =>
    have hnil := fun w => Lib.run_eql_slice_nil (P := Tryz.prog) w 29 5 (some ad) n c 0 0 Tryz.underlying29
    clear hn hb
    go_enter Tryz.func130, Tryz.ntmps130
    go_wp2_with (at_builtin; refine wpList_app okU rfl _ _ rfl _ _ _ [] rfl rfl (own_empty okU _) _ _ _ xs rfl HN.out hs.nil (hs.row.keepsN ((Keeps.refl _ _).alloc _)) (by have := hb'.out; simp [BU]; omega) (by have := hb'.out; simp; omega) ?_; intro o' c' w' ho hap)
    go_ret
    have := hap.new (w0 := w) (new_fresh w _ (Nat.le_refl _) _) ((Keeps.refl _ _).alloc _)
    refine ⟨_, rfl, o', _, c', rfl, show _ = _ by simp [HN.out], by simpa using ho, this.1, this.2⟩
theorem sclone_anyW (w : World) (s : Tx) (h : s.size ≤ 281474976710656) :
    Calls Tryz.prog 95 #[.string s] w fun e w' => e = .returned (.string s) ∧ Keeps no w w' := by
  go_enter Tryz.func95, Tryz.ntmps95
  go_wp2_with fail
  refine (Any.stringslite_Clone Tryz.laysClone s w h).mono ?_
  rintro e w1 ⟨rfl, hb⟩
  go_wp2
  go_ret
  exact ⟨rfl, Keeps.of_below hb⟩
theorem isName_any (w : World) (s : Tx) : Calls Tryz.prog 46 #[.string s] w fun e w' => e = .returned (.bool (good s.data.toList)) ∧ w' = w := by
  have hl : s.data.toList.length = s.size := by rw [Array.length_toList]; rfl
  by_cases h1 : 1 ≤ s.size
  · by_cases h2 : s.size ≤ 32
    · go_enter Tryz.func46, Tryz.ntmps46
      go_wp2
      go_ret
      exact ⟨by simp [good, hl, h1, h2]; omega, rfl⟩
    · go_enter Tryz.func46, Tryz.ntmps46
      go_wp2
      go_ret
      exact ⟨by simp [good, hl, h1, h2]; omega, rfl⟩
  · go_enter Tryz.func46, Tryz.ntmps46
    go_wp2
    go_ret
    exact ⟨by simp [good, hl, h1], rfl⟩
theorem down_anyW (w : World) (p : Nat) (F : Nat → Prop) (s : St) (h : IsD w p F s) :
    Calls Tryz.prog 12 #[.pointer (some ⟨p, 0, none⟩)] w fun e w' => e = .returned (.bool s.off) ∧ w' = w := by
  obtain ⟨bm, c, L, h⟩ := h
  have c1 : w.cell? ⟨p, 1, none⟩ = some (.bool s.off) := cell_of_blk h.blk 1
  go_enter Tryz.func12, Tryz.ntmps12
  go_wp2
  go_ret
  exact ⟨rfl, rfl⟩
theorem DL.cells {w w' : World} {p : Nat} {F : Nat → Prop} {s s' : St} {bm : Nat} {c c' : Int} {L : LL} (h : DL w p F s bm c L) (hk : Keeps (fun k => k = p) w w') (hb : w'.heap[p]? = some (.cells (dcells bm s'.off s'.ref c' s'.keep) 89 (0, 0)))
    (hfs : s'.fs = s.fs) (hok : Ok s') (hcc : max c' (-1) = s'.calls) (hci : i64 c') (hki : i64 s'.keep) (hri : (s'.ref : Int) ≤ 9223372036854775807) : DL w' p F s' bm c' L :=
  ⟨hb, h.map.keeps hk (fun e => h.p_bm e.symm), hfs.trans h.fs, fun q hq => (h.files q hq).keeps hk ((h.files q hq).ne_p h.blk) ((h.files q hq).o_d h.blk), h.apart, h.fp, h.fm, h.ff, fun k hk' => Nat.lt_of_lt_of_le (h.lt k hk') hk.size, hok, hcc, hci, hki, hri⟩
theorem up_anyW (w : World) (p : Nat) (F : Nat → Prop) (s : St) (h : IsD w p F s) :
    Calls Tryz.prog 23 #[.pointer (some ⟨p, 0, none⟩)] w fun e w' => e = .returned (.tuple #[]) ∧ IsD w' p F (up s) ∧ Keeps F w w' := by
  obtain ⟨bm, c, L, h⟩ := h
  have c1 : w.cell? ⟨p, 1, none⟩ = some (.bool s.off) := cell_of_blk h.blk 1
  have c3 : w.cell? ⟨p, 3, none⟩ = some (.int .i64 c) := cell_of_blk h.blk 3
  have f1 : w.frozen? ⟨p, 1, none⟩ = false := frozen_of_blk h.blk 1
  have f3 : w.frozen? ⟨p, 3, none⟩ = false := frozen_of_blk h.blk 3
  go_enter Tryz.func23, Tryz.ntmps23
  go_wp2
  go_end0
  have hk := (keeps_setG w p 1 (.bool false)).trans (keeps_setG _ p 3 (.int .i64 (-1)))
  refine ⟨rfl, ⟨bm, -1, L, h.cells hk ?_ rfl (up_ok h.ok) (by simp [up]) (by unfold i64; omega) h.ki h.ri⟩, hk.mono (fun i e => by subst e; exact h.fp)⟩
  exact blk_set (blk_set h.blk 1 (.bool false)) 3 (.int .i64 (-1))
theorem arm_any (w : World) (p : Nat) (F : Nat → Prop) (s : St) (h : IsD w p F s) (n k : Int) (hn : i64 n) (hk : i64 k) :
    Calls Tryz.prog 10 #[.pointer (some ⟨p, 0, none⟩), .int .i64 n, .int .i64 k] w fun e w' => e = .returned (.tuple #[]) ∧ IsD w' p F (arm n k s) ∧ Keeps F w w' := by
  obtain ⟨bm, c, L, h⟩ := h
  have c3 : w.cell? ⟨p, 3, none⟩ = some (.int .i64 c) := cell_of_blk h.blk 3
  have c4 : w.cell? ⟨p, 4, none⟩ = some (.int .i64 s.keep) := cell_of_blk h.blk 4
  have f3 : w.frozen? ⟨p, 3, none⟩ = false := frozen_of_blk h.blk 3
  have f4 : w.frozen? ⟨p, 4, none⟩ = false := frozen_of_blk h.blk 4
  go_enter Tryz.func10, Tryz.ntmps10
  go_wp2
  go_end0
  have hk' := (keeps_setG w p 3 (.int .i64 n)).trans (keeps_setG _ p 4 (.int .i64 k))
  refine ⟨rfl, ⟨bm, n, L, h.cells hk' ?_ rfl (arm_ok h.ok) (by simp [arm]) hn hk h.ri⟩, hk'.mono (fun i e => by subst e; exact h.fp)⟩
  exact blk_set (blk_set h.blk 3 (.int .i64 n)) 4 (.int .i64 k)
theorem new_anyW (w : World) : Calls Tryz.prog 7 #[] w fun e w' => ∃ p, e = .returned (.pointer (some ⟨p, 0, none⟩)) ∧ IsD w' p (fun k => w.heap.size ≤ k ∧ k < w'.heap.size) Dk.new ∧ Keeps no w w' := by
  have hmm := @run_makeMap Tryz.prog
  go_enter Tryz.func7, Tryz.ntmps7
  go_wp2
  go_ret
  refine ⟨_, rfl, ⟨w.heap.size, -1, [], ?_⟩, ((Keeps.refl _ _).alloc _).alloc _⟩
  have hb := blk_new (w.alloc (.map #[] 0)) (.cells (dcells w.heap.size new.off new.ref (-1) new.keep) 89)
  rw [show (w.alloc (.map #[] 0)).heap.size = w.heap.size + 1 by simp] at hb
  refine ⟨hb, ?_, rfl, by simp, List.Pairwise.nil, by simp, by simp; omega, by simp, fun k hk => hk.2, new_ok, rfl, by unfold i64; omega, by simp [new, i64], by simp [new]⟩
  exact (World.ownsMap_made w Tryz.prog 9 R70).alloc _
end Go.Proofs.YtdemoghlibnooaaGreatDoor
namespace Go.Proofs.YtdemoghlibnooaaGreatDoor
open Go.RowKit Dk
set_option linter.unusedVariables false
set_option linter.unusedSimpArgs false
def crLo (k : Int) (x : Dlo) : Dlo := ⟨x.p, x.o, x.c, x.bs.take (cutN k x.fl), cutN k x.fl⟩
theorem crLo_fl (k : Int) (x : Dlo) : (crLo k x).fl = crF k x.fl := rfl
set_option maxRecDepth 10000 in
theorem fcrash_any (w : World) (x : Dlo) (k : Int) (h : FileAt w x) (hs : x.sy ≤ x.bs.length) (hk : i64 k) :
    Calls Tryz.prog 60 #[.pointer (some ⟨x.p, 0, none⟩), .int .i64 k] w fun e w' => e = .returned (.tuple #[]) ∧ FileAt w' (crLo k x) ∧ Keeps (fun i => i = x.p) w w' := by
  obtain ⟨p, o, c, bs, sy⟩ := x
  obtain ⟨n, hn⟩ : ∃ n, n = bs.length := ⟨_, rfl⟩
  obtain ⟨q, hq⟩ : ∃ q, q = cutN k ⟨bs, sy⟩ := ⟨_, rfl⟩
  have hcap : n ≤ c ∧ c ≤ maxLen := ⟨hn ▸ h.own.cap.1, h.own.max⟩
  have hqv : q = sy + min k.toNat (n - sy) := by rw [hq, hn]; rfl
  have c0 : w.cell? ⟨p, 0, none⟩ = some (.slice o n c) := by rw [hn]; exact cell_of_blk h.blk 0
  have c1 : w.cell? ⟨p, 1, none⟩ = some (.int .i64 ((sy : Nat) : Int)) := cell_of_blk h.blk 1
  have f0 : w.frozen? ⟨p, 0, none⟩ = false := frozen_of_blk h.blk 0
  have f1 : w.frozen? ⟨p, 1, none⟩ = false := frozen_of_blk h.blk 1
  have hs' : sy ≤ n := by rw [hn]; exact hs
  have hm : c ≤ 9223372036854775807 := by have := hcap.2; unfold maxLen at this; omega
  have hn1 : n ≤ c := hcap.1
  have k1 := hk.1
  have k2 := hk.2
  have HN : Hid (n = bs.length) := hn
  have HQ : Hid (q = cutN k ⟨bs, sy⟩) := hq
  have HQV : Hid (((sy : Nat) : Int) + min (max k 0) ((n : Int) - sy) = ((q : Nat) : Int)) := (show _ = _ by omega)
  have hqn : q ≤ n := by omega
  have HH : Hid (FileAt w ⟨p, o, c, bs, sy⟩) := h
  clear hn hq hcap hqv h hs
  have HC : Hid (crLo k ⟨p, o, c, bs, sy⟩ = ⟨p, o, c, bs.take q, q⟩) := (show _ = _ by rw [HQ.out]; rfl)
  have HQN : Hid (q ≤ bs.length) := (show _ by rw [← HN.out]; exact hqn)
  have HK : Hid (∀ m, Keeps (fun i => i = p) w (((w.drewN m).setCell ⟨p, 1, none⟩ (.int .i64 ((q : Nat) : Int))).setCell ⟨p, 0, none⟩ (.slice o q c)).drew) := (show _ from fun m => ((((Keeps.refl (fun i => i = p) w).drewN m).trans (keeps_setG _ p 1 _)).trans (keeps_setG _ p 0 _)).drew)
  have HF : Hid (∀ m, FileAt (((w.drewN m).setCell ⟨p, 1, none⟩ (.int .i64 ((q : Nat) : Int))).setCell ⟨p, 0, none⟩ (.slice o q c)).drew (crLo k ⟨p, o, c, bs, sy⟩)) := (show _ from fun m => by
    have hb := blk_set (w := (w.drewN m).setCell ⟨p, 1, none⟩ (.int .i64 ((q : Nat) : Int))) (blk_set (w := w.drewN m) HH.out.blk 1 (.int .i64 ((q : Nat) : Int))) 0 (.slice o q c)
    have hl : (bs.take q).length = q := by rw [List.length_take, Nat.min_eq_left HQN.out]
    rw [HC.out]
    refine ⟨hb.trans ?_, (HH.out.own.cut okU HQN.out).keeps (HK.out m) (fun i hi e => HH.out.o_p HH.out i hi e)⟩
    simp [fcells, hl])
  have hcut := cutO o n c q (by omega) HH.out.own.cap.2
  go_enter Tryz.func60, Tryz.ntmps60
  go_wp2
  go_quiet (fail)
  go_wp2
  rw [HQV.out]
  go_region_with (fail)
  all_goals go_wp2
  all_goals go_end0
  all_goals exact ⟨rfl, HF.out nq, HK.out nq⟩
def crIf (left : Lit → Bool) (k : Int) (q : Nm × Dlo) : Dlo := if left (.string q.1) then q.2 else crLo k q.2
theorem crIf_p (left : Lit → Bool) (k : Int) (q : Nm × Dlo) : (crIf left k q).p = q.2.p ∧ (crIf left k q).o = q.2.o := by
  unfold crIf; split <;> exact ⟨rfl, rfl⟩
theorem crash_one {L : LL} {k : Int} {wr : World} {left : Lit → Bool} {x : Tx} {kl : Lit} {a : Option Addr} {y : DataW Unit × List MemPlace} (hL : Inc L) (hkey : keyOf Tryz.prog 9 (.string x) = some kl) (hlk : left kl = true) (hR : R70 (.pointer a) = some y) (hat : ∀ zd, (datW L).atKey kl zd = y.1) (hF : ∀ q ∈ L, FileAt wr (crIf left k q)) :
    ∃ q ∈ L, kl = .string q.1 ∧ a = some ⟨q.2.p, 0, none⟩ ∧ Hid (FileAt wr q.2) := by
  obtain rfl := key9_lit hkey
  cases hf : find x.data.toList L with
  | none =>
    have h1 := hat .nil
    have h2 := hat (.lit (.bool true))
    rw [dat_at, hf] at h1 h2
    simp only at h1 h2
    rw [← h1] at h2
    cases h2
  | some lo =>
    have h1 := hat .nil
    rw [dat_at, hf] at h1
    simp only at h1
    have hm := find_mem hf
    refine ⟨(x.data.toList, lo), hm, rfl, ?_, ?_⟩
    · rcases R70_inv hR with ⟨_, e⟩ | ⟨p, e1, e2⟩
      · rw [e] at h1; cases h1
      · rw [e2] at h1
        have h3 := congrArg (fun d : DataW Unit => match d with | .lit (.int _ z) => z | _ => 0) h1
        simp only at h3
        have hp : p = lo.p := by omega
        rw [← hp]
        injection e1
    · have := hF _ hm
      unfold crIf at this
      rw [show left (.string (x.data.toList, lo).1) = true from hlk] at this
      exact this
theorem crash_step {w wr w1 w2 : World} {p : Nat} {F : Nat → Prop} {s : St} {bm : Nat} {c : Int} {L : LL} {k : Int} {left : Lit → Bool} {cnt1 : Nat} {q : Nm × Dlo} {kl : Lit} (hD : DL w p F s bm c L) (hq : q ∈ L) (hkl : kl = .string q.1) (hlk : left kl = true) (hF : ∀ q ∈ L, FileAt wr (crIf left k q)) (hK : Keeps (fun i => ∃ q ∈ L, i = q.2.p) w wr)
    (hrg1 : w1.ranges Tryz.prog 9 R70 bm w.heap.size L.length (datW L) (fun z => left z && !z.sameKey kl) cnt1) (hg1 : wr.grownBy w1 (some w.heap.size)) (hX2 : FileAt w2 (crLo k q.2)) (hK2 : Keeps (fun i => i = q.2.p) w1 w2) :
    ∃ (left : Lit → Bool) (cnt : Nat), w2.ranges Tryz.prog 9 R70 bm w.heap.size L.length (datW L) left cnt ∧ Hid (∀ q ∈ L, FileAt w2 (crIf left k q)) ∧ Hid (Keeps (fun i => ∃ q ∈ L, i = q.2.p) w w2) := by
  subst hkl
  have hlt := fun r hr => hD.lt _ (hD.ff r hr).1
  have hbm : bm ≠ q.2.p := fun e => (hD.files q hq).ne_bm hD.map e.symm
  refine ⟨_, _, hrg1.kept (grown_of hK2) (fun e => hbm (by injection e)) (fun e => by injection e with e; have := hlt q hq; omega), ?_, ?_⟩
  · intro r hr
    by_cases hrn : r.1 = q.1
    · have e : r = q := by
        have h1 := find_of_mem hD.inc (show (r.1, r.2) ∈ L from hr)
        have h2 := find_of_mem hD.inc (show (q.1, q.2) ∈ L from hq)
        rw [hrn] at h1
        rw [h1] at h2
        injection h2 with h2
        exact Prod.ext hrn h2
      subst e
      unfold crIf
      have : (left (.string r.1) && !(Lit.string r.1).sameKey (.string r.1)) = false := by simp [Lit.sameKey]
      simp only [this]
      exact hX2
    · have hap := apart_of hD.apart hr hq hrn
      have e : crIf (fun z => left z && !z.sameKey (.string q.1)) k r = crIf left k r := by
        unfold crIf
        have : (left (.string r.1) && !(Lit.string r.1).sameKey (.string q.1)) = left (.string r.1) := by simp [Lit.sameKey, hrn]
        simp only [this]
      rw [e]
      obtain ⟨e1, e2⟩ := crIf_p left k r
      have hX1 := (hF r hr).keeps (keeps_of_grown hg1) (by rw [e1]; have := hlt r hr; omega) (by rw [e2]; intro i hi e; have := hD.lt _ ((hD.ff r hr).2 i hi); omega)
      refine hX1.keeps hK2 (by rw [e1]; exact hap.1) ?_
      intro i hi e
      subst e
      rw [e2] at hi
      exact (hD.files r hr).o_p (hD.files q hq) _ hi rfl
  · have h1 : Keeps (fun i => ∃ q ∈ L, i = q.2.p) w w1 := hK.grown hg1 (fun i hi => by cases hi; exact .inr (Nat.le_refl _))
    exact h1.then hK2 (fun i e => .inl ⟨q, hq, e⟩)
theorem crash_end {w wr w' : World} {p : Nat} {F : Nat → Prop} {s : St} {bm : Nat} {c : Int} {L : LL} {k : Int} {n : Nat} (hD : DL w p F s bm c L) (hoff : s.off = false) (hK : Keeps (fun i => ∃ q ∈ L, i = q.2.p) w wr) (hF : ∀ q ∈ L, FileAt wr (crLo k q.2)) (hm : wr.ownsMap Tryz.prog 9 R70 bm n (datW L))
    (hks : Keeps (fun i => i = p) wr w') (hb : w'.heap[p]? = some (.cells (dcells bm true s.ref (-1) s.keep) 89 (0, 0))) : IsD w' p F (crash k s) ∧ Keeps F w w' := by
  have ec : crash k s = ⟨mapv (crF k) s.fs, true, s.ref, -1, s.keep⟩ := by unfold crash; rw [hoff]; rfl
  have hbw : wr.heap[p]? = some (.cells (dcells bm s.off s.ref c s.keep) 89 (0, 0)) := hK.at hD.blk (by rintro ⟨q, hq, e⟩; exact (hD.files q hq).ne_p hD.blk e.symm)
  have hok := crash_ok (k := k) hD.ok
  refine ⟨⟨bm, -1, mapv (crLo k) L, ?_⟩, ?_⟩
  · rw [ec] at hok ⊢
    have hmem : ∀ r ∈ mapv (crLo k) L, ∃ q ∈ L, r = (q.1, crLo k q.2) := fun r hr => by
      simp only [mapv, List.mem_map] at hr
      obtain ⟨q, hq, rfl⟩ := hr
      exact ⟨q, hq, rfl⟩
    refine ⟨hb, ?_, ?_, ?_, ?_, hD.fp, hD.fm, ?_, ?_, hok, rfl, by unfold i64; omega, hD.ki, hD.ri⟩
    · have h1 : IsM wr bm L := isM_of hm
      have h2 : IsM w' bm L := h1.keeps hks (fun e => hD.p_bm e.symm)
      refine isM_of (n := L.length) ?_
      rw [dat_mapv (crLo k) (fun _ => rfl)]
      exact h2
    · show mapv (crF k) s.fs = _
      rw [hD.fs]
      simp [mapv, crLo_fl, Function.comp_def]
    · intro r hr
      obtain ⟨q, hq, rfl⟩ := hmem r hr
      exact (hF q hq).keeps hks ((hF q hq).ne_p hbw) ((hF q hq).o_d hbw)
    · simp only [mapv, List.pairwise_map]
      exact hD.apart
    · intro r hr
      obtain ⟨q, hq, rfl⟩ := hmem r hr
      exact hD.ff q hq
    · intro i hi
      exact Nat.lt_of_lt_of_le (hD.lt i hi) (Nat.le_trans hK.size hks.size)
  · refine Keeps.trans (hK.mono ?_) (hks.mono ?_)
    · rintro i ⟨q, hq, rfl⟩
      exact (hD.ff q hq).1
    · rintro i rfl
      exact hD.fp
set_option maxRecDepth 10000 in
theorem crash_on (w : World) (p : Nat) (F : Nat → Prop) (s : St) (k : Int) (h : IsD w p F s) (hoff : s.off = false) (hk : i64 k) :
    Calls Tryz.prog 22 #[.pointer (some ⟨p, 0, none⟩), .int .i64 k] w fun e w' => e = .returned (.tuple #[]) ∧ IsD w' p F (crash k s) ∧ Keeps F w w' := by
  obtain ⟨bm, c, L, h⟩ := h
  have c0 : w.cell? ⟨p, 0, none⟩ = some (.map (some bm)) := cell_of_blk h.blk 0
  have c1 : w.cell? ⟨p, 1, none⟩ = some (.bool false) := by rw [← hoff]; exact cell_of_blk h.blk 1
  have c3 : w.cell? ⟨p, 3, none⟩ = some (.int .i64 c) := cell_of_blk h.blk 3
  have f1 : w.frozen? ⟨p, 1, none⟩ = false := frozen_of_blk h.blk 1
  have f3 : w.frozen? ⟨p, 3, none⟩ = false := frozen_of_blk h.blk 3
  have HD : Hid (DL w p F s bm c L) := h
  have hmap : w.ownsMap Tryz.prog 9 R70 bm L.length (datW L) := h.map
  have HO : Hid (s.off = false) := hoff
  have HI : Hid (i64 k) := hk
  clear h hoff hk
  go_enter Tryz.func22, Tryz.ntmps22
  go_wp2_with (first | (at_range; refine wpList_range_own _ rfl _ 87 rfl 9 96 law9 Tryz.underlying87 _ bm _ _ rfl hmap ?_; intro w0 hrg0 hg0 hs0) | go_in)
  go_frame
  go_loopw [5] (fun _ wr => ∃ (left : Lit → Bool) (cnt : Nat), wr.ranges Tryz.prog 9 R70 bm w.heap.size L.length (datW L) left cnt ∧ Hid (∀ q ∈ L, FileAt wr (crIf left k q)) ∧ Hid (Keeps (fun i => ∃ q ∈ L, i = q.2.p) w wr))
    (fun _ wr => wr.rangeLeft bm w.heap.size)
  case atStart =>
    refine ⟨_, _, hrg0, ?_, (Keeps.refl _ w).grown hg0 (fun k hk => by cases hk)⟩
    intro q hq
    have : Maps.has (datW L) (.string q.1) = true := by rw [dat_hasW, find_of_mem HD.out.inc (show (q.1, q.2) ∈ L from hq)]; rfl
    unfold crIf
    rw [this]
    exact (HD.out.files q hq).keeps ((Keeps.refl no w).grown hg0 (fun k hk => by cases hk)) (fun h => h) (fun _ _ h => h)
  case round =>
    obtain ⟨left, cnt, hrg, HF, HK⟩ := hrel
    have hbw : wr.heap[p]? = some (.cells (dcells bm s.off s.ref c s.keep) 89 (0, 0)) := HK.out.at HD.out.blk (by rintro ⟨q, hq, e⟩; exact (HD.out.files q hq).ne_p HD.out.blk e.symm)
    have HB : Hid (wr.heap[p]? = some (.cells (dcells bm s.off s.ref c s.keep) 89 (0, 0))) := hbw
    have d1 : wr.cell? ⟨p, 1, none⟩ = some (.bool s.off) := cell_of_blk hbw 1
    have d3 : wr.cell? ⟨p, 3, none⟩ = some (.int .i64 c) := cell_of_blk hbw 3
    have g1 : wr.frozen? ⟨p, 1, none⟩ = false := frozen_of_blk hbw 1
    have g3 : wr.frozen? ⟨p, 3, none⟩ = false := frozen_of_blk hbw 3
    clear hbw
    go_wp2_with (first | (at_next; refine wpList_next_ranges _ rfl _ rfl 9 law9 R70 Value.string Value.pointer key9_inv R70_shape bm w.heap.size L.length _ _ _ rfl hrg ?_ ?_) | go_in)
    · intro _ hl0
      go_wp2
      go_end0
      have hks := (keeps_setG wr p 1 (.bool true)).trans (keeps_setG _ p 3 (.int .i64 (-1)))
      have hfin := crash_end HD.out HO.out HK.out (fun q hq => by have := HF.out q hq; unfold crIf at this; rw [hl0] at this; exact this) hrg.owns hks (blk_set (blk_set HB.out 1 (.bool true)) 3 (.int .i64 (-1)))
      exact ⟨rfl, hfin⟩
    · intro x a kl y yp w1 cnt1 hkey hlk hR hat hrg1 hlt hg1 hs1 hen
      obtain ⟨q, hqL, hqn, rfl, HX⟩ := crash_one (k := k) HD.out.inc hkey hlk hR hat HF.out
      have HQ : Hid (q ∈ L ∧ kl = .string q.1) := ⟨hqL, hqn⟩
      have hne : w.heap.size ≠ q.2.p := fun e => by have := HD.out.lt _ (HD.out.ff q hqL).1; omega
      have HX1 : Hid (FileAt w1 q.2) := (show _ from HX.out.keeps (keeps_of_grown hg1) hne.symm (fun i hi e => by have := HD.out.lt _ ((HD.out.ff q hqL).2 i hi); omega))
      have hsy : q.2.sy ≤ q.2.bs.length := HD.out.ok.sy (q.1, q.2.fl) (by rw [HD.out.fs]; exact List.mem_map.2 ⟨q, hqL, rfl⟩)
      clear hqL hqn hkey hR hat HB d1 d3 g1 g3
      go_wp2_with (go_at_call 60; refine (fcrash_any _ q.2 k HX1.out hsy HI.out).mono ?_; rintro e w2 ⟨rfl, HX2, HK2⟩)
      go_roundw
      case rel => exact crash_step HD.out HQ.out.1 HQ.out.2 hlk HF.out HK.out hrg1 hg1 HX2 HK2
      case measure => rw [(hrg1.kept (grown_of HK2) (fun e => (HD.out.files q HQ.out.1).ne_bm HD.out.map (by injection e with e; exact e.symm)) (fun e => hne (by injection e))).left_eq, hrg.left_eq]; exact hlt
theorem crash_any (w : World) (p : Nat) (F : Nat → Prop) (s : St) (k : Int) (h : IsD w p F s) (hk : i64 k) :
    Calls Tryz.prog 22 #[.pointer (some ⟨p, 0, none⟩), .int .i64 k] w fun e w' => e = .returned (.tuple #[]) ∧ IsD w' p F (crash k s) ∧ Keeps F w w' := by
  cases hoff : s.off with
  | false => exact crash_on w p F s k h hoff hk
  | true =>
    have h0 := h
    obtain ⟨bm, c, L, h⟩ := h
    have c1 : w.cell? ⟨p, 1, none⟩ = some (.bool true) := by rw [← hoff]; exact cell_of_blk h.blk 1
    have e : crash k s = s := by unfold crash; rw [hoff]; rfl
    rw [e]
    clear e
    go_enter Tryz.func22, Tryz.ntmps22
    go_wp2
    refine bodyPost_ret (results_none rfl _ _ _) rfl ?_
    exact ⟨rfl, h0, Keeps.refl _ _⟩
theorem counts_any (w : World) (p : Nat) (F : Nat → Prop) (s : St) (h : IsD w p F s) :
    Calls Tryz.prog 45 #[.pointer (some ⟨p, 0, none⟩)] w fun e w' => e = .returned (.bool (!(tick s).off)) ∧ IsD w' p F (tick s) ∧ Keeps F w w' := by
  obtain ⟨bm, c, L, hd⟩ := h
  have c1 : w.cell? ⟨p, 1, none⟩ = some (.bool s.off) := cell_of_blk hd.blk 1
  have c3 : w.cell? ⟨p, 3, none⟩ = some (.int .i64 c) := cell_of_blk hd.blk 3
  have c4 : w.cell? ⟨p, 4, none⟩ = some (.int .i64 s.keep) := cell_of_blk hd.blk 4
  have f3 : w.frozen? ⟨p, 3, none⟩ = false := frozen_of_blk hd.blk 3
  have HD : Hid (DL w p F s bm c L) := hd
  have hc1 := hd.ci.1
  have hc2 := hd.ci.2
  have HCC : Hid (max c (-1) = s.calls) := hd.cc
  have HKI : Hid (i64 s.keep) := hd.ki
  by_cases h0 : c = 0
  · have et : tick s = crash s.keep s := by
      unfold tick; rw [if_pos (by have := HCC.out; omega)]
    rw [et]
    have HIS : Hid (IsD w p F s) := ⟨bm, c, L, hd⟩
    subst h0
    clear hd et
    go_enter Tryz.func45, Tryz.ntmps45
    go_wp2_with (go_at_call 22; refine (crash_any _ p F s s.keep HIS.out HKI.out).mono ?_; rintro e w1 ⟨rfl, ⟨bm1, cc1, L1, hd1⟩, HK⟩; have d1 := cell_of_blk hd1.blk 1; simp only [dcells] at d1)
    go_ret
    exact ⟨rfl, ⟨bm1, cc1, L1, hd1⟩, HK⟩
  · by_cases h1 : 0 < c
    · have et : tick s = { s with calls := s.calls - 1 } := by
        unfold tick; rw [if_neg (by have := HCC.out; omega), if_pos (by have := HCC.out; omega)]
      rw [et]
      clear hd et
      go_enter Tryz.func45, Tryz.ntmps45
      go_wp2
      go_ret
      have hks := keeps_setG w p 3 (.int .i64 (c - 1))
      have := HCC.out
      refine ⟨rfl, ⟨bm, c - 1, L, HD.out.cells hks (blk_set HD.out.blk 3 _) rfl ?_ ?_ ⟨by omega, by omega⟩ HD.out.ki HD.out.ri⟩, hks.mono (fun i e => by subst e; exact HD.out.fp)⟩
      · exact ⟨HD.out.ok.inc, HD.out.ok.len, HD.out.ok.sy, HD.out.ok.nm, by simp; omega⟩
      · simp; omega
    · have et : tick s = s := by
        unfold tick; rw [if_neg (by have := HCC.out; omega), if_neg (by have := HCC.out; omega)]
      rw [et]
      clear hd et
      go_enter Tryz.func45, Tryz.ntmps45
      go_wp2
      go_ret
      exact ⟨rfl, ⟨bm, c, L, HD.out⟩, Keeps.refl _ _⟩
end Go.Proofs.YtdemoghlibnooaaGreatDoor
namespace Go.Proofs.YtdemoghlibnooaaGreatDoor
open Go.RowKit Dk
set_option linter.unusedVariables false
set_option linter.unusedSimpArgs false
def ptrOf (o : Option Dlo) : Value := match o with | none => .pointer none | some x => .pointer (some ⟨x.p, 0, none⟩)
theorem look {w : World} {bm : Nat} {L : LL} (h : IsM w bm L) (n : Tx) (hn : n.size ≤ maxLen) : (Instr.lookup 87 (.map (some bm)) (.string n) false).run Tryz.prog w = .ok (ptrOf (find n.data.toList L)) w := by
  obtain ⟨v, ps, hrun, hv⟩ := World.ownsMap.lookup h law9 Tryz.underlying87 (z := .pointer none) (Tryz.zeroValue96 w) R70_nil (key9 n hn)
  suffices hh : v = ptrOf (find n.data.toList L) by rw [hrun, hh]
  clear hrun
  rw [dat_at] at hv
  cases hf : find n.data.toList L with
  | none =>
    rw [hf] at hv
    simp only at hv
    rcases R70_inv hv with ⟨rfl, _⟩ | ⟨p, _, e⟩
    · rfl
    · cases e
  | some x =>
    rw [hf] at hv
    simp only at hv
    rcases R70_inv hv with ⟨_, e⟩ | ⟨p, rfl, e⟩
    · cases e
    · have h3 := congrArg (fun d : DataW Unit => match d with | .lit (.int _ z) => z | _ => 0) e
      simp only at h3
      have hp : x.p = p := by omega
      simp [ptrOf, hp]
inductive Found (w : World) (p : Nat) (F : Nat → Prop) (t : St) (n : Nm) : Value → Int → Prop
  | off (h : IsD w p F t) (ho : t.off = true) : Found w p F t n (.pointer none) 62
  | none (h : IsD w p F t) (ho : t.off = false) (hf : find n t.fs = Option.none) : Found w p F t n (.pointer Option.none) 61
  | some (bm : Nat) (c : Int) (L : LL) (x : Dlo) (h : DL w p F t bm c L) (ho : t.off = false) (hf : find n L = Option.some x) : Found w p F t n (.pointer (Option.some ⟨x.p, 0, Option.none⟩)) 0
theorem find_any (w : World) (p : Nat) (F : Nat → Prop) (s : St) (n : Tx) (h : IsD w p F s) (hn : n.size ≤ maxLen) :
    Calls Tryz.prog 66 #[.pointer (some ⟨p, 0, none⟩), .string n] w fun e w' => ∃ v er, e = .returned (.tuple #[v, .int .i64 er]) ∧ Found w' p F (tick s) n.data.toList v er ∧ Keeps F w w' := by
  obtain ⟨t, ht⟩ : ∃ t, t = tick s := ⟨_, rfl⟩
  rw [← ht]
  have HT : Hid (t = tick s) := ht
  clear ht
  go_enter Tryz.func66, Tryz.ntmps66
  go_wp2_with fail
  refine (counts_any w p F s h).mono ?_
  rintro e w1 ⟨rfl, h1, HK⟩
  rw [← HT.out] at h1 ⊢
  cases ho : t.off with
  | true =>
    go_wp2
    go_ret2
    exact ⟨_, _, rfl, .off h1 ho, HK⟩
  | false =>
    obtain ⟨bm, c, L, hd⟩ := h1
    have c0 : w1.cell? ⟨p, 0, none⟩ = some (.map (some bm)) := cell_of_blk hd.blk 0
    have hl := look hd.map n hn
    have HD : Hid (DL w1 p F t bm c L) := hd
    cases hf : Dk.find n.data.toList L with
    | none =>
      rw [hf] at hl
      simp only [ptrOf] at hl
      clear hd
      go_wp2
      go_ret2
      exact ⟨_, _, rfl, .none ⟨bm, c, L, HD.out⟩ ho (by rw [HD.out.find, hf]; rfl), HK⟩
    | some x =>
      rw [hf] at hl
      simp only [ptrOf] at hl
      clear hd
      go_wp2
      go_ret2
      exact ⟨_, _, rfl, .some bm c L x HD.out ho hf, HK⟩
theorem dread_any (w : World) (p : Nat) (F : Nat → Prop) (s : St) (n : Tx) (h : IsD w p F s) (hn : n.size ≤ maxLen) (hb : (readB n.data.toList (tick s)).length ≤ 140737488355328) :
    Calls Tryz.prog 84 #[.pointer (some ⟨p, 0, none⟩), .string n] w fun e w' => ∃ o c m, e = .returned (.tuple #[.slice o m c, .int .i64 (readE n.data.toList (tick s))]) ∧ Hid (m = (readB n.data.toList (tick s)).length) ∧ Own BU w' o c (readB n.data.toList (tick s)) ∧ New w o ∧ IsD w' p F (tick s) ∧ Keeps F w w' := by
  obtain ⟨t, ht⟩ : ∃ t, t = tick s := ⟨_, rfl⟩
  rw [← ht] at hb ⊢
  have HT : Hid (t = tick s) := ht
  clear ht
  go_enter Tryz.func84, Tryz.ntmps84
  go_wp2_with fail
  refine (find_any w p F s n h hn).mono ?_
  rintro e w1 ⟨v, er, rfl, hF, HK⟩
  rw [← HT.out] at hF
  cases hF with
  | off h ho =>
    have e1 : readB n.data.toList t = [] := by simp [readB, ho]
    have e2 : readE n.data.toList t = 62 := by simp [readE, ho]
    go_wp2
    go_ret2
    rw [e1, e2]
    exact ⟨_, _, _, rfl, rfl, own_nil _, new_none _, h, HK⟩
  | none h ho hf =>
    have e1 : readB n.data.toList t = [] := by simp [readB, ho, hf]
    have e2 : readE n.data.toList t = 61 := by simp [readE, ho, hf]
    go_wp2
    go_ret2
    rw [e1, e2]
    exact ⟨_, _, _, rfl, rfl, own_nil _, new_none _, h, HK⟩
  | some bm c L x h ho hf =>
    have hx := (h.files _ (find_mem hf))
    have c0 : w1.cell? ⟨x.p, 0, none⟩ = some (.slice x.o x.bs.length x.c) := cell_of_blk hx.blk 0
    have hff := h.find n.data.toList
    rw [hf] at hff
    have e1 : readB n.data.toList t = x.bs := by simp [readB, ho, hff, Dlo.fl]
    have e2 : readE n.data.toList t = 0 := by simp [readE, ho, hff]
    rw [e1] at hb
    go_wp2_with (go_at_call 130; refine (clone_anyW _ _ _ _ x.bs rfl hx.own.sl hb).mono ?_; rintro e w2 ⟨v, rfl, o2, n2, c2, rfl, hn2, ho2, hnew2, hk2⟩)
    go_ret2
    rw [e1, e2]
    exact ⟨_, _, _, rfl, hn2, ho2, hnew2.of_le HK.size, IsD.keepsN ⟨bm, c, L, h⟩ hk2, HK.trans hk2.of_no⟩
end Go.Proofs.YtdemoghlibnooaaGreatDoor
namespace Go.Proofs.YtdemoghlibnooaaGreatDoor
open Go.RowKit Dk
set_option linter.unusedVariables false
set_option linter.unusedSimpArgs false
def cT (t : St) (g : St → St × Int) : St × Int := if t.off then (t, 62) else g t
theorem counted_cT (s : St) (g : St → St × Int) : counted s g = cT (tick s) g := rfl
theorem cT_off {t : St} (h : t.off = true) (g : St → St × Int) : cT t g = (t, 62) := by unfold cT; rw [h]; rfl
theorem cT_on {t : St} (h : t.off = false) (g : St → St × Int) : cT t g = g t := by unfold cT; rw [h]; rfl
theorem onF_none {n : Nm} {t : St} (h : find n t.fs = none) (g : Fl → St × Int) : onF n t g = (t, 61) := by unfold onF; rw [h]
theorem onF_some {n : Nm} {t : St} {f : Fl} (h : find n t.fs = some f) (g : Fl → St × Int) : onF n t g = g f := by unfold onF; rw [h]
set_option maxRecDepth 10000 in
theorem sync_any (w : World) (p : Nat) (F : Nat → Prop) (s : St) (n : Tx) (h : IsD w p F s) (hn : n.size ≤ maxLen) :
    Calls Tryz.prog 29 #[.pointer (some ⟨p, 0, none⟩), .string n] w fun e w' => e = .returned (.int .i64 (counted s (syncOn n.data.toList)).2) ∧ IsD w' p F (counted s (syncOn n.data.toList)).1 ∧ Keeps F w w' := by
  obtain ⟨t, ht⟩ : ∃ t, t = tick s := ⟨_, rfl⟩
  rw [counted_cT, ← ht]
  have HT : Hid (t = tick s) := ht
  clear ht
  go_enter Tryz.func29, Tryz.ntmps29
  go_wp2_with fail
  refine (find_any w p F s n h hn).mono ?_
  rintro e w1 ⟨v, er, rfl, hF, HK⟩
  rw [← HT.out] at hF
  cases hF with
  | off h ho =>
    go_wp2
    go_ret
    rw [cT_off ho]
    exact ⟨rfl, h, HK⟩
  | none h ho hf =>
    go_wp2
    go_ret
    rw [cT_on ho, syncOn, onF_none hf]
    exact ⟨rfl, h, HK⟩
  | some bm c L x h ho hf =>
    have hx := h.files _ (find_mem hf)
    have c0 : w1.cell? ⟨x.p, 0, none⟩ = some (.slice x.o x.bs.length x.c) := cell_of_blk hx.blk 0
    have c1 : w1.cell? ⟨x.p, 1, none⟩ = some (.int .i64 ((x.sy : Nat) : Int)) := cell_of_blk hx.blk 1
    have f1 : w1.frozen? ⟨x.p, 1, none⟩ = false := frozen_of_blk hx.blk 1
    have HX : Hid (FileAt w1 x) := hx
    have HD : Hid (DL w1 p F t bm c L) := h
    clear hx h
    go_wp2
    go_ret
    have hff := HD.out.find n.data.toList
    rw [hf] at hff
    rw [cT_on ho, syncOn, onF_some hff]
    have hks := keeps_setG w1 x.p 1 (.int .i64 ((x.bs.length : Nat) : Int))
    have hx' : FileAt (w1.setCell ⟨x.p, 1, none⟩ (.int .i64 ((x.bs.length : Nat) : Int))) ⟨x.p, x.o, x.c, x.bs, x.bs.length⟩ :=
      ⟨blk_set HX.out.blk 1 _, HX.out.own.keeps hks (fun i hi e => HX.out.o_p HX.out i hi e)⟩
    have := HD.out.upd (F' := F) hf (hks.mono fun i e => .inl e) hx' rfl (fun k hk => .inl hk) (fun k hk => hk) (fun k hk => (HD.out.ff _ (find_mem hf)).2 k hk) (fun k hk => Nat.lt_of_lt_of_le (HD.out.lt k hk) hks.size)
      (by have := syncOn_ok (n := n.data.toList) HD.out.ok; rw [syncOn, onF_some hff] at this; exact this)
    exact ⟨rfl, ⟨bm, c, _, this⟩, HK.trans (hks.mono fun i e => by subst e; exact (HD.out.ff _ (find_mem hf)).1)⟩
set_option maxRecDepth 10000 in
theorem cut_any (w : World) (p : Nat) (F : Nat → Prop) (s : St) (n : Tx) (k : Int) (h : IsD w p F s) (hn : n.size ≤ maxLen) (hk : i64 k) :
    Calls Tryz.prog 104 #[.pointer (some ⟨p, 0, none⟩), .string n, .int .i64 k] w fun e w' => e = .returned (.int .i64 (counted s (cutOn n.data.toList k)).2) ∧ IsD w' p F (counted s (cutOn n.data.toList k)).1 ∧ Keeps F w w' := by
  obtain ⟨t, ht⟩ : ∃ t, t = tick s := ⟨_, rfl⟩
  rw [counted_cT, ← ht]
  have HT : Hid (t = tick s) := ht
  have k1 := hk.1
  have k2 := hk.2
  clear ht hk
  go_enter Tryz.func104, Tryz.ntmps104
  go_wp2_with fail
  refine (find_any w p F s n h hn).mono ?_
  rintro e w1 ⟨v, er, rfl, hF, HK⟩
  rw [← HT.out] at hF
  cases hF with
  | off h ho =>
    go_wp2
    go_ret
    rw [cT_off ho]
    exact ⟨rfl, h, HK⟩
  | none h ho hf =>
    go_wp2
    go_ret
    rw [cT_on ho, cutOn, onF_none hf]
    exact ⟨rfl, h, HK⟩
  | some bm c L x h ho hf =>
    have hx := h.files _ (find_mem hf)
    obtain ⟨xp, xo, xc, bs, sy⟩ := x
    obtain ⟨m, hm⟩ : ∃ m, m = bs.length := ⟨_, rfl⟩
    have c0 : w1.cell? ⟨xp, 0, none⟩ = some (.slice xo m xc) := by rw [hm]; exact cell_of_blk hx.blk 0
    have c1 : w1.cell? ⟨xp, 1, none⟩ = some (.int .i64 ((sy : Nat) : Int)) := cell_of_blk hx.blk 1
    have f0 : w1.frozen? ⟨xp, 0, none⟩ = false := frozen_of_blk hx.blk 0
    have f1 : w1.frozen? ⟨xp, 1, none⟩ = false := frozen_of_blk hx.blk 1
    have hmc : m ≤ xc := by rw [hm]; exact hx.own.cap.1
    have hcm : xc ≤ 9223372036854775807 := by have := hx.own.max; unfold maxLen at this; omega
    have hff := h.find n.data.toList
    rw [hf] at hff
    have hsy : sy ≤ m := by rw [hm]; exact (good_of h.ok hff).2
    have HX : Hid (FileAt w1 ⟨xp, xo, xc, bs, sy⟩) := hx
    have HD : Hid (DL w1 p F t bm c L) := h
    have HM : Hid (m = bs.length) := hm
    have HFF : Hid (Dk.find n.data.toList t.fs = some (⟨xp, xo, xc, bs, sy⟩ : Dlo).fl) := hff
    clear hx h hm hff
    by_cases h1 : k < 0
    · go_wp2
      go_ret
      rw [cT_on ho, cutOn, onF_some HFF.out, if_pos (.inl h1)]
      exact ⟨rfl, ⟨bm, c, L, HD.out⟩, HK⟩
    · by_cases h2 : (m : Int) < k
      · go_wp2
        go_ret
        rw [cT_on ho, cutOn, onF_some HFF.out, if_pos (.inr (by show ((bs.length : Nat) : Int) < k; rw [← HM.out]; exact h2))]
        exact ⟨rfl, ⟨bm, c, L, HD.out⟩, HK⟩
      · obtain ⟨K, rfl⟩ : ∃ K : Nat, k = K := ⟨k.toNat, by omega⟩
        have hcut := cutO xo m xc K (by omega) HX.out.own.cap.2
        have hKn : K ≤ m := by omega
        have HMI : Hid (min ((sy : Nat) : Int) ((K : Nat) : Int) = ((min sy K : Nat) : Int)) := (show _ = _ by omega)
        go_wp2
        go_ret
        rw [cT_on ho, cutOn, onF_some HFF.out, if_neg (by show ¬ (_ ∨ ((bs.length : Nat) : Int) < _); rw [← HM.out]; omega)]
        rw [HMI.out]
        have hks := (keeps_setG w1 xp 0 (.slice xo K xc)).trans (keeps_setG _ xp 1 (.int .i64 ((min sy K : Nat) : Int)))
        have hl : (bs.take K).length = K := by rw [List.length_take, ← HM.out, Nat.min_eq_left hKn]
        have hx' : FileAt ((w1.setCell ⟨xp, 0, none⟩ (.slice xo K xc)).setCell ⟨xp, 1, none⟩ (.int .i64 ((min sy K : Nat) : Int))) ⟨xp, xo, xc, bs.take K, min sy K⟩ :=
          ⟨(blk_set (blk_set HX.out.blk 0 _) 1 _).trans (by simp [fcells, hl]), (HX.out.own.cut okU (by rw [← HM.out]; exact hKn)).keeps hks (fun i hi e => HX.out.o_p HX.out i hi e)⟩
        have := HD.out.upd (F' := F) hf (hks.mono fun i e => .inl e) hx' rfl (fun k hk => .inl hk) (fun k hk => hk) (fun k hk => (HD.out.ff _ (find_mem hf)).2 k hk) (fun k hk => Nat.lt_of_lt_of_le (HD.out.lt k hk) hks.size)
          (by have := cutOn_ok (n := n.data.toList) (k := (K : Int)) HD.out.ok; rw [cutOn, onF_some HFF.out, if_neg (by show ¬ (_ ∨ ((bs.length : Nat) : Int) < _); rw [← HM.out]; omega)] at this; exact this)
        exact ⟨rfl, ⟨bm, c, _, this⟩, HK.trans (hks.mono fun i e => by subst e; exact (HD.out.ff _ (find_mem hf)).1)⟩
end Go.Proofs.YtdemoghlibnooaaGreatDoor
