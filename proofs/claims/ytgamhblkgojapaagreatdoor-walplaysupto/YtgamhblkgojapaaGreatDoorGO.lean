import Derived.Maps.RangeWalk
import Derived.Maps.Ext
import Derived.Test.YtgamhblkgojapaaGreatDoorKin
import Derived.Test.YtgamhblkgojapaaGreatDoorPm
/- What a disk holds, in pure lists. No program here. -/
namespace Go.Proofs.YtgamhblkgojapaaGreatDoor
set_option linter.unusedVariables false
set_option linter.unusedSimpArgs false
namespace Dk
abbrev Nm := List UInt8
variable {β γ : Type}

/-! ### rising lists by name -/
def ins (x : Nm × β) : List (Nm × β) → List (Nm × β)
  | [] => [x]
  | y :: r => if bytesBefore x.1 y.1 then x :: y :: r else y :: ins x r
def del (n : Nm) (l : List (Nm × β)) : List (Nm × β) := l.filter fun p => !(p.1 == n)
def put (n : Nm) (v : β) (l : List (Nm × β)) : List (Nm × β) := ins (n, v) (del n l)
def find (n : Nm) : List (Nm × β) → Option β
  | [] => none
  | p :: r => if p.1 == n then some p.2 else find n r
def Inc (l : List (Nm × β)) : Prop := l.Pairwise fun p q => bytesBefore p.1 q.1 = true
def names (l : List (Nm × β)) : List Nm := l.map (·.1)
def mapv (g : β → γ) (l : List (Nm × β)) : List (Nm × γ) := l.map fun p => (p.1, g p.2)

theorem bb_irrefl (a : Nm) : bytesBefore a a = false := WideAt.bytes_irrefl a
theorem bb_asym {a b : Nm} (h : bytesBefore a b = true) : bytesBefore b a = false := by
  cases e : bytesBefore b a with
  | false => rfl
  | true => have := WideShapes.bytes_trans a b a h e; rw [bb_irrefl] at this; cases this
theorem bb_tri {a b : Nm} (h : bytesBefore a b = false) (hne : a ≠ b) : bytesBefore b a = true := by
  rcases WideAt.bytes_total a b hne with h' | h'
  · rw [h] at h'; cases h'
  · exact h'
theorem bb_ne {a b : Nm} (h : bytesBefore a b = true) : a ≠ b := by rintro rfl; rw [bb_irrefl] at h; cases h

theorem mapv_ins (g : β → γ) (n : Nm) (v : β) : ∀ l : List (Nm × β), mapv g (ins (n, v) l) = ins (n, g v) (mapv g l)
  | [] => rfl
  | y :: r => by
    have ih := mapv_ins g n v r
    simp only [mapv, ins, List.map_cons] at ih ⊢
    split <;> simp [ih]
theorem mapv_del (g : β → γ) (n : Nm) (l : List (Nm × β)) : mapv g (del n l) = del n (mapv g l) := by
  simp [mapv, del, List.filter_map, Function.comp_def]
theorem mapv_put (g : β → γ) (n : Nm) (v : β) (l : List (Nm × β)) : mapv g (put n v l) = put n (g v) (mapv g l) := by
  simp only [put, mapv_ins, mapv_del]
theorem find_mapv (g : β → γ) (n : Nm) : ∀ l : List (Nm × β), find n (mapv g l) = (find n l).map g
  | [] => rfl
  | y :: r => by
    have ih := find_mapv g n r
    simp only [mapv, find, List.map_cons] at ih ⊢
    split <;> simp [ih]
theorem names_mapv (g : β → γ) (l : List (Nm × β)) : names (mapv g l) = names l := by simp [names, mapv]
theorem length_mapv (g : β → γ) (l : List (Nm × β)) : (mapv g l).length = l.length := by simp [mapv]
theorem inc_names {l : List (Nm × β)} : Inc l ↔ (names l).Pairwise (fun a b => bytesBefore a b = true) := by simp [Inc, names, List.pairwise_map]
theorem inc_mapv (g : β → γ) {l : List (Nm × β)} (h : Inc l) : Inc (mapv g l) := by
  rw [inc_names, names_mapv, ← inc_names]; exact h

theorem mem_ins {x y : Nm × β} : ∀ {l : List (Nm × β)}, y ∈ ins x l ↔ y = x ∨ y ∈ l
  | [] => by simp [ins]
  | z :: r => by
    simp only [ins]
    split
    · simp
    · simp [mem_ins (l := r)]; grind
theorem mem_del {n : Nm} {y : Nm × β} {l : List (Nm × β)} : y ∈ del n l ↔ y ∈ l ∧ y.1 ≠ n := by simp [del]
theorem mem_put {n : Nm} {v : β} {y : Nm × β} {l : List (Nm × β)} : y ∈ put n v l ↔ y = (n, v) ∨ (y ∈ l ∧ y.1 ≠ n) := by simp [put, mem_ins, mem_del]
theorem inc_ins {x : Nm × β} : ∀ {l : List (Nm × β)}, Inc l → (∀ p ∈ l, p.1 ≠ x.1) → Inc (ins x l)
  | [], _, _ => by simp [ins, Inc]
  | y :: r, h, hne => by
    obtain ⟨h1, h2⟩ := List.pairwise_cons.1 h
    simp only [ins]
    split
    · rename_i hb
      refine List.pairwise_cons.2 ⟨fun q hq => ?_, h⟩
      rcases List.mem_cons.1 hq with rfl | hq
      · exact hb
      · exact WideShapes.bytes_trans _ _ _ hb (h1 q hq)
    · rename_i hb
      have hyx := bb_tri (a := x.1) (b := y.1) (by simpa using hb) (hne y (by simp)).symm
      refine List.pairwise_cons.2 ⟨fun q hq => ?_, inc_ins (l := r) h2 (fun p hp => hne p (by simp [hp]))⟩
      rcases mem_ins.1 hq with rfl | hq
      · exact hyx
      · exact h1 q hq
theorem inc_del {n : Nm} {l : List (Nm × β)} (h : Inc l) : Inc (del n l) := List.Pairwise.filter _ h
theorem inc_put {n : Nm} {v : β} {l : List (Nm × β)} (h : Inc l) : Inc (put n v l) := inc_ins (inc_del h) (fun p hp => (mem_del.1 hp).2)
theorem length_ins (x : Nm × β) : ∀ l : List (Nm × β), (ins x l).length = l.length + 1
  | [] => rfl
  | y :: r => by simp only [ins]; split <;> simp [length_ins x r]
theorem find_none {n : Nm} : ∀ {l : List (Nm × β)}, find n l = none ↔ ∀ p ∈ l, p.1 ≠ n
  | [] => by simp [find]
  | y :: r => by
    simp only [find]
    by_cases h : y.1 = n
    · simp [h]
    · simp [h, find_none (l := r)]
theorem find_mem {n : Nm} {v : β} : ∀ {l : List (Nm × β)}, find n l = some v → (n, v) ∈ l
  | [], h => by simp [find] at h
  | y :: r, h => by
    simp only [find] at h
    split at h
    · rename_i he
      have : y.1 = n := by simpa using he
      cases h; subst this; simp
    · exact List.mem_cons_of_mem _ (find_mem h)
theorem inc_nodup {l : List (Nm × β)} (h : Inc l) : l.Pairwise fun p q => p.1 ≠ q.1 := List.Pairwise.imp (fun h => bb_ne h) h
theorem find_of_mem {n : Nm} {v : β} : ∀ {l : List (Nm × β)}, Inc l → (n, v) ∈ l → find n l = some v
  | [], _, h => by simp at h
  | y :: r, hi, h => by
    obtain ⟨h1, h2⟩ := List.pairwise_cons.1 hi
    simp only [find]
    rcases List.mem_cons.1 h with rfl | h
    · simp
    · have := bb_ne (h1 _ h)
      rw [if_neg (by simpa using this)]
      exact find_of_mem h2 h
theorem del_none {n : Nm} {l : List (Nm × β)} (h : find n l = none) : del n l = l := by
  rw [find_none] at h
  exact List.filter_eq_self.2 fun p hp => by simpa using h p hp
theorem find_ins_same {n : Nm} {v : β} : ∀ {l : List (Nm × β)}, find n l = none → find n (ins (n, v) l) = some v
  | [], _ => by simp [ins, find]
  | y :: r, h => by
    simp only [find] at h
    split at h
    · cases h
    · rename_i hy
      simp only [ins]
      split
      · simp [find]
      · simp only [find]; rw [if_neg hy]; exact find_ins_same h
theorem find_ins_other {n m : Nm} {v : β} (hne : m ≠ n) : ∀ {l : List (Nm × β)}, find m (ins (n, v) l) = find m l
  | [] => by simp [ins, find, Ne.symm hne]
  | y :: r => by
    simp only [ins]
    split
    · simp [find, Ne.symm hne]
    · simp only [find]; split
      · rfl
      · exact find_ins_other hne
theorem find_del_same {n : Nm} (l : List (Nm × β)) : find n (del n l) = none := find_none.2 fun p hp => (mem_del.1 hp).2
theorem find_del_other {n m : Nm} (hne : m ≠ n) : ∀ l : List (Nm × β), find m (del n l) = find m l
  | [] => rfl
  | y :: r => by
    have ih := find_del_other hne r
    by_cases hy : y.1 = n
    · have e1 : del n (y :: r) = del n r := by simp [del, hy]
      have e2 : find m (y :: r) = find m r := by simp [find, hy, Ne.symm hne]
      rw [e1, e2, ih]
    · have : (!(y.1 == n)) = true := by simp [hy]
      simp only [del, List.filter_cons, this, if_true, find] at ih ⊢
      rw [ih]
theorem find_put_same {n : Nm} {v : β} (l : List (Nm × β)) : find n (put n v l) = some v := find_ins_same (find_del_same l)
theorem find_put_other {n m : Nm} {v : β} (hne : m ≠ n) (l : List (Nm × β)) : find m (put n v l) = find m l := by
  unfold put; rw [find_ins_other hne, find_del_other hne]
/-- two rising lists with one look are one -/
theorem inc_ext : ∀ {l1 l2 : List (Nm × β)}, Inc l1 → Inc l2 → (∀ n, find n l1 = find n l2) → l1 = l2 := by
  intro l1 l2 h1 h2 hf
  have hm : ∀ x, x ∈ l1 ↔ x ∈ l2 := fun x => by
    constructor
    · intro hx
      have := find_of_mem h1 (show (x.1, x.2) ∈ l1 from hx)
      rw [hf] at this
      exact find_mem this
    · intro hx
      have := find_of_mem h2 (show (x.1, x.2) ∈ l2 from hx)
      rw [← hf] at this
      exact find_mem this
  induction l1 generalizing l2 with
  | nil => cases l2 with
    | nil => rfl
    | cons y r => exact absurd ((hm y).2 (by simp)) (by simp)
  | cons x r1 ih => cases l2 with
    | nil => exact absurd ((hm x).1 (by simp)) (by simp)
    | cons y r2 =>
      have p1 := List.pairwise_cons.1 h1
      have p2 := List.pairwise_cons.1 h2
      have hxy : x = y := by
        rcases List.mem_cons.1 ((hm x).1 (by simp)) with e | hx
        · exact e
        · rcases List.mem_cons.1 ((hm y).2 (by simp)) with e | hy
          · exact e.symm
          · have a := p2.1 x hx
            have b := p1.1 y hy
            rw [bb_asym a] at b; cases b
      subst hxy
      have hm' : ∀ z, z ∈ r1 ↔ z ∈ r2 := fun z => by
        constructor
        · intro hz
          rcases List.mem_cons.1 ((hm z).1 (by simp [hz])) with rfl | h'
          · have := p1.1 z hz; rw [bb_irrefl] at this; cases this
          · exact h'
        · intro hz
          rcases List.mem_cons.1 ((hm z).2 (by simp [hz])) with rfl | h'
          · have := p2.1 z hz; rw [bb_irrefl] at this; cases this
          · exact h'
      have hf' : ∀ n, find n r1 = find n r2 := fun n => by
        cases e1 : find n r1 with
        | none =>
          cases e2 : find n r2 with
          | none => rfl
          | some v => have := find_of_mem p1.2 ((hm' _).2 (find_mem e2)); rw [e1] at this; cases this
        | some v => exact (find_of_mem p2.2 ((hm' _).1 (find_mem e1))).symm
      rw [ih p1.2 p2.2 hf' hm']
theorem put_same {n : Nm} {v : β} {l : List (Nm × β)} (h : Inc l) (hf : find n l = some v) : put n v l = l := by
  refine inc_ext (inc_put h) h fun m => ?_
  by_cases e : m = n
  · subst e; rw [find_put_same, hf]
  · exact find_put_other e l
theorem length_put_some {n : Nm} {v u : β} {l : List (Nm × β)} (h : Inc l) (hf : find n l = some u) : (put n v l).length = l.length := by
  have e : (put n u l).length = (put n v l).length := by simp [put, length_ins]
  rw [← e, put_same h hf]
theorem length_put_none {n : Nm} {v : β} {l : List (Nm × β)} (hf : find n l = none) : (put n v l).length = l.length + 1 := by
  rw [put, del_none hf, length_ins]
theorem length_del_le {n : Nm} (l : List (Nm × β)) : (del n l).length ≤ l.length := List.length_filter_le _ _
theorem length_del_some {n : Nm} {u : β} {l : List (Nm × β)} (h : Inc l) (hf : find n l = some u) : (del n l).length + 1 = l.length := by
  have := length_put_some (v := u) h hf
  rw [put, length_ins] at this
  exact this

/-! ### a disk -/
structure Fl where
  bs : List UInt8
  sy : Nat
structure St where
  fs : List (Nm × Fl)
  off : Bool
  ref : Nat
  calls : Int
  keep : Int
/-- how much of a file a crash leaves -/
def cutN (k : Int) (f : Fl) : Nat := f.sy + min k.toNat (f.bs.length - f.sy)
def crF (k : Int) (f : Fl) : Fl := ⟨f.bs.take (cutN k f), cutN k f⟩
def crash (k : Int) (s : St) : St := if s.off then s else ⟨mapv (crF k) s.fs, true, s.ref, -1, s.keep⟩
def tick (s : St) : St := if s.calls = 0 then crash s.keep s else if 0 < s.calls then { s with calls := s.calls - 1 } else s
def up (s : St) : St := { s with off := false, calls := -1 }
def full (n : Int) (s : St) : St := { s with ref := n.toNat }
def arm (n k : Int) (s : St) : St := { s with calls := max n (-1), keep := k }
def good (n : Nm) : Bool := decide (1 ≤ n.length) && decide (n.length ≤ 32)
def new : St := ⟨[], false, 0, -1, 0⟩
def noRoom (b : List UInt8) (s : St) : Bool := decide (0 < b.length) && decide (0 < s.ref)
/-- behind the tick, the power on -/
def appendOn (n : Nm) (b : List UInt8) (s : St) : St × Int :=
  if good n then
    match find n s.fs with
    | none => if 16 ≤ s.fs.length then (s, 3) else if noRoom b s then ({ s with ref := s.ref - 1 }, 60) else ({ s with fs := put n ⟨b, 0⟩ s.fs }, 0)
    | some f => if noRoom b s then ({ s with ref := s.ref - 1 }, 60) else ({ s with fs := put n ⟨f.bs ++ b, f.sy⟩ s.fs }, 0)
  else (s, 1)
def onF (n : Nm) (s : St) (g : Fl → St × Int) : St × Int := match find n s.fs with | none => (s, 61) | some f => g f
def syncOn (n : Nm) (s : St) : St × Int := onF n s fun f => ({ s with fs := put n ⟨f.bs, f.bs.length⟩ s.fs }, 0)
def cutOn (n : Nm) (k : Int) (s : St) : St × Int := onF n s fun f => if k < 0 ∨ (f.bs.length : Int) < k then (s, 1) else ({ s with fs := put n ⟨f.bs.take k.toNat, min f.sy k.toNat⟩ s.fs }, 0)
def deleteOn (n : Nm) (s : St) : St × Int := onF n s fun _ => ({ s with fs := del n s.fs }, 0)
def renameOn (a b : Nm) (s : St) : St × Int := if good b then onF a s fun f => ({ s with fs := put b f (del a s.fs) }, 0) else (s, 1)
/-- a counted call -/
def counted (s : St) (g : St → St × Int) : St × Int := if (tick s).off then (tick s, 62) else g (tick s)
def readB (n : Nm) (s : St) : List UInt8 := if s.off then [] else match find n s.fs with | none => [] | some f => f.bs
def readE (n : Nm) (s : St) : Int := if s.off then 62 else match find n s.fs with | none => 61 | some _ => 0
def listN (s : St) : List Nm := if s.off then [] else names s.fs
def listE (s : St) : Int := if s.off then 62 else 0

/-- what every disk keeps to -/
structure Ok (s : St) : Prop where
  inc : Inc s.fs
  len : s.fs.length ≤ 16
  sy : ∀ p ∈ s.fs, p.2.sy ≤ p.2.bs.length
  nm : ∀ p ∈ s.fs, good p.1 = true
  calls : -1 ≤ s.calls
theorem cutN_le (k : Int) {f : Fl} (h : f.sy ≤ f.bs.length) : cutN k f ≤ f.bs.length := by unfold cutN; omega
theorem new_ok : Ok new := ⟨List.Pairwise.nil, by simp [new], by simp [new], by simp [new], by simp [new]⟩
theorem crash_ok {k : Int} {s : St} (h : Ok s) : Ok (crash k s) := by
  unfold crash
  split
  · exact h
  · refine ⟨inc_mapv _ h.inc, by simpa [length_mapv] using h.len, ?_, ?_, by simp⟩
    · intro p hp
      simp only [mapv, List.mem_map] at hp
      obtain ⟨q, hq, rfl⟩ := hp
      have := cutN_le k (h.sy q hq)
      simp [crF]; omega
    · intro p hp
      simp only [mapv, List.mem_map] at hp
      obtain ⟨q, hq, rfl⟩ := hp
      exact h.nm q hq
theorem tick_ok {s : St} (h : Ok s) : Ok (tick s) := by
  unfold tick
  split
  · exact crash_ok h
  · split
    · exact ⟨h.inc, h.len, h.sy, h.nm, by simp; omega⟩
    · exact h
theorem up_ok {s : St} (h : Ok s) : Ok (up s) := ⟨h.inc, h.len, h.sy, h.nm, by simp [up]⟩
theorem full_ok {n : Int} {s : St} (h : Ok s) : Ok (full n s) := ⟨h.inc, h.len, h.sy, h.nm, h.calls⟩
theorem arm_ok {n k : Int} {s : St} (h : Ok s) : Ok (arm n k s) := ⟨h.inc, h.len, h.sy, h.nm, by simp [arm]; omega⟩
theorem ok_put {n : Nm} {f : Fl} {s : St} (h : Ok s) (hn : good n = true) (hf : f.sy ≤ f.bs.length) (hl : (put n f s.fs).length ≤ 16) : Ok { s with fs := put n f s.fs } :=
  ⟨inc_put h.inc, hl, fun p hp => by rcases mem_put.1 hp with rfl | hp; exact hf; exact h.sy p hp.1, fun p hp => by rcases mem_put.1 hp with rfl | hp; exact hn; exact h.nm p hp.1, h.calls⟩
theorem good_of {n : Nm} {f : Fl} {s : St} (h : Ok s) (hf : find n s.fs = some f) : good n = true ∧ f.sy ≤ f.bs.length := ⟨h.nm _ (find_mem hf), h.sy _ (find_mem hf)⟩
theorem ok_ref {s : St} (h : Ok s) (r : Nat) : Ok { s with ref := r } := ⟨h.inc, h.len, h.sy, h.nm, h.calls⟩
theorem appendOn_ok {n : Nm} {b : List UInt8} {s : St} (h : Ok s) : Ok (appendOn n b s).1 := by
  unfold appendOn
  split
  · rename_i hn
    split
    · rename_i hf
      split
      · exact h
      · split
        · exact ok_ref h _
        · exact ok_put h hn (Nat.zero_le _) (by rw [length_put_none hf]; omega)
    · rename_i f hf
      split
      · exact ok_ref h _
      · exact ok_put h hn (by have := (good_of h hf).2; simp; omega) (by rw [length_put_some h.inc hf]; exact h.len)
  · exact h
theorem syncOn_ok {n : Nm} {s : St} (h : Ok s) : Ok (syncOn n s).1 := by
  unfold syncOn onF
  split
  · exact h
  · rename_i f hf
    exact ok_put h (good_of h hf).1 (Nat.le_refl _) (by rw [length_put_some h.inc hf]; exact h.len)
theorem cutOn_ok {n : Nm} {k : Int} {s : St} (h : Ok s) : Ok (cutOn n k s).1 := by
  unfold cutOn onF
  split
  · exact h
  · rename_i f hf
    show Ok (if k < 0 ∨ (f.bs.length : Int) < k then (s, 1) else _).1
    split
    · exact h
    · exact ok_put h (good_of h hf).1 (by simp; omega) (by rw [length_put_some h.inc hf]; exact h.len)
theorem ok_del {n : Nm} {s : St} (h : Ok s) : Ok { s with fs := del n s.fs } :=
  ⟨inc_del h.inc, Nat.le_trans (length_del_le _) h.len, fun p hp => h.sy p (mem_del.1 hp).1, fun p hp => h.nm p (mem_del.1 hp).1, h.calls⟩
theorem deleteOn_ok {n : Nm} {s : St} (h : Ok s) : Ok (deleteOn n s).1 := by
  unfold deleteOn onF
  split
  · exact h
  · exact ok_del h
theorem renameOn_ok {a b : Nm} {s : St} (h : Ok s) : Ok (renameOn a b s).1 := by
  unfold renameOn onF
  split
  · rename_i hb
    split
    · exact h
    · rename_i f hf
      refine ok_put (s := { s with fs := del a s.fs }) (ok_del h) hb (good_of h hf).2 ?_
      have h1 := length_del_some h.inc hf
      have h2 := h.len
      have h3 := length_del_le (n := b) (del a s.fs)
      simp only [put, length_ins]
      omega
  · exact h
theorem counted_ok {s : St} {g : St → St × Int} (h : Ok s) (hg : ∀ t, Ok t → Ok (g t).1) : Ok (counted s g).1 := by
  unfold counted
  split
  · exact tick_ok h
  · exact hg _ (tick_ok h)
end Dk
end Go.Proofs.YtgamhblkgojapaaGreatDoor
namespace Go.Proofs.YtgamhblkgojapaaGreatDoor
open Go.RowKit
set_option linter.unusedVariables false
set_option linter.unusedSimpArgs false

def bv (c : UInt8) : Value := .int .u8 ((c.toNat : Nat) : Int)
def BU : El UInt8 := ⟨5, 42, 1, 1, fun c => [bv c]⟩
theorem okU : BU.Ok := by
  obtain ⟨i0, hi, hz0, hz1, hz2⟩ := info_parts info5
  exact ⟨fun _ => rfl, fun x u hu => by simp [BU] at hu; subst hu; rfl, by decide, Tryz.underlying42, i0, _, hi, hz0, hz1, hz2, rfl⟩
theorem cells_U (bs : List UInt8) : BU.cells bs = bs.map bv := by
  induction bs with
  | nil => rfl
  | cons x r ih => simp [El.cells, BU] at ih ⊢; exact ih
theorem cells_TG (xs : List Tx) : TE.cells xs = xs.map Value.string := by
  induction xs with
  | nil => rfl
  | cons x r ih => simp [El.cells, TE] at ih ⊢; exact ih

/-! ### slices as they are handed on -/
variable {α : Type} {E : El α}
theorem Sl.one {w : World} {a : Option Addr} {c : Nat} {xs : List α} (h : Sl E w a c xs) (hx : E.Ok) (hk : E.k = 1) (d : α) {j : Nat} (hj : j < xs.length) (u : Value) (hu : E.enc (xs.getD j d) = [u]) : ∃ b off, a = some ⟨b, off, none⟩ ∧ w.cell? ⟨b, off + j, none⟩ = some u := by
  rcases h.row with e | ⟨b, off, rfl, hc⟩
  · subst e; simp at hj
  · refine ⟨b, off, rfl, hc j _ ?_⟩
    have := cells_at hx d xs j 0 hj (by omega)
    rw [hk, hu] at this
    simpa using this
theorem Sl.atU {w : World} {a : Option Addr} {c : Nat} {xs : List UInt8} (h : Sl BU w a c xs) {j : Nat} (hj : j < xs.length) : ∃ b off, a = some ⟨b, off, none⟩ ∧ w.cell? ⟨b, off + j, none⟩ = some (bv (xs.getD j 0)) := h.one okU rfl 0 hj _ rfl
theorem take_succ_getDG {α : Type} (l : List α) (k : Nat) (d : α) (h : k < l.length) : l.take (k + 1) = l.take k ++ [l.getD k d] := by
  rw [List.take_add_one]; simp [h]
theorem Own.tag {w : World} {o : Option Addr} {c : Nat} {xs : List α} (h : Own E w o c xs) : ∀ k, inO o k → ∃ cur, w.heap[k]? = some (.cells cur E.e (0, 0)) := by
  rintro k ⟨x, e, rfl⟩
  rcases h.shape with ⟨e', _⟩ | ⟨g, cur, e', hg, _⟩
  · rw [e'] at e; cases e
  · rw [e'] at e; cases e; exact ⟨cur, hg⟩
theorem Own.max {w : World} {o : Option Addr} {c : Nat} {xs : List α} (h : Own E w o c xs) : c ≤ maxLen := by
  rcases h.shape with ⟨_, e, _⟩ | ⟨g, cur, _, _, _, h3, _⟩
  · omega
  · exact h3
/-- a slice cut short -/
theorem Own.cut (hE : E.Ok) {w : World} {o : Option Addr} {c : Nat} {xs : List α} (h : Own E w o c xs) {n : Nat} (hn : n ≤ xs.length) : Own E w o c (xs.take n) := by
  rcases h.shape with ⟨rfl, rfl, rfl⟩ | ⟨g, cur, rfl, hg, h2, h3, h4, h5⟩
  · simpa using h
  · refine own_of_shape hE hg (by simp; omega) h3 h4 ?_
    have e : (xs.take n).length = n := by simp; omega
    have e2 : E.cells xs = E.cells (xs.take n) ++ E.cells (xs.drop n) := by rw [← cells_append, List.take_append_drop]
    have e3 : cur.toList.take (n * E.k) = (cur.toList.take (xs.length * E.k)).take (n * E.k) := by
      rw [List.take_take, Nat.min_eq_left (Nat.mul_le_mul_right _ hn)]
    rw [e, e3, h5, e2, List.take_append_of_le_length (by rw [cells_length hE, e]; exact Nat.le_refl _), List.take_of_length_le (by rw [cells_length hE, e]; exact Nat.le_refl _)]

theorem slBy : Tryz.prog.underlying 42 = some (.slice (Tryz.prog.elem 42)) := by kernel_rfl
/-- s[:I] -/
theorem cutO (o : Option Addr) (n c I : Nat) (h1 : I ≤ c) (hnil : o = none → c = 0) : ∀ w, (Instr.slice 42 (.slice o n c) none (some (.int .i64 ((I : Nat) : Int))) none).run Tryz.prog w = .ok (.slice o I c) w := by
  intro w
  match o, hnil with
  | none, hnil =>
    obtain rfl : c = 0 := hnil rfl
    obtain rfl : I = 0 := by omega
    rw [run_slice_h w 42 none _ 0 slBy .i64 _ (by omega) (by omega)]
    go_simp
  | some ad, _ =>
    rw [run_slice_h w 42 (some ad) _ c slBy .i64 _ (by omega) (by omega)]
    go_simp
/-- s[I:] -/
theorem cutL (w0 : World) (o : Option Addr) (c : Nat) (bs : List UInt8) (n I : Nat) (hn : n = bs.length) (hI : I ≤ n) (h : Sl BU w0 o c bs) :
    ∃ A d, (∀ w, (Instr.slice 42 (.slice o n c) (some (.int .i64 ((I : Nat) : Int))) none none).run Tryz.prog w = .ok (.slice A (n - I) d) w) ∧ Sl BU w0 A d (bs.drop I) := by
  subst hn
  have hcap := h.cap
  match o, h with
  | none, h =>
    obtain rfl : c = 0 := h.nil rfl
    obtain rfl : I = 0 := by omega
    have h0 : bs = [] := List.length_eq_zero_iff.mp (by omega)
    subst h0
    refine ⟨none, 0, fun w => ?_, ⟨h.row.drop okU 0 (fun _ b off e => by cases e), by simp, fun _ => rfl⟩⟩
    rw [run_slice_l w 42 none _ 0 slBy .i64 _ (by omega) (by simp)]
    go_simp
  | some ad, h =>
    refine ⟨some (if c = I then ad else ad.add I), c - I, fun w => ?_, ⟨h.row.drop okU I (fun hlt b off e => ?_), by rw [List.length_drop]; omega, by simp⟩⟩
    · rw [run_slice_l w 42 (some ad) _ c slBy .i64 _ (by omega) (by omega)]
      by_cases h : c = I
      · go_simp
      · go_simp
    · cases e
      rw [if_neg (by omega), addr_add]
      simp [BU]
end Go.Proofs.YtgamhblkgojapaaGreatDoor
/- A disk in memory: a block, a map, a block a file, a slice of bytes a file. -/
namespace Go.Proofs.YtgamhblkgojapaaGreatDoor
open Go.RowKit Dk
set_option linter.unusedVariables false
set_option linter.unusedSimpArgs false

/-- a file in memory -/
structure Dlo where
  p : Nat
  o : Option Addr
  c : Nat
  bs : List UInt8
  sy : Nat
def Dlo.fl (x : Dlo) : Fl := ⟨x.bs, x.sy⟩
def fcells (x : Dlo) : Array Value := #[.slice x.o x.bs.length x.c, .int .i64 ((x.sy : Nat) : Int)]
structure FileAt (w : World) (x : Dlo) : Prop where
  blk : w.heap[x.p]? = some (.cells (fcells x) 88 (0, 0))
  own : Own BU w x.o x.c x.bs

/-- how a file's pointer reads -/
def R70 : Value → Option (DataW Unit × List MemPlace)
  | .pointer none => some (.nil, [])
  | .pointer (some a) => if a.off = 0 ∧ a.spot = none then some (.lit (.int .i64 ((a.block : Nat) : Int)), []) else none
  | _ => none
theorem R70_nil : R70 (.pointer none) = some (.nil, []) := rfl
theorem R70_mk (p : Nat) : R70 (.pointer (some ⟨p, 0, none⟩)) = some (.lit (.int .i64 ((p : Nat) : Int)), []) := by simp [R70]
theorem R70_inv {v : Value} {y : DataW Unit × List MemPlace} (h : R70 v = some y) : (v = .pointer none ∧ y.1 = .nil) ∨ ∃ p : Nat, v = .pointer (some ⟨p, 0, none⟩) ∧ y.1 = .lit (.int .i64 ((p : Nat) : Int)) := by
  unfold R70 at h
  split at h
  · cases h; exact .inl ⟨rfl, rfl⟩
  · rename_i a
    split at h
    · rename_i hc
      cases h
      obtain ⟨b, off, spot⟩ := a
      obtain ⟨rfl, rfl⟩ := hc
      exact .inr ⟨b, rfl, rfl⟩
    · cases h
  · cases h
theorem R70_shape (v : Value) (y : DataW Unit × List MemPlace) (h : R70 v = some y) : ∃ c : Option Addr, v = .pointer c := by
  rcases R70_inv h with ⟨rfl, _⟩ | ⟨p, rfl, _⟩ <;> exact ⟨_, rfl⟩
theorem law9 : Maps.Keyed Tryz.prog 9 := Maps.string_keyed Tryz.underlying9
theorem key9 (s : Tx) (h : s.size ≤ maxLen) : keyOf Tryz.prog 9 (.string s) = some (.string s.data.toList) := by
  simp [keyOf, Tryz.underlying9, mapKey, h]
theorem key9_inv (key : Value) (kl : Lit) (h : keyOf Tryz.prog 9 key = some kl) : ∃ s : Tx, key = .string s := by
  cases key <;> simp [keyOf, Tryz.underlying9, mapKey] at h
  exact ⟨_, rfl⟩
theorem key9_lit {s : Tx} {kl : Lit} (h : keyOf Tryz.prog 9 (.string s) = some kl) : kl = .string s.data.toList := by
  simp [keyOf, Tryz.underlying9, mapKey] at h
  exact h.2.symm

abbrev LL := List (Nm × Dlo)
def dat1 (q : Nm × Dlo) : Lit × DataW Unit := (.string q.1, .lit (.int .i64 ((q.2.p : Nat) : Int)))
def dat (L : LL) : DataW Unit := .map (L.map dat1)
theorem dat_ins (n : Nm) (x : Dlo) : ∀ L : LL, (ins (n, x) L).map dat1 = DataW.insert (dat1 (n, x)) (L.map dat1)
  | [] => rfl
  | y :: r => by
    have ih := dat_ins n x r
    simp only [ins, List.map_cons, DataW.insert]
    have e : (dat1 (n, x)).1.before (dat1 y).1 = bytesBefore n y.1 := rfl
    rw [e]
    split
    · simp
    · rw [List.map_cons, ih]
theorem dat_del' (n : Nm) (L : LL) : (del n L).map dat1 = (L.map dat1).filter (fun p => !p.1.sameKey (.string n)) := by
  rw [List.filter_map]
  rfl
theorem dat_del (n : Nm) (L : LL) : (dat L).del (.string n) = dat (del n L) := by
  show DataW.map _ = DataW.map _
  rw [dat_del']
theorem dat_put (n : Nm) (x : Dlo) (L : LL) : (dat L).put (.string n) (.lit (.int .i64 ((x.p : Nat) : Int))) = dat (put n x L) := by
  show DataW.map _ = DataW.map _
  rw [put, dat_ins, dat_del']
  rfl
theorem dat_at (n : Nm) (zd : DataW Unit) : ∀ L : LL, (dat L).atKey (.string n) zd = match find n L with | none => zd | some x => .lit (.int .i64 ((x.p : Nat) : Int))
  | [] => rfl
  | y :: r => by
    have ih := dat_at n zd r
    simp only [dat, DataW.atKey, List.map_cons, List.find?_cons, find] at ih ⊢
    have e : (dat1 y).1.sameKey (.string n) = (y.1 == n) := rfl
    rw [e]
    cases h : (y.1 == n)
    · simpa using ih
    · simp [dat1]
theorem dat_size (L : LL) : Maps.size (dat L) = L.length := by simp [dat, Maps.size]
theorem dat_has (n : Nm) : ∀ L : LL, Maps.has (dat L) (.string n) = (find n L).isSome
  | [] => rfl
  | y :: r => by
    have ih := dat_has n r
    simp only [dat, Maps.has, List.map_cons, List.any_cons, find] at ih ⊢
    have e : (dat1 y).1.sameKey (.string n) = (y.1 == n) := rfl
    rw [e, ih]
    cases h : (y.1 == n) <;> simp
theorem dat_same {n : Nm} {x x' : Dlo} {L : LL} (hL : Inc L) (hf : find n L = some x) (hp : x'.p = x.p) : dat (put n x' L) = dat L := by
  rw [← dat_put, hp, dat_put, put_same hL hf]

theorem dat_mapv (g : Dlo → Dlo) (hg : ∀ x, (g x).p = x.p) (L : LL) : dat (mapv g L) = dat L := by
  simp [dat, mapv, dat1, Function.comp_def, hg]
def IsM (w : World) (bm : Nat) (L : LL) : Prop := w.ownsMap Tryz.prog 9 R70 bm L.length (dat L)
theorem IsM.keeps {S : Nat → Prop} {w w' : World} {bm : Nat} {L : LL} (h : IsM w bm L) (hk : Keeps S w w') (hb : ¬ S bm) : IsM w' bm L := by
  obtain ⟨es, clock, hh, r⟩ := h
  exact ⟨es, clock, hk.at hh hb, r⟩
theorem IsM.obj {w : World} {bm : Nat} {L : LL} (h : IsM w bm L) : ∃ es clock, w.heap[bm]? = some (.map es clock) := by
  obtain ⟨es, clock, hh, r⟩ := h
  exact ⟨es, clock, hh⟩
theorem isM_of {w : World} {bm n : Nat} {L : LL} (h : w.ownsMap Tryz.prog 9 R70 bm n (dat L)) : IsM w bm L := by
  obtain ⟨es, clock, hh, F, hs, hD⟩ := h
  refine ⟨es, clock, hh, F, ?_, hD⟩
  have : Maps.size (dat L) = es.size := by rw [hD]; simp [Maps.size, length_sorted]
  rw [dat_size] at this
  omega

/-- five cells of a disk -/
def dcells (bm : Nat) (off : Bool) (ref : Nat) (c keep : Int) : Array Value := #[.map (some bm), .bool off, .int .i64 ((ref : Nat) : Int), .int .i64 c, .int .i64 keep]
def i64 (x : Int) : Prop := -9223372036854775808 ≤ x ∧ x ≤ 9223372036854775807
/-- a disk at p, with all that it holds, in the blocks of F -/
structure DL (w : World) (p : Nat) (F : Nat → Prop) (s : St) (bm : Nat) (c : Int) (L : LL) : Prop where
  blk : w.heap[p]? = some (.cells (dcells bm s.off s.ref c s.keep) 64 (0, 0))
  map : IsM w bm L
  fs : s.fs = mapv Dlo.fl L
  files : ∀ q ∈ L, FileAt w q.2
  apart : L.Pairwise fun q r => q.2.p ≠ r.2.p ∧ ∀ k, inO q.2.o k → ¬ inO r.2.o k
  fp : F p
  fm : F bm
  ff : ∀ q ∈ L, F q.2.p ∧ ∀ k, inO q.2.o k → F k
  lt : ∀ k, F k → k < w.heap.size
  ok : Ok s
  cc : max c (-1) = s.calls
  ci : i64 c
  ki : i64 s.keep
  ri : (s.ref : Int) ≤ 9223372036854775807
def IsD (w : World) (p : Nat) (F : Nat → Prop) (s : St) : Prop := ∃ bm c L, DL w p F s bm c L

theorem FileAt.keeps {S : Nat → Prop} {w w' : World} {x : Dlo} (h : FileAt w x) (hk : Keeps S w w') (hp : ¬ S x.p) (ho : ∀ k, inO x.o k → ¬ S k) : FileAt w' x := ⟨hk.at h.blk hp, h.own.keeps hk ho⟩
theorem DL.keeps {S : Nat → Prop} {w w' : World} {p : Nat} {F : Nat → Prop} {s : St} {bm : Nat} {c : Int} {L : LL} (h : DL w p F s bm c L) (hk : Keeps S w w') (hS : ∀ k, F k → ¬ S k) : DL w' p F s bm c L :=
  ⟨hk.at h.blk (hS p h.fp), h.map.keeps hk (hS bm h.fm), h.fs, fun q hq => (h.files q hq).keeps hk (hS _ (h.ff q hq).1) (fun k hh => hS k ((h.ff q hq).2 k hh)), h.apart, h.fp, h.fm, h.ff, fun k hk' => Nat.lt_of_lt_of_le (h.lt k hk') hk.size, h.ok, h.cc, h.ci, h.ki, h.ri⟩
theorem IsD.keeps {S : Nat → Prop} {w w' : World} {p : Nat} {F : Nat → Prop} {s : St} (h : IsD w p F s) (hk : Keeps S w w') (hS : ∀ k, F k → ¬ S k) : IsD w' p F s := by
  obtain ⟨bm, c, L, h⟩ := h
  exact ⟨bm, c, L, h.keeps hk hS⟩
theorem IsD.keepsN {w w' : World} {p : Nat} {F : Nat → Prop} {s : St} (h : IsD w p F s) (hk : Keeps no w w') : IsD w' p F s := h.keeps hk (fun _ _ => id)
theorem IsD.ok {w : World} {p : Nat} {F : Nat → Prop} {s : St} (h : IsD w p F s) : Ok s := by
  obtain ⟨bm, c, L, h⟩ := h
  exact h.ok
theorem IsD.lt {w : World} {p : Nat} {F : Nat → Prop} {s : St} (h : IsD w p F s) : ∀ k, F k → k < w.heap.size := by
  obtain ⟨bm, c, L, h⟩ := h
  exact h.lt
/-- more blocks -/
theorem DL.wide {w : World} {p : Nat} {F F' : Nat → Prop} {s : St} {bm : Nat} {c : Int} {L : LL} (h : DL w p F s bm c L) (hF : ∀ k, F k → F' k) (hl : ∀ k, F' k → k < w.heap.size) : DL w p F' s bm c L :=
  ⟨h.blk, h.map, h.fs, h.files, h.apart, hF _ h.fp, hF _ h.fm, fun q hq => ⟨hF _ (h.ff q hq).1, fun k hk => hF _ ((h.ff q hq).2 k hk)⟩, hl, h.ok, h.cc, h.ci, h.ki, h.ri⟩

theorem ne_cells {w : World} {a b : Nat} {ca cb : Array Value} {ta tb : TypeId} {fa fb : Nat × Nat} (ha : w.heap[a]? = some (.cells ca ta fa)) (hb : w.heap[b]? = some (.cells cb tb fb)) (ht : ta ≠ tb) : a ≠ b := by
  rintro rfl
  rw [ha] at hb
  injection hb with hb
  injection hb with _ hb _
  exact ht hb
theorem ne_map {w : World} {a b : Nat} {ca : Array Value} {ta : TypeId} {fa : Nat × Nat} {es : Array MapEntry} {cl : Nat} (ha : w.heap[a]? = some (.cells ca ta fa)) (hb : w.heap[b]? = some (.map es cl)) : a ≠ b := by
  rintro rfl
  rw [ha] at hb
  cases hb
/-- unlike kinds of blocks are unlike blocks -/
theorem DL.p_bm {w : World} {p : Nat} {F : Nat → Prop} {s : St} {bm : Nat} {c : Int} {L : LL} (h : DL w p F s bm c L) : p ≠ bm := by
  obtain ⟨es, cl, hm⟩ := h.map.obj
  exact ne_map h.blk hm
theorem FileAt.ne_p {w : World} {x : Dlo} {p : Nat} {cs : Array Value} (h : FileAt w x) (hb : w.heap[p]? = some (.cells cs 64 (0, 0))) : x.p ≠ p := ne_cells h.blk hb (by decide)
theorem FileAt.ne_bm {w : World} {x : Dlo} {bm : Nat} {L : LL} (h : FileAt w x) (hm : IsM w bm L) : x.p ≠ bm := by
  obtain ⟨es, cl, hm⟩ := hm.obj
  exact ne_map h.blk hm
theorem FileAt.o_p {w : World} {x y : Dlo} (h : FileAt w x) (h' : FileAt w y) : ∀ k, inO x.o k → k ≠ y.p := by
  intro k hk
  obtain ⟨cur, hc⟩ := h.own.tag k hk
  exact ne_cells hc h'.blk (by decide)
theorem FileAt.o_d {w : World} {x : Dlo} {p : Nat} {cs : Array Value} (h : FileAt w x) (hb : w.heap[p]? = some (.cells cs 64 (0, 0))) : ∀ k, inO x.o k → k ≠ p := by
  intro k hk
  obtain ⟨cur, hc⟩ := h.own.tag k hk
  exact ne_cells hc hb (by decide)
theorem FileAt.o_bm {w : World} {x : Dlo} {bm : Nat} {L : LL} (h : FileAt w x) (hm : IsM w bm L) : ∀ k, inO x.o k → k ≠ bm := by
  intro k hk
  obtain ⟨cur, hc⟩ := h.own.tag k hk
  obtain ⟨es, cl, hm⟩ := hm.obj
  exact ne_map hc hm

theorem apart_of {L : LL} (ha : L.Pairwise fun q r => q.2.p ≠ r.2.p ∧ ∀ k, inO q.2.o k → ¬ inO r.2.o k) {q r : Nm × Dlo} (hq : q ∈ L) (hr : r ∈ L) (hne : q.1 ≠ r.1) : q.2.p ≠ r.2.p ∧ ∀ k, inO q.2.o k → ¬ inO r.2.o k := by
  induction L with
  | nil => simp at hq
  | cons a t ih =>
    obtain ⟨h1, h2⟩ := List.pairwise_cons.1 ha
    rcases List.mem_cons.1 hq with rfl | hq'
    · rcases List.mem_cons.1 hr with rfl | hr'
      · exact absurd rfl hne
      · exact h1 r hr'
    · rcases List.mem_cons.1 hr with rfl | hr'
      · obtain ⟨a1, a2⟩ := h1 q hq'
        exact ⟨a1.symm, fun k hk hk' => a2 k hk' hk⟩
      · exact ih h2 hq' hr'
theorem apart_mk {L : LL} (hL : Inc L) (h : ∀ q ∈ L, ∀ r ∈ L, q.1 ≠ r.1 → q.2.p ≠ r.2.p ∧ ∀ k, inO q.2.o k → ¬ inO r.2.o k) : L.Pairwise fun q r => q.2.p ≠ r.2.p ∧ ∀ k, inO q.2.o k → ¬ inO r.2.o k := by
  refine List.Pairwise.imp_of_mem ?_ (inc_nodup hL)
  intro a b ha hb hne
  exact h a ha b hb hne
theorem DL.inc {w : World} {p : Nat} {F : Nat → Prop} {s : St} {bm : Nat} {c : Int} {L : LL} (h : DL w p F s bm c L) : Inc L := by
  have := h.ok.inc
  rw [h.fs] at this
  rw [inc_names, names_mapv, ← inc_names] at this
  exact this
theorem DL.len {w : World} {p : Nat} {F : Nat → Prop} {s : St} {bm : Nat} {c : Int} {L : LL} (h : DL w p F s bm c L) : s.fs.length = L.length := by rw [h.fs, length_mapv]
theorem DL.find {w : World} {p : Nat} {F : Nat → Prop} {s : St} {bm : Nat} {c : Int} {L : LL} (h : DL w p F s bm c L) (n : Nm) : find n s.fs = (find n L).map Dlo.fl := by rw [h.fs, find_mapv]

/-- one file turns -/
theorem DL.upd {w w' : World} {p : Nat} {F F' : Nat → Prop} {s : St} {bm : Nat} {c : Int} {L : LL} (h : DL w p F s bm c L) {n : Nm} {x x' : Dlo} (hf : Dk.find n L = some x)
    (hk : Keeps (fun k => k = x.p ∨ inO x.o k) w w') (hx : FileAt w' x') (hp : x'.p = x.p) (ho : ∀ k, inO x'.o k → inO x.o k ∨ w.heap.size ≤ k) (hF : ∀ k, F k → F' k) (hF2 : ∀ k, inO x'.o k → F' k) (hl : ∀ k, F' k → k < w'.heap.size)
    (hok : Ok { s with fs := put n x'.fl s.fs }) : DL w' p F' { s with fs := put n x'.fl s.fs } bm c (put n x' L) := by
  have hm := find_mem hf
  have hxw := h.files _ hm
  have hin : ∀ q ∈ L, q.1 ≠ n → FileAt w' q.2 := fun q hq hne => by
    have hap := apart_of h.apart hq hm hne
    have hqw := h.files q hq
    refine hqw.keeps hk ?_ ?_
    · rintro (e | e)
      · exact hap.1 e
      · exact hxw.o_p hqw _ e rfl
    · rintro k hk1 (e | e)
      · exact hqw.o_p hxw k hk1 e
      · exact hap.2 k hk1 e
  refine ⟨?_, ?_, ?_, ?_, ?_, hF _ h.fp, hF _ h.fm, ?_, hl, hok, h.cc, h.ci, h.ki, h.ri⟩
  · refine hk.at h.blk ?_
    rintro (e | e)
    · exact hxw.ne_p h.blk e.symm
    · exact hxw.o_d h.blk _ e rfl
  · have : IsM w' bm L := h.map.keeps hk (by
      rintro (e | e)
      · exact hxw.ne_bm h.map e.symm
      · exact hxw.o_bm h.map _ e rfl)
    refine isM_of (n := L.length) ?_
    rw [dat_same h.inc hf hp]
    exact this
  · show put n x'.fl s.fs = _
    rw [h.fs, mapv_put]
  · intro q hq
    rcases mem_put.1 hq with rfl | ⟨hq, hne⟩
    · exact hx
    · exact hin q hq hne
  · refine apart_mk (inc_put h.inc) ?_
    intro q hq r hr hne
    rcases mem_put.1 hq with rfl | ⟨hq, hqn⟩
    · rcases mem_put.1 hr with rfl | ⟨hr, hrn⟩
      · exact absurd rfl hne
      · have hap := apart_of h.apart hm hr (Ne.symm hrn)
        refine ⟨by simpa [hp] using hap.1, fun k hk1 hk2 => ?_⟩
        rcases ho k hk1 with e | e
        · exact hap.2 k e hk2
        · have := h.lt k ((h.ff r hr).2 k hk2); omega
    · rcases mem_put.1 hr with rfl | ⟨hr, hrn⟩
      · have hap := apart_of h.apart hq hm hqn
        refine ⟨by simpa [hp] using hap.1, fun k hk1 hk2 => ?_⟩
        rcases ho k hk2 with e | e
        · exact hap.2 k hk1 e
        · have := h.lt k ((h.ff q hq).2 k hk1); omega
      · exact apart_of h.apart hq hr hne
  · intro q hq
    rcases mem_put.1 hq with rfl | ⟨hq, hqn⟩
    · exact ⟨by show F' x'.p; rw [hp]; exact hF _ (h.ff _ hm).1, hF2⟩
    · exact ⟨hF _ (h.ff q hq).1, fun k hk => hF _ ((h.ff q hq).2 k hk)⟩
end Go.Proofs.YtgamhblkgojapaaGreatDoor
