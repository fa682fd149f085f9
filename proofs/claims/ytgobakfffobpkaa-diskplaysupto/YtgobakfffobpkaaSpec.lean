/- What a disk holds, in pure lists. No program here. -/
import Derived.Maps.RangeWalk
import Derived.Maps.Ext
namespace Go.Proofs.Ytgobakfffobpkaa
set_option linter.unusedVariables false
set_option linter.unusedSimpArgs false
namespace Dk
abbrev Nm := List UInt8
variable {β γ : Type}

/-! ### rising lists by name -/
def ins (x : Nm × β) : List (Nm × β) → List (Nm × β)
  | [] => [x]
  | y :: r => if bytesBefore x.1 y.1 then x :: y :: r else y :: ins x r
def del (n : Nm) (l : List (Nm × β)) : List (Nm × β) := l.filter fun p => !(p.1 == n)
def put (n : Nm) (v : β) (l : List (Nm × β)) : List (Nm × β) := ins (n, v) (del n l)
def find (n : Nm) : List (Nm × β) → Option β
  | [] => none
  | p :: r => if p.1 == n then some p.2 else find n r
def Inc (l : List (Nm × β)) : Prop := l.Pairwise fun p q => bytesBefore p.1 q.1 = true
def names (l : List (Nm × β)) : List Nm := l.map (·.1)
def mapv (g : β → γ) (l : List (Nm × β)) : List (Nm × γ) := l.map fun p => (p.1, g p.2)

theorem bb_irrefl (a : Nm) : bytesBefore a a = false := WideAt.bytes_irrefl a
theorem bb_asym {a b : Nm} (h : bytesBefore a b = true) : bytesBefore b a = false := by
  cases e : bytesBefore b a with
  | false => rfl
  | true => have := WideShapes.bytes_trans a b a h e; rw [bb_irrefl] at this; cases this
theorem bb_tri {a b : Nm} (h : bytesBefore a b = false) (hne : a ≠ b) : bytesBefore b a = true := by
  rcases WideAt.bytes_total a b hne with h' | h'
  · rw [h] at h'; cases h'
  · exact h'
theorem bb_ne {a b : Nm} (h : bytesBefore a b = true) : a ≠ b := by rintro rfl; rw [bb_irrefl] at h; cases h

theorem mapv_ins (g : β → γ) (n : Nm) (v : β) : ∀ l : List (Nm × β), mapv g (ins (n, v) l) = ins (n, g v) (mapv g l)
  | [] => rfl
  | y :: r => by
    have ih := mapv_ins g n v r
    simp only [mapv, ins, List.map_cons] at ih ⊢
    split <;> simp [ih]
theorem mapv_del (g : β → γ) (n : Nm) (l : List (Nm × β)) : mapv g (del n l) = del n (mapv g l) := by
  simp [mapv, del, List.filter_map, Function.comp_def]
theorem mapv_put (g : β → γ) (n : Nm) (v : β) (l : List (Nm × β)) : mapv g (put n v l) = put n (g v) (mapv g l) := by
  simp only [put, mapv_ins, mapv_del]
theorem find_mapv (g : β → γ) (n : Nm) : ∀ l : List (Nm × β), find n (mapv g l) = (find n l).map g
  | [] => rfl
  | y :: r => by
    have ih := find_mapv g n r
    simp only [mapv, find, List.map_cons] at ih ⊢
    split <;> simp [ih]
theorem names_mapv (g : β → γ) (l : List (Nm × β)) : names (mapv g l) = names l := by simp [names, mapv]
theorem length_mapv (g : β → γ) (l : List (Nm × β)) : (mapv g l).length = l.length := by simp [mapv]
theorem inc_names {l : List (Nm × β)} : Inc l ↔ (names l).Pairwise (fun a b => bytesBefore a b = true) := by simp [Inc, names, List.pairwise_map]
theorem inc_mapv (g : β → γ) {l : List (Nm × β)} (h : Inc l) : Inc (mapv g l) := by
  rw [inc_names, names_mapv, ← inc_names]; exact h

theorem mem_ins {x y : Nm × β} : ∀ {l : List (Nm × β)}, y ∈ ins x l ↔ y = x ∨ y ∈ l
  | [] => by simp [ins]
  | z :: r => by
    simp only [ins]
    split
    · simp
    · simp [mem_ins (l := r)]; grind
theorem mem_del {n : Nm} {y : Nm × β} {l : List (Nm × β)} : y ∈ del n l ↔ y ∈ l ∧ y.1 ≠ n := by simp [del]
theorem mem_put {n : Nm} {v : β} {y : Nm × β} {l : List (Nm × β)} : y ∈ put n v l ↔ y = (n, v) ∨ (y ∈ l ∧ y.1 ≠ n) := by simp [put, mem_ins, mem_del]
theorem inc_ins {x : Nm × β} : ∀ {l : List (Nm × β)}, Inc l → (∀ p ∈ l, p.1 ≠ x.1) → Inc (ins x l)
  | [], _, _ => by simp [ins, Inc]
  | y :: r, h, hne => by
    obtain ⟨h1, h2⟩ := List.pairwise_cons.1 h
    simp only [ins]
    split
    · rename_i hb
      refine List.pairwise_cons.2 ⟨fun q hq => ?_, h⟩
      rcases List.mem_cons.1 hq with rfl | hq
      · exact hb
      · exact WideShapes.bytes_trans _ _ _ hb (h1 q hq)
    · rename_i hb
      have hyx := bb_tri (a := x.1) (b := y.1) (by simpa using hb) (hne y (by simp)).symm
      refine List.pairwise_cons.2 ⟨fun q hq => ?_, inc_ins (l := r) h2 (fun p hp => hne p (by simp [hp]))⟩
      rcases mem_ins.1 hq with rfl | hq
      · exact hyx
      · exact h1 q hq
theorem inc_del {n : Nm} {l : List (Nm × β)} (h : Inc l) : Inc (del n l) := List.Pairwise.filter _ h
theorem inc_put {n : Nm} {v : β} {l : List (Nm × β)} (h : Inc l) : Inc (put n v l) := inc_ins (inc_del h) (fun p hp => (mem_del.1 hp).2)
theorem length_ins (x : Nm × β) : ∀ l : List (Nm × β), (ins x l).length = l.length + 1
  | [] => rfl
  | y :: r => by simp only [ins]; split <;> simp [length_ins x r]
theorem find_none {n : Nm} : ∀ {l : List (Nm × β)}, find n l = none ↔ ∀ p ∈ l, p.1 ≠ n
  | [] => by simp [find]
  | y :: r => by
    simp only [find]
    by_cases h : y.1 = n
    · simp [h]
    · simp [h, find_none (l := r)]
theorem find_mem {n : Nm} {v : β} : ∀ {l : List (Nm × β)}, find n l = some v → (n, v) ∈ l
  | [], h => by simp [find] at h
  | y :: r, h => by
    simp only [find] at h
    split at h
    · rename_i he
      have : y.1 = n := by simpa using he
      cases h; subst this; simp
    · exact List.mem_cons_of_mem _ (find_mem h)
theorem inc_nodup {l : List (Nm × β)} (h : Inc l) : l.Pairwise fun p q => p.1 ≠ q.1 := List.Pairwise.imp (fun h => bb_ne h) h
theorem find_of_mem {n : Nm} {v : β} : ∀ {l : List (Nm × β)}, Inc l → (n, v) ∈ l → find n l = some v
  | [], _, h => by simp at h
  | y :: r, hi, h => by
    obtain ⟨h1, h2⟩ := List.pairwise_cons.1 hi
    simp only [find]
    rcases List.mem_cons.1 h with rfl | h
    · simp
    · have := bb_ne (h1 _ h)
      rw [if_neg (by simpa using this)]
      exact find_of_mem h2 h
theorem del_none {n : Nm} {l : List (Nm × β)} (h : find n l = none) : del n l = l := by
  rw [find_none] at h
  exact List.filter_eq_self.2 fun p hp => by simpa using h p hp
theorem find_ins_same {n : Nm} {v : β} : ∀ {l : List (Nm × β)}, find n l = none → find n (ins (n, v) l) = some v
  | [], _ => by simp [ins, find]
  | y :: r, h => by
    simp only [find] at h
    split at h
    · cases h
    · rename_i hy
      simp only [ins]
      split
      · simp [find]
      · simp only [find]; rw [if_neg hy]; exact find_ins_same h
theorem find_ins_other {n m : Nm} {v : β} (hne : m ≠ n) : ∀ {l : List (Nm × β)}, find m (ins (n, v) l) = find m l
  | [] => by simp [ins, find, Ne.symm hne]
  | y :: r => by
    simp only [ins]
    split
    · simp [find, Ne.symm hne]
    · simp only [find]; split
      · rfl
      · exact find_ins_other hne
theorem find_del_same {n : Nm} (l : List (Nm × β)) : find n (del n l) = none := find_none.2 fun p hp => (mem_del.1 hp).2
theorem find_del_other {n m : Nm} (hne : m ≠ n) : ∀ l : List (Nm × β), find m (del n l) = find m l
  | [] => rfl
  | y :: r => by
    have ih := find_del_other hne r
    by_cases hy : y.1 = n
    · have e1 : del n (y :: r) = del n r := by simp [del, hy]
      have e2 : find m (y :: r) = find m r := by simp [find, hy, Ne.symm hne]
      rw [e1, e2, ih]
    · have : (!(y.1 == n)) = true := by simp [hy]
      simp only [del, List.filter_cons, this, if_true, find] at ih ⊢
      rw [ih]
theorem find_put_same {n : Nm} {v : β} (l : List (Nm × β)) : find n (put n v l) = some v := find_ins_same (find_del_same l)
theorem find_put_other {n m : Nm} {v : β} (hne : m ≠ n) (l : List (Nm × β)) : find m (put n v l) = find m l := by
  unfold put; rw [find_ins_other hne, find_del_other hne]
/-- two rising lists with one look are one -/
theorem inc_ext : ∀ {l1 l2 : List (Nm × β)}, Inc l1 → Inc l2 → (∀ n, find n l1 = find n l2) → l1 = l2 := by
  intro l1 l2 h1 h2 hf
  have hm : ∀ x, x ∈ l1 ↔ x ∈ l2 := fun x => by
    constructor
    · intro hx
      have := find_of_mem h1 (show (x.1, x.2) ∈ l1 from hx)
      rw [hf] at this
      exact find_mem this
    · intro hx
      have := find_of_mem h2 (show (x.1, x.2) ∈ l2 from hx)
      rw [← hf] at this
      exact find_mem this
  induction l1 generalizing l2 with
  | nil => cases l2 with
    | nil => rfl
    | cons y r => exact absurd ((hm y).2 (by simp)) (by simp)
  | cons x r1 ih => cases l2 with
    | nil => exact absurd ((hm x).1 (by simp)) (by simp)
    | cons y r2 =>
      have p1 := List.pairwise_cons.1 h1
      have p2 := List.pairwise_cons.1 h2
      have hxy : x = y := by
        rcases List.mem_cons.1 ((hm x).1 (by simp)) with e | hx
        · exact e
        · rcases List.mem_cons.1 ((hm y).2 (by simp)) with e | hy
          · exact e.symm
          · have a := p2.1 x hx
            have b := p1.1 y hy
            rw [bb_asym a] at b; cases b
      subst hxy
      have hm' : ∀ z, z ∈ r1 ↔ z ∈ r2 := fun z => by
        constructor
        · intro hz
          rcases List.mem_cons.1 ((hm z).1 (by simp [hz])) with rfl | h'
          · have := p1.1 z hz; rw [bb_irrefl] at this; cases this
          · exact h'
        · intro hz
          rcases List.mem_cons.1 ((hm z).2 (by simp [hz])) with rfl | h'
          · have := p2.1 z hz; rw [bb_irrefl] at this; cases this
          · exact h'
      have hf' : ∀ n, find n r1 = find n r2 := fun n => by
        cases e1 : find n r1 with
        | none =>
          cases e2 : find n r2 with
          | none => rfl
          | some v => have := find_of_mem p1.2 ((hm' _).2 (find_mem e2)); rw [e1] at this; cases this
        | some v => exact (find_of_mem p2.2 ((hm' _).1 (find_mem e1))).symm
      rw [ih p1.2 p2.2 hf' hm']
theorem put_same {n : Nm} {v : β} {l : List (Nm × β)} (h : Inc l) (hf : find n l = some v) : put n v l = l := by
  refine inc_ext (inc_put h) h fun m => ?_
  by_cases e : m = n
  · subst e; rw [find_put_same, hf]
  · exact find_put_other e l
theorem length_put_some {n : Nm} {v u : β} {l : List (Nm × β)} (h : Inc l) (hf : find n l = some u) : (put n v l).length = l.length := by
  have e : (put n u l).length = (put n v l).length := by simp [put, length_ins]
  rw [← e, put_same h hf]
theorem length_put_none {n : Nm} {v : β} {l : List (Nm × β)} (hf : find n l = none) : (put n v l).length = l.length + 1 := by
  rw [put, del_none hf, length_ins]
theorem length_del_le {n : Nm} (l : List (Nm × β)) : (del n l).length ≤ l.length := List.length_filter_le _ _
theorem length_del_some {n : Nm} {u : β} {l : List (Nm × β)} (h : Inc l) (hf : find n l = some u) : (del n l).length + 1 = l.length := by
  have := length_put_some (v := u) h hf
  rw [put, length_ins] at this
  exact this

/-! ### a disk -/
structure Fl where
  bs : List UInt8
  sy : Nat
structure St where
  fs : List (Nm × Fl)
  off : Bool
  ref : Nat
  calls : Int
  keep : Int
/-- how much of a file a crash leaves -/
def cutN (k : Int) (f : Fl) : Nat := f.sy + min k.toNat (f.bs.length - f.sy)
def crF (k : Int) (f : Fl) : Fl := ⟨f.bs.take (cutN k f), cutN k f⟩
def crash (k : Int) (s : St) : St := if s.off then s else ⟨mapv (crF k) s.fs, true, s.ref, -1, s.keep⟩
def tick (s : St) : St := if s.calls = 0 then crash s.keep s else if 0 < s.calls then { s with calls := s.calls - 1 } else s
def up (s : St) : St := { s with off := false, calls := -1 }
def full (n : Int) (s : St) : St := { s with ref := n.toNat }
def arm (n k : Int) (s : St) : St := { s with calls := max n (-1), keep := k }
def good (n : Nm) : Bool := decide (1 ≤ n.length) && decide (n.length ≤ 32)
def new : St := ⟨[], false, 0, -1, 0⟩
def noRoom (b : List UInt8) (s : St) : Bool := decide (0 < b.length) && decide (0 < s.ref)
/-- behind the tick, the power on -/
def appendOn (n : Nm) (b : List UInt8) (s : St) : St × Int :=
  if good n then
    match find n s.fs with
    | none => if 16 ≤ s.fs.length then (s, 3) else if noRoom b s then ({ s with ref := s.ref - 1 }, 60) else ({ s with fs := put n ⟨b, 0⟩ s.fs }, 0)
    | some f => if noRoom b s then ({ s with ref := s.ref - 1 }, 60) else ({ s with fs := put n ⟨f.bs ++ b, f.sy⟩ s.fs }, 0)
  else (s, 1)
def onF (n : Nm) (s : St) (g : Fl → St × Int) : St × Int := match find n s.fs with | none => (s, 61) | some f => g f
def syncOn (n : Nm) (s : St) : St × Int := onF n s fun f => ({ s with fs := put n ⟨f.bs, f.bs.length⟩ s.fs }, 0)
def cutOn (n : Nm) (k : Int) (s : St) : St × Int := onF n s fun f => if k < 0 ∨ (f.bs.length : Int) < k then (s, 1) else ({ s with fs := put n ⟨f.bs.take k.toNat, min f.sy k.toNat⟩ s.fs }, 0)
def deleteOn (n : Nm) (s : St) : St × Int := onF n s fun _ => ({ s with fs := del n s.fs }, 0)
def renameOn (a b : Nm) (s : St) : St × Int := if good b then onF a s fun f => ({ s with fs := put b f (del a s.fs) }, 0) else (s, 1)
/-- a counted call -/
def counted (s : St) (g : St → St × Int) : St × Int := if (tick s).off then (tick s, 62) else g (tick s)
def readB (n : Nm) (s : St) : List UInt8 := if s.off then [] else match find n s.fs with | none => [] | some f => f.bs
def readE (n : Nm) (s : St) : Int := if s.off then 62 else match find n s.fs with | none => 61 | some _ => 0
def listN (s : St) : List Nm := if s.off then [] else names s.fs
def listE (s : St) : Int := if s.off then 62 else 0

/-- what every disk keeps to -/
structure Ok (s : St) : Prop where
  inc : Inc s.fs
  len : s.fs.length ≤ 16
  sy : ∀ p ∈ s.fs, p.2.sy ≤ p.2.bs.length
  nm : ∀ p ∈ s.fs, good p.1 = true
  calls : -1 ≤ s.calls
theorem cutN_le (k : Int) {f : Fl} (h : f.sy ≤ f.bs.length) : cutN k f ≤ f.bs.length := by unfold cutN; omega
theorem new_ok : Ok new := ⟨List.Pairwise.nil, by simp [new], by simp [new], by simp [new], by simp [new]⟩
theorem crash_ok {k : Int} {s : St} (h : Ok s) : Ok (crash k s) := by
  unfold crash
  split
  · exact h
  · refine ⟨inc_mapv _ h.inc, by simpa [length_mapv] using h.len, ?_, ?_, by simp⟩
    · intro p hp
      simp only [mapv, List.mem_map] at hp
      obtain ⟨q, hq, rfl⟩ := hp
      have := cutN_le k (h.sy q hq)
      simp [crF]; omega
    · intro p hp
      simp only [mapv, List.mem_map] at hp
      obtain ⟨q, hq, rfl⟩ := hp
      exact h.nm q hq
theorem tick_ok {s : St} (h : Ok s) : Ok (tick s) := by
  unfold tick
  split
  · exact crash_ok h
  · split
    · exact ⟨h.inc, h.len, h.sy, h.nm, by simp; omega⟩
    · exact h
theorem up_ok {s : St} (h : Ok s) : Ok (up s) := ⟨h.inc, h.len, h.sy, h.nm, by simp [up]⟩
theorem full_ok {n : Int} {s : St} (h : Ok s) : Ok (full n s) := ⟨h.inc, h.len, h.sy, h.nm, h.calls⟩
theorem arm_ok {n k : Int} {s : St} (h : Ok s) : Ok (arm n k s) := ⟨h.inc, h.len, h.sy, h.nm, by simp [arm]; omega⟩
theorem ok_put {n : Nm} {f : Fl} {s : St} (h : Ok s) (hn : good n = true) (hf : f.sy ≤ f.bs.length) (hl : (put n f s.fs).length ≤ 16) : Ok { s with fs := put n f s.fs } :=
  ⟨inc_put h.inc, hl, fun p hp => by rcases mem_put.1 hp with rfl | hp; exact hf; exact h.sy p hp.1, fun p hp => by rcases mem_put.1 hp with rfl | hp; exact hn; exact h.nm p hp.1, h.calls⟩
theorem good_of {n : Nm} {f : Fl} {s : St} (h : Ok s) (hf : find n s.fs = some f) : good n = true ∧ f.sy ≤ f.bs.length := ⟨h.nm _ (find_mem hf), h.sy _ (find_mem hf)⟩
theorem ok_ref {s : St} (h : Ok s) (r : Nat) : Ok { s with ref := r } := ⟨h.inc, h.len, h.sy, h.nm, h.calls⟩
theorem appendOn_ok {n : Nm} {b : List UInt8} {s : St} (h : Ok s) : Ok (appendOn n b s).1 := by
  unfold appendOn
  split
  · rename_i hn
    split
    · rename_i hf
      split
      · exact h
      · split
        · exact ok_ref h _
        · exact ok_put h hn (Nat.zero_le _) (by rw [length_put_none hf]; omega)
    · rename_i f hf
      split
      · exact ok_ref h _
      · exact ok_put h hn (by have := (good_of h hf).2; simp; omega) (by rw [length_put_some h.inc hf]; exact h.len)
  · exact h
theorem syncOn_ok {n : Nm} {s : St} (h : Ok s) : Ok (syncOn n s).1 := by
  unfold syncOn onF
  split
  · exact h
  · rename_i f hf
    exact ok_put h (good_of h hf).1 (Nat.le_refl _) (by rw [length_put_some h.inc hf]; exact h.len)
theorem cutOn_ok {n : Nm} {k : Int} {s : St} (h : Ok s) : Ok (cutOn n k s).1 := by
  unfold cutOn onF
  split
  · exact h
  · rename_i f hf
    show Ok (if k < 0 ∨ (f.bs.length : Int) < k then (s, 1) else _).1
    split
    · exact h
    · exact ok_put h (good_of h hf).1 (by simp; omega) (by rw [length_put_some h.inc hf]; exact h.len)
theorem ok_del {n : Nm} {s : St} (h : Ok s) : Ok { s with fs := del n s.fs } :=
  ⟨inc_del h.inc, Nat.le_trans (length_del_le _) h.len, fun p hp => h.sy p (mem_del.1 hp).1, fun p hp => h.nm p (mem_del.1 hp).1, h.calls⟩
theorem deleteOn_ok {n : Nm} {s : St} (h : Ok s) : Ok (deleteOn n s).1 := by
  unfold deleteOn onF
  split
  · exact h
  · exact ok_del h
theorem renameOn_ok {a b : Nm} {s : St} (h : Ok s) : Ok (renameOn a b s).1 := by
  unfold renameOn onF
  split
  · rename_i hb
    split
    · exact h
    · rename_i f hf
      refine ok_put (s := { s with fs := del a s.fs }) (ok_del h) hb (good_of h hf).2 ?_
      have h1 := length_del_some h.inc hf
      have h2 := h.len
      have h3 := length_del_le (n := b) (del a s.fs)
      simp only [put, length_ins]
      omega
  · exact h
theorem counted_ok {s : St} {g : St → St × Int} (h : Ok s) (hg : ∀ t, Ok t → Ok (g t).1) : Ok (counted s g).1 := by
  unfold counted
  split
  · exact tick_ok h
  · exact hg _ (tick_ok h)
end Dk
end Go.Proofs.Ytgobakfffobpkaa
