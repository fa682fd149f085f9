/- One call of a script on a disk. -/
import Derived.Test.YtgobakfffobpkaaT1
namespace Go.Proofs.Ytgobakfffobpkaa
open Go.RowKit Dk
set_option linter.unusedVariables false
set_option linter.unusedSimpArgs false

structure OpV where
  kind : Int
  who : Int
  nm : Tx
  tn : Tx
  ob : Option Addr
  cb : Nat
  bs : List UInt8
  N : Int
  K : Int
def op0 : OpV := ⟨0, 0, ⟨#[]⟩, ⟨#[]⟩, none, 0, [], 0, 0⟩
def OpV.cells (o : OpV) : Array Value := #[.int .i64 o.kind, .int .i64 o.who, .string o.nm, .string o.tn, .slice o.ob o.bs.length o.cb, .int .i64 o.N, .int .i64 o.K]
structure OpV.ok (o : OpV) (w : World) : Prop where
  k : i64 o.kind
  wh : i64 o.who
  n : i64 o.N
  kk : i64 o.K
  nm : o.nm.size ≤ maxLen
  tn : o.tn.size ≤ maxLen
  sl : Sl BE w o.ob o.cb o.bs
  live : ∀ k, inO o.ob k → 0 < o.cb → k < w.heap.size
  len : o.bs.length ≤ 4194304
theorem OpV.ok.keeps {S : Nat → Prop} {o : OpV} {w w' : World} (h : o.ok w) (hk : Keeps S w w') (hS : ∀ k, inO o.ob k → ¬ S k) : o.ok w' := ⟨h.k, h.wh, h.n, h.kk, h.nm, h.tn, h.sl.keeps hk hS, fun k h1 h2 => Nat.lt_of_lt_of_le (h.live k h1 h2) hk.size, h.len⟩
theorem OpV.ok.keepsN {o : OpV} {w w' : World} (h : o.ok w) (hk : Keeps no w w') : o.ok w' := h.keeps hk (fun _ _ => id)

def doesOn (o : OpV) (s : St) : St × Int :=
  if o.kind = 1 then counted s (appendOn o.nm.data.toList o.bs)
  else if o.kind = 2 then counted s (syncOn o.nm.data.toList)
  else if o.kind = 3 then (tick s, readE o.nm.data.toList (tick s))
  else if o.kind = 4 then (tick s, readE o.nm.data.toList (tick s))
  else if o.kind = 5 then counted s (cutOn o.nm.data.toList o.N)
  else if o.kind = 6 then counted s (deleteOn o.nm.data.toList)
  else if o.kind = 7 then counted s (renameOn o.nm.data.toList o.tn.data.toList)
  else if o.kind = 8 then (tick s, listE (tick s))
  else if o.kind = 9 then (crash o.N s, 0)
  else if o.kind = 10 then (up s, 0)
  else if o.kind = 11 then (full o.N s, 0)
  else if o.kind = 12 then (arm o.N o.K s, 0)
  else (s, 0)
theorem doesOn_ind {o : OpV} {s : St} {P : St × Int → Prop}
    (h1 : P (counted s (appendOn o.nm.data.toList o.bs)))
    (h2 : P (counted s (syncOn o.nm.data.toList)))
    (h3 : P (tick s, readE o.nm.data.toList (tick s)))
    (h4 : P (tick s, readE o.nm.data.toList (tick s)))
    (h5 : P (counted s (cutOn o.nm.data.toList o.N)))
    (h6 : P (counted s (deleteOn o.nm.data.toList)))
    (h7 : P (counted s (renameOn o.nm.data.toList o.tn.data.toList)))
    (h8 : P (tick s, listE (tick s)))
    (h9 : P (crash o.N s, 0))
    (h10 : P (up s, 0))
    (h11 : P (full o.N s, 0))
    (h12 : P (arm o.N o.K s, 0))
    (h0 : P (s, 0)) : P (doesOn o s) := by
  unfold doesOn
  by_cases c1 : o.kind = 1
  · rw [if_pos c1]; exact h1
  rw [if_neg c1]
  by_cases c2 : o.kind = 2
  · rw [if_pos c2]; exact h2
  rw [if_neg c2]
  by_cases c3 : o.kind = 3
  · rw [if_pos c3]; exact h3
  rw [if_neg c3]
  by_cases c4 : o.kind = 4
  · rw [if_pos c4]; exact h4
  rw [if_neg c4]
  by_cases c5 : o.kind = 5
  · rw [if_pos c5]; exact h5
  rw [if_neg c5]
  by_cases c6 : o.kind = 6
  · rw [if_pos c6]; exact h6
  rw [if_neg c6]
  by_cases c7 : o.kind = 7
  · rw [if_pos c7]; exact h7
  rw [if_neg c7]
  by_cases c8 : o.kind = 8
  · rw [if_pos c8]; exact h8
  rw [if_neg c8]
  by_cases c9 : o.kind = 9
  · rw [if_pos c9]; exact h9
  rw [if_neg c9]
  by_cases c10 : o.kind = 10
  · rw [if_pos c10]; exact h10
  rw [if_neg c10]
  by_cases c11 : o.kind = 11
  · rw [if_pos c11]; exact h11
  rw [if_neg c11]
  by_cases c12 : o.kind = 12
  · rw [if_pos c12]; exact h12
  rw [if_neg c12]
  exact h0
theorem doesOn_1 {o : OpV} {s : St} (h : o.kind = 1) : doesOn o s = counted s (appendOn o.nm.data.toList o.bs) := by
  unfold doesOn
  rw [h]
  rfl
theorem doesOn_2 {o : OpV} {s : St} (h : o.kind = 2) : doesOn o s = counted s (syncOn o.nm.data.toList) := by
  unfold doesOn
  rw [h]
  rfl
theorem doesOn_3 {o : OpV} {s : St} (h : o.kind = 3) : doesOn o s = (tick s, readE o.nm.data.toList (tick s)) := by
  unfold doesOn
  rw [h]
  rfl
theorem doesOn_4 {o : OpV} {s : St} (h : o.kind = 4) : doesOn o s = (tick s, readE o.nm.data.toList (tick s)) := by
  unfold doesOn
  rw [h]
  rfl
theorem doesOn_5 {o : OpV} {s : St} (h : o.kind = 5) : doesOn o s = counted s (cutOn o.nm.data.toList o.N) := by
  unfold doesOn
  rw [h]
  rfl
theorem doesOn_6 {o : OpV} {s : St} (h : o.kind = 6) : doesOn o s = counted s (deleteOn o.nm.data.toList) := by
  unfold doesOn
  rw [h]
  rfl
theorem doesOn_7 {o : OpV} {s : St} (h : o.kind = 7) : doesOn o s = counted s (renameOn o.nm.data.toList o.tn.data.toList) := by
  unfold doesOn
  rw [h]
  rfl
theorem doesOn_8 {o : OpV} {s : St} (h : o.kind = 8) : doesOn o s = (tick s, listE (tick s)) := by
  unfold doesOn
  rw [h]
  rfl
theorem doesOn_9 {o : OpV} {s : St} (h : o.kind = 9) : doesOn o s = (crash o.N s, 0) := by
  unfold doesOn
  rw [h]
  rfl
theorem doesOn_10 {o : OpV} {s : St} (h : o.kind = 10) : doesOn o s = (up s, 0) := by
  unfold doesOn
  rw [h]
  rfl
theorem doesOn_11 {o : OpV} {s : St} (h : o.kind = 11) : doesOn o s = (full o.N s, 0) := by
  unfold doesOn
  rw [h]
  rfl
theorem doesOn_12 {o : OpV} {s : St} (h : o.kind = 12) : doesOn o s = (arm o.N o.K s, 0) := by
  unfold doesOn
  rw [h]
  rfl
theorem doesOn_0 {o : OpV} {s : St} (c1 : ¬ o.kind = 1) (c2 : ¬ o.kind = 2) (c3 : ¬ o.kind = 3) (c4 : ¬ o.kind = 4) (c5 : ¬ o.kind = 5) (c6 : ¬ o.kind = 6) (c7 : ¬ o.kind = 7) (c8 : ¬ o.kind = 8) (c9 : ¬ o.kind = 9) (c10 : ¬ o.kind = 10) (c11 : ¬ o.kind = 11) (c12 : ¬ o.kind = 12) : doesOn o s = (s, 0) := by
  unfold doesOn
  rw [if_neg c1, if_neg c2, if_neg c3, if_neg c4, if_neg c5, if_neg c6, if_neg c7, if_neg c8, if_neg c9, if_neg c10, if_neg c11, if_neg c12]
theorem doesOn_ok {o : OpV} {s : St} (h : Ok s) : Ok (doesOn o s).1 := by
  refine doesOn_ind (P := fun r => Ok r.1) ?_ ?_ ?_ ?_ ?_ ?_ ?_ ?_ ?_ ?_ ?_ ?_ ?_
  · exact counted_ok h fun t => appendOn_ok
  · exact counted_ok h fun t => syncOn_ok
  · exact tick_ok h
  · exact tick_ok h
  · exact counted_ok h fun t => cutOn_ok
  · exact counted_ok h fun t => deleteOn_ok
  · exact counted_ok h fun t => renameOn_ok
  · exact tick_ok h
  · exact crash_ok h
  · exact up_ok h
  · exact full_ok h
  · exact arm_ok h
  · exact h

/-! ### no file has more than so many bytes -/
def Room (M : Nat) (s : St) : Prop := ∀ q ∈ s.fs, q.2.bs.length ≤ M
theorem Room.mono {M M' : Nat} {s : St} (h : Room M s) (hm : M ≤ M') : Room M' s := fun q hq => Nat.le_trans (h q hq) hm
theorem Room.crash {M : Nat} {k : Int} {s : St} (h : Room M s) : Room M (crash k s) := by
  unfold Dk.crash
  split
  · exact h
  · intro q hq
    simp only [mapv, List.mem_map] at hq
    obtain ⟨r, hr, rfl⟩ := hq
    have := h r hr
    simp [crF]; omega
theorem Room.tick {M : Nat} {s : St} (h : Room M s) : Room M (tick s) := by
  unfold Dk.tick
  split
  · exact h.crash
  · split
    · exact h
    · exact h
theorem Room.put {M : Nat} {s : St} {n : Nm} {f : Fl} (h : Room M s) (hf : f.bs.length ≤ M) : Room M { s with fs := put n f s.fs } := by
  intro q hq
  rcases mem_put.1 hq with rfl | ⟨hq, _⟩
  · exact hf
  · exact h q hq
theorem Room.del {M : Nat} {s : St} {n : Nm} (h : Room M s) : Room M { s with fs := del n s.fs } := fun q hq => h q (mem_del.1 hq).1
theorem Room.find {M : Nat} {s : St} {n : Nm} {f : Fl} (h : Room M s) (hf : find n s.fs = some f) : f.bs.length ≤ M := h _ (find_mem hf)
theorem Room.counted {M : Nat} {s : St} {g : St → St × Int} (h : Room M s) (hg : ∀ t, Room M t → Room M (g t).1) : Room M (counted s g).1 := by
  unfold Dk.counted
  split
  · exact h.tick
  · exact hg _ h.tick
theorem Room.onF {M : Nat} {t : St} {n : Nm} {g : Fl → St × Int} (h : Room M t) (hg : ∀ f, Dk.find n t.fs = some f → Room M (g f).1) : Room M (onF n t g).1 := by
  unfold Dk.onF
  split
  · exact h
  · rename_i f hf
    exact hg f hf
theorem Room.app {M : Nat} {t : St} {n : Nm} {b : List UInt8} (h : Room M t) : Room (M + b.length) (appendOn n b t).1 := by
  have h' : Room (M + b.length) t := h.mono (by omega)
  unfold appendOn
  split
  · split
    · split
      · exact h'
      · split
        · exact h'
        · exact h'.put (by simp)
    · rename_i f hf
      split
      · exact h'
      · exact h'.put (by have := h.find hf; simp; omega)
  · exact h'
theorem Room.readB {M : Nat} {t : St} {n : Nm} (h : Room M t) : (readB n t).length ≤ M := by
  unfold Dk.readB
  cases t.off with
  | true => simp
  | false =>
    cases hf : Dk.find n t.fs with
    | none => simp
    | some f => simpa using h.find hf
theorem doesOn_room {M : Nat} {o : OpV} {s : St} (h : Room M s) : Room (M + o.bs.length) (doesOn o s).1 := by
  have h' : Room (M + o.bs.length) s := h.mono (by omega)
  refine doesOn_ind (P := fun r => Room (M + o.bs.length) r.1) ?_ ?_ ?_ ?_ ?_ ?_ ?_ ?_ ?_ ?_ ?_ ?_ ?_
  · unfold counted
    split
    · exact h'.tick
    · exact h.tick.app
  · exact h'.counted fun t ht => ht.onF fun f hf => ht.put (show f.bs.length ≤ _ from ht.find hf)
  · exact h'.tick
  · exact h'.tick
  · refine h'.counted fun t ht => ht.onF fun f hf => ?_
    split
    · exact ht
    · exact ht.put (by have := ht.find hf; simp; omega)
  · exact h'.counted fun t ht => ht.onF fun f hf => ht.del
  · refine h'.counted fun t ht => ?_
    unfold renameOn
    split
    · exact ht.onF fun f hf => Room.put (s := { t with fs := del _ t.fs }) ht.del (ht.find hf)
    · exact ht
  · exact h'.tick
  · exact h'.crash
  · exact h'
  · exact h'
  · exact h'
  · exact h'

end Go.Proofs.Ytgobakfffobpkaa
