/- Scripts of calls in memory; two disks beside one another. -/
import Derived.Test.YtgobakfffobpkaaT3
import Derived.Test.YtgobakfffobpkaaT5
import Derived.Test.YtgobakfffobpkaaT6
namespace Go.Proofs.Ytgobakfffobpkaa
open Go.RowKit Dk
set_option linter.unusedVariables false
set_option linter.unusedSimpArgs false

structure Script (w : World) (a : Option Addr) (ops : List OpV) : Prop where
  row : ops = [] ∨ ∃ b off, a = some ⟨b, off, none⟩ ∧ ∀ j, j < ops.length → ∀ k, k < 7 → w.cell? ⟨b, off + j * 7 + k, none⟩ = (ops.getD j op0).cells[k]?
  ok : ∀ o ∈ ops, o.ok w
  len : ops.length ≤ 1048576
def C7 (w : World) (b o : Nat) (x : OpV) (nb : Nat) : Prop := w.cell? ⟨b, o, none⟩ = some (.int .i64 x.kind) ∧ w.cell? ⟨b, o + 1, none⟩ = some (.int .i64 x.who) ∧ w.cell? ⟨b, o + 2, none⟩ = some (.string x.nm) ∧ w.cell? ⟨b, o + 3, none⟩ = some (.string x.tn) ∧ w.cell? ⟨b, o + 4, none⟩ = some (.slice x.ob nb x.cb) ∧ w.cell? ⟨b, o + 5, none⟩ = some (.int .i64 x.N) ∧ w.cell? ⟨b, o + 6, none⟩ = some (.int .i64 x.K)
theorem C7.keepsN {w w' : World} {b o : Nat} {x : OpV} {nb : Nat} (h : C7 w b o x nb) (hk : Keeps no w w') : C7 w' b o x nb :=
  ⟨hk.cellN h.1, hk.cellN h.2.1, hk.cellN h.2.2.1, hk.cellN h.2.2.2.1, hk.cellN h.2.2.2.2.1, hk.cellN h.2.2.2.2.2.1, hk.cellN h.2.2.2.2.2.2⟩
theorem getD_mem {α : Type} (l : List α) (k : Nat) (d : α) (h : k < l.length) : l.getD k d ∈ l := by
  rw [List.getD_eq_getElem?_getD, List.getElem?_eq_getElem h]; exact List.getElem_mem h
theorem Script.at {w : World} {a : Option Addr} {ops : List OpV} (h : Script w a ops) {k : Nat} (hk : k < ops.length) : ∃ b off, a = some ⟨b, off, none⟩ ∧ C7 w b (off + k * 7) (ops.getD k op0) (ops.getD k op0).bs.length := by
  rcases h.row with e | ⟨b, off, rfl, hc⟩
  · rw [e] at hk; simp at hk
  · exact ⟨b, off, rfl, hc k hk 0 (by omega), hc k hk 1 (by omega), hc k hk 2 (by omega), hc k hk 3 (by omega), hc k hk 4 (by omega), hc k hk 5 (by omega), hc k hk 6 (by omega)⟩

/-- two disks, all new since w0, that know nothing of one another -/
structure Duo (w0 w : World) (p : Nat) (s : St) (q : Nat) (t : St) (F G : Nat → Prop) : Prop where
  a : IsD w p F s
  b : IsD w q G t
  ap : ∀ k, F k → ¬ G k
  nf : ∀ k, F k → w0.heap.size ≤ k
  ng : ∀ k, G k → w0.heap.size ≤ k
  kept : Keeps no w0 w
theorem Duo.swap {w0 w : World} {p q : Nat} {s t : St} {F G : Nat → Prop} (h : Duo w0 w p s q t F G) : Duo w0 w q t p s G F := ⟨h.b, h.a, fun k h1 h2 => h.ap k h2 h1, h.ng, h.nf, h.kept⟩
theorem Duo.step {w0 w w' : World} {p q : Nat} {s s' t : St} {F G F' : Nat → Prop} (h : Duo w0 w p s q t F G) (hi : IsD w' p F' s') (hF : ∀ k, F' k → F k ∨ w.heap.size ≤ k) (hk : Keeps F w w') : Duo w0 w' p s' q t F' G :=
  ⟨hi, h.b.keeps hk (fun k h1 h2 => h.ap k h2 h1), fun k h1 h2 => by
    rcases hF k h1 with h3 | h3
    · exact h.ap k h3 h2
    · have := h.b.lt k h2; omega, fun k h1 => by
    rcases hF k h1 with h3 | h3
    · exact h.nf k h3
    · have := h.kept.size; omega, h.ng, h.kept.then hk (fun i hi => .inr (h.nf i hi))⟩
theorem Duo.stepA {w0 w w' : World} {p q : Nat} {s s' t : St} {F G : Nat → Prop} (h : Duo w0 w p s q t F G) (hi : IsD w' p (grow F w w') s') (hk : Keeps F w w') : Duo w0 w' p s' q t (grow F w w') G := h.step hi (fun k hk => by rcases hk with h1 | h1; exact .inl h1; exact .inr h1.1) hk
theorem Duo.sameA {w0 w w' : World} {p q : Nat} {s s' t : St} {F G : Nat → Prop} (h : Duo w0 w p s q t F G) (hi : IsD w' p F s') (hk : Keeps F w w') : Duo w0 w' p s' q t F G := h.step hi (fun k hk => .inl hk) hk
theorem Duo.stepB {w0 w w' : World} {p q : Nat} {s t t' : St} {F G : Nat → Prop} (h : Duo w0 w p s q t F G) (hi : IsD w' q (grow G w w') t') (hk : Keeps G w w') : Duo w0 w' p s q t' F (grow G w w') := (h.swap.stepA hi hk).swap
theorem Duo.sameB {w0 w w' : World} {p q : Nat} {s t t' : St} {F G : Nat → Prop} (h : Duo w0 w p s q t F G) (hi : IsD w' q G t') (hk : Keeps G w w') : Duo w0 w' p s q t' F G := (h.swap.sameA hi hk).swap
theorem Duo.beside {w0 w w' : World} {p q : Nat} {s t : St} {F G : Nat → Prop} (h : Duo w0 w p s q t F G) (hk : Keeps no w w') : Duo w0 w' p s q t F G := ⟨h.a.keepsN hk, h.b.keepsN hk, h.ap, h.nf, h.ng, h.kept.trans hk⟩
theorem duo_new {w w1 w2 w3 : World} {p q : Nat} (hk1 : Keeps no w w1) (h2 : IsD w2 p (fun k => w1.heap.size ≤ k ∧ k < w2.heap.size) Dk.new) (hk2 : Keeps no w1 w2) (h3 : IsD w3 q (fun k => w2.heap.size ≤ k ∧ k < w3.heap.size) Dk.new) (hk3 : Keeps no w2 w3) : Duo w w3 p Dk.new q Dk.new (fun k => w1.heap.size ≤ k ∧ k < w2.heap.size) (fun k => w2.heap.size ≤ k ∧ k < w3.heap.size) :=
  ⟨h2.keepsN hk3, h3, fun k h1 h2 => by omega, fun k hk => Nat.le_trans hk1.size hk.1, fun k hk => Nat.le_trans hk1.size (Nat.le_trans hk2.size hk.1), (hk1.trans hk2).trans hk3⟩
theorem room_new (M : Nat) : Room M Dk.new := by intro q hq; cases hq
theorem room_up {M : Nat} {s : St} (h : Room M s) : Room M (up s) := h
theorem room_arm {M : Nat} {s : St} {n k : Int} (h : Room M s) : Room M (arm n k s) := h
theorem room_full {M : Nat} {s : St} {n : Int} (h : Room M s) : Room M (full n s) := h
theorem doesOn_room' {k : Nat} {o : OpV} {s : St} (h : Room (k * 4194304) s) (hl : o.bs.length ≤ 4194304) : Room ((k + 1) * 4194304) (doesOn o s).1 := (doesOn_room h).mono (by omega)

/-! ### a disk that is armed and one that crashes ahead of that call -/
def ck (c k : Int) (s : St) : St := { s with calls := c, keep := k }
/-- what a call does beside the counting asks neither for the calls nor for the bytes that stay -/
structure Blind (g : St → St × Int) : Prop where
  eq : ∀ c k s, g (ck c k s) = (ck c k (g s).1, (g s).2)
  calls : ∀ s, (g s).1.calls = s.calls
  keep : ∀ s, (g s).1.keep = s.keep
  off : ∀ s, (g s).1.off = s.off
theorem blind_onF (n : Nm) (h : Fl → St → St × Int) (hh : ∀ f, Blind (h f)) : Blind (fun s => onF n s (fun f => h f s)) := by
  refine ⟨fun c k s => ?_, fun s => ?_, fun s => ?_, fun s => ?_⟩
  · unfold onF
    show (match find n s.fs with | none => _ | some f => _) = _
    cases find n s.fs with
    | none => rfl
    | some f => exact (hh f).eq c k s
  · simp only [onF]
    cases find n s.fs with
    | none => rfl
    | some f => exact (hh f).calls s
  · simp only [onF]
    cases find n s.fs with
    | none => rfl
    | some f => exact (hh f).keep s
  · simp only [onF]
    cases find n s.fs with
    | none => rfl
    | some f => exact (hh f).off s
theorem blind_same (e : St → Int) (he : ∀ c k s, e (ck c k s) = e s) : Blind (fun s => (s, e s)) := ⟨fun c k s => by simp only [he], fun _ => rfl, fun _ => rfl, fun _ => rfl⟩
theorem blind_const (e : Int) : Blind (fun s => (s, e)) := ⟨fun c k s => rfl, fun _ => rfl, fun _ => rfl, fun _ => rfl⟩
theorem blind_fs (h : List (Nm × Fl) → List (Nm × Fl)) (e : Int) : Blind (fun s => ({ s with fs := h s.fs }, e)) := ⟨fun c k s => rfl, fun _ => rfl, fun _ => rfl, fun _ => rfl⟩
theorem blind_ref (h : Nat → Nat) (e : Int) : Blind (fun s => ({ s with ref := h s.ref }, e)) := ⟨fun c k s => rfl, fun _ => rfl, fun _ => rfl, fun _ => rfl⟩
theorem Blind.congr {g h : St → St × Int} (hg : Blind g) (e : ∀ s, h s = g s) : Blind h := by
  have : h = g := funext e
  rw [this]; exact hg
theorem blind_sync (n : Nm) : Blind (syncOn n) := blind_onF n (fun f s => ({ s with fs := put n ⟨f.bs, f.bs.length⟩ s.fs }, 0)) fun f => blind_fs _ 0
theorem blind_delete (n : Nm) : Blind (deleteOn n) := blind_onF n (fun f s => ({ s with fs := del n s.fs }, 0)) fun f => blind_fs _ 0
theorem blind_cut (n : Nm) (k : Int) : Blind (cutOn n k) := by
  refine blind_onF n (fun f s => if k < 0 ∨ (f.bs.length : Int) < k then (s, 1) else ({ s with fs := put n ⟨f.bs.take k.toNat, min f.sy k.toNat⟩ s.fs }, 0)) fun f => ?_
  by_cases h : k < 0 ∨ (f.bs.length : Int) < k
  · simp only [h, if_true]; exact blind_const 1
  · simp only [h, if_false]; exact blind_fs _ 0
theorem blind_rename (a b : Nm) : Blind (renameOn a b) := by
  by_cases h : good b = true
  · refine (blind_onF a (fun f s => ({ s with fs := put b f (del a s.fs) }, 0)) fun f => blind_fs (fun l => put b f (del a l)) 0).congr fun s => ?_
    simp only [renameOn, h, if_true]
  · refine (blind_const 1).congr fun s => ?_
    simp only [renameOn, h]
    rfl
theorem blind_append (n : Nm) (b : List UInt8) : Blind (appendOn n b) := by
  refine ⟨fun c k s => ?_, fun s => ?_, fun s => ?_, fun s => ?_⟩
  · have e1 : (ck c k s).fs = s.fs := rfl
    have e2 : noRoom b (ck c k s) = noRoom b s := rfl
    unfold appendOn
    rw [e1, e2]
    cases good n with
    | false => rfl
    | true =>
      cases find n s.fs with
      | none =>
        simp only [if_true]
        split
        · rfl
        · split <;> rfl
      | some f =>
        simp only [if_true]
        split <;> rfl
  all_goals
    unfold appendOn
    split
    · split
      · split
        · rfl
        · split <;> rfl
      · split <;> rfl
    · rfl

/-- what a counted call does beside the counting -/
def gOf (o : OpV) : St → St × Int :=
  if o.kind = 1 then appendOn o.nm.data.toList o.bs
  else if o.kind = 2 then syncOn o.nm.data.toList
  else if o.kind = 5 then cutOn o.nm.data.toList o.N
  else if o.kind = 6 then deleteOn o.nm.data.toList
  else if o.kind = 7 then renameOn o.nm.data.toList o.tn.data.toList
  else if o.kind = 8 then fun s => (s, listE s)
  else fun s => (s, readE o.nm.data.toList s)
theorem blind_gOf (o : OpV) : Blind (gOf o) := by
  unfold gOf
  split
  · exact blind_append _ _
  split
  · exact blind_sync _
  split
  · exact blind_cut _ _
  split
  · exact blind_delete _
  split
  · exact blind_rename _ _
  split
  · exact blind_same listE fun _ _ _ => rfl
  · exact blind_same (readE o.nm.data.toList) fun _ _ _ => rfl
theorem cT_read (n : Nm) (t : St) : cT t (fun s => (s, readE n s)) = (t, readE n t) := by
  cases h : t.off with
  | true => rw [cT_off h]; simp [readE, h]
  | false => rw [cT_on h]
theorem cT_list (t : St) : cT t (fun s => (s, listE s)) = (t, listE t) := by
  cases h : t.off with
  | true => rw [cT_off h]; simp [listE, h]
  | false => rw [cT_on h]
theorem doesOn_cnt {o : OpV} (h1 : 1 ≤ o.kind) (h8 : o.kind ≤ 8) (s : St) : doesOn o s = cT (tick s) (gOf o) := by
  have hc : o.kind = 1 ∨ o.kind = 2 ∨ o.kind = 3 ∨ o.kind = 4 ∨ o.kind = 5 ∨ o.kind = 6 ∨ o.kind = 7 ∨ o.kind = 8 := by omega
  rcases hc with h | h | h | h | h | h | h | h
  · rw [doesOn_1 h, counted_cT]; simp [gOf, h]
  · rw [doesOn_2 h, counted_cT]; simp [gOf, h]
  · rw [doesOn_3 h]; simp only [gOf, h]; exact (cT_read _ _).symm
  · rw [doesOn_4 h]; simp only [gOf, h]; exact (cT_read _ _).symm
  · rw [doesOn_5 h, counted_cT]; simp [gOf, h]
  · rw [doesOn_6 h, counted_cT]; simp [gOf, h]
  · rw [doesOn_7 h, counted_cT]; simp [gOf, h]
  · rw [doesOn_8 h]; simp only [gOf, h]; exact (cT_list _).symm

structure Arms (s t : St) (left keep : Int) : Prop where
  eq : s = ck (max left (-1)) s.keep t
  kp : 0 ≤ left → s.keep = keep
  tc : t.calls = -1
  off : t.off = decide (left < 0)
theorem tick_unarmed {t : St} (h : t.calls = -1) : tick t = t := by
  unfold tick; rw [h]; simp
theorem arms_start {s : St} {n keep : Int} (hn : 0 ≤ n) : Arms (arm n keep (up s)) (up s) n keep := ⟨by simp [arm, ck, up], fun _ => rfl, rfl, by simp [up]; omega⟩
/-- a counted call, the other disk crashing ahead of it where its time has come -/
theorem Arms.counted {s t : St} {left keep : Int} {o : OpV} (h : Arms s t left keep) (h1 : 1 ≤ o.kind) (h8 : o.kind ≤ 8) :
    (doesOn o s).2 = (doesOn o (if left = 0 then crash keep t else t)).2 ∧ Arms (doesOn o s).1 (doesOn o (if left = 0 then crash keep t else t)).1 (left - 1) keep := by
  have hb := blind_gOf o
  rw [doesOn_cnt h1 h8, doesOn_cnt h1 h8]
  obtain ⟨k, hk⟩ : ∃ k, k = s.keep := ⟨_, rfl⟩
  have heq := h.eq
  rw [← hk] at heq
  have hkp := h.kp
  rw [← hk] at hkp
  have htc := h.tc
  have hto := h.off
  by_cases h0 : left = 0
  · subst h0
    have ho : t.off = false := by rw [hto]; rfl
    rw [if_pos rfl]
    have e1 : crash keep t = ⟨mapv (crF keep) t.fs, true, t.ref, -1, t.keep⟩ := by unfold crash; rw [ho]; rfl
    have hkk := hkp (by omega)
    have e2 : tick s = ⟨mapv (crF keep) t.fs, true, t.ref, -1, keep⟩ := by
      have hm : max (0 : Int) (-1) = 0 := by omega
      rw [heq, hkk, hm]
      unfold tick crash ck
      simp [ho]
    rw [e1, e2, tick_unarmed rfl, cT_off rfl, cT_off rfl]
    exact ⟨rfl, rfl, fun hh => by omega, rfl, rfl⟩
  · rw [if_neg h0, tick_unarmed htc]
    by_cases hp : 0 < left
    · have ho : t.off = false := by rw [hto]; simp; omega
      have hkk := hkp (by omega)
      have e2 : tick s = ck (left - 1) keep t := by
        rw [heq, hkk]
        unfold tick ck
        have : max left (-1) = left := by omega
        simp only [this]
        rw [if_neg h0, if_pos hp]
      have ho2 : (ck (left - 1) keep t).off = false := ho
      rw [e2, cT_on ho2, cT_on ho, hb.eq]
      refine ⟨rfl, ?_, fun _ => rfl, (hb.calls t).trans htc, ?_⟩
      · have : max (left - 1) (-1) = left - 1 := by omega
        rw [this]
        rfl
      · show (gOf o t).1.off = _
        rw [hb.off, ho]
        simp; omega
    · have ho : t.off = true := by rw [hto]; simp; omega
      have hm : max left (-1) = -1 := by omega
      rw [hm] at heq
      have e2 : tick s = s := by
        rw [heq]; unfold tick ck; simp
      have ho2 : s.off = true := by rw [heq]; exact ho
      rw [e2, cT_off ho2, cT_off ho]
      refine ⟨rfl, ?_, fun hh => by omega, htc, by rw [ho]; simp; omega⟩
      show s = _
      have : max (left - 1) (-1) = -1 := by omega
      rw [this, ← hk]
      exact heq
/-- any other call but Arm, Crash, Up -/
theorem Arms.other {s t : St} {left keep : Int} {o : OpV} (h : Arms s t left keep) (h1 : ¬ (1 ≤ o.kind ∧ o.kind ≤ 8)) (h9 : ¬ o.kind = 9) (h10 : ¬ o.kind = 10) (h12 : ¬ o.kind = 12) :
    (doesOn o s).2 = (doesOn o t).2 ∧ Arms (doesOn o s).1 (doesOn o t).1 left keep := by
  by_cases h11 : o.kind = 11
  · rw [doesOn_11 h11, doesOn_11 h11]
    refine ⟨rfl, ?_, h.kp, h.tc, h.off⟩
    have := h.eq
    show full o.N s = ck _ s.keep (full o.N t)
    rw [this]
    rfl
  · have e : ∀ u, doesOn o u = (u, 0) := fun u => doesOn_0 (by omega) (by omega) (by omega) (by omega) (by omega) (by omega) (by omega) (by omega) h9 h10 h11 h12
    rw [e, e]
    exact ⟨rfl, h⟩
theorem Arms.offs {s t : St} {left keep : Int} (h : Arms s t left keep) : s.off = t.off := by rw [h.eq]; rfl
theorem Arms.fss {s t : St} {left keep : Int} (h : Arms s t left keep) : s.fs = t.fs := by rw [h.eq]; rfl
end Go.Proofs.Ytgobakfffobpkaa
