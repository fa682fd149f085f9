import Derived.Test.YtdemoghlibnooaaGreatDoorG3
import Derived.Test.YtdemoghlibnooaaGreatDoorGSm
import Derived.Deep.Upon
import Derived.Deep.RegionHeld3
import Derived.BigRegion
import Derived.Deep.RegionLaw
namespace Go.Proofs.YtdemoghlibnooaaGreatDoor
open Go.RowKit Dk
set_option linter.unusedVariables false
set_option linter.unusedSimpArgs false
theorem ne_blk {α : Type} {E : El α} {w : World} {o : Option Addr} {c : Nat} {xs : List α} (h : Own E w o c xs) {b : Nat} {cs : Array Value} {t : TypeId} {fz : Nat × Nat} (hb : w.heap[b]? = some (.cells cs t fz)) (hne : E.e ≠ t) : ¬ inO o b := by
  intro hk
  obtain ⟨ca, ha⟩ := h.tag b hk
  rw [ha] at hb
  injection hb with hb
  injection hb with _ hb _
  exact hne hb
theorem less_bb : ∀ a b : Nm, Op.bytesLess a b = bytesBefore a b
  | [], [] => rfl
  | [], _ :: _ => rfl
  | _ :: _, [] => rfl
  | x :: r, y :: t => by rw [Op.bytesLess, bytesBefore, less_bb r t]
theorem put_mid {β : Type} {a b : List (Nm × β)} {n : Nm} {u v : β} (h : Inc (a ++ (n, u) :: b)) : put n v (a ++ (n, u) :: b) = a ++ (n, v) :: b := by
  have hi : Inc (a ++ (n, v) :: b) := by
    rw [inc_names] at h ⊢
    simpa [names] using h
  refine inc_ext (inc_put h) hi fun m => ?_
  by_cases e : m = n
  · subst e
    rw [find_put_same, find_of_mem (v := v) hi (by simp)]
  · rw [find_put_other e]
    clear h hi
    induction a with
    | nil =>
      have : ¬ (n == m) = true := by simpa using fun e' => e e'.symm
      simp [find, this]
    | cons y r ih =>
      simp only [List.cons_append, find]
      split
      · rfl
      · exact ih
theorem getD_mem {α : Type} (l : List α) (k : Nat) (d : α) (h : k < l.length) : l.getD k d ∈ l := by
  rw [List.getD_eq_getElem?_getD, List.getElem?_eq_getElem h]; exact List.getElem_mem h
theorem crash_fs {s : St} (h : s.off = false) (k : Int) : (crash k s).fs = mapv (crF k) s.fs := by unfold crash; rw [h]; rfl
theorem keeps_setO (w : World) (g i : Nat) (u : Value) : Keeps (inO (some ⟨g, 0, none⟩)) w (w.setCell ⟨g, i, none⟩ u) :=
  (Keeps.refl _ w).setCell (p := ⟨g, i, none⟩) (.inl ⟨_, rfl, rfl⟩) u
theorem lit_row {α : Type} {E : El α} (w : World) (x : α) (C : Array Value) (e : TypeId) (fz : Nat × Nat) (hC : C.toList = E.enc x) : Row E (w.alloc (.cells C e fz)) (some ⟨w.heap.size, 0, none⟩) [x] := by
  refine .inr ⟨_, 0, rfl, fun j u hj => ?_⟩
  have e1 : E.cells [x] = C.toList := by simp [El.cells, hC]
  rw [e1] at hj
  rw [Nat.zero_add, cell_of_blk (blk_new w _)]
  simpa using hj
theorem Ap.keepsG {w w' : World} {oa o' : Option Addr} (h : Ap w oa o' w') : Keeps (inO oa) w w' := by
  rcases h with ⟨_, h⟩ | ⟨_, h⟩
  · exact h
  · exact h.of_no
structure RF where
  nm : Tx
  o : Option Addr
  c : Nat
  bs : List UInt8
  sy : Nat
def rf0 : RF := ⟨⟨#[]⟩, none, 0, [], 0⟩
def RF.ent (f : RF) : Nm × Fl := (f.nm.data.toList, ⟨f.bs, f.sy⟩)
def RF.cells (f : RF) : List Value := [.string f.nm, .slice f.o f.bs.length f.c, .int .i64 ((f.sy : Nat) : Int)]
def FE : El RF := ⟨133, 126, 3, 48, RF.cells⟩
theorem infoRfile : (Tryz.prog.info? 133).map (fun i => (i.zero, i.size, i.bytes)) = some (some (.agg #[.string ⟨#[]⟩, .slice none 0 0, .int .i64 0]), 3, 48) := by kernel_rfl
theorem okF : FE.Ok := by
  obtain ⟨i0, hi, hz0, hz1, hz2⟩ := info_parts infoRfile
  exact ⟨fun _ => rfl, fun x u hu => by simp [FE, RF.cells] at hu; rcases hu with rfl | rfl | rfl <;> rfl, by decide, Tryz.underlying126, i0, _, hi, hz0, hz1, hz2, rfl⟩
structure OwW (w : World) (o : Option Addr) (c : Nat) (bs : List UInt8) : Prop where
  row : Row BU w o bs
  cap : bs.length ≤ c
  nil : o = none → c = 0
  max : c ≤ maxLen
  tag : ∀ k, inO o k → ∃ cur, w.heap[k]? = some (.cells cur 5 (0, 0))
  own : Own BU w o c bs ∨ c = bs.length
theorem Own.ow {w : World} {o : Option Addr} {c : Nat} {bs : List UInt8} (h : Own BU w o c bs) : OwW w o c bs := ⟨h.row, h.cap.1, h.cap.2, h.max, h.tag, .inl h⟩
theorem OwW.keeps {S : Nat → Prop} {w w' : World} {o : Option Addr} {c : Nat} {bs : List UInt8} (h : OwW w o c bs) (hk : Keeps S w w') (hS : ∀ k, inO o k → ¬ S k) : OwW w' o c bs :=
  ⟨h.row.keeps hk hS, h.cap, h.nil, h.max, fun k hk1 => by obtain ⟨cur, hc⟩ := h.tag k hk1; exact ⟨cur, hk.at hc (hS k hk1)⟩, by rcases h.own with h1 | h1; exact .inl (h1.keeps hk hS); exact .inr h1⟩
theorem OwW.keepsN {w w' : World} {o : Option Addr} {c : Nat} {bs : List UInt8} (h : OwW w o c bs) (hk : Keeps no w w') : OwW w' o c bs := h.keeps hk (fun _ _ => id)
theorem OwW.lt {w : World} {o : Option Addr} {c : Nat} {bs : List UInt8} (h : OwW w o c bs) : ∀ k, inO o k → k < w.heap.size := fun k hk => by obtain ⟨cur, hc⟩ := h.tag k hk; exact lt_of_block hc
theorem OwW.cut {w : World} {o : Option Addr} {c : Nat} {bs : List UInt8} (h : OwW w o c bs) {n : Nat} (hn : n ≤ bs.length) : OwW w o n (bs.take n) :=
  ⟨h.row.take okU n, by simp; omega, fun e => by have := h.nil e; have := h.cap; omega, by have := h.cap; have := h.max; omega, h.tag, .inr (by simp; omega)⟩
theorem run_apO (w : World) (ty : TypeId) (oa : Option Addr) (c : Nat) (xs : List UInt8) (hown : OwW w oa c xs) (ox : Option Addr) (d : Nat) (news : List UInt8) (hd : ox = none → d = 0) (hrow : Row BU w ox news) (hb : xs.length + news.length ≤ 140737488355328) :
    ∃ o' c' w', (Builtin.append_ #[29, 29] ty #[.slice oa xs.length c, .slice ox news.length d]).run Tryz.prog w = .ok (.slice o' (xs.length + news.length) c') w' ∧ OwW w' o' c' (xs ++ news) ∧ Ap w oa o' w' := by
  rcases hown.own with h | h
  · obtain ⟨o', c', w', h1, h2, h3⟩ := run_app okU w ty oa c xs h ox d news hd hrow (by simp [BU]; omega) hb
    exact ⟨o', c', w', h1, h2.ow, h3⟩
  · obtain ⟨i0, z, hi, hz0, hz1, hz2, hz3⟩ := okU.inf
    by_cases h0 : news = []
    · subst h0
      refine ⟨oa, c, w, ?_, by simpa using hown, .inl ⟨rfl, Keeps.refl _ _⟩⟩
      have hs : Src Tryz.prog i0.size 29 (.slice ox 0 d) 0 [] w := by
        match ox with
        | none => exact Src.ofNil w Tryz.underlying29 d
        | some a => exact Src.ofSlice w Tryz.underlying29 a 0 d [] (by simp) (by simp) (by simp)
      exact run_append_nothing w 29 29 ty 5 i0 Tryz.underlying29 hi oa xs.length c hown.cap _ hs
    · rcases hrow with e | ⟨b, off, rfl, hc⟩
      · exact absurd e h0
      · have hrow' : Row BU w (some ⟨b, off, none⟩) news := .inr ⟨b, off, rfl, hc⟩
        have hpos : 0 < news.length := by cases news with | nil => exact absurd rfl h0 | cons _ _ => simp
        have hsrc : Src Tryz.prog i0.size 29 (.slice (some ⟨b, off, none⟩) news.length d) news.length (BU.cells news) w :=
          Src.ofSlice w Tryz.underlying29 _ _ _ _ (by rw [hz1, cells_length okU]) hrow'.news (cells_one okU news)
        have hold : (Builtin.firstCells i0.size xs.length (.slice oa xs.length c)).run Tryz.prog w.drew = .ok (BU.cells xs).toArray w.drew := by
          match oa, hown with
          | none, hown =>
            have : xs = [] := by rcases hown.row with e | ⟨b, off, e, _⟩; exact e; cases e
            subst this
            exact run_firstCells_none w.drew _ 0 0 c
          | some a, hown =>
            exact run_firstCells_some w.drew _ _ a _ c _ (by rw [hz1, cells_length okU]) (by simpa using hown.row.news)
        have hr := run_append_grow_src (P := Tryz.prog) w 29 29 ty 5 i0 z Tryz.underlying29 hi hz0 oa xs.length c (BU.cells xs) hold _ _ _ hsrc (by omega) (by have := hb; omega) (by rw [hz2]; exact growslice_fits (by omega) (by simp [BU]; omega))
        obtain ⟨C, hC⟩ : ∃ C, C = grownCap w (xs.length + news.length) c 5 := ⟨_, rfl⟩
        have hge : xs.length + news.length ≤ C := by rw [hC]; exact grownCap_ge w _ c 5
        have hcm : C ≤ maxLen := by rw [hC]; exact grownCap_le_maxLen w _ c 5 (by unfold maxLen; omega)
        rw [← hC] at hr
        refine ⟨_, C, _, hr, Own.ow (own_of_shape okU (blk_new w.drew _) (by simpa using hge) hcm ?_ ?_), .inr ⟨⟨_, rfl, Nat.le_refl _⟩, ((Keeps.refl _ w).drew).alloc _⟩⟩
        · simp only [Array.size_append, List.size_toArray, size_zeroCells, hz3, List.length_append, cells_length okU]
          simp [BU]
          omega
        · simp only [Array.toList_append]
          rw [cells_append, List.length_append, List.take_append_of_le_length (by simp [cells_length okU, Nat.add_mul])]
          rw [List.take_of_length_le (by simp [cells_length okU, Nat.add_mul])]
def rcells (oF : Option Addr) (n cF : Nat) (s : St) : Array Value := #[.slice oF n cF, .bool s.off, .int .i64 ((s.ref : Nat) : Int), .int .i64 s.calls, .int .i64 s.keep]
structure RDW (w : World) (r : Nat) (F : Nat → Prop) (s : St) (oF : Option Addr) (cF : Nat) (fs : List RF) : Prop where
  blk : w.heap[r]? = some (.cells (rcells oF fs.length cF s) 128 (0, 0))
  own : Own FE w oF cF fs
  eq : s.fs = fs.map RF.ent
  each : ∀ f ∈ fs, OwW w f.o f.c f.bs
  apart : fs.Pairwise fun f g => ∀ k, inO f.o k → ¬ inO g.o k
  fr : F r
  fo : ∀ k, inO oF k → F k
  ff : ∀ f ∈ fs, ∀ k, inO f.o k → F k
  lt : ∀ k, F k → k < w.heap.size
  ok : Ok s
  ci : i64 s.calls
  ki : i64 s.keep
  ri : (s.ref : Int) ≤ 9223372036854775807
def IsRd (w : World) (r : Nat) (F : Nat → Prop) (s : St) : Prop := ∃ oF cF fs, RDW w r F s oF cF fs
variable {w w' : World} {r : Nat} {F F' : Nat → Prop} {s s' : St} {oF : Option Addr} {cF : Nat} {fs : List RF}
theorem RDW.keeps {S : Nat → Prop} (h : RDW w r F s oF cF fs) (hk : Keeps S w w') (hS : ∀ k, F k → ¬ S k) : RDW w' r F s oF cF fs :=
  ⟨hk.at h.blk (hS r h.fr), h.own.keeps hk (fun k hk1 => hS k (h.fo k hk1)), h.eq, fun f hf => (h.each f hf).keeps hk (fun k hk1 => hS k (h.ff f hf k hk1)), h.apart, h.fr, h.fo, h.ff, fun k hk1 => Nat.lt_of_lt_of_le (h.lt k hk1) hk.size, h.ok, h.ci, h.ki, h.ri⟩
theorem IsRd.keeps {S : Nat → Prop} (h : IsRd w r F s) (hk : Keeps S w w') (hS : ∀ k, F k → ¬ S k) : IsRd w' r F s := by
  obtain ⟨oF, cF, fs, h⟩ := h
  exact ⟨oF, cF, fs, h.keeps hk hS⟩
theorem IsRd.keepsN (h : IsRd w r F s) (hk : Keeps no w w') : IsRd w' r F s := h.keeps hk (fun _ _ => id)
theorem IsRd.ok (h : IsRd w r F s) : Ok s := by obtain ⟨oF, cF, fs, h⟩ := h; exact h.ok
theorem IsRd.lt (h : IsRd w r F s) : ∀ k, F k → k < w.heap.size := by obtain ⟨oF, cF, fs, h⟩ := h; exact h.lt
theorem RDW.o_r (h : RDW w r F s oF cF fs) : ¬ inO oF r := ne_blk h.own h.blk (by decide)
theorem OwW.ne {o : Option Addr} {c : Nat} {bs : List UInt8} (h : OwW w o c bs) {b : Nat} {cs : Array Value} {t : TypeId} {fz : Nat × Nat} (hb : w.heap[b]? = some (.cells cs t fz)) (hne : 5 ≠ t) : ¬ inO o b := by
  intro hk
  obtain ⟨ca, ha⟩ := h.tag b hk
  rw [ha] at hb
  injection hb with hb
  injection hb with _ hb _
  exact hne hb
theorem OwW.neO {α : Type} {E : El α} {o o' : Option Addr} {c c' : Nat} {bs : List UInt8} {xs : List α} (h : OwW w o c bs) (h' : Own E w o' c' xs) (hne : 5 ≠ E.e) : ∀ k, inO o k → ¬ inO o' k := by
  intro k hk hk'
  obtain ⟨cb, hb⟩ := h'.tag k hk'
  exact h.ne hb hne hk
theorem RDW.f_r (h : RDW w r F s oF cF fs) {f : RF} (hf : f ∈ fs) : ¬ inO f.o r := (h.each f hf).ne h.blk (by decide)
theorem RDW.f_o (h : RDW w r F s oF cF fs) {f : RF} (hf : f ∈ fs) : ∀ k, inO f.o k → ¬ inO oF k := (h.each f hf).neO h.own (by decide)
theorem RDW.cells (h : RDW w r F s oF cF fs) (hk : Keeps (fun k => k = r) w w') (hb : w'.heap[r]? = some (.cells (rcells oF fs.length cF s') 128 (0, 0))) (hfs : s'.fs = s.fs) (hok : Ok s') (hci : i64 s'.calls) (hki : i64 s'.keep) (hri : (s'.ref : Int) ≤ 9223372036854775807) : RDW w' r F s' oF cF fs :=
  ⟨hb, h.own.keeps hk (fun k h1 e => by subst e; exact h.o_r h1), hfs.trans h.eq, fun f hf => (h.each f hf).keeps hk (fun k h1 e => by subst e; exact h.f_r hf h1), h.apart, h.fr, h.fo, h.ff, fun k hk1 => Nat.lt_of_lt_of_le (h.lt k hk1) hk.size, hok, hci, hki, hri⟩
theorem rdown_any (w : World) (r : Nat) (F : Nat → Prop) (s : St) (h : IsRd w r F s) :
    Calls Tryz.prog 40 #[.pointer (some ⟨r, 0, none⟩)] w fun e w' => e = .returned (.bool s.off) ∧ w' = w := by
  obtain ⟨oF, cF, fs, h⟩ := h
  have c1 : w.cell? ⟨r, 1, none⟩ = some (.bool s.off) := cell_of_blk h.blk 1
  go_enter Tryz.func40, Tryz.ntmps40
  go_wp2
  go_ret
  exact ⟨rfl, rfl⟩
theorem rup_any (w : World) (r : Nat) (F : Nat → Prop) (s : St) (h : IsRd w r F s) :
    Calls Tryz.prog 83 #[.pointer (some ⟨r, 0, none⟩)] w fun e w' => e = .returned (.tuple #[]) ∧ IsRd w' r F (up s) ∧ Keeps F w w' := by
  obtain ⟨oF, cF, fs, h⟩ := h
  have c1 : w.cell? ⟨r, 1, none⟩ = some (.bool s.off) := cell_of_blk h.blk 1
  have c3 : w.cell? ⟨r, 3, none⟩ = some (.int .i64 s.calls) := cell_of_blk h.blk 3
  have f1 : w.frozen? ⟨r, 1, none⟩ = false := frozen_of_blk h.blk 1
  have f3 : w.frozen? ⟨r, 3, none⟩ = false := frozen_of_blk h.blk 3
  go_enter Tryz.func83, Tryz.ntmps83
  go_wp2
  go_end0
  have hk := (keeps_setG w r 1 (.bool false)).trans (keeps_setG _ r 3 (.int .i64 (-1)))
  refine ⟨rfl, ⟨oF, cF, fs, h.cells hk ?_ rfl (up_ok h.ok) (by simp [up, i64]) h.ki h.ri⟩, hk.mono (fun i e => by subst e; exact h.fr)⟩
  exact blk_set (blk_set h.blk 1 (.bool false)) 3 (.int .i64 (-1))
theorem rarm_any (w : World) (r : Nat) (F : Nat → Prop) (s : St) (h : IsRd w r F s) (n k : Int) (hn : i64 n) (hk : i64 k) :
    Calls Tryz.prog 35 #[.pointer (some ⟨r, 0, none⟩), .int .i64 n, .int .i64 k] w fun e w' => e = .returned (.tuple #[]) ∧ IsRd w' r F (arm n k s) ∧ Keeps F w w' := by
  obtain ⟨oF, cF, fs, h⟩ := h
  have c3 : w.cell? ⟨r, 3, none⟩ = some (.int .i64 s.calls) := cell_of_blk h.blk 3
  have c4 : w.cell? ⟨r, 4, none⟩ = some (.int .i64 s.keep) := cell_of_blk h.blk 4
  have f3 : w.frozen? ⟨r, 3, none⟩ = false := frozen_of_blk h.blk 3
  have f4 : w.frozen? ⟨r, 4, none⟩ = false := frozen_of_blk h.blk 4
  have n1 := hn.1
  have n2 := hn.2
  go_enter Tryz.func35, Tryz.ntmps35
  go_wp2
  go_end0
  have hk' := (keeps_setG w r 3 (.int .i64 (max n (-1)))).trans (keeps_setG _ r 4 (.int .i64 k))
  refine ⟨rfl, ⟨oF, cF, fs, h.cells hk' ?_ rfl (arm_ok h.ok) (by simp [arm, i64]; omega) hk h.ri⟩, hk'.mono (fun i e => by subst e; exact h.fr)⟩
  exact blk_set (blk_set h.blk 3 (.int .i64 (max n (-1)))) 4 (.int .i64 k)
theorem rnew_any (w : World) : Calls Tryz.prog 24 #[] w fun e w' => ∃ r, e = .returned (.pointer (some ⟨r, 0, none⟩)) ∧ IsRd w' r (fun k => w.heap.size ≤ k ∧ k < w'.heap.size) Dk.new ∧ Keeps no w w' := by
  go_enter Tryz.func24, Tryz.ntmps24
  go_wp2
  go_ret
  refine ⟨_, rfl, ⟨none, 0, [], ?_⟩, (Keeps.refl _ _).alloc _⟩
  refine ⟨blk_new w _, own_nil _, rfl, by simp, List.Pairwise.nil, by simp, (by rintro k ⟨x, e, _⟩; cases e), by simp, fun k hk => hk.2, new_ok, by simp [new, i64], by simp [new, i64], by simp [new]⟩
end Go.Proofs.YtdemoghlibnooaaGreatDoor
namespace Go.Proofs.YtdemoghlibnooaaGreatDoor
open Go.RowKit Dk
set_option linter.unusedVariables false
set_option linter.unusedSimpArgs false
inductive AtSpec {β : Type} (n : Nm) (l : List (Nm × β)) : Int → Prop
  | hit (j : Nat) (hj : j < l.length) (hn : l[j].1 = n) : AtSpec n l ((j : Nat) : Int)
  | miss (j : Nat) (hj : j ≤ l.length) (lo : ∀ i (hi : i < l.length), i < j → bytesBefore l[i].1 n = true) (hi : ∀ i (hi : i < l.length), j ≤ i → bytesBefore n l[i].1 = true) : AtSpec n l (-1 - ((j : Nat) : Int))
theorem split_atW {β : Type} {l : List β} {j : Nat} (hj : j < l.length) : l = l.take j ++ l[j] :: l.drop (j + 1) := by
  rw [← List.drop_eq_getElem_cons hj, List.take_append_drop]
theorem hit_find {β : Type} {n : Nm} {l : List (Nm × β)} (hl : Inc l) {j : Nat} (hj : j < l.length) (hn : l[j].1 = n) : find n l = some l[j].2 := by
  subst hn
  exact find_of_mem hl (List.getElem_mem hj)
theorem hit_put {β : Type} {n : Nm} {l : List (Nm × β)} (hl : Inc l) {j : Nat} (hj : j < l.length) (hn : l[j].1 = n) (v : β) : put n v l = l.take j ++ (n, v) :: l.drop (j + 1) := by
  have e := split_atW hj
  have e2 : l = l.take j ++ (n, l[j].2) :: l.drop (j + 1) := by rw [← hn]; exact e
  have h2 := hl
  rw [e2] at h2
  have := put_mid (v := v) h2
  rw [← e2] at this
  exact this
theorem hit_del {β : Type} {n : Nm} {l : List (Nm × β)} (hl : Inc l) {j : Nat} (hj : j < l.length) (hn : l[j].1 = n) : del n l = l.take j ++ l.drop (j + 1) := by
  have e := split_atW hj
  have hp := hl
  rw [e] at hp
  have h1 := List.pairwise_append.1 hp
  have h2 := List.pairwise_cons.1 h1.2.1
  conv => lhs; rw [e]
  unfold del
  rw [List.filter_append, List.filter_cons, if_neg (by simp [hn])]
  rw [List.filter_eq_self.2 (fun q hq => by have := bb_ne (h1.2.2 q hq l[j] List.mem_cons_self); rw [hn] at this; simpa using this)]
  rw [List.filter_eq_self.2 (fun q hq => by have := bb_ne (h2.1 q hq); rw [hn] at this; simpa using fun e => this e.symm)]
theorem miss_find {β : Type} {n : Nm} {l : List (Nm × β)} {j : Nat} (lo : ∀ i (hi : i < l.length), i < j → bytesBefore l[i].1 n = true) (hi : ∀ i (hi : i < l.length), j ≤ i → bytesBefore n l[i].1 = true) : find n l = none := by
  refine find_none.2 fun q hq e => ?_
  obtain ⟨i, hl, rfl⟩ := List.getElem_of_mem hq
  by_cases h : i < j
  · exact bb_ne (lo i hl h) e
  · exact bb_ne (hi i hl (by omega)) e.symm
theorem miss_put {β : Type} {n : Nm} {l : List (Nm × β)} (hl : Inc l) {j : Nat} (hj : j ≤ l.length) (lo : ∀ i (hi : i < l.length), i < j → bytesBefore l[i].1 n = true) (hi : ∀ i (hi : i < l.length), j ≤ i → bytesBefore n l[i].1 = true) (v : β) : put n v l = l.take j ++ (n, v) :: l.drop j := by
  have hf := miss_find lo hi
  have hinc : Inc (l.take j ++ (n, v) :: l.drop j) := by
    have h0 := hl
    rw [← List.take_append_drop j l] at h0
    have h1 := List.pairwise_append.1 h0
    refine List.pairwise_append.2 ⟨h1.1, List.pairwise_cons.2 ⟨fun q hq => ?_, h1.2.1⟩, fun a ha b hb => ?_⟩
    · obtain ⟨i, hil, rfl⟩ := List.getElem_of_mem hq
      rw [List.getElem_drop]
      exact hi (j + i) (by simp at hil; omega) (by omega)
    · rcases List.mem_cons.1 hb with rfl | hb
      · obtain ⟨i, hil, rfl⟩ := List.getElem_of_mem ha
        rw [List.getElem_take]
        simp at hil
        exact lo i (by omega) (by omega)
      · exact h1.2.2 a ha b hb
  refine inc_ext (inc_put hl) hinc fun m => ?_
  by_cases e : m = n
  · subst e
    rw [find_put_same, find_of_mem (v := v) hinc (by simp)]
  · rw [find_put_other e]
    have : ∀ (a b : List (Nm × β)), find m (a ++ (n, v) :: b) = find m (a ++ b) := by
      intro a b
      induction a with
      | nil => have : ¬ (n == m) = true := by simpa using fun e' => e e'.symm
               simp [find, this]
      | cons y r ih => simp only [List.cons_append, find, ih]
    rw [this, List.take_append_drop]
theorem rowF_at {w : World} {a : Option Addr} {fs : List RF} (h : Row FE w a fs) {j : Nat} (hj : j < fs.length) : ∃ b off, a = some ⟨b, off, none⟩ ∧ w.cell? ⟨b, off + j * 3, none⟩ = some (.string (fs.getD j rf0).nm) ∧ w.cell? ⟨b, off + j * 3 + 1, none⟩ = some (.slice (fs.getD j rf0).o (fs.getD j rf0).bs.length (fs.getD j rf0).c) ∧ w.cell? ⟨b, off + j * 3 + 2, none⟩ = some (.int .i64 (((fs.getD j rf0).sy : Nat) : Int)) := by
  rcases h with e | ⟨b, off, rfl, hc⟩
  · rw [e] at hj; simp at hj
  · have h0 := cells_at okF rf0 fs j 0 hj (by decide)
    have h1 := cells_at okF rf0 fs j 1 hj (by decide)
    have h2 := cells_at okF rf0 fs j 2 hj (by decide)
    exact ⟨b, off, rfl, hc (j * 3) _ h0, hc (j * 3 + 1) _ h1, hc (j * 3 + 2) _ h2⟩
theorem ownF_at {w : World} {a : Option Addr} {c : Nat} {fs : List RF} (h : Own FE w a c fs) {j : Nat} (hj : j < fs.length) : ∃ g, a = some ⟨g, 0, none⟩ ∧ w.cell? ⟨g, j * 3, none⟩ = some (.string (fs.getD j rf0).nm) ∧ w.cell? ⟨g, j * 3 + 1, none⟩ = some (.slice (fs.getD j rf0).o (fs.getD j rf0).bs.length (fs.getD j rf0).c) ∧ w.cell? ⟨g, j * 3 + 2, none⟩ = some (.int .i64 (((fs.getD j rf0).sy : Nat) : Int)) ∧ ∀ i, w.frozen? ⟨g, i, none⟩ = false := by
  rcases h.shape with ⟨_, _, e⟩ | ⟨g, cur, rfl, hg, _⟩
  · rw [e] at hj; simp at hj
  · obtain ⟨b, off, e, h0, h1, h2⟩ := rowF_at h.row hj
    cases e
    simp only [Nat.zero_add] at h0 h1 h2
    exact ⟨g, rfl, h0, h1, h2, fun i => frozen_of_blk hg i⟩
set_option maxRecDepth 10000 in
theorem at_any (w : World) (r : Nat) (F : Nat → Prop) (s : St) (n : Tx) (h : IsRd w r F s) :
    Calls Tryz.prog 64 #[.pointer (some ⟨r, 0, none⟩), .string n] w fun e w' => ∃ v, e = .returned (.int .i64 v) ∧ Hid (AtSpec n.data.toList s.fs v) ∧ w' = w := by
  obtain ⟨oF, cF, fs, h⟩ := h
  obtain ⟨N, hN⟩ : ∃ N, N = fs.length := ⟨_, rfl⟩
  have HN : Hid (N = fs.length) := hN
  have c0 : w.cell? ⟨r, 0, none⟩ = some (.slice oF N cF) := by rw [hN]; exact cell_of_blk h.blk 0
  have HD : Hid (RDW w r F s oF cF fs) := h
  have hl : s.fs.length = fs.length := by rw [h.eq]; simp
  have HL : Hid (s.fs.length = fs.length) := hl
  have h16 : N ≤ 16 := by have := h.ok.len; omega
  clear hN h hl
  go_enter Tryz.func64, Tryz.ntmps64
  go_wp2_with fail
  go_loopw [5] (fun i wr => ∃ k : Nat, k ≤ N ∧ i = .int .i64 k ∧ wr = w ∧ Hid (∀ i (hi : i < s.fs.length), i < k → bytesBefore s.fs[i].1 n.data.toList = true)) (fun i _ => N - (intOf i).toNat)
  case atStart => exact ⟨0, by omega, rfl, rfl, fun i hi h => by omega⟩
  case round =>
    obtain ⟨k, hk, rfl, e, HT⟩ := hrel
    subst wr
    by_cases hlt : k < N
    · have hkf : k < fs.length := by have := HN.out; omega
      have hks : k < s.fs.length := by have := HL.out; omega
      obtain ⟨g, rfl, d0, _, _, _⟩ := ownF_at HD.out.own hkf
      have hnm : s.fs[k].1 = (fs.getD k rf0).nm.data.toList := by
        have e := HD.out.eq
        have e2 : s.fs[k] = (fs.map RF.ent)[k]'(by simpa using hkf) := by congr 1
        rw [e2]
        simp [RF.ent, List.getD_eq_getElem?_getD, hkf]
      obtain ⟨x, hx⟩ : ∃ x, x = (fs.getD k rf0).nm := ⟨_, rfl⟩
      rw [← hx] at d0 hnm
      have HNM : Hid (s.fs[k].1 = x.data.toList) := hnm
      have HKS : Hid (k < s.fs.length) := hks
      clear hx hnm hkf
      by_cases hxy : x = n
      · have hxy' : (x.toList == n.toList) = true := by rw [tx_eq]; simpa using hxy
        have HXY : Hid (x = n) := hxy
        clear hxy
        go_wp2_with fail
        go_ret
        exact ⟨_, rfl, .hit k HKS.out (by rw [HNM.out, HXY.out]), rfl⟩
      · have hxy' : (x.toList == n.toList) = false := by rw [tx_eq]; simpa using hxy
        have HXY : Hid (¬ x = n) := hxy
        clear hxy
        cases hlt2 : Op.bytesLess x.toList n.toList
        · go_wp2_with fail
          go_ret
          refine ⟨_, rfl, .miss k (Nat.le_of_lt HKS.out) HT.out (fun i hi hki => ?_), rfl⟩
          have hb : bytesBefore x.data.toList n.data.toList = false := by rw [← less_bb]; rw [Lib.toList_data, Lib.toList_data] at hlt2; exact hlt2
          have hne : x.data.toList ≠ n.data.toList := fun e => HXY.out (by rw [← mkT_data x, ← mkT_data n, e])
          have h2 := bb_tri hb hne
          rw [← HNM.out] at h2
          by_cases e : i = k
          · subst e; exact h2
          · exact WideShapes.bytes_trans _ _ _ h2 ((List.pairwise_iff_getElem.1 HD.out.ok.inc) k i HKS.out hi (by omega))
        · go_wp2_with fail
          go_roundw
          case rel =>
            refine ⟨k + 1, by omega, by go_num, by trivial, fun i hi h => ?_⟩
            by_cases e : i = k
            · subst e
              rw [HNM.out, ← less_bb]
              rw [Lib.toList_data, Lib.toList_data] at hlt2
              exact hlt2
            · exact HT.out i hi (by omega)
          case measure => simp [intOf]; omega
    · have hkn : k = N := by omega
      subst k
      go_wp2_with fail
      go_ret
      exact ⟨_, rfl, .miss N (by have := HL.out; have := HN.out; omega) HT.out (fun i hi h => by have := HL.out; have := HN.out; omega), rfl⟩
end Go.Proofs.YtdemoghlibnooaaGreatDoor
namespace Go.Proofs.YtdemoghlibnooaaGreatDoor
open Go.RowKit Dk
set_option linter.unusedVariables false
set_option linter.unusedSimpArgs false
theorem cells_set1 (u : Value) (f' : RF) : ∀ (fs : List RF) (j i : Nat), j < fs.length → i < 3 → f'.cells = ((fs.getD j rf0).cells).set i u → (FE.cells fs).set (j * 3 + i) u = FE.cells (fs.set j f')
  | [], j, i, hj, _, _ => by simp at hj
  | x :: r, 0, i, _, hi, he => by
    simp only [El.cells, List.flatMap_cons, List.set_cons_zero]
    have hx : (FE.enc x).length = 3 := rfl
    have he' : FE.enc f' = (FE.enc x).set i u := by simp only [List.getD_cons_zero] at he; exact he
    rw [he', Nat.zero_mul, Nat.zero_add, List.set_append_left _ _ (by rw [hx]; exact hi)]
  | x :: r, j + 1, i, hj, hi, he => by
    have ih := cells_set1 u f' r j i (by simpa using hj) hi (by simpa using he)
    simp only [El.cells, List.flatMap_cons, List.set_cons_succ] at ih ⊢
    have hx : (FE.enc x).length = 3 := rfl
    rw [List.set_append_right _ _ (by rw [hx]; omega), hx, show (j + 1) * 3 + i - 3 = j * 3 + i by omega, ih]
theorem own_setF {w : World} {g c : Nat} {fs : List RF} (h : Own FE w (some ⟨g, 0, none⟩) c fs) {j i : Nat} (hj : j < fs.length) (hi : i < 3) (u : Value) (f' : RF) (he : f'.cells = ((fs.getD j rf0).cells).set i u) : Own FE (w.setCell ⟨g, j * 3 + i, none⟩ u) (some ⟨g, 0, none⟩) c (fs.set j f') := by
  rcases h.shape with ⟨e, _, _⟩ | ⟨g', cur, e, hg, h2, h3, h4, h5⟩
  · cases e
  · cases e
    refine own_of_shape okF (blk_set hg (j * 3 + i) u) (by simpa using h2) h3 (by simpa using h4) ?_
    rw [← cells_set1 u f' fs j i hj hi he, ← h5]
    simp [List.take_set]
def crR (k : Int) (f : RF) : RF := ⟨f.nm, f.o, cutN k ⟨f.bs, f.sy⟩, f.bs.take (cutN k ⟨f.bs, f.sy⟩), cutN k ⟨f.bs, f.sy⟩⟩
theorem crR_ent (k : Int) (f : RF) : (crR k f).ent = (f.ent.1, crF k f.ent.2) := rfl
def crL (k : Int) (j : Nat) (fs : List RF) : List RF := (fs.take j).map (crR k) ++ fs.drop j
theorem crL_zero (k : Int) (fs : List RF) : crL k 0 fs = fs := by simp [crL]
theorem crL_len (k : Int) (j : Nat) (fs : List RF) : (crL k j fs).length = fs.length := by simp [crL]; omega
theorem crL_at (k : Int) (j : Nat) (fs : List RF) (hj : j < fs.length) : (crL k j fs).getD j rf0 = fs.getD j rf0 := by
  unfold crL
  rw [List.getD_eq_getElem?_getD, List.getElem?_append_right (by simp; omega)]
  simp [List.getD_eq_getElem?_getD, Nat.min_eq_left (Nat.le_of_lt hj)]
theorem crL_next (k : Int) (j : Nat) (fs : List RF) (hj : j < fs.length) : (crL k j fs).set j (crR k (fs.getD j rf0)) = crL k (j + 1) fs := by
  unfold crL
  rw [List.set_append_right _ _ (by simp; omega), List.length_map, List.length_take, Nat.min_eq_left (Nat.le_of_lt hj), Nat.sub_self, List.drop_eq_getElem_cons hj, List.set_cons_zero, take_succ_getDG fs j rf0 hj, List.map_append, List.append_assoc]
  rfl
theorem crL_all (k : Int) (fs : List RF) : crL k fs.length fs = fs.map (crR k) := by simp [crL]
theorem cutN_val {f : RF} {k : Int} (h : f.sy ≤ f.bs.length) : cutN k ⟨f.bs, f.sy⟩ = if k < (f.bs.length : Int) - f.sy then f.sy + k.toNat else f.bs.length := by
  show f.sy + min k.toNat (f.bs.length - f.sy) = _
  split <;> omega
theorem cut3 (o : Option Addr) (n c I : Nat) (h1 : I ≤ c) (hnil : o = none → c = 0) (hc : c ≤ 9223372036854775807) : ∀ w, (Instr.slice 29 (.slice o n c) none (some (.int .i64 ((I : Nat) : Int))) (some (.int .i64 ((I : Nat) : Int)))).run Tryz.prog w = .ok (.slice o I I) w := by
  intro w
  rw [run_slice_hm w 29 o _ c slBy .i64 .i64 _ _ (by omega) (by omega) (by omega)]
  match o, hnil with
  | none, hnil => go_simp
  | some ad, _ => go_simp
theorem cr_next {w wq : World} {r : Nat} {F : Nat → Prop} {s : St} {g cF : Nat} {fs : List RF} {k : Int} {j : Nat} (hD : RDW w r F s (some ⟨g, 0, none⟩) cF fs) (hj : j < fs.length) (hO : Own FE wq (some ⟨g, 0, none⟩) cF (crL k j fs)) {q m : Nat} (hq : q = cutN k ⟨(fs.getD j rf0).bs, (fs.getD j rf0).sy⟩) :
    Own FE ((wq.setCell ⟨g, j * 3 + 1, none⟩ (.slice (fs.getD j rf0).o q q)).setCell ⟨g, j * 3 + 2, none⟩ (.int .i64 ((q : Nat) : Int))) (some ⟨g, 0, none⟩) cF (crL k (j + 1) fs) := by
  have hf : fs.getD j rf0 ∈ fs := getD_mem fs j rf0 hj
  have hsy : (fs.getD j rf0).sy ≤ (fs.getD j rf0).bs.length := hD.ok.sy (fs.getD j rf0).ent (by rw [hD.eq]; exact List.mem_map_of_mem hf)
  have hqn : q ≤ (fs.getD j rf0).bs.length := by rw [hq]; exact cutN_le k hsy
  have hl : j < (crL k j fs).length := by rw [crL_len]; exact hj
  have hat := crL_at k j fs hj
  have hnx := crL_next k j fs hj
  generalize fs.getD j rf0 = f at *
  have h1 := own_setF hO hl (i := 1) (by omega) (.slice f.o q q) ⟨f.nm, f.o, q, f.bs.take q, f.sy⟩ (by rw [hat]; simp [RF.cells, List.length_take, Nat.min_eq_left hqn])
  have h2 := own_setF h1 (by simpa using hl) (i := 2) (by omega) (.int .i64 ((q : Nat) : Int)) (crR k f) (by
    have : ((crL k j fs).set j ⟨f.nm, f.o, q, f.bs.take q, f.sy⟩).getD j rf0 = ⟨f.nm, f.o, q, f.bs.take q, f.sy⟩ := by
      simp [List.getD_eq_getElem?_getD, hl]
    rw [this]
    simp [RF.cells, crR, ← hq])
  rw [List.set_set, hnx] at h2
  exact h2
theorem rcr_end {w wr w' : World} {r : Nat} {F : Nat → Prop} {s : St} {oF : Option Addr} {cF : Nat} {fs : List RF} {k : Int} (hD : RDW w r F s oF cF fs) (ho : s.off = false) (hK : Keeps (inO oF) w wr) (hO : Own FE wr oF cF (crL k fs.length fs)) (hks : Keeps (fun i => i = r) wr w') (hb : w'.heap[r]? = some (.cells (rcells oF fs.length cF (crash k s)) 128 (0, 0))) : IsRd w' r F (crash k s) ∧ Keeps F w w' := by
  have hbw := hK.at hD.blk hD.o_r
  have hfsy : ∀ f ∈ fs, f.sy ≤ f.bs.length := fun f hf => hD.ok.sy f.ent (by rw [hD.eq]; exact List.mem_map_of_mem hf)
  refine ⟨⟨oF, cF, fs.map (crR k), ?_⟩, (hK.mono hD.fo).trans (hks.mono fun i e => by subst e; exact hD.fr)⟩
  rw [crL_all] at hO
  have hoc : (crash k s).calls = -1 ∧ (crash k s).keep = s.keep ∧ (crash k s).ref = s.ref := by unfold crash; rw [ho]; exact ⟨rfl, rfl, rfl⟩
  refine ⟨by simpa using hb, hO.keeps hks (fun i h1 e => by subst e; exact ne_blk hO hbw (by decide) h1), ?_, ?_, ?_, hD.fr, hD.fo, ?_, fun i hi => Nat.lt_of_lt_of_le (hD.lt i hi) (Nat.le_trans hK.size hks.size), crash_ok hD.ok, by rw [hoc.1]; unfold i64; omega, by rw [hoc.2.1]; exact hD.ki, by rw [hoc.2.2]; exact hD.ri⟩
  · rw [crash_fs ho, hD.eq]
    simp [mapv, Function.comp_def, crR_ent]
  · intro f hf
    obtain ⟨f0, hf0, rfl⟩ := List.mem_map.1 hf
    have h1 := ((hD.each f0 hf0).keeps hK (hD.f_o hf0)).keeps hks (fun i h1 e => by subst e; exact hD.f_r hf0 h1)
    exact h1.cut (cutN_le k (hfsy f0 hf0))
  · rw [List.pairwise_map]
    exact hD.apart
  · intro f hf
    obtain ⟨f0, hf0, rfl⟩ := List.mem_map.1 hf
    exact hD.ff f0 hf0
set_option maxRecDepth 100000 in
set_option maxHeartbeats 0 in
theorem rcrash_on (w : World) (r : Nat) (F : Nat → Prop) (s : St) (k : Int) (h : IsRd w r F s) (hoff : s.off = false) (hk : i64 k) :
    Calls Tryz.prog 87 #[.pointer (some ⟨r, 0, none⟩), .int .i64 k] w fun e w' => e = .returned (.tuple #[]) ∧ IsRd w' r F (crash k s) ∧ Keeps F w w' := by
  obtain ⟨oF, cF, fs, h⟩ := h
  obtain ⟨N, hN⟩ : ∃ N, N = fs.length := ⟨_, rfl⟩
  have HN : Hid (N = fs.length) := hN
  have h16 : N ≤ 16 := by have := h.ok.len; have := h.eq; rw [h.eq] at this; have h2 := h.ok.len; rw [h.eq] at h2; simp at h2; omega
  have HD : Hid (RDW w r F s oF cF fs) := h
  have HO : Hid (s.off = false) := hoff
  have k1 := hk.1
  have k2 := hk.2
  have c1 : w.cell? ⟨r, 1, none⟩ = some (.bool false) := by rw [← hoff]; exact cell_of_blk h.blk 1
  clear hN h hoff hk
  go_enter Tryz.func87, Tryz.ntmps87
  go_wp2_with fail
  clear c1
  go_loopw [4] (fun i wr => ∃ (j : Nat), j ≤ N ∧ i = .int .i64 j ∧ Hid (Keeps (inO oF) w wr ∧ Own FE wr oF cF (crL k j fs))) (fun i _ => N - (intOf i).toNat)
  case atStart => exact ⟨0, by omega, rfl, ⟨Keeps.refl _ _, by rw [crL_zero]; exact HD.out.own⟩⟩
  case round =>
    obtain ⟨j, hj, rfl, HI⟩ := hrel
    have hbw := HI.out.1.at HD.out.blk HD.out.o_r
    have c0 : wr.cell? ⟨r, 0, none⟩ = some (.slice oF N cF) := by rw [HN.out]; exact cell_of_blk hbw 0
    have HB : Hid (wr.heap[r]? = some (.cells (rcells oF fs.length cF s) 128 (0, 0))) := hbw
    clear hbw
    by_cases hlt : j < N
    · have hjf : j < fs.length := by have := HN.out; omega
      obtain ⟨g, hg, d0, d1, d2, fz⟩ := ownF_at HI.out.2 (j := j) (by rw [crL_len]; exact hjf)
      rw [crL_at k j fs hjf] at d0 d1 d2
      subst hg
      have hf : fs.getD j rf0 ∈ fs := getD_mem fs j rf0 hjf
      have hOw := HD.out.each _ hf
      have hsy : (fs.getD j rf0).sy ≤ (fs.getD j rf0).bs.length := HD.out.ok.sy (fs.getD j rf0).ent (by rw [HD.out.eq]; exact List.mem_map_of_mem hf)
      have hcv := cutN_val (k := k) hsy
      obtain ⟨q, hq⟩ : ∃ q, q = cutN k ⟨(fs.getD j rf0).bs, (fs.getD j rf0).sy⟩ := ⟨_, rfl⟩
      have HNX : Hid (∀ wq, Own FE wq (some ⟨g, 0, none⟩) cF (crL k j fs) → Own FE ((wq.setCell ⟨g, j * 3 + 1, none⟩ (.slice (fs.getD j rf0).o q q)).setCell ⟨g, j * 3 + 2, none⟩ (.int .i64 ((q : Nat) : Int))) (some ⟨g, 0, none⟩) cF (crL k (j + 1) fs)) := fun wq hO => cr_next (m := 0) HD.out hjf hO hq
      rw [← hq] at hcv
      obtain ⟨f, hff⟩ : ∃ f, f = fs.getD j rf0 := ⟨_, rfl⟩
      rw [← hff] at d0 d1 d2 hOw hsy hcv HNX
      obtain ⟨nf, hnf⟩ : ∃ nf, nf = f.bs.length := ⟨_, rfl⟩
      rw [← hnf] at d1 hsy hcv
      have hcap : nf ≤ f.c := by rw [hnf]; exact hOw.cap
      have hmax : f.c ≤ 9223372036854775807 := by have := hOw.max; unfold maxLen at this; omega
      have fz1 := fz (j * 3 + 1)
      have fz2 := fz (j * 3 + 2)
      have hqn : q ≤ nf := by rw [hcv]; split <;> omega
      have hcut := cut3 f.o nf f.c q (by omega) hOw.nil hmax
      have hlg := HI.out.2.lt g ⟨_, rfl, rfl⟩
      have hgr : ¬ g = r := fun e => ne_blk HI.out.2 HB.out (by decide) (by rw [e]; exact ⟨_, rfl, rfl⟩)
      have hrl := lt_of_block HB.out
      obtain ⟨V, hV⟩ : ∃ V, V = wr.alloc (.cells #[.string f.nm, .slice f.o nf f.c, .int .i64 ((f.sy : Nat) : Int)] 133) := ⟨_, rfl⟩
      obtain ⟨B, hB⟩ : ∃ B, B = wr.heap.size := ⟨_, rfl⟩
      have KV : Hid (Keeps no wr V) := (show _ by rw [hV]; exact keeps_alloc wr _)
      have bV : V.heap[B]? = some (.cells #[.string f.nm, .slice f.o nf f.c, .int .i64 ((f.sy : Nat) : Int)] 133 (0, 0)) := by rw [hV, hB]; exact blk_new wr _
      have hgB : ¬ g = B := by omega
      have hrB : ¬ r = B := by omega
      have hBg : ¬ B = g := by omega
      have hBr : ¬ B = r := by omega
      have hrg : ¬ r = g := fun e => hgr e.symm
      have v0 : V.cell? ⟨r, 0, none⟩ = some (.slice (some ⟨g, 0, none⟩) N cF) := KV.out.cellN c0
      have v1 : V.cell? ⟨B, 1, none⟩ = some (.slice f.o nf f.c) := cell_of_blk bV 1
      have v2 : V.cell? ⟨g, j * 3 + 1, none⟩ = some (.slice f.o nf f.c) := KV.out.cellN d1
      have v3 : V.cell? ⟨g, j * 3 + 2, none⟩ = some (.int .i64 ((f.sy : Nat) : Int)) := KV.out.cellN d2
      have OV := HI.out.2.keepsN KV.out
      obtain ⟨_, e', _, _, _, fzV⟩ := ownF_at OV (j := j) (by rw [crL_len]; exact hjf)
      cases e'
      have z1 := fzV (j * 3 + 1)
      have z2 := fzV (j * 3 + 2)
      have HNV := HNX.out V OV
      have HNV2 : Hid (Own FE ((V.setCell ⟨g, j * 3 + 1, none⟩ (.slice f.o q q)).setCell ⟨g, j * 3 + 2, none⟩ (.int .i64 ((q : Nat) : Int))) (some ⟨g, 0, none⟩) cF (crL k (j + 1) fs)) := HNV
      have HKV : Hid (Keeps (inO (some ⟨g, 0, none⟩)) w ((V.setCell ⟨g, j * 3 + 1, none⟩ (.slice f.o q q)).setCell ⟨g, j * 3 + 2, none⟩ (.int .i64 ((q : Nat) : Int)))) := (show _ from ((HI.out.1.trans KV.out.of_no).trans (keeps_setO V g (j * 3 + 1) _)).trans (keeps_setO _ g (j * 3 + 2) _))
      clear hf hOw hq hff hnf fz hjf hlg hrl bV OV HNV fzV
      by_cases hkn : k < (nf : Int) - (f.sy : Int)
      case' pos =>
        rw [if_pos hkn] at hcv
        have HMX : Hid ((f.sy : Int) + max k 0 = ((q : Nat) : Int)) := (show _ = _ by omega)
        clear hcv
        go_wp2_with fail
        rw [HMX.out]
      case' neg =>
        rw [if_neg hkn] at hcv
        have HQN : Hid (nf = q) := hcv.symm
        clear hcv
        go_wp2_with fail
        rw [show (Value.int .i64 ((nf : Nat) : Int)) = Value.int .i64 ((q : Nat) : Int) by rw [HQN.out]]
      all_goals
        (rw [← hV, ← hB]
         clear hV hB c0 d0 d1 d2 fz1 fz2
         go_region_held3 (fun w' => w'.cell? ⟨r, 0, none⟩ = some (.slice (some ⟨g, 0, none⟩) N cF) ∧ w'.cell? ⟨B, 1, none⟩ = some (.slice f.o nf f.c)) (go_keep) (fail)
         go_wp2_with fail
         go_roundw
         case rel => exact ⟨j + 1, by omega, by go_num, ⟨HKV.out.drew, HNV2.out.keepsN (Keeps.refl _ _).drew⟩⟩
         case measure => simp [intOf]; omega)
    · have hjn : j = N := by omega
      subst j
      have f1 : wr.frozen? ⟨r, 1, none⟩ = false := frozen_of_blk HB.out 1
      have f3 : wr.frozen? ⟨r, 3, none⟩ = false := frozen_of_blk HB.out 3
      have x1 : wr.cell? ⟨r, 1, none⟩ = some (.bool s.off) := cell_of_blk HB.out 1
      have x3 : wr.cell? ⟨r, 3, none⟩ = some (.int .i64 s.calls) := cell_of_blk HB.out 3
      go_wp2_with fail
      go_end0
      have hks := (keeps_setG wr r 1 (.bool true)).trans (keeps_setG _ r 3 (.int .i64 (-1)))
      have hO := HI.out.2
      rw [HN.out] at hO
      have hec : rcells oF fs.length cF (crash k s) = #[.slice oF fs.length cF, .bool true, .int .i64 ((s.ref : Nat) : Int), .int .i64 (-1), .int .i64 s.keep] := by
        unfold crash rcells
        rw [HO.out]
        rfl
      exact ⟨rfl, rcr_end HD.out HO.out HI.out.1 hO hks (by rw [hec]; exact blk_set (blk_set HB.out 1 (.bool true)) 3 (.int .i64 (-1)))⟩
theorem rcrash_any (w : World) (r : Nat) (F : Nat → Prop) (s : St) (k : Int) (h : IsRd w r F s) (hk : i64 k) :
    Calls Tryz.prog 87 #[.pointer (some ⟨r, 0, none⟩), .int .i64 k] w fun e w' => e = .returned (.tuple #[]) ∧ IsRd w' r F (crash k s) ∧ Keeps F w w' := by
  cases hoff : s.off with
  | false => exact rcrash_on w r F s k h hoff hk
  | true =>
    have h0 := h
    obtain ⟨oF, cF, fs, h⟩ := h
    have c1 : w.cell? ⟨r, 1, none⟩ = some (.bool true) := by rw [← hoff]; exact cell_of_blk h.blk 1
    have e : crash k s = s := by unfold crash; rw [hoff]; rfl
    rw [e]
    clear e
    go_enter Tryz.func87, Tryz.ntmps87
    go_wp2
    refine bodyPost_ret (results_none rfl _ _ _) rfl ?_
    exact ⟨rfl, h0, Keeps.refl _ _⟩
theorem rcounted_any (w : World) (r : Nat) (F : Nat → Prop) (s : St) (h : IsRd w r F s) :
    Calls Tryz.prog 62 #[.pointer (some ⟨r, 0, none⟩)] w fun e w' => e = .returned (.bool (tick s).off) ∧ IsRd w' r F (tick s) ∧ Keeps F w w' := by
  obtain ⟨oF, cF, fs, hd⟩ := h
  have c1 : w.cell? ⟨r, 1, none⟩ = some (.bool s.off) := cell_of_blk hd.blk 1
  have c3 : w.cell? ⟨r, 3, none⟩ = some (.int .i64 s.calls) := cell_of_blk hd.blk 3
  have c4 : w.cell? ⟨r, 4, none⟩ = some (.int .i64 s.keep) := cell_of_blk hd.blk 4
  have f3 : w.frozen? ⟨r, 3, none⟩ = false := frozen_of_blk hd.blk 3
  have HD : Hid (RDW w r F s oF cF fs) := hd
  have hc1 := hd.ci.1
  have hc2 := hd.ci.2
  by_cases h0 : s.calls = 0
  · have et : tick s = crash s.keep s := by unfold tick; rw [if_pos h0]
    rw [et]
    have hcc : (crash s.keep s).calls ≤ 0 := by
      unfold crash
      split
      · omega
      · simp
    obtain ⟨t, ht⟩ : ∃ t, t = crash s.keep s := ⟨_, rfl⟩
    rw [← ht] at hcc ⊢
    have HT : Hid (t = crash s.keep s) := ht
    rw [h0] at c3
    clear hd et ht h0 hc1 hc2
    go_enter Tryz.func62, Tryz.ntmps62
    go_wp2_with (go_at_call 87; refine (rcrash_any _ r F s s.keep ⟨oF, cF, fs, HD.out⟩ HD.out.ki).mono ?_; rw [← HT.out]; rintro e w1 ⟨rfl, ⟨oF1, cF1, fs1, hd1⟩, HK⟩; have d1 := cell_of_blk hd1.blk 1; have d3 := cell_of_blk hd1.blk 3; simp only [rcells] at d1 d3)
    go_ret
    exact ⟨rfl, ⟨oF1, cF1, fs1, hd1⟩, HK⟩
  · by_cases h1 : 0 < s.calls
    · have et : tick s = { s with calls := s.calls - 1 } := by unfold tick; rw [if_neg h0, if_pos h1]
      rw [et]
      clear hd et
      go_enter Tryz.func62, Tryz.ntmps62
      go_wp2
      go_ret
      have hks := keeps_setG w r 3 (.int .i64 (s.calls - 1))
      refine ⟨rfl, ⟨oF, cF, fs, HD.out.cells hks (blk_set HD.out.blk 3 _) rfl ?_ ⟨by simp; omega, by simp; omega⟩ HD.out.ki HD.out.ri⟩, hks.mono (fun i e => by subst e; exact HD.out.fr)⟩
      exact ⟨HD.out.ok.inc, HD.out.ok.len, HD.out.ok.sy, HD.out.ok.nm, by simp; omega⟩
    · have et : tick s = s := by unfold tick; rw [if_neg h0, if_neg h1]
      rw [et]
      clear hd et
      go_enter Tryz.func62, Tryz.ntmps62
      go_wp2
      go_ret
      exact ⟨rfl, ⟨oF, cF, fs, HD.out⟩, Keeps.refl _ _⟩
end Go.Proofs.YtdemoghlibnooaaGreatDoor
namespace Go.Proofs.YtdemoghlibnooaaGreatDoor
open Go.RowKit Dk
set_option linter.unusedVariables false
set_option linter.unusedSimpArgs false
theorem getD_set_self {α : Type} (l : List α) (j : Nat) (x d : α) (h : j < l.length) : (l.set j x).getD j d = x := by
  simp [List.getD_eq_getElem?_getD, h]
theorem RDW.len {w : World} {r : Nat} {F : Nat → Prop} {s : St} {oF : Option Addr} {cF : Nat} {fs : List RF} (h : RDW w r F s oF cF fs) : s.fs.length = fs.length := by rw [h.eq]; simp
theorem RDW.at {w : World} {r : Nat} {F : Nat → Prop} {s : St} {oF : Option Addr} {cF : Nat} {fs : List RF} (h : RDW w r F s oF cF fs) {j : Nat} (hj : j < s.fs.length) : j < fs.length ∧ s.fs[j] = (fs.getD j rf0).ent := by
  have hjf : j < fs.length := by rw [← h.len]; exact hj
  refine ⟨hjf, ?_⟩
  have e2 : s.fs[j] = (fs.map RF.ent)[j]'(by simpa using hjf) := by congr 1; exact h.eq
  rw [e2]
  simp [List.getD_eq_getElem?_getD, hjf]
theorem apart_getD {fs : List RF} (ha : fs.Pairwise fun f g => ∀ k, inO f.o k → ¬ inO g.o k) {i j : Nat} (hi : i < fs.length) (hj : j < fs.length) (hne : i ≠ j) : ∀ k, inO (fs.getD i rf0).o k → ¬ inO (fs.getD j rf0).o k := by
  have e1 : fs.getD i rf0 = fs[i] := by simp [List.getD_eq_getElem?_getD, hi]
  have e2 : fs.getD j rf0 = fs[j] := by simp [List.getD_eq_getElem?_getD, hj]
  rw [e1, e2]
  rcases Nat.lt_or_gt_of_ne hne with h | h
  · exact (List.pairwise_iff_getElem.1 ha) i j hi hj h
  · exact fun k h1 h2 => (List.pairwise_iff_getElem.1 ha) j i hj hi h k h2 h1
theorem mem_set_getD {fs : List RF} {j : Nat} {f' x : RF} (hx : x ∈ fs.set j f') : x = f' ∨ ∃ i, i < fs.length ∧ i ≠ j ∧ x = fs.getD i rf0 := by
  obtain ⟨i, hi, rfl⟩ := List.getElem_of_mem hx
  rw [List.getElem_set]
  by_cases e : j = i
  · rw [if_pos e]; exact .inl rfl
  · rw [if_neg e]
    simp at hi
    exact .inr ⟨i, hi, fun h => e h.symm, by simp [List.getD_eq_getElem?_getD, hi]⟩
theorem apart_set {fs : List RF} (ha : fs.Pairwise fun f g => ∀ k, inO f.o k → ¬ inO g.o k) {j : Nat} {f' : RF} (hj : j < fs.length) (h1 : ∀ i, i < fs.length → i ≠ j → ∀ k, inO f'.o k → ¬ inO (fs.getD i rf0).o k) : (fs.set j f').Pairwise fun f g => ∀ k, inO f.o k → ¬ inO g.o k := by
  rw [List.pairwise_iff_getElem]
  intro a b hA hB hlt k
  simp at hA hB
  rw [List.getElem_set, List.getElem_set]
  by_cases ea : j = a
  · have eb : ¬ j = b := by omega
    rw [if_pos ea, if_neg eb]
    have := h1 b hB (fun e => eb e.symm) k
    rwa [show fs.getD b rf0 = fs[b] by simp [List.getD_eq_getElem?_getD, hB]] at this
  · rw [if_neg ea]
    by_cases eb : j = b
    · rw [if_pos eb]
      intro h2 h3
      have := h1 a hA (fun e => ea e.symm) k h3
      rw [show fs.getD a rf0 = fs[a] by simp [List.getD_eq_getElem?_getD, hA]] at this
      exact this h2
    · rw [if_neg eb]
      exact (List.pairwise_iff_getElem.1 ha) a b hA hB hlt k
theorem RDW.upd {w w' : World} {r : Nat} {F F' : Nat → Prop} {s : St} {g cF : Nat} {fs : List RF} (h : RDW w r F s (some ⟨g, 0, none⟩) cF fs) {j : Nat} (hj : j < fs.length) {f' : RF} (hnm : f'.nm = (fs.getD j rf0).nm) (hO : Own FE w' (some ⟨g, 0, none⟩) cF (fs.set j f')) (hk : Keeps (fun k => k = g ∨ inO (fs.getD j rf0).o k) w w') (hw : OwW w' f'.o f'.c f'.bs) (ho : ∀ k, inO f'.o k → inO (fs.getD j rf0).o k ∨ w.heap.size ≤ k) (hF : ∀ k, F k → F' k) (hF2 : ∀ k, inO f'.o k → F' k) (hl : ∀ k, F' k → k < w'.heap.size) (hok : Ok { s with fs := put f'.nm.data.toList ⟨f'.bs, f'.sy⟩ s.fs }) :
    RDW w' r F' { s with fs := put f'.nm.data.toList ⟨f'.bs, f'.sy⟩ s.fs } (some ⟨g, 0, none⟩) cF (fs.set j f') := by
  have hf : fs.getD j rf0 ∈ fs := getD_mem fs j rf0 hj
  have hjs : j < s.fs.length := by rw [h.len]; exact hj
  have hgr : ¬ g = r := fun e => h.o_r (by rw [← e]; exact ⟨_, rfl, rfl⟩)
  have hold : ∀ i, i < fs.length → i ≠ j → OwW w' (fs.getD i rf0).o (fs.getD i rf0).c (fs.getD i rf0).bs := fun i hi hne => (h.each _ (getD_mem fs i rf0 hi)).keeps hk (fun k h1 h2 => by
    rcases h2 with e | e
    · subst e; exact h.f_o (getD_mem fs i rf0 hi) k h1 ⟨_, rfl, rfl⟩
    · exact apart_getD h.apart hi hj hne k h1 e)
  refine ⟨?_, hO, ?_, ?_, apart_set h.apart hj (fun i hi hne k h1 h2 => ?_), hF _ h.fr, fun k hk1 => hF _ (h.fo k hk1), ?_, hl, hok, h.ci, h.ki, h.ri⟩
  · have := hk.at h.blk (fun h1 => by
      rcases h1 with e | e
      · exact hgr e.symm
      · exact h.f_r hf e)
    rw [this]
    simp [rcells]
  · show put f'.nm.data.toList ⟨f'.bs, f'.sy⟩ s.fs = (fs.set j f').map RF.ent
    rw [hit_put h.ok.inc hjs (by rw [(h.at hjs).2, hnm]; rfl), List.map_set, ← h.eq, List.set_eq_take_append_cons_drop, if_pos hjs]
    rfl
  · intro x hx
    rcases mem_set_getD hx with rfl | ⟨i, hi, hne, rfl⟩
    · exact hw
    · exact hold i hi hne
  · rcases ho k h1 with e | e
    · exact apart_getD h.apart hj hi (Ne.symm hne) k e h2
    · have := h.lt k (h.ff _ (getD_mem fs i rf0 hi) k h2); omega
  · intro x hx k hk1
    rcases mem_set_getD hx with rfl | ⟨i, hi, hne, rfl⟩
    · exact hF2 k hk1
    · exact hF _ (h.ff _ (getD_mem fs i rf0 hi) k hk1)
set_option maxRecDepth 100000 in
theorem rsync_any (w : World) (r : Nat) (F : Nat → Prop) (s : St) (n : Tx) (h : IsRd w r F s) :
    Calls Tryz.prog 30 #[.pointer (some ⟨r, 0, none⟩), .string n] w fun e w' => e = .returned (.int .i64 (counted s (syncOn n.data.toList)).2) ∧ IsRd w' r F (counted s (syncOn n.data.toList)).1 ∧ Keeps F w w' := by
  obtain ⟨t, ht⟩ : ∃ t, t = tick s := ⟨_, rfl⟩
  rw [counted_cT, ← ht]
  have HT : Hid (t = tick s) := ht
  clear ht
  go_enter Tryz.func30, Tryz.ntmps30
  go_wp2_with fail
  refine (rcounted_any w r F s h).mono ?_
  rw [← HT.out]
  rintro e w1 ⟨rfl, h1, HK⟩
  cases ho : t.off with
  | true =>
    go_wp2
    go_ret
    rw [cT_off ho]
    exact ⟨rfl, h1, HK⟩
  | false =>
  go_wp2_with fail
  refine (at_any w1 r F t n h1).mono ?_
  rintro e w2 ⟨v, rfl, hv, hw⟩
  subst w2
  cases hv.out with
  | miss j hj lo hi =>
    have hneg : -1 - ((j : Nat) : Int) < 0 := by omega
    have h16 : j ≤ 16 := by have := h1.ok.len; omega
    go_wp2
    go_ret
    rw [cT_on ho, syncOn, onF_none (miss_find lo hi)]
    exact ⟨rfl, h1, HK⟩
  | hit j hj hn =>
    obtain ⟨oF, cF, fs, hd⟩ := h1
    obtain ⟨hjf, hent⟩ := hd.at hj
    obtain ⟨g, rfl, d0, d1, d2, fz⟩ := ownF_at hd.own hjf
    obtain ⟨N, hN⟩ : ∃ N, N = fs.length := ⟨_, rfl⟩
    have c0 : w1.cell? ⟨r, 0, none⟩ = some (.slice (some ⟨g, 0, none⟩) N cF) := by rw [hN]; exact cell_of_blk hd.blk 0
    have hjN : j < N := by omega
    have h16 : N ≤ 16 := by have := hd.ok.len; have := hd.len; omega
    have z2 := fz (j * 3 + 2)
    have hff := hit_find hd.ok.inc hj hn
    rw [hent] at hff
    have hnm : (fs.getD j rf0).nm.data.toList = n.data.toList := by rw [← hn, hent]; rfl
    obtain ⟨f, hfe⟩ : ∃ f, f = fs.getD j rf0 := ⟨_, rfl⟩
    have hgr : ¬ g = r := fun e => hd.o_r (by rw [← e]; exact ⟨_, rfl, rfl⟩)
    have hrg : ¬ r = g := fun e => hgr e.symm
    have hOw := hd.each _ (getD_mem fs j rf0 hjf)
    have hsO := own_setF hd.own hjf (i := 2) (by omega) (.int .i64 ((f.bs.length : Nat) : Int)) ⟨f.nm, f.o, f.c, f.bs, f.bs.length⟩ (by rw [← hfe]; simp [RF.cells])
    rw [← hfe] at d1 d2 hff hnm hOw
    obtain ⟨nf, hnf⟩ : ∃ nf, nf = f.bs.length := ⟨_, rfl⟩
    rw [← hnf] at d1 hsO
    have hks := keeps_setG w1 g (j * 3 + 2) (.int .i64 ((nf : Nat) : Int))
    have hok := syncOn_ok (n := n.data.toList) hd.ok
    have HS : Hid (IsRd (w1.setCell ⟨g, j * 3 + 2, none⟩ (.int .i64 ((nf : Nat) : Int))) r F (syncOn n.data.toList t).1 ∧ (syncOn n.data.toList t).2 = 0 ∧ Keeps F w1 (w1.setCell ⟨g, j * 3 + 2, none⟩ (.int .i64 ((nf : Nat) : Int)))) := (show _ from by
      have e : syncOn n.data.toList t = ({ t with fs := put n.data.toList ⟨f.bs, f.bs.length⟩ t.fs }, 0) := by rw [syncOn, onF_some hff]; rfl
      rw [e] at hok ⊢
      refine ⟨⟨some ⟨g, 0, none⟩, cF, fs.set j ⟨f.nm, f.o, f.c, f.bs, nf⟩, ?_⟩, rfl, hks.mono fun i e => by subst e; exact hd.fo _ ⟨_, rfl, rfl⟩⟩
      have hu := hd.upd (F' := F) (f' := ⟨f.nm, f.o, f.c, f.bs, nf⟩) hjf (by rw [hfe]) hsO (hks.mono fun i e => .inl e) (hOw.keeps hks (fun i h1 e => by subst e; exact hd.f_o (getD_mem fs j rf0 hjf) i (by rw [← hfe]; exact h1) ⟨_, rfl, rfl⟩)) (fun k hk => .inl (by rw [← hfe]; exact hk)) (fun k hk => hk) (fun k hk => hd.ff _ (getD_mem fs j rf0 hjf) k (by rw [← hfe]; exact hk)) (fun k hk => Nat.lt_of_lt_of_le (hd.lt k hk) hks.size) (by show Ok { t with fs := put f.nm.data.toList ⟨f.bs, nf⟩ t.fs }; rw [hnm, hnf]; exact hok)
      have e2 : ({ t with fs := put (⟨f.nm, f.o, f.c, f.bs, nf⟩ : RF).nm.data.toList ⟨(⟨f.nm, f.o, f.c, f.bs, nf⟩ : RF).bs, (⟨f.nm, f.o, f.c, f.bs, nf⟩ : RF).sy⟩ t.fs } : St) = { t with fs := put n.data.toList ⟨f.bs, f.bs.length⟩ t.fs } := by show ({ t with fs := put f.nm.data.toList ⟨f.bs, nf⟩ t.fs } : St) = _; rw [hnm, hnf]
      rw [e2] at hu
      exact hu)
    obtain ⟨_, e', _, k1, _, _⟩ := ownF_at hsO (j := j) (by simpa using hjf)
    cases e'
    rw [getD_set_self fs j _ rf0 hjf] at k1
    have k2 : (w1.setCell ⟨g, j * 3 + 2, none⟩ (.int .i64 ((nf : Nat) : Int))).cell? ⟨g, j * 3 + 1, none⟩ = some (.slice f.o nf f.c) := by rw [hnf] at k1 ⊢; exact k1
    clear k1
    clear hd hok hks hsO hOw hnm hff hent d0 fz hnf hfe hN hn hv
    go_wp2_with fail
    go_region_held3 (fun w' => w'.cell? ⟨r, 0, none⟩ = some (.slice (some ⟨g, 0, none⟩) N cF) ∧ w'.cell? ⟨g, j * 3 + 1, none⟩ = some (.slice f.o nf f.c)) (go_keep) (fail)
    go_wp2_with fail
    go_ret
    obtain ⟨q1, q2, q3⟩ := HS.out
    rw [cT_on ho]
    exact ⟨by rw [q2]; rfl, q1.keepsN (Keeps.refl _ _).drew, HK.trans (q3.drew)⟩
set_option maxRecDepth 100000 in
theorem rread_any (w : World) (r : Nat) (F : Nat → Prop) (s : St) (n : Tx) (h : IsRd w r F s) (hb : (readB n.data.toList (tick s)).length ≤ 140737488355328) :
    Calls Tryz.prog 85 #[.pointer (some ⟨r, 0, none⟩), .string n] w fun e w' => ∃ o c m, e = .returned (.tuple #[.slice o m c, .int .i64 (readE n.data.toList (tick s))]) ∧ Hid (m = (readB n.data.toList (tick s)).length) ∧ Own BU w' o c (readB n.data.toList (tick s)) ∧ New w o ∧ IsRd w' r F (tick s) ∧ Keeps F w w' := by
  obtain ⟨t, ht⟩ : ∃ t, t = tick s := ⟨_, rfl⟩
  rw [← ht] at hb ⊢
  have HT : Hid (t = tick s) := ht
  clear ht
  go_enter Tryz.func85, Tryz.ntmps85
  go_wp2_with fail
  refine (rcounted_any w r F s h).mono ?_
  rw [← HT.out]
  rintro e w1 ⟨rfl, h1, HK⟩
  cases ho : t.off with
  | true =>
    have e1 : readB n.data.toList t = [] := by simp [readB, ho]
    have e2 : readE n.data.toList t = 62 := by simp [readE, ho]
    go_wp2
    go_ret2
    rw [e1, e2]
    exact ⟨_, _, _, rfl, rfl, own_nil _, new_none _, h1, HK⟩
  | false =>
  go_wp2_with fail
  refine (at_any w1 r F t n h1).mono ?_
  rintro e w2 ⟨v, rfl, hv, hw⟩
  subst w2
  cases hv.out with
  | miss j hj lo hi =>
    have hneg : -1 - ((j : Nat) : Int) < 0 := by omega
    have h16 : j ≤ 16 := by have := h1.ok.len; omega
    have hf := miss_find lo hi
    have e1 : readB n.data.toList t = [] := by simp [readB, ho, hf]
    have e2 : readE n.data.toList t = 61 := by simp [readE, ho, hf]
    clear hf
    go_wp2
    go_ret2
    rw [e1, e2]
    exact ⟨_, _, _, rfl, rfl, own_nil _, new_none _, h1, HK⟩
  | hit j hj hn =>
    have h1' := h1
    obtain ⟨oF, cF, fs, hd⟩ := h1
    obtain ⟨hjf, hent⟩ := hd.at hj
    obtain ⟨g, rfl, d0, d1, d2, fz⟩ := ownF_at hd.own hjf
    obtain ⟨N, hN⟩ : ∃ N, N = fs.length := ⟨_, rfl⟩
    have c0 : w1.cell? ⟨r, 0, none⟩ = some (.slice (some ⟨g, 0, none⟩) N cF) := by rw [hN]; exact cell_of_blk hd.blk 0
    have hjN : j < N := by omega
    have h16 : N ≤ 16 := by have := hd.ok.len; have := hd.len; omega
    have hff := hit_find hd.ok.inc hj hn
    rw [hent] at hff
    have hOw := hd.each _ (getD_mem fs j rf0 hjf)
    obtain ⟨f, hfe⟩ : ∃ f, f = fs.getD j rf0 := ⟨_, rfl⟩
    rw [← hfe] at d1 hff hOw
    have e1 : readB n.data.toList t = f.bs := by simp [readB, ho, hff, RF.ent]
    have e2 : readE n.data.toList t = 0 := by simp [readE, ho, hff]
    obtain ⟨nf, hnf⟩ : ∃ nf, nf = f.bs.length := ⟨_, rfl⟩
    rw [← hnf] at d1
    have HNF : Hid (nf = f.bs.length) := hnf
    have HOW : Hid (OwW w1 f.o f.c f.bs) := hOw
    have HB : Hid (f.bs.length ≤ 140737488355328) := (show _ by rw [e1] at hb; exact hb)
    have HI : Hid (IsRd w1 r F t) := h1'
    clear hd hOw hff hent d0 d2 fz hnf hfe hN hn hv h1' hb
    go_wp2_with (at_builtin; refine wpList_app okU rfl _ _ rfl none 0 0 [] rfl rfl (own_nil _) _ _ _ f.bs rfl HNF.out HOW.out.nil HOW.out.row (by have := HB.out; simp [BU]; omega) (by have := HB.out; simp; omega) ?_; intro o' c' w' hown hap)
    go_ret2
    have hnew := hap.new (w0 := w1) (new_none w1) (Keeps.refl _ _)
    rw [e1, e2]
    exact ⟨_, _, _, rfl, (show _ = _ by rw [HNF.out]), by simpa using hown, hnew.1.of_le HK.size, HI.out.keepsN hnew.2, HK.trans hnew.2.of_no⟩
end Go.Proofs.YtdemoghlibnooaaGreatDoor
namespace Go.Proofs.YtdemoghlibnooaaGreatDoor
open Go.RowKit Dk
set_option linter.unusedVariables false
set_option linter.unusedSimpArgs false
theorem slRfile : Tryz.prog.underlying 126 = some (.slice (Tryz.prog.elem 126)) := by kernel_rfl
theorem cutORfile (o : Option Addr) (n c I : Nat) (h1 : I ≤ c) (hnil : o = none → c = 0) : ∀ w, (Instr.slice 126 (.slice o n c) none (some (.int .i64 ((I : Nat) : Int))) none).run Tryz.prog w = .ok (.slice o I c) w := by
  intro w
  match o, hnil with
  | none, hnil =>
    obtain rfl : c = 0 := hnil rfl
    obtain rfl : I = 0 := by omega
    rw [run_slice_h w 126 none _ 0 slRfile .i64 _ (by omega) (by omega)]
    go_simp
  | some ad, _ =>
    rw [run_slice_h w 126 (some ad) _ c slRfile .i64 _ (by omega) (by omega)]
    go_simp
theorem cutL80 (w0 : World) (o : Option Addr) (c : Nat) (fs : List RF) (n I : Nat) (hn : n = fs.length) (hI : I ≤ n) (h : Sl FE w0 o c fs) :
    ∃ A d, (∀ w, (Instr.slice 126 (.slice o n c) (some (.int .i64 ((I : Nat) : Int))) none none).run Tryz.prog w = .ok (.slice A (n - I) d) w) ∧ Sl FE w0 A d (fs.drop I) := by
  subst hn
  have hcap := h.cap
  match o, h with
  | none, h =>
    obtain rfl : c = 0 := h.nil rfl
    obtain rfl : I = 0 := by omega
    have h0 : fs = [] := List.length_eq_zero_iff.mp (by omega)
    subst h0
    refine ⟨none, 0, fun w => ?_, ⟨h.row.drop okF 0 (fun _ b off e => by cases e), by simp, fun _ => rfl⟩⟩
    rw [run_slice_l w 126 none _ 0 slRfile .i64 _ (by omega) (by simp)]
    go_simp
  | some ad, h =>
    refine ⟨some (if c = I then ad else ad.add (I * 3)), c - I, fun w => ?_, ⟨h.row.drop okF I (fun hlt b off e => ?_), by rw [List.length_drop]; omega, by simp⟩⟩
    · rw [run_slice_l w 126 (some ad) _ c slRfile .i64 _ (by omega) (by omega)]
      by_cases h : c = I
      · go_simp
      · go_simp
    · cases e
      rw [if_neg (by omega), addr_add]
      simp [FE]
theorem rd_list {w w' : World} {r : Nat} {F F' : Nat → Prop} {s s' : St} {oF o' : Option Addr} {cF c' : Nat} {fs fs' : List RF} (h : RDW w r F s oF cF fs) (hb : w'.heap[r]? = some (.cells (rcells o' fs'.length c' s') 128 (0, 0))) (hO : Own FE w' o' c' fs') (hk : Keeps (fun k => k = r ∨ inO oF k) w w') (heq : s'.fs = fs'.map RF.ent) (hc : s'.calls = s.calls) (hkp : s'.keep = s.keep) (hr : s'.ref = s.ref)
    (hmem : ∀ x ∈ fs', x ∈ fs ∨ (OwW w x.o x.c x.bs ∧ ¬ inO x.o r ∧ (∀ k, inO x.o k → ¬ inO oF k) ∧ ∀ k, inO x.o k → F k)) (hap : fs'.Pairwise fun f g => ∀ k, inO f.o k → ¬ inO g.o k) (hF : ∀ k, F k → F' k) (hF2 : ∀ k, inO o' k → F' k) (hl : ∀ k, F' k → k < w'.heap.size) (hok : Ok s') : RDW w' r F' s' o' c' fs' := by
  have hall : ∀ x ∈ fs', OwW w x.o x.c x.bs ∧ ¬ inO x.o r ∧ (∀ k, inO x.o k → ¬ inO oF k) ∧ ∀ k, inO x.o k → F k := fun x hx => by
    rcases hmem x hx with h1 | h1
    · exact ⟨h.each x h1, h.f_r h1, h.f_o h1, h.ff x h1⟩
    · exact h1
  refine ⟨hb, hO, heq, fun x hx => ?_, hap, hF _ h.fr, hF2, fun x hx k hk1 => hF _ ((hall x hx).2.2.2 k hk1), hl, hok, by rw [hc]; exact h.ci, by rw [hkp]; exact h.ki, by rw [hr]; exact h.ri⟩
  obtain ⟨a1, a2, a3, _⟩ := hall x hx
  exact a1.keeps hk (fun k h1 h2 => by
    rcases h2 with e | e
    · subst e; exact a2 h1
    · exact a3 k h1 e)
structure Fit (w : World) (F : Nat → Prop) (fs : List RF) (f : RF) : Prop where
  ow : OwW w f.o f.c f.bs
  ap : ∀ x ∈ fs, x.nm ≠ f.nm → ∀ k, inO f.o k → ¬ inO x.o k
  ff : ∀ k, inO f.o k → F k
set_option maxRecDepth 100000 in
set_option maxHeartbeats 0 in
theorem put_any (w : World) (r : Nat) (F : Nat → Prop) (s : St) (oF : Option Addr) (cF : Nat) (fs : List RF) (f : RF) (nf : Nat) (hnf : nf = f.bs.length) (hd : RDW w r F s oF cF fs) (hf : Fit w F fs f) (hok : Ok { s with fs := put f.nm.data.toList ⟨f.bs, f.sy⟩ s.fs }) :
    Calls Tryz.prog 65 #[.pointer (some ⟨r, 0, none⟩), .agg #[.string f.nm, .slice f.o nf f.c, .int .i64 ((f.sy : Nat) : Int)]] w fun e w' => e = .returned (.tuple #[]) ∧ IsRd w' r (grow F w w') { s with fs := put f.nm.data.toList ⟨f.bs, f.sy⟩ s.fs } ∧ Keeps F w w' := by
  obtain ⟨N, hN⟩ : ∃ N, N = fs.length := ⟨_, rfl⟩
  have h16 : N ≤ 16 := by have := hd.ok.len; have := hd.len; omega
  have HD : Hid (RDW w r F s oF cF fs) := hd
  have HN : Hid (N = fs.length) := hN
  have HF : Hid (Fit w F fs f) := hf
  have HOK : Hid (Ok { s with fs := put f.nm.data.toList ⟨f.bs, f.sy⟩ s.fs }) := hok
  have HNF : Hid (nf = f.bs.length) := hnf
  obtain ⟨V, hV⟩ : ∃ V, V = w.alloc (.cells #[.string f.nm, .slice f.o nf f.c, .int .i64 ((f.sy : Nat) : Int)] 133) := ⟨_, rfl⟩
  obtain ⟨B, hB⟩ : ∃ B, B = w.heap.size := ⟨_, rfl⟩
  have KV : Hid (Keeps no w V) := (show _ by rw [hV]; exact keeps_alloc w _)
  have BV : Hid (V.heap[B]? = some (.cells #[.string f.nm, .slice f.o nf f.c, .int .i64 ((f.sy : Nat) : Int)] 133 (0, 0))) := (show _ by rw [hV, hB]; exact blk_new w _)
  have b0 := cell_of_blk BV.out 0
  have b1 := cell_of_blk BV.out 1
  have b2 := cell_of_blk BV.out 2
  have HBs : Hid (B = w.heap.size) := hB
  clear hd hN hf hok hnf
  go_enter Tryz.func65, Tryz.ntmps65
  go_wp2_with fail
  rw [← hV, ← hB]
  clear hV hB
  refine (at_any V r F s f.nm ⟨oF, cF, fs, HD.out.keeps KV.out (fun _ _ => id)⟩).mono ?_
  rintro e w2 ⟨v, rfl, hv, hw⟩
  subst w2
  have c0 : V.cell? ⟨r, 0, none⟩ = some (.slice oF N cF) := by rw [HN.out]; exact KV.out.cellN (cell_of_blk HD.out.blk 0)
  cases hv.out with
  | hit j hj hn =>
    obtain ⟨hjf, hent⟩ := HD.out.at hj
    have hOV := HD.out.own.keepsN KV.out
    obtain ⟨g, rfl, d0, d1, d2, fz⟩ := ownF_at hOV hjf
    have hjN : j < N := by have := HN.out; omega
    have z0 := fz (j * 3)
    have z1 := fz (j * 3 + 1)
    have z2 := fz (j * 3 + 2)
    have hs0 := own_setF hOV hjf (i := 0) (by omega) (.string f.nm) ⟨f.nm, (fs.getD j rf0).o, (fs.getD j rf0).c, (fs.getD j rf0).bs, (fs.getD j rf0).sy⟩ rfl
    have hs1 := own_setF hs0 (by simpa using hjf) (i := 1) (by omega) (.slice f.o nf f.c) ⟨f.nm, f.o, f.c, f.bs, (fs.getD j rf0).sy⟩ (by rw [getD_set_self fs j _ rf0 hjf, HNF.out]; rfl)
    have hs2 := own_setF hs1 (by simpa using hjf) (i := 2) (by omega) (.int .i64 ((f.sy : Nat) : Int)) f (by rw [List.set_set, getD_set_self fs j _ rf0 hjf]; simp [RF.cells])
    rw [List.set_set, List.set_set] at hs2
    have HS : Hid (Own FE (((V.setCell ⟨g, j * 3, none⟩ (.string f.nm)).setCell ⟨g, j * 3 + 1, none⟩ (.slice f.o nf f.c)).setCell ⟨g, j * 3 + 2, none⟩ (.int .i64 ((f.sy : Nat) : Int))) (some ⟨g, 0, none⟩) cF (fs.set j f)) := hs2
    have hkw : Keeps (inO (some ⟨g, 0, none⟩)) w (((V.setCell ⟨g, j * 3, none⟩ (.string f.nm)).setCell ⟨g, j * 3 + 1, none⟩ (.slice f.o nf f.c)).setCell ⟨g, j * 3 + 2, none⟩ (.int .i64 ((f.sy : Nat) : Int))) := ((KV.out.of_no.trans (keeps_setO V g (j * 3) _)).trans (keeps_setO _ g (j * 3 + 1) _)).trans (keeps_setO _ g (j * 3 + 2) _)
    obtain ⟨W, hW⟩ : ∃ W, W = ((V.setCell ⟨g, j * 3, none⟩ (.string f.nm)).setCell ⟨g, j * 3 + 1, none⟩ (.slice f.o nf f.c)).setCell ⟨g, j * 3 + 2, none⟩ (.int .i64 ((f.sy : Nat) : Int)) := ⟨_, rfl⟩
    rw [← hW] at HS hkw
    have HRD : Hid (IsRd W r (grow F w W) { s with fs := put f.nm.data.toList ⟨f.bs, f.sy⟩ s.fs } ∧ Keeps F w W) := (show _ from by
      refine ⟨⟨some ⟨g, 0, none⟩, cF, fs.set j f, ?_⟩, hkw.mono HD.out.fo⟩
      refine rd_list HD.out ?_ HS.out (hkw.mono fun k hk => .inr hk) ?_ rfl rfl rfl (fun x hx => ?_) (apart_set HD.out.apart hjf (fun i hi hne k h1 h2 => ?_)) (fun k hk => .inl hk) (fun k hk => .inl (HD.out.fo k hk)) (fun k hk => ?_) HOK.out
      · rw [hkw.at HD.out.blk HD.out.o_r]
        simp [rcells]
      · show put f.nm.data.toList ⟨f.bs, f.sy⟩ s.fs = (fs.set j f).map RF.ent
        rw [hit_put HD.out.ok.inc hj hn, List.map_set, ← HD.out.eq, List.set_eq_take_append_cons_drop, if_pos hj]
        rfl
      · rcases mem_set_getD hx with rfl | ⟨i, hi, hne, rfl⟩
        · exact .inr ⟨HF.out.ow, HF.out.ow.ne HD.out.blk (by decide), HF.out.ow.neO HD.out.own (by decide), HF.out.ff⟩
        · exact .inl (getD_mem fs i rf0 hi)
      · refine HF.out.ap _ (getD_mem fs i rf0 hi) (fun e => ?_) k h1 h2
        have his : i < s.fs.length := by rw [HD.out.len]; exact hi
        have hne2 : s.fs[i].1 ≠ s.fs[j].1 := by
          rcases Nat.lt_or_gt_of_ne hne with h | h
          · exact bb_ne ((List.pairwise_iff_getElem.1 HD.out.ok.inc) i j his hj h)
          · exact (bb_ne ((List.pairwise_iff_getElem.1 HD.out.ok.inc) j i hj his h)).symm
        rw [hn, (HD.out.at his).2] at hne2
        exact hne2 (by show (fs.getD i rf0).nm.data.toList = _; rw [e])
      · rcases hk with h1 | h1
        · exact Nat.lt_of_lt_of_le (HD.out.lt k h1) hkw.size
        · exact h1.2)
    clear hs0 hs1 hs2 hkw hOV hent fz hn hv
    go_wp2_with fail
    go_region_with (fail)
    all_goals go_wp2_with fail
    all_goals rw [← hW]
    all_goals refine bodyPost_ret (results_none rfl _ _ _) rfl ?_
    all_goals exact ⟨rfl, HRD.out.1.keepsN (Keeps.refl _ _).drew, HRD.out.2.drew⟩
  | miss j hj lo hi =>
    have hjN : j ≤ N := by have := HN.out; have := HD.out.len; omega
    have hcut := cutORfile oF N cF j (by have := HD.out.own.cap.1; have := HN.out; omega) HD.out.own.cap.2
    obtain ⟨A, dA, hcl, hsl⟩ := cutL80 V oF cF fs N j HN.out hjN (HD.out.own.sl.keepsN KV.out)
    have HSL : Hid (Sl FE V A dA (fs.drop j)) := hsl
    have HLO : Hid ((∀ i (hi : i < s.fs.length), i < j → bytesBefore s.fs[i].1 f.nm.data.toList = true) ∧ ∀ i (hi : i < s.fs.length), j ≤ i → bytesBefore f.nm.data.toList s.fs[i].1 = true) := ⟨lo, hi⟩
    have HJ : Hid (j ≤ s.fs.length) := hj
    have hjj : -1 - (-1 - ((j : Nat) : Int)) = ((j : Nat) : Int) := by omega
    clear hsl lo hi hv
    go_wp2_with (at_builtin; first | (refine wpList_app okF rfl (.tmp 21) (.tmp 27) rfl none 0 0 [] rfl rfl (own_nil _) oF j cF (fs.take j) rfl (by rw [List.length_take]; have := HN.out; omega) HD.out.own.cap.2 ((HD.out.own.row.keepsN KV.out).take okF j) (by have := HN.out; simp [FE, List.length_take]; omega) (by have := HN.out; simp [List.length_take]; omega) ?_; intro o1 c1 w1 ho1 hap1; have hn1 := hap1.new (w0 := V) (new_none V) (Keeps.refl _ _); have q0 := hn1.2.cellN c0; have ho1' : Own FE w1 o1 c1 (fs.take j) := (by simpa using ho1); have p0 := hn1.2.cellN b0; have p1 := hn1.2.cellN b1; have p2 := hn1.2.cellN b2) | (refine wpList_app okF rfl (.tmp 29) (.tmp 31) rfl o1 j c1 (fs.take j) rfl (by have := HN.out; simp [List.length_take]; omega) (ho1'.keepsN (keeps_alloc w1 (.cells #[.string f.nm, .slice f.o nf f.c, .int .i64 ((f.sy : Nat) : Int)] 133))) (some ⟨w1.heap.size, 0, none⟩) 1 1 [f] rfl rfl (fun e => by cases e) (lit_row (E := FE) w1 f #[.string f.nm, .slice f.o nf f.c, .int .i64 ((f.sy : Nat) : Int)] 133 _ (by rw [HNF.out]; rfl)) (by have := HN.out; simp [FE, List.length_take]; omega) (by have := HN.out; simp [List.length_take]; omega) ?_; intro o2 c2 w2 ho2 hap2; have hn2 := hap2.new (w0 := V) hn1.1 (hn1.2.alloc _); have q2 := hn2.2.cellN c0) | (refine wpList_app okF rfl (.tmp 34) (.tmp 40) rfl o2 (j + 1) c2 (fs.take j ++ [f]) rfl (by have := HN.out; simp [List.length_take]; omega) ho2 A (N - j) dA (fs.drop j) rfl (by rw [List.length_drop]; have := HN.out; omega) HSL.out.nil (HSL.out.row.keepsN hn2.2) (by have := HN.out; simp [FE, List.length_take]; omega) (by have := HN.out; simp [List.length_take]; omega) ?_; intro o3 c3 w3 ho3 hap3; have hn3 := hap3.new (w0 := V) hn2.1 hn2.2; have q3 := hn3.2.cellN c0; have f3' : w3.frozen? ⟨r, 0, none⟩ = false := frozen_of_blk (hn3.2.at (KV.out.at HD.out.blk id) id) 0))
    go_end0
    have hset := keeps_setG w3 r 0 (.slice o3 (j + 1 + (N - j)) c3)
    have hlen : (fs.take j ++ [f] ++ fs.drop j).length = j + 1 + (N - j) := by have := HN.out; simp; omega
    have hkF : Keeps (fun k => k = r) w (w3.setCell ⟨r, 0, none⟩ (.slice o3 (j + 1 + (N - j)) c3)) := (KV.out.trans hn3.2).of_no.trans hset
    have hVs := KV.out.size
    have ho3r : ¬ inO o3 r := fun h1 => by have := hn3.1 r h1; have := lt_of_block HD.out.blk; omega
    have hne : ∀ x ∈ fs, x.nm ≠ f.nm := fun x hx e => by
      have h1 := find_none.1 (miss_find HLO.out.1 HLO.out.2) x.ent (by rw [HD.out.eq]; exact List.mem_map_of_mem hx)
      exact h1 (by show x.nm.data.toList = _; rw [e])
    have hd' : RDW (w3.setCell ⟨r, 0, none⟩ (.slice o3 (j + 1 + (N - j)) c3)) r (grow F w (w3.setCell ⟨r, 0, none⟩ (.slice o3 (j + 1 + (N - j)) c3))) { s with fs := put f.nm.data.toList ⟨f.bs, f.sy⟩ s.fs } o3 c3 (fs.take j ++ [f] ++ fs.drop j) := by
      refine rd_list HD.out ?_ (ho3.keeps hset (fun k h1 e => by subst e; exact ho3r h1)) (hkF.mono fun k e => .inl e) ?_ rfl rfl rfl (fun x hx => ?_) ?_ (fun k hk => .inl hk) (fun k hk => .inr ⟨Nat.le_trans hVs (hn3.1 k hk), Nat.lt_of_lt_of_le (ho3.lt k hk) hset.size⟩) (fun k hk => ?_) HOK.out
      · rw [hlen]
        exact blk_set (hn3.2.at (KV.out.at HD.out.blk id) id) 0 _
      · show put f.nm.data.toList ⟨f.bs, f.sy⟩ s.fs = _
        rw [miss_put HD.out.ok.inc HJ.out HLO.out.1 HLO.out.2, HD.out.eq]
        simp [List.map_take, List.map_drop, RF.ent]
      · simp only [List.mem_append, List.mem_singleton] at hx
        rcases hx with (h1 | h1) | h1
        · exact .inl (List.mem_of_mem_take h1)
        · subst h1; exact .inr ⟨HF.out.ow, HF.out.ow.ne HD.out.blk (by decide), HF.out.ow.neO HD.out.own (by decide), HF.out.ff⟩
        · exact .inl (List.mem_of_mem_drop h1)
      · have h0 := HD.out.apart
        rw [← List.take_append_drop j fs] at h0
        have h1 := List.pairwise_append.1 h0
        rw [List.append_assoc]
        refine List.pairwise_append.2 ⟨h1.1, List.pairwise_cons.2 ⟨fun x hx k => HF.out.ap x (List.mem_of_mem_drop hx) (hne x (List.mem_of_mem_drop hx)) k, h1.2.1⟩, fun a ha b hb k h2 h3 => ?_⟩
        rcases List.mem_cons.1 hb with rfl | hb
        · exact HF.out.ap a (List.mem_of_mem_take ha) (hne a (List.mem_of_mem_take ha)) k h3 h2
        · exact h1.2.2 a ha b hb k h2 h3
      · rcases hk with h1 | h1
        · exact Nat.lt_of_lt_of_le (HD.out.lt k h1) hkF.size
        · exact h1.2
    exact ⟨rfl, ⟨o3, c3, _, hd'⟩, hkF.mono fun k e => by subst e; exact HD.out.fr⟩
end Go.Proofs.YtdemoghlibnooaaGreatDoor
namespace Go.Proofs.YtdemoghlibnooaaGreatDoor
open Go.RowKit Dk
set_option linter.unusedVariables false
set_option linter.unusedSimpArgs false
theorem RDW.wide {w : World} {r : Nat} {F F' : Nat → Prop} {s : St} {oF : Option Addr} {cF : Nat} {fs : List RF} (h : RDW w r F s oF cF fs) (hF : ∀ k, F k → F' k) (hl : ∀ k, F' k → k < w.heap.size) : RDW w r F' s oF cF fs :=
  ⟨h.blk, h.own, h.eq, h.each, h.apart, hF _ h.fr, fun k hk => hF _ (h.fo k hk), fun f hf k hk => hF _ (h.ff f hf k hk), hl, h.ok, h.ci, h.ki, h.ri⟩
theorem IsRd.grow {w w' : World} {r : Nat} {F : Nat → Prop} {s : St} (h : IsRd w' r F s) : IsRd w' r (YtdemoghlibnooaaGreatDoor.grow F w w') s := by
  obtain ⟨oF, cF, fs, h⟩ := h
  exact ⟨oF, cF, fs, h.wide (fun k hk => .inl hk) (fun k hk => by rcases hk with h1 | h1; exact h.lt k h1; exact h1.2)⟩
theorem IsRd.regrow {w w1 w' : World} {r : Nat} {F : Nat → Prop} {s : St} (h : IsRd w' r (YtdemoghlibnooaaGreatDoor.grow F w1 w') s) (hs : w.heap.size ≤ w1.heap.size) : IsRd w' r (YtdemoghlibnooaaGreatDoor.grow F w w') s := by
  obtain ⟨oF, cF, fs, h⟩ := h
  exact ⟨oF, cF, fs, h.wide (fun k hk => by rcases hk with h1 | h1; exact .inl h1; exact .inr ⟨by omega, h1.2⟩) (fun k hk => by rcases hk with h1 | h1; exact h.lt k (.inl h1); exact h1.2)⟩
end Go.Proofs.YtdemoghlibnooaaGreatDoor
namespace Go.Proofs.YtdemoghlibnooaaGreatDoor
open Go.RowKit Dk
set_option linter.unusedVariables false
set_option linter.unusedSimpArgs false
theorem Ap.in {w w' : World} {oa o' : Option Addr} (h : Ap w oa o' w') : ∀ k, inO o' k → inO oa k ∨ w.heap.size ≤ k := by
  intro k hk
  rcases h with ⟨rfl, _⟩ | ⟨⟨g, rfl, hg⟩, _⟩
  · exact .inl hk
  · obtain ⟨x, e, rfl⟩ := hk; cases e; exact .inr hg
theorem RDW.names {w : World} {r : Nat} {F : Nat → Prop} {s : St} {oF : Option Addr} {cF : Nat} {fs : List RF} (h : RDW w r F s oF cF fs) : (Dk.names s.fs).map mkT = fs.map (·.nm) := by
  rw [h.eq]
  simp [Dk.names, Function.comp_def, RF.ent, mkT_data]
set_option maxRecDepth 100000 in
theorem rlist_any (w : World) (r : Nat) (F : Nat → Prop) (s : St) (h : IsRd w r F s) :
    Calls Tryz.prog 77 #[.pointer (some ⟨r, 0, none⟩)] w fun e w' => ∃ o c m, e = .returned (.tuple #[.slice o m c, .int .i64 (listE (tick s))]) ∧ Hid (m = (listN (tick s)).length) ∧ Own TE w' o c ((listN (tick s)).map mkT) ∧ New w o ∧ IsRd w' r F (tick s) ∧ Keeps F w w' := by
  obtain ⟨t, ht⟩ : ∃ t, t = tick s := ⟨_, rfl⟩
  rw [← ht]
  have HT : Hid (t = tick s) := ht
  clear ht
  go_enter Tryz.func77, Tryz.ntmps77
  go_wp2_with fail
  refine (rcounted_any w r F s h).mono ?_
  rw [← HT.out]
  rintro e w1 ⟨rfl, h1, HK⟩
  cases ho : t.off with
  | true =>
    have e1 : listN t = [] := by simp [listN, ho]
    have e2 : listE t = 62 := by simp [listE, ho]
    go_wp2
    go_ret2
    rw [e1, e2]
    exact ⟨_, _, _, rfl, rfl, own_nil _, new_none _, h1, HK⟩
  | false =>
    have h1' := h1
    obtain ⟨oF, cF, fs, hd⟩ := h1
    have e1 : listN t = names t.fs := by simp [listN, ho]
    have e2 : listE t = 0 := by simp [listE, ho]
    obtain ⟨N, hN⟩ : ∃ N, N = fs.length := ⟨_, rfl⟩
    have HE : Hid (listE t = 0 ∧ (listN t).map mkT = fs.map (·.nm) ∧ (listN t).length = N) := ⟨e2, by rw [e1, hd.names], by rw [e1, hN]; simp [names, hd.len]⟩
    have c0 : w1.cell? ⟨r, 0, none⟩ = some (.slice oF N cF) := by rw [hN]; exact cell_of_blk hd.blk 0
    have h16 : N ≤ 16 := by have := hd.ok.len; have := hd.len; omega
    have HD : Hid (RDW w1 r F t oF cF fs) := hd
    have HN : Hid (N = fs.length) := hN
    have HI : Hid (IsRd w1 r F t) := h1'
    clear hd hN e1 e2 h1'
    go_wp2_with fail
    go_loopw [4, 5] (fun l i wr => ∃ (k : Nat) (o : Option Addr) (c : Nat), k ≤ N ∧ i = .int .i64 k ∧ l = .slice o k c ∧ Hid (Own TE wr o c ((fs.map (·.nm)).take k) ∧ New w1 o ∧ Keeps no w1 wr)) (fun _ i _ => N - (intOf i).toNat)
    case atStart => exact ⟨0, none, 0, by omega, rfl, rfl, ⟨own_nil _, new_none _, Keeps.refl _ _⟩⟩
    case round =>
      obtain ⟨k, o, c, hk, rfl, rfl, HO⟩ := hrel
      have c1 := HO.out.2.2.cellN c0
      by_cases hlt : k < N
      · have hkf : k < fs.length := by have := HN.out; omega
        obtain ⟨g, hg, d0, _, _, _⟩ := ownF_at (HD.out.own.keepsN HO.out.2.2) hkf
        rw [hg] at c1
        obtain ⟨x, hx⟩ : ∃ x, x = (fs.getD k rf0).nm := ⟨_, rfl⟩
        rw [← hx] at d0
        have HX : Hid ((fs.map (·.nm)).take (k + 1) = (fs.map (·.nm)).take k ++ [x]) := (show _ = _ by
          rw [take_succ_getDG _ k e0 (by simpa using hkf), hx]
          simp [List.getD_eq_getElem?_getD, hkf])
        have HLN : Hid (k = ((fs.map (·.nm)).take k).length) := (show _ = _ by simp; omega)
        clear hx hkf hg
        go_wp2_with (at_builtin; refine wpList_app okT rfl _ _ rfl o k c ((fs.map (·.nm)).take k) rfl HLN.out (HO.out.1.keepsN (keeps_alloc wr (.cells #[.string x] 9))) (some ⟨wr.heap.size, 0, none⟩) 1 1 [x] rfl rfl (fun e => by cases e) (lit_row (E := TE) wr x #[.string x] 9 _ rfl) (by rw [← HLN.out]; simp [TE]; omega) (by rw [← HLN.out]; simp; omega) ?_; intro o5 c5 w5 ho5 hap5)
        go_roundw
        case rel =>
          have hn := hap5.new (w0 := w1) HO.out.2.1 (HO.out.2.2.alloc _)
          exact ⟨k + 1, o5, c5, by omega, by go_num, rfl, ⟨by rw [HX.out]; exact ho5, hn.1, hn.2⟩⟩
        case measure => simp [intOf]; omega
      · have hkn : k = N := by omega
        subst k
        go_wp2_with fail
        go_ret2
        have := HO.out.1
        rw [List.take_of_length_le (by simp; have := HN.out; omega)] at this
        rw [HE.out.1, HE.out.2.1, HE.out.2.2]
        exact ⟨_, _, _, rfl, rfl, this, HO.out.2.1.of_le HK.size, HI.out.keepsN HO.out.2.2, HK.trans HO.out.2.2.of_no⟩
theorem step_apO {w : World} {ops : Array Oper} {o : Oper} {a : Act} {K : Act → World → Prop} {Q : Exit → Act → World → Prop} {Ep : Prop} (hgd : o.guard = none) (s x : Operand)
    (ho : o.op = .call { callee := .builtin .append, args := #[s, x], argTypes := #[29, 29] })
    (oa : Option Addr) (n c : Nat) (xs : List UInt8) (hs : a.eval s = .slice oa n c) (hn : n = xs.length) (hown : OwW w oa c xs)
    (ox : Option Addr) (m d : Nat) (news : List UInt8) (hx : a.eval x = .slice ox m d) (hm : m = news.length) (hd : ox = none → d = 0) (hrow : Row BU w ox news)
    (hb : xs.length + news.length ≤ 140737488355328)
    (h : ∀ o' c' w', OwW w' o' c' (xs ++ news) → Ap w oa o' w' → K (a.put o.dst (.slice o' (n + m) c')) w') :
    if Region.wanted o (yielded ops a.tmps) = true then Oper.wp Tryz.prog o a w K Q else Ep := by
  have hw : Region.wanted o (yielded ops a.tmps) = true := by simp [Region.wanted, hgd]
  rw [if_pos hw]
  subst hn hm
  obtain ⟨o', c', w', hr, h1, h2⟩ := run_apO w o.type oa c xs hown ox d news hd hrow hb
  unfold Oper.wp execOp
  simp only [ho, resolve, invoke, builtin, Sem.run_bind, Sem.run_pure, Result.andThen_ok, List.map_toArray, List.map_cons, List.map_nil, hs, hx, hr]
  exact h o' c' w' h1 h2
theorem rapp_end {w w5 : World} {r : Nat} {F : Nat → Prop} {t : St} {g cF : Nat} {fs : List RF} {j : Nat} {b : List UInt8} {o5 : Option Addr} {c5 nf nb : Nat} (hd : RDW w r F t (some ⟨g, 0, none⟩) cF fs) (hjf : j < fs.length) (hnf : nf = (fs.getD j rf0).bs.length) (hnb : nb = b.length) (ho : OwW w5 o5 c5 ((fs.getD j rf0).bs ++ b)) (hap : Ap w.drew (fs.getD j rf0).o o5 w5)
    (hok : Ok { t with fs := put (fs.getD j rf0).nm.data.toList ⟨(fs.getD j rf0).bs ++ b, (fs.getD j rf0).sy⟩ t.fs }) :
    w5.cell? ⟨g, j * 3 + 1, none⟩ = some (.slice (fs.getD j rf0).o nf (fs.getD j rf0).c) ∧ w5.frozen? ⟨g, j * 3 + 1, none⟩ = false ∧ w5.cell? ⟨r, 0, none⟩ = some (.slice (some ⟨g, 0, none⟩) fs.length cF) ∧
    ∀ w6, w6 = w5.setCell ⟨g, j * 3 + 1, none⟩ (.slice o5 (nf + nb) c5) → IsRd w6 r (grow F w w6) { t with fs := put (fs.getD j rf0).nm.data.toList ⟨(fs.getD j rf0).bs ++ b, (fs.getD j rf0).sy⟩ t.fs } ∧ Keeps F w w6 := by
  have hmem := getD_mem fs j rf0 hjf
  have hkk : Keeps (inO (fs.getD j rf0).o) w w5 := (Keeps.refl _ w).drew.trans hap.keepsG
  have hg : ∀ k, inO (some ⟨g, 0, none⟩) k → ¬ inO (fs.getD j rf0).o k := fun k h1 h2 => hd.f_o hmem k h2 h1
  have hO5 : Own FE w5 (some ⟨g, 0, none⟩) cF fs := hd.own.keeps hkk hg
  have hb5 := hkk.at hd.blk (hd.f_r hmem)
  obtain ⟨_, e', _, k1, _, fz⟩ := ownF_at hO5 hjf
  cases e'
  refine ⟨by rw [hnf]; exact k1, fz _, cell_of_blk hb5 0, ?_⟩
  rintro w6 rfl
  have hset := keeps_setG w5 g (j * 3 + 1) (.slice o5 (nf + nb) c5)
  have hs1 := own_setF hO5 hjf (i := 1) (by omega) (.slice o5 (nf + nb) c5) ⟨(fs.getD j rf0).nm, o5, c5, (fs.getD j rf0).bs ++ b, (fs.getD j rf0).sy⟩ (by rw [hnf, hnb]; simp [RF.cells])
  have hk6 : Keeps (fun k => k = g ∨ inO (fs.getD j rf0).o k) w (w5.setCell ⟨g, j * 3 + 1, none⟩ (.slice o5 (nf + nb) c5)) := (hkk.mono fun k hk => .inr hk).trans (hset.mono fun k e => .inl e)
  have hin : ∀ k, inO o5 k → inO (fs.getD j rf0).o k ∨ w.heap.size ≤ k := hap.in
  have hg5 : ¬ inO o5 g := fun h1 => by
    obtain ⟨cur, hc⟩ := hO5.tag g ⟨_, rfl, rfl⟩
    exact ho.ne hc (by decide) h1
  refine ⟨⟨some ⟨g, 0, none⟩, cF, _, hd.upd hjf (f' := ⟨(fs.getD j rf0).nm, o5, c5, (fs.getD j rf0).bs ++ b, (fs.getD j rf0).sy⟩) rfl hs1 hk6 (ho.keeps hset (fun k h1 e => by subst e; exact hg5 h1)) hin (fun k hk => .inl hk) (fun k hk => ?_) (fun k hk => ?_) hok⟩, hk6.mono fun k hk => ?_⟩
  · rcases hin k hk with h1 | h1
    · exact .inl (hd.ff _ hmem k h1)
    · exact .inr ⟨h1, Nat.lt_of_lt_of_le (ho.lt k hk) hset.size⟩
  · rcases hk with h1 | h1
    · exact Nat.lt_of_lt_of_le (hd.lt k h1) hk6.size
    · exact h1.2
  · rcases hk with rfl | h1
    · exact hd.fo _ ⟨_, rfl, rfl⟩
    · exact hd.ff _ hmem k h1
end Go.Proofs.YtdemoghlibnooaaGreatDoor
namespace Go.Proofs.YtdemoghlibnooaaGreatDoor
open Go.RowKit Dk
set_option linter.unusedVariables false
set_option linter.unusedSimpArgs false
theorem rapp_end2 {w w5 : World} {r : Nat} {F : Nat → Prop} {t : St} {g cF : Nat} {fs : List RF} {j : Nat} {b : List UInt8} {o5 : Option Addr} {c5 nf nb : Nat} {f : RF} {n : Nm} {N : Nat} (hN : N = fs.length) (hd : RDW w r F t (some ⟨g, 0, none⟩) cF fs) (hjf : j < fs.length) (hf : f = fs.getD j rf0) (hnf : nf = f.bs.length) (hn : f.nm.data.toList = n) (hnb : nb = b.length)
    (hok : Ok { t with fs := put n ⟨f.bs ++ b, f.sy⟩ t.fs }) (ho : OwW w5 o5 c5 (f.bs ++ b)) (hap : Ap w.drew f.o o5 w5) :
    w5.cell? ⟨g, j * 3 + 1, none⟩ = some (.slice f.o nf f.c) ∧ w5.frozen? ⟨g, j * 3 + 1, none⟩ = false ∧ w5.cell? ⟨r, 0, none⟩ = some (.slice (some ⟨g, 0, none⟩) N cF) ∧
    Hid (IsRd (w5.setCell ⟨g, j * 3 + 1, none⟩ (.slice o5 (nf + nb) c5)) r (grow F w (w5.setCell ⟨g, j * 3 + 1, none⟩ (.slice o5 (nf + nb) c5))) { t with fs := put n ⟨f.bs ++ b, f.sy⟩ t.fs } ∧ Keeps F w (w5.setCell ⟨g, j * 3 + 1, none⟩ (.slice o5 (nf + nb) c5))) := by
  subst hf hn hN
  have h := rapp_end hd hjf hnf hnb ho hap hok
  exact ⟨h.1, h.2.1, h.2.2.1, h.2.2.2 _ rfl⟩
theorem IsRd.grow2 {w w1 w2 w' : World} {r : Nat} {F : Nat → Prop} {s : St} (h : IsRd w' r (YtdemoghlibnooaaGreatDoor.grow (YtdemoghlibnooaaGreatDoor.grow F w1 w2) w2 w') s) (hs : w.heap.size ≤ w1.heap.size) (hs2 : w1.heap.size ≤ w2.heap.size) : IsRd w' r (YtdemoghlibnooaaGreatDoor.grow F w w') s := by
  obtain ⟨oF, cF, fs, h⟩ := h
  refine ⟨oF, cF, fs, h.wide (fun k hk => ?_) (fun k hk => by rcases hk with h1 | h1; exact h.lt k (.inl (.inl h1)); exact h1.2)⟩
  have hl := h.lt k hk
  rcases hk with (h1 | h1) | h1
  · exact .inl h1
  · exact .inr ⟨by have := h1.1; omega, hl⟩
  · exact .inr ⟨by have := h1.1; omega, hl⟩
set_option maxRecDepth 100000 in
set_option maxHeartbeats 0 in
theorem rappend_any (w : World) (r : Nat) (F : Nat → Prop) (s : St) (n : Tx) (ob : Option Addr) (nb cb : Nat) (b : List UInt8) (h : IsRd w r F s) (hnb : nb = b.length) (hnil : ob = none → cb = 0) (hrow : ∀ w', Keeps F w w' → Row BU w' ob b)
    (hlen : b.length ≤ 140737488355328) (hfit : ∀ f, find n.data.toList (tick s).fs = some f → f.bs.length + b.length ≤ 140737488355328) :
    Calls Tryz.prog 28 #[.pointer (some ⟨r, 0, none⟩), .string n, .slice ob nb cb] w fun e w' => e = .returned (.int .i64 (counted s (appendOn n.data.toList b)).2) ∧ IsRd w' r (grow F w w') (counted s (appendOn n.data.toList b)).1 ∧ Keeps F w w' := by
  obtain ⟨t, ht⟩ : ∃ t, t = tick s := ⟨_, rfl⟩
  rw [counted_cT, ← ht]
  rw [← ht] at hfit
  have HT : Hid (t = tick s) := ht
  have HNB : Hid (nb = b.length) := hnb
  have HROW : Hid (∀ w', Keeps F w w' → Row BU w' ob b) := hrow
  have HFIT : Hid (b.length ≤ 140737488355328 ∧ ∀ f, find n.data.toList t.fs = some f → f.bs.length + b.length ≤ 140737488355328) := ⟨hlen, hfit⟩
  have HNIL : Hid (ob = none → cb = 0) := hnil
  have hnb1 : nb ≤ 140737488355328 := by omega
  clear ht hnb hrow hlen hfit hnil
  go_enter Tryz.func28, Tryz.ntmps28
  go_wp2_with fail
  refine (rcounted_any w r F s h).mono ?_
  rw [← HT.out]
  rintro e w1 ⟨rfl, h1, HK⟩
  cases ho : t.off with
  | true =>
    go_wp2
    go_ret
    rw [cT_off ho]
    exact ⟨rfl, h1.grow, HK⟩
  | false =>
  go_wp2_with fail
  refine (named_any w1 n).mono ?_
  rintro e w1' ⟨rfl, e2⟩
  subst w1'
  cases hg : good n.data.toList with
  | false =>
    go_wp2
    go_ret
    rw [cT_on ho, appendOn, hg]
    exact ⟨rfl, h1.grow, HK⟩
  | true =>
  go_wp2_with fail
  refine (at_any w1 r F t n h1).mono ?_
  rintro e w2 ⟨v, rfl, hv, hw⟩
  subst w2
  have h1' := h1
  obtain ⟨oF, cF, fs, hd⟩ := h1
  obtain ⟨N, hN⟩ : ∃ N, N = fs.length := ⟨_, rfl⟩
  have c0 : w1.cell? ⟨r, 0, none⟩ = some (.slice oF N cF) := by rw [hN]; exact cell_of_blk hd.blk 0
  have c2 : w1.cell? ⟨r, 2, none⟩ = some (.int .i64 ((t.ref : Nat) : Int)) := cell_of_blk hd.blk 2
  have f2 : w1.frozen? ⟨r, 2, none⟩ = false := frozen_of_blk hd.blk 2
  have hri := hd.ri
  have HN : Hid (N = fs.length) := hN
  have HLN : Hid (t.fs.length = N) := (show _ = _ by rw [hN, hd.len])
  have h16 : N ≤ 16 := by have := hd.ok.len; have := hd.len; omega
  have HD : Hid (RDW w1 r F t oF cF fs) := hd
  have HI : Hid (IsRd w1 r F t) := h1'
  have HOK : Hid (Ok (appendOn n.data.toList b t).1) := appendOn_ok hd.ok
  have hset := keeps_setG w1 r 2 (.int .i64 ((t.ref : Int) - 1))
  have HRM : Hid (0 < t.ref → IsRd (w1.setCell ⟨r, 2, none⟩ (.int .i64 ((t.ref : Int) - 1))) r F { t with ref := t.ref - 1 } ∧ Keeps F w1 (w1.setCell ⟨r, 2, none⟩ (.int .i64 ((t.ref : Int) - 1)))) := (show _ from fun hp => by
    refine ⟨⟨oF, cF, fs, hd.cells hset ?_ rfl (ok_ref hd.ok _) hd.ci hd.ki (by have := hd.ri; simp; omega)⟩, hset.mono fun k e => by subst e; exact hd.fr⟩
    have : ((t.ref : Int) - 1) = ((t.ref - 1 : Nat) : Int) := by omega
    rw [this]
    exact blk_set hd.blk 2 _)
  obtain ⟨R, hR⟩ : ∃ R, R = t.ref := ⟨_, rfl⟩
  rw [← hR] at c2 hri HRM
  have HR : Hid (R = t.ref) := hR
  clear hd hN h1' hset hR
  by_cases hroom : 0 < nb ∧ 0 < R
  · have HRR := HRM.out hroom.2
    obtain ⟨r1, r2⟩ := hroom
    have HNO : Hid (noRoom b t = true) := (show noRoom b t = true by simp [noRoom]; have := HNB.out; have := HR.out; omega)
    have HRE : Hid (IsRd (w1.setCell ⟨r, 2, none⟩ (.int .i64 ((R : Int) - 1))) r F { t with ref := R - 1 } ∧ Keeps F w1 (w1.setCell ⟨r, 2, none⟩ (.int .i64 ((R : Int) - 1)))) := HRR
    clear HRR
    cases hv.out with
    | miss j hj lo hi =>
      have HF : Hid (find n.data.toList t.fs = none) := miss_find lo hi
      have hjN : j ≤ N := by have := HLN.out; omega
      have hneg : -1 - ((j : Nat) : Int) < 0 := by omega
      clear lo hi hv
      by_cases hfull : 16 ≤ N
      · go_wp2_with fail
        go_ret
        rw [cT_on ho, appendOn, if_pos hg, HF.out]
        simp only []
        rw [if_pos (by rw [HLN.out]; exact hfull)]
        exact ⟨rfl, HI.out.grow, HK⟩
      · go_wp2_with fail
        go_ret
        rw [cT_on ho, appendOn, if_pos hg, HF.out, HNO.out]
        simp only []
        rw [if_neg (by rw [HLN.out]; exact hfull)]
        refine ⟨rfl, ?_, HK.trans HRE.out.2⟩
        have := HRE.out.1
        rw [show R - 1 = t.ref - 1 by rw [HR.out]] at this
        exact this.grow
    | hit j hj hn =>
      have HF : Hid (find n.data.toList t.fs = some t.fs[j].2) := hit_find HI.out.ok.inc hj hn
      have hjN : j < N := by have := HLN.out; omega
      clear hv hn
      go_wp2_with fail
      go_ret
      rw [cT_on ho, appendOn, if_pos hg, HF.out, HNO.out]
      refine ⟨rfl, ?_, HK.trans HRE.out.2⟩
      have := HRE.out.1
      rw [show R - 1 = t.ref - 1 by rw [HR.out]] at this
      exact this.grow
  · have HNO : Hid (noRoom b t = false) := (show noRoom b t = false by simp [noRoom]; have := HNB.out; have := HR.out; omega)
    clear HRM f2
    have hroom' : (decide (0 < (nb : Int)) && decide (0 < (R : Int))) = false := by simp; omega
    cases hv.out with
    | miss j hj lo hi =>
      have HF : Hid (find n.data.toList t.fs = none) := miss_find lo hi
      have hjN : j ≤ N := by have := HLN.out; omega
      have hneg : -1 - ((j : Nat) : Int) < 0 := by omega
      clear lo hi hv
      by_cases hfull : 16 ≤ N
      · go_wp2_with fail
        go_ret
        rw [cT_on ho, appendOn, if_pos hg, HF.out]
        simp only []
        rw [if_pos (by rw [HLN.out]; exact hfull)]
        exact ⟨rfl, HI.out.grow, HK⟩
      · have HOK1 : Hid (Ok { t with fs := put n.data.toList ⟨[], 0⟩ t.fs }) := (show Ok { t with fs := put n.data.toList ⟨[], 0⟩ t.fs } by
          have := appendOn_ok (n := n.data.toList) (b := []) HD.out.ok
          rw [appendOn, if_pos hg, HF.out] at this
          simp only [] at this
          rw [if_neg (by rw [HLN.out]; exact hfull)] at this
          exact this)
        have HOK3 : Hid (Ok { t with fs := put n.data.toList ⟨b, 0⟩ t.fs }) := (show Ok { t with fs := put n.data.toList ⟨b, 0⟩ t.fs } by
          have := HOK.out
          rw [appendOn, if_pos hg, HF.out, HNO.out] at this
          simp only [] at this
          rw [if_neg (by rw [HLN.out]; exact hfull)] at this
          exact this)
        have HFit : Hid (Fit w1 F fs ⟨n, none, 0, [], 0⟩) := ⟨(own_nil _).ow, fun _ _ _ k hk => (show inO none k → _ from fun h => (by obtain ⟨_, e, _⟩ := h; cases e)) hk, fun k hk => (show inO none k → _ from fun h => (by obtain ⟨_, e, _⟩ := h; cases e)) hk⟩
        go_wp2_with fail
        all_goals refine (put_any w1 r F t oF cF fs ⟨n, none, 0, [], 0⟩ 0 rfl HD.out HFit.out HOK1.out).mono ?_
        all_goals
          (rintro e w2 ⟨rfl, h2, hk2⟩
           have HK2 : Hid (Keeps F w1 w2) := hk2
           have H2 : Hid (IsRd w2 r (grow F w1 w2) { t with fs := put n.data.toList ⟨[], 0⟩ t.fs }) := h2
           clear hk2 h2
           go_wp2_with fail)
        all_goals refine (at_any w2 r _ _ n H2.out).mono ?_
        all_goals rintro e w3 ⟨v, rfl, hv, hw⟩
        all_goals subst w3
        all_goals obtain ⟨t2, ht2⟩ : ∃ t2 : St, t2 = { t with fs := put n.data.toList ⟨[], 0⟩ t.fs } := ⟨_, rfl⟩
        all_goals rw [← ht2] at H2 hv
        all_goals cases hv.out with
        | miss j hj lo hi =>
          exfalso
          have := miss_find lo hi
          rw [ht2] at this
          simp [find_put_same] at this
        | hit j hj hn =>
          have HFF := hit_find H2.out.ok.inc hj hn
          obtain ⟨oG, cG, gs, hd⟩ := H2.out
          obtain ⟨hjf, hent⟩ := hd.at hj
          rw [hent] at HFF hn
          obtain ⟨g, hog, d0, d1, d2, fz⟩ := ownF_at hd.own hjf
          subst hog
          have hmem := getD_mem gs j rf0 hjf
          have hz : (gs.getD j rf0).bs = [] ∧ (gs.getD j rf0).sy = 0 := by
            rw [ht2] at HFF
            simp only [find_put_same] at HFF
            have := Option.some.inj HFF
            exact ⟨(congrArg Fl.bs this).symm, (congrArg Fl.sy this).symm⟩
          have HE : Hid ((gs.getD j rf0).nm.data.toList = n.data.toList) := hn
          have HOW : Hid (OwW w2.drew (gs.getD j rf0).o (gs.getD j rf0).c []) := (show OwW w2.drew (gs.getD j rf0).o (gs.getD j rf0).c [] by rw [← hz.1]; exact (hd.each _ hmem).keepsN (Keeps.refl _ _).drew)
          have HRB : Hid (Row BU w2.drew ob b) := HROW.out _ (HK.trans HK2.out).drew
          have HZ : Hid ((gs.getD j rf0).bs = [] ∧ (gs.getD j rf0).sy = 0) := hz
          have HDG : Hid (RDW w2 r (grow F w1 w2) t2 (some ⟨g, 0, none⟩) cG gs) := hd
          have HT2 : Hid (t2 = { t with fs := put n.data.toList ⟨[], 0⟩ t.fs }) := ht2
          obtain ⟨M, hM⟩ : ∃ M, M = gs.length := ⟨_, rfl⟩
          have c9 : w2.cell? ⟨r, 0, none⟩ = some (.slice (some ⟨g, 0, none⟩) M cG) := by rw [hM]; exact cell_of_blk hd.blk 0
          have HM : Hid (M = gs.length) := hM
          have hjM : j < M := by omega
          have hM16 : M ≤ 16 := by have := hd.ok.len; have := hd.len; omega
          rw [hz.1] at d1
          have HJ : Hid (j < gs.length) := hjf
          obtain ⟨f, hfe⟩ : ∃ f, f = gs.getD j rf0 := ⟨_, rfl⟩
          have HFE : Hid (f = gs.getD j rf0) := hfe
          rw [← hfe] at HE HOW HZ d1
          have HOK2 : Hid (Ok { t2 with fs := put n.data.toList ⟨f.bs ++ b, f.sy⟩ t2.fs }) := (show Ok { t2 with fs := put n.data.toList ⟨f.bs ++ b, f.sy⟩ t2.fs } by
            rw [HT2.out, HZ.out.1, HZ.out.2]
            simp only []
            rw [put_put HD.out.ok.inc]
            exact HOK3.out)
          have HNF : Hid (0 = f.bs.length) := (show 0 = f.bs.length by rw [HZ.out.1]; rfl)
          clear HFF hn hfe hmem hent hv d0 d2 fz hjf hz hd ht2 hM c0
          go_wp2_with fail
          go_region_law (refine step_apO rfl (.tmp 64) (.tmp 65) rfl f.o 0 f.c [] ?_ rfl HOW.out ob nb cb b ?_ HNB.out HNIL.out HRB.out (by have := HFIT.out.1; simpa using this) ?_; rfl; rfl; intro o5 c5 w5 ho5 hap5; obtain ⟨x1, x2, x3, HY⟩ := rapp_end2 HM.out HDG.out HJ.out HFE.out HNF.out HE.out HNB.out HOK2.out (by rw [HZ.out.1]; exact ho5) hap5; clear ho5 hap5)
          all_goals
            (go_wp2_with fail
             go_ret
             rw [cT_on ho, appendOn, if_pos hg, HF.out, HNO.out]
             simp only []
             rw [if_neg (by rw [HLN.out]; exact hfull)]
             have h6 := HY.out
             rw [HT2.out, HZ.out.1, HZ.out.2, Nat.zero_add, List.nil_append] at h6
             simp only [] at h6
             rw [put_put HD.out.ok.inc] at h6
             exact ⟨rfl, h6.1.grow2 HK.size HK2.out.size, HK.trans (HK2.out.then h6.2 (fun k hk => by rcases hk with h | h; exact .inl h; exact .inr h.1))⟩)
    | hit j hj hn =>
      obtain ⟨hjf, hent⟩ := HD.out.at hj
      have HFF := hit_find HI.out.ok.inc hj hn
      rw [hent] at HFF hn
      obtain ⟨g, hog, d0, d1, d2, fz⟩ := ownF_at HD.out.own hjf
      subst hog
      have hmem := getD_mem fs j rf0 hjf
      obtain ⟨nf, hnf⟩ : ∃ nf, nf = (fs.getD j rf0).bs.length := ⟨_, rfl⟩
      have HOK2 : Hid (Ok { t with fs := put n.data.toList ⟨(fs.getD j rf0).bs ++ b, (fs.getD j rf0).sy⟩ t.fs }) := (show Ok { t with fs := put n.data.toList ⟨(fs.getD j rf0).bs ++ b, (fs.getD j rf0).sy⟩ t.fs } by
        have := HOK.out
        rw [appendOn, if_pos hg, HFF, HNO.out] at this
        exact this)
      have HJ : Hid (j < fs.length) := hjf
      have HE : Hid (find n.data.toList t.fs = some ⟨(fs.getD j rf0).bs, (fs.getD j rf0).sy⟩ ∧ (fs.getD j rf0).nm.data.toList = n.data.toList) := ⟨HFF, hn⟩
      have HB : Hid ((fs.getD j rf0).bs.length + b.length ≤ 140737488355328) := HFIT.out.2 _ HFF
      have HOW : Hid (OwW w1.drew (fs.getD j rf0).o (fs.getD j rf0).c (fs.getD j rf0).bs) := (HD.out.each _ hmem).keepsN (Keeps.refl _ _).drew
      have HRB : Hid (Row BU w1.drew ob b) := HROW.out _ HK.drew
      have HNF : Hid (nf = (fs.getD j rf0).bs.length) := hnf
      have hjN : j < N := by have := HN.out; omega
      rw [← hnf] at d1
      obtain ⟨f, hfe⟩ : ∃ f, f = fs.getD j rf0 := ⟨_, rfl⟩
      have HFE : Hid (f = fs.getD j rf0) := hfe
      rw [← hfe] at HE HB HOW HNF d1 HOK2
      clear HFF hn hnf hfe hmem hent hv d0 d2 fz hjf
      go_wp2_with fail
      all_goals go_region_law (refine step_apO rfl (.tmp 64) (.tmp 65) rfl f.o nf f.c f.bs ?_ HNF.out HOW.out ob nb cb b ?_ HNB.out HNIL.out HRB.out HB.out ?_; rfl; rfl; intro o5 c5 w5 ho5 hap5; obtain ⟨x1, x2, x3, HY⟩ := rapp_end2 HN.out HD.out HJ.out HFE.out HNF.out HE.out.2 HNB.out HOK2.out ho5 hap5; clear ho5 hap5)
      all_goals go_wp2_with fail
      all_goals
        (go_ret
         rw [cT_on ho, appendOn, if_pos hg, HE.out.1, HNO.out]
         exact ⟨rfl, HY.out.1.regrow HK.size, HK.trans HY.out.2⟩)
end Go.Proofs.YtdemoghlibnooaaGreatDoor
