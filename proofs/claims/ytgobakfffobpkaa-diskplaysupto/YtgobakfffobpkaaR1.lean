/- The document's disk in memory: a block, a list of files, a slice of bytes a file. -/
import Derived.Test.YtgobakfffobpkaaT7
import Derived.Deep.Upon
namespace Go.Proofs.Ytgobakfffobpkaa
open Go.RowKit Dk
set_option linter.unusedVariables false
set_option linter.unusedSimpArgs false

structure RF where
  nm : Tx
  o : Option Addr
  c : Nat
  bs : List UInt8
  sy : Nat
def rf0 : RF := ⟨⟨#[]⟩, none, 0, [], 0⟩
def RF.ent (f : RF) : Nm × Fl := (f.nm.data.toList, ⟨f.bs, f.sy⟩)
def RF.cells (f : RF) : List Value := [.string f.nm, .slice f.o f.bs.length f.c, .int .i64 ((f.sy : Nat) : Int)]
def FE : El RF := ⟨97, 80, 3, 48, RF.cells⟩
theorem info97 : (Try.prog.info? 97).map (fun i => (i.zero, i.size, i.bytes)) = some (some (.agg #[.string ⟨#[]⟩, .slice none 0 0, .int .i64 0]), 3, 48) := by kernel_rfl
theorem okF : FE.Ok := by
  obtain ⟨i0, hi, hz0, hz1, hz2⟩ := info_parts info97
  exact ⟨fun _ => rfl, fun x u hu => by simp [FE, RF.cells] at hu; rcases hu with rfl | rfl | rfl <;> rfl, by decide, Try.underlying80, i0, _, hi, hz0, hz1, hz2, rfl⟩

/-- bytes that a file of the document's holds: a slice of its own, or one with no room left -/
structure Ow (w : World) (o : Option Addr) (c : Nat) (bs : List UInt8) : Prop where
  row : Row BE w o bs
  cap : bs.length ≤ c
  nil : o = none → c = 0
  max : c ≤ maxLen
  tag : ∀ k, inO o k → ∃ cur, w.heap[k]? = some (.cells cur 5 (0, 0))
  own : Own BE w o c bs ∨ c = bs.length
theorem Own.ow {w : World} {o : Option Addr} {c : Nat} {bs : List UInt8} (h : Own BE w o c bs) : Ow w o c bs := ⟨h.row, h.cap.1, h.cap.2, h.max, h.tag, .inl h⟩
theorem Ow.keeps {S : Nat → Prop} {w w' : World} {o : Option Addr} {c : Nat} {bs : List UInt8} (h : Ow w o c bs) (hk : Keeps S w w') (hS : ∀ k, inO o k → ¬ S k) : Ow w' o c bs :=
  ⟨h.row.keeps hk hS, h.cap, h.nil, h.max, fun k hk1 => by obtain ⟨cur, hc⟩ := h.tag k hk1; exact ⟨cur, hk.at hc (hS k hk1)⟩, by rcases h.own with h1 | h1; exact .inl (h1.keeps hk hS); exact .inr h1⟩
theorem Ow.keepsN {w w' : World} {o : Option Addr} {c : Nat} {bs : List UInt8} (h : Ow w o c bs) (hk : Keeps no w w') : Ow w' o c bs := h.keeps hk (fun _ _ => id)
theorem Ow.lt {w : World} {o : Option Addr} {c : Nat} {bs : List UInt8} (h : Ow w o c bs) : ∀ k, inO o k → k < w.heap.size := fun k hk => by obtain ⟨cur, hc⟩ := h.tag k hk; exact lt_of_block hc
theorem Ow.sl {w : World} {o : Option Addr} {c : Nat} {bs : List UInt8} (h : Ow w o c bs) : Sl BE w o c bs := ⟨h.row, h.cap, h.nil⟩
theorem Ow.cut {w : World} {o : Option Addr} {c : Nat} {bs : List UInt8} (h : Ow w o c bs) {n : Nat} (hn : n ≤ bs.length) : Ow w o n (bs.take n) :=
  ⟨h.row.take okB n, by simp; omega, fun e => by have := h.nil e; have := h.cap; omega, by have := h.cap; have := h.max; omega, h.tag, .inr (by simp; omega)⟩
theorem run_apO (w : World) (ty : TypeId) (oa : Option Addr) (c : Nat) (xs : List UInt8) (hown : Ow w oa c xs) (ox : Option Addr) (d : Nat) (news : List UInt8) (hd : ox = none → d = 0) (hrow : Row BE w ox news) (hb : xs.length + news.length ≤ 140737488355328) :
    ∃ o' c' w', (Builtin.append_ #[22, 22] ty #[.slice oa xs.length c, .slice ox news.length d]).run Try.prog w = .ok (.slice o' (xs.length + news.length) c') w' ∧ Ow w' o' c' (xs ++ news) ∧ Ap w oa o' w' := by
  rcases hown.own with h | h
  · obtain ⟨o', c', w', h1, h2, h3⟩ := run_app okB w ty oa c xs h ox d news hd hrow (by simp [BE]; omega) hb
    exact ⟨o', c', w', h1, h2.ow, h3⟩
  · obtain ⟨i0, z, hi, hz0, hz1, hz2, hz3⟩ := okB.inf
    by_cases h0 : news = []
    · subst h0
      refine ⟨oa, c, w, ?_, by simpa using hown, .inl ⟨rfl, Keeps.refl _ _⟩⟩
      have hs : Src Try.prog i0.size 22 (.slice ox 0 d) 0 [] w := by
        match ox with
        | none => exact Src.ofNil w Try.underlying22 d
        | some a => exact Src.ofSlice w Try.underlying22 a 0 d [] (by simp) (by simp) (by simp)
      exact run_append_nothing w 22 22 ty 5 i0 Try.underlying22 hi oa xs.length c hown.cap _ hs
    · rcases hrow with e | ⟨b, off, rfl, hc⟩
      · exact absurd e h0
      · have hrow' : Row BE w (some ⟨b, off, none⟩) news := .inr ⟨b, off, rfl, hc⟩
        have hpos : 0 < news.length := by cases news with | nil => exact absurd rfl h0 | cons _ _ => simp
        have hsrc : Src Try.prog i0.size 22 (.slice (some ⟨b, off, none⟩) news.length d) news.length (BE.cells news) w :=
          Src.ofSlice w Try.underlying22 _ _ _ _ (by rw [hz1, cells_length okB]) hrow'.news (cells_one okB news)
        have hold : (Builtin.firstCells i0.size xs.length (.slice oa xs.length c)).run Try.prog w.drew = .ok (BE.cells xs).toArray w.drew := by
          match oa, hown with
          | none, hown =>
            have : xs = [] := by rcases hown.row with e | ⟨b, off, e, _⟩; exact e; cases e
            subst this
            exact run_firstCells_none w.drew _ 0 0 c
          | some a, hown =>
            exact run_firstCells_some w.drew _ _ a _ c _ (by rw [hz1, cells_length okB]) (by simpa using hown.row.news)
        have hr := run_append_grow_src (P := Try.prog) w 22 22 ty 5 i0 z Try.underlying22 hi hz0 oa xs.length c (BE.cells xs) hold _ _ _ hsrc (by omega) (by have := hb; omega) (by rw [hz2]; exact growslice_fits (by omega) (by simp [BE]; omega))
        obtain ⟨C, hC⟩ : ∃ C, C = grownCap w (xs.length + news.length) c 5 := ⟨_, rfl⟩
        have hge : xs.length + news.length ≤ C := by rw [hC]; exact grownCap_ge w _ c 5
        have hcm : C ≤ maxLen := by rw [hC]; exact grownCap_le_maxLen w _ c 5 (by unfold maxLen; omega)
        rw [← hC] at hr
        refine ⟨_, C, _, hr, Own.ow (own_of_shape okB (blk_new w.drew _) (by simpa using hge) hcm ?_ ?_), .inr ⟨⟨_, rfl, Nat.le_refl _⟩, ((Keeps.refl _ w).drew).alloc _⟩⟩
        · simp only [Array.size_append, List.size_toArray, size_zeroCells, hz3, List.length_append, cells_length okB]
          simp [BE]
          omega
        · simp only [Array.toList_append]
          rw [cells_append, List.length_append, List.take_append_of_le_length (by simp [cells_length okB, Nat.add_mul])]
          rw [List.take_of_length_le (by simp [cells_length okB, Nat.add_mul])]

/-- a disk of the document's at r, with all that it holds, in the blocks of F -/
def rcells (oF : Option Addr) (n cF : Nat) (s : St) : Array Value := #[.slice oF n cF, .bool s.off, .int .i64 ((s.ref : Nat) : Int), .int .i64 s.calls, .int .i64 s.keep]
structure RD (w : World) (r : Nat) (F : Nat → Prop) (s : St) (oF : Option Addr) (cF : Nat) (fs : List RF) : Prop where
  blk : w.heap[r]? = some (.cells (rcells oF fs.length cF s) 82 (0, 0))
  own : Own FE w oF cF fs
  eq : s.fs = fs.map RF.ent
  each : ∀ f ∈ fs, Ow w f.o f.c f.bs
  apart : fs.Pairwise fun f g => ∀ k, inO f.o k → ¬ inO g.o k
  fr : F r
  fo : ∀ k, inO oF k → F k
  ff : ∀ f ∈ fs, ∀ k, inO f.o k → F k
  lt : ∀ k, F k → k < w.heap.size
  ok : Ok s
  ci : i64 s.calls
  ki : i64 s.keep
  ri : (s.ref : Int) ≤ 9223372036854775807
def IsR (w : World) (r : Nat) (F : Nat → Prop) (s : St) : Prop := ∃ oF cF fs, RD w r F s oF cF fs
variable {w w' : World} {r : Nat} {F F' : Nat → Prop} {s s' : St} {oF : Option Addr} {cF : Nat} {fs : List RF}
theorem RD.keeps {S : Nat → Prop} (h : RD w r F s oF cF fs) (hk : Keeps S w w') (hS : ∀ k, F k → ¬ S k) : RD w' r F s oF cF fs :=
  ⟨hk.at h.blk (hS r h.fr), h.own.keeps hk (fun k hk1 => hS k (h.fo k hk1)), h.eq, fun f hf => (h.each f hf).keeps hk (fun k hk1 => hS k (h.ff f hf k hk1)), h.apart, h.fr, h.fo, h.ff, fun k hk1 => Nat.lt_of_lt_of_le (h.lt k hk1) hk.size, h.ok, h.ci, h.ki, h.ri⟩
theorem IsR.keeps {S : Nat → Prop} (h : IsR w r F s) (hk : Keeps S w w') (hS : ∀ k, F k → ¬ S k) : IsR w' r F s := by
  obtain ⟨oF, cF, fs, h⟩ := h
  exact ⟨oF, cF, fs, h.keeps hk hS⟩
theorem IsR.keepsN (h : IsR w r F s) (hk : Keeps no w w') : IsR w' r F s := h.keeps hk (fun _ _ => id)
theorem IsR.ok (h : IsR w r F s) : Ok s := by obtain ⟨oF, cF, fs, h⟩ := h; exact h.ok
theorem IsR.lt (h : IsR w r F s) : ∀ k, F k → k < w.heap.size := by obtain ⟨oF, cF, fs, h⟩ := h; exact h.lt
/-- unlike kinds of blocks -/
theorem RD.o_r (h : RD w r F s oF cF fs) : ¬ inO oF r := ne_blk h.own h.blk (by decide)
theorem Ow.ne {o : Option Addr} {c : Nat} {bs : List UInt8} (h : Ow w o c bs) {b : Nat} {cs : Array Value} {t : TypeId} {fz : Nat × Nat} (hb : w.heap[b]? = some (.cells cs t fz)) (hne : 5 ≠ t) : ¬ inO o b := by
  intro hk
  obtain ⟨ca, ha⟩ := h.tag b hk
  rw [ha] at hb
  injection hb with hb
  injection hb with _ hb _
  exact hne hb
theorem Ow.neO {α : Type} {E : El α} {o o' : Option Addr} {c c' : Nat} {bs : List UInt8} {xs : List α} (h : Ow w o c bs) (h' : Own E w o' c' xs) (hne : 5 ≠ E.e) : ∀ k, inO o k → ¬ inO o' k := by
  intro k hk hk'
  obtain ⟨cb, hb⟩ := h'.tag k hk'
  exact h.ne hb hne hk
theorem RD.f_r (h : RD w r F s oF cF fs) {f : RF} (hf : f ∈ fs) : ¬ inO f.o r := (h.each f hf).ne h.blk (by decide)
theorem RD.f_o (h : RD w r F s oF cF fs) {f : RF} (hf : f ∈ fs) : ∀ k, inO f.o k → ¬ inO oF k := (h.each f hf).neO h.own (by decide)
/-- the cells of the disk's own block alone -/
theorem RD.cells (h : RD w r F s oF cF fs) (hk : Keeps (fun k => k = r) w w') (hb : w'.heap[r]? = some (.cells (rcells oF fs.length cF s') 82 (0, 0))) (hfs : s'.fs = s.fs) (hok : Ok s') (hci : i64 s'.calls) (hki : i64 s'.keep) (hri : (s'.ref : Int) ≤ 9223372036854775807) : RD w' r F s' oF cF fs :=
  ⟨hb, h.own.keeps hk (fun k h1 e => by subst e; exact h.o_r h1), hfs.trans h.eq, fun f hf => (h.each f hf).keeps hk (fun k h1 e => by subst e; exact h.f_r hf h1), h.apart, h.fr, h.fo, h.ff, fun k hk1 => Nat.lt_of_lt_of_le (h.lt k hk1) hk.size, hok, hci, hki, hri⟩

/-! ### the power -/
theorem rdown_any (w : World) (r : Nat) (F : Nat → Prop) (s : St) (h : IsR w r F s) :
    Calls Try.prog 34 #[.pointer (some ⟨r, 0, none⟩)] w fun e w' => e = .returned (.bool s.off) ∧ w' = w := by
  obtain ⟨oF, cF, fs, h⟩ := h
  have c1 : w.cell? ⟨r, 1, none⟩ = some (.bool s.off) := cell_of_blk h.blk 1
  go_enter Try.func34, Try.ntmps34
  go_wp2
  go_ret
  exact ⟨rfl, rfl⟩
theorem rup_any (w : World) (r : Nat) (F : Nat → Prop) (s : St) (h : IsR w r F s) :
    Calls Try.prog 53 #[.pointer (some ⟨r, 0, none⟩)] w fun e w' => e = .returned (.tuple #[]) ∧ IsR w' r F (up s) ∧ Keeps F w w' := by
  obtain ⟨oF, cF, fs, h⟩ := h
  have c1 : w.cell? ⟨r, 1, none⟩ = some (.bool s.off) := cell_of_blk h.blk 1
  have c3 : w.cell? ⟨r, 3, none⟩ = some (.int .i64 s.calls) := cell_of_blk h.blk 3
  have f1 : w.frozen? ⟨r, 1, none⟩ = false := frozen_of_blk h.blk 1
  have f3 : w.frozen? ⟨r, 3, none⟩ = false := frozen_of_blk h.blk 3
  go_enter Try.func53, Try.ntmps53
  go_wp2
  go_end0
  have hk := (keeps_set w r 1 (.bool false)).trans (keeps_set _ r 3 (.int .i64 (-1)))
  refine ⟨rfl, ⟨oF, cF, fs, h.cells hk ?_ rfl (up_ok h.ok) (by simp [up, i64]) h.ki h.ri⟩, hk.mono (fun i e => by subst e; exact h.fr)⟩
  exact blk_set (blk_set h.blk 1 (.bool false)) 3 (.int .i64 (-1))
theorem rarm_any (w : World) (r : Nat) (F : Nat → Prop) (s : St) (h : IsR w r F s) (n k : Int) (hn : i64 n) (hk : i64 k) :
    Calls Try.prog 55 #[.pointer (some ⟨r, 0, none⟩), .int .i64 n, .int .i64 k] w fun e w' => e = .returned (.tuple #[]) ∧ IsR w' r F (arm n k s) ∧ Keeps F w w' := by
  obtain ⟨oF, cF, fs, h⟩ := h
  have c3 : w.cell? ⟨r, 3, none⟩ = some (.int .i64 s.calls) := cell_of_blk h.blk 3
  have c4 : w.cell? ⟨r, 4, none⟩ = some (.int .i64 s.keep) := cell_of_blk h.blk 4
  have f3 : w.frozen? ⟨r, 3, none⟩ = false := frozen_of_blk h.blk 3
  have f4 : w.frozen? ⟨r, 4, none⟩ = false := frozen_of_blk h.blk 4
  have n1 := hn.1
  have n2 := hn.2
  go_enter Try.func55, Try.ntmps55
  go_wp2
  go_end0
  have hk' := (keeps_set w r 3 (.int .i64 (max n (-1)))).trans (keeps_set _ r 4 (.int .i64 k))
  refine ⟨rfl, ⟨oF, cF, fs, h.cells hk' ?_ rfl (arm_ok h.ok) (by simp [arm, i64]; omega) hk h.ri⟩, hk'.mono (fun i e => by subst e; exact h.fr)⟩
  exact blk_set (blk_set h.blk 3 (.int .i64 (max n (-1)))) 4 (.int .i64 k)
theorem rfull_any (w : World) (r : Nat) (F : Nat → Prop) (s : St) (h : IsR w r F s) (n : Int) (hn : i64 n) :
    Calls Try.prog 54 #[.pointer (some ⟨r, 0, none⟩), .int .i64 n] w fun e w' => e = .returned (.tuple #[]) ∧ IsR w' r F (full n s) ∧ Keeps F w w' := by
  obtain ⟨oF, cF, fs, h⟩ := h
  have c2 : w.cell? ⟨r, 2, none⟩ = some (.int .i64 ((s.ref : Nat) : Int)) := cell_of_blk h.blk 2
  have f2 : w.frozen? ⟨r, 2, none⟩ = false := frozen_of_blk h.blk 2
  have HE : Hid (max n 0 = ((n.toNat : Nat) : Int)) := (show _ = _ by omega)
  go_enter Try.func54, Try.ntmps54
  go_wp2
  go_end0
  rw [HE.out]
  have hk := keeps_set w r 2 (.int .i64 ((n.toNat : Nat) : Int))
  refine ⟨rfl, ⟨oF, cF, fs, h.cells hk ?_ rfl (full_ok h.ok) h.ci h.ki (by have := hn.2; simp [full]; omega)⟩, hk.mono (fun i e => by subst e; exact h.fr)⟩
  exact blk_set h.blk 2 (.int .i64 ((n.toNat : Nat) : Int))
theorem rnew_any (w : World) : Calls Try.prog 32 #[] w fun e w' => ∃ r, e = .returned (.pointer (some ⟨r, 0, none⟩)) ∧ IsR w' r (fun k => w.heap.size ≤ k ∧ k < w'.heap.size) Dk.new ∧ Keeps no w w' := by
  go_enter Try.func32, Try.ntmps32
  go_wp2
  go_ret
  refine ⟨_, rfl, ⟨none, 0, [], ?_⟩, (Keeps.refl _ _).alloc _⟩
  refine ⟨blk_new w _, own_nil _, rfl, by simp, List.Pairwise.nil, by simp, (by rintro k ⟨x, e, _⟩; cases e), by simp, fun k hk => hk.2, new_ok, by simp [new, i64], by simp [new, i64], by simp [new]⟩
end Go.Proofs.Ytgobakfffobpkaa
