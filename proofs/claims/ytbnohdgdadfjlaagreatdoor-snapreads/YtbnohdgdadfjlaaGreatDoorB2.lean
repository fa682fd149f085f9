import Derived.Test.YtbnohdgdadfjlaaGreatDoorB1
import Derived.Lib.QuietBelow
import Derived.BigQuiet
import Derived.Deep.RegionLaw
/- Regions that draw and only read, their callees laying new blocks alone. -/
namespace Go.Proofs.YtbnohdgdadfjlaaGreatDoor
open Go.RowKit
set_option linter.unusedVariables false
set_option linter.unusedSimpArgs false
theorem keeps_grownQ (W : World) (d : Nat) (os : Array Obj) : Keeps no W (Sort.grow (redrawn W d) os) := Keeps.of_below (below_regrown W d os)
theorem grown_keepsQ {W X : World} (h : Keeps no W X) : ∃ p : Regrown, X = Sort.grow (redrawn W p.d) p.os := regrown_of_below (h.below (Nat.le_refl _) (fun _ h => h.elim))
theorem call_grown {f : FuncId} {args : Array Value} {W : World} {v : Value} (h : ∀ X, Keeps no W X → Calls Tryz.prog f args X fun e w' => e = .returned v ∧ Keeps no X w') (d : Nat) (os : Array Obj) :
    Calls Tryz.prog f args (Sort.grow (redrawn W d) os) fun e w'' => e = .returned v ∧ ∃ p : Regrown, w'' = Sort.grow (redrawn W p.d) p.os :=
  (h _ (keeps_grownQ W d os)).mono fun e w' ⟨he, hk⟩ => ⟨he, grown_keepsQ ((keeps_grownQ W d os).trans hk)⟩
end Go.Proofs.YtbnohdgdadfjlaaGreatDoor
/- The heap's methods. -/
namespace Go.Proofs.YtbnohdgdadfjlaaGreatDoor
open Go.RowKit
set_option linter.unusedVariables false
set_option linter.unusedSimpArgs false
theorem cells_I (l : List Nat) : IE.cells l = l.map fun (n : Nat) => Value.int .u64 (n : Int) := by
  induction l with
  | nil => rfl
  | cons x r ih => simp [El.cells, IE] at ih ⊢; exact ih
theorem Own.setI {w : World} {g c : Nat} {l : List Nat} (h : Own IE w (some ⟨g, 0, none⟩) c l) {i : Nat} (hi : i < l.length) (v : Nat) :
    Own IE (w.setCell ⟨g, i, none⟩ (.int .u64 (v : Int))) (some ⟨g, 0, none⟩) c (l.set i v) := by
  rcases h.shape with ⟨e, _⟩ | ⟨g', cur, e, hg, h2, h3, h4, h5⟩
  · cases e
  · cases e
    refine own_of_shape okI (blk_set hg i _) (by simp; exact h2) h3 (by simpa using h4) ?_
    rw [cells_I] at h5 ⊢
    have hk : IE.k = 1 := rfl
    rw [hk, Nat.mul_one] at h5 ⊢
    have h4' : cur.size = c := by simpa [hk] using h4
    rw [List.length_set, Array.toList_setIfInBounds, List.take_set, h5, List.map_set]
theorem Own.g0 {α : Type} {E : El α} {w : World} {o : Option Addr} {c : Nat} {xs : List α} (h : Own E w o c xs) (hl : 0 < xs.length) : ∃ g, o = some ⟨g, 0, none⟩ := by
  rcases h.shape with ⟨_, _, e⟩ | ⟨g, cur, e, _⟩
  · rw [e] at hl; simp at hl
  · exact ⟨g, e⟩
theorem ownI_cell {w : World} {g c : Nat} {l : List Nat} (h : Own IE w (some ⟨g, 0, none⟩) c l) {i : Nat} (hi : i < l.length) : w.cell? ⟨g, i, none⟩ = some (.int .u64 ((l.getD i 0 : Nat) : Int)) ∧ w.frozen? ⟨g, i, none⟩ = false := by
  obtain ⟨b, off, e, hc⟩ := h.sl.atI hi
  cases e
  rw [Nat.zero_add] at hc
  refine ⟨hc, ?_⟩
  rcases h.shape with ⟨e, _⟩ | ⟨g', cur, e, hg, _⟩
  · cases e
  · cases e; exact frozen_of_blk hg i

theorem len_ids (w : World) (o : Option Addr) (n c : Nat) : Calls Tryz.prog 202 #[.slice o n c] w fun e w' => e = .returned (.int .i64 ((n : Nat) : Int)) ∧ w' = w := by
  go_enter Tryz.func202, Tryz.ntmps202
  go_wp2
  go_ret
  exact ⟨rfl, rfl⟩
theorem less_ids (w : World) (g n c : Nat) (l : List Nat) (h : Own IE w (some ⟨g, 0, none⟩) c l) (hn : n = l.length) (hl : (n : Int) ≤ 140737488355328) (i j : Nat) (hi : i < n) (hj : j < n) :
    Calls Tryz.prog 203 #[.slice (some ⟨g, 0, none⟩) n c, .int .i64 ((i : Nat) : Int), .int .i64 ((j : Nat) : Int)] w fun e w' => e = .returned (.bool (decide (l.getD i 0 < l.getD j 0))) ∧ Keeps no w w' := by
  have c1 := (ownI_cell h (i := i) (by omega)).1
  have c2 := (ownI_cell h (i := j) (by omega)).1
  have hi' : (i : Int) < n := by omega
  have hj' : (j : Int) < n := by omega
  generalize l.getD i 0 = x at c1 ⊢
  generalize l.getD j 0 = y at c2 ⊢
  clear h hn hi hj
  go_enter Tryz.func203, Tryz.ntmps203
  go_wp2_with fail
  go_quiet (fail)
  go_wp2_with fail
  go_ret
  exact ⟨rfl, (Keeps.refl _ _).drewN _⟩
theorem swap_ids (w : World) (g n c : Nat) (l : List Nat) (h : Own IE w (some ⟨g, 0, none⟩) c l) (hn : n = l.length) (hl : (n : Int) ≤ 140737488355328) (i j : Nat) (hi : i < n) (hj : j < n) :
    Calls Tryz.prog 204 #[.slice (some ⟨g, 0, none⟩) n c, .int .i64 ((i : Nat) : Int), .int .i64 ((j : Nat) : Int)] w fun e w' => e = .returned (.tuple #[]) ∧ Own IE w' (some ⟨g, 0, none⟩) c (Hp.swp l i j) ∧ Keeps (fun b => b = g) w w' := by
  obtain ⟨c1, f1⟩ := ownI_cell h (i := i) (by omega)
  obtain ⟨c2, f2⟩ := ownI_cell h (i := j) (by omega)
  have hi' : (i : Int) < n := by omega
  have hj' : (j : Int) < n := by omega
  have HO : Hid (Own IE ((w.setCell ⟨g, i, none⟩ (.int .u64 ((l.getD j 0 : Nat) : Int))).setCell ⟨g, j, none⟩ (.int .u64 ((l.getD i 0 : Nat) : Int))).drew (some ⟨g, 0, none⟩) c (Hp.swp l i j) ∧ Keeps (fun b => b = g) w ((w.setCell ⟨g, i, none⟩ (.int .u64 ((l.getD j 0 : Nat) : Int))).setCell ⟨g, j, none⟩ (.int .u64 ((l.getD i 0 : Nat) : Int))).drew) := by
    have h1 := (h.setI (i := i) (by omega) (l.getD j 0)).setI (i := j) (by simp; omega) (l.getD i 0)
    refine ⟨h1.keepsN (Keeps.refl no _).drew, ?_⟩
    exact (((Keeps.refl (fun b => b = g) w).setCell (p := ⟨g, i, none⟩) (.inl rfl) _).setCell (p := ⟨g, j, none⟩) (.inl rfl) _).drew
  by_cases e : i = j
  · subst e
    generalize l.getD i 0 = x at c1 HO
    clear h hn hi hj c2 f2
    go_enter Tryz.func204, Tryz.ntmps204
    go_wp2_with fail
    go_region_with (fail)
    all_goals go_wp2_with fail
    all_goals go_end0
    all_goals exact ⟨rfl, HO.out⟩
  · have e' : ¬ j = i := fun h => e h.symm
    generalize l.getD i 0 = x at c1 HO
    generalize l.getD j 0 = y at c2 HO
    clear h hn hi hj
    go_enter Tryz.func204, Tryz.ntmps204
    go_wp2_with fail
    go_region_with (fail)
    all_goals go_wp2_with fail
    all_goals go_end0
    all_goals exact ⟨rfl, HO.out⟩

/-! ### a line's row cut short, lengthened -/
theorem keeps_setB (w : World) (a i : Nat) (u : Value) : Keeps (fun k => k = a) w (w.setCell ⟨a, i, none⟩ u) :=
  (Keeps.refl (fun k => k = a) w).setCell (p := ⟨a, i, none⟩) (.inl rfl) u
theorem Own.cutL {α : Type} {E : El α} (hE : E.Ok) {w : World} {o : Option Addr} {c : Nat} {xs : List α} (h : Own E w o c xs) {n : Nat} (hn : n ≤ xs.length) : Own E w o c (xs.take n) := by
  rcases h.shape with ⟨rfl, rfl, rfl⟩ | ⟨g, cur, rfl, hg, h2, h3, h4, h5⟩
  · simpa using h
  · refine own_of_shape hE hg (by simp; omega) h3 h4 ?_
    have e : (xs.take n).length = n := by simp; omega
    have e2 : E.cells xs = E.cells (xs.take n) ++ E.cells (xs.drop n) := by rw [← cells_append, List.take_append_drop]
    have e3 : cur.toList.take (n * E.k) = (cur.toList.take (xs.length * E.k)).take (n * E.k) := by
      rw [List.take_take, Nat.min_eq_left (Nat.mul_le_mul_right _ hn)]
    rw [e, e3, h5, e2, List.take_append_of_le_length (by rw [cells_length hE, e]; exact Nat.le_refl _), List.take_of_length_le (by rw [cells_length hE, e]; exact Nat.le_refl _)]
theorem slI : Tryz.prog.underlying 115 = some (.slice (Tryz.prog.elem 115)) := by kernel_rfl
theorem cutI (o : Option Addr) (n c I : Nat) (h1 : I ≤ c) (hnil : o = none → c = 0) : ∀ w, (Instr.slice 115 (.slice o n c) none (some (.int .i64 ((I : Nat) : Int))) none).run Tryz.prog w = .ok (.slice o I c) w := by
  intro w
  match o, hnil with
  | none, hnil =>
    obtain rfl : c = 0 := hnil rfl
    obtain rfl : I = 0 := by omega
    rw [run_slice_h w 115 none _ 0 slI .i64 _ (by omega) (by omega)]
    go_simp
  | some ad, _ =>
    rw [run_slice_h w 115 (some ad) _ c slI .i64 _ (by omega) (by omega)]
    go_simp
theorem LineAt.o_p {w : World} {x y : Ln} (h : LineAt w x) (h' : LineAt w y) : ∀ k, inO x.o k → k ≠ y.p := by
  intro k hk e
  obtain ⟨cur, hc⟩ := h.own.tag k hk
  rw [e, h'.blk] at hc
  injection hc with hc
  injection hc with _ hc _
  cases hc
def Ln.with (x : Ln) (o : Option Addr) (c : Nat) (fr : List Nat) : Ln := ⟨x.p, x.last, o, c, fr⟩
theorem pop_ids (w : World) (x : Ln) (h : LineAt w x) (hl : 0 < x.fr.length) (hb : x.fr.length ≤ 140737488355328) :
    Calls Tryz.prog 205 #[.pointer (some ⟨x.p, 1, none⟩)] w fun e w' => e = .returned (.iface 46 (.int .u64 ((x.fr.getD (x.fr.length - 1) 0 : Nat) : Int))) ∧ LineAt w' (x.with x.o x.c (x.fr.take (x.fr.length - 1))) ∧ Keeps (fun b => b = x.p) w w' := by
  obtain ⟨p, la, o, c, fr⟩ := x
  simp only [Ln.with] at *
  obtain ⟨g, rfl⟩ := h.own.g0 hl
  obtain ⟨n, hn⟩ : ∃ n, n + 1 = fr.length := ⟨fr.length - 1, by omega⟩
  have d1 : w.cell? ⟨p, 1, none⟩ = some (.slice (some ⟨g, 0, none⟩) (n + 1) c) := by rw [hn]; exact cell_of_blk h.blk 1
  have f1 : w.frozen? ⟨p, 1, none⟩ = false := frozen_of_blk h.blk 1
  have e1 := (ownI_cell h.own (i := n) (by show n < fr.length; omega)).1
  simp only at e1
  rw [show fr.length - 1 = n by omega]
  have hcap : n + 1 ≤ c := by rw [hn]; exact h.own.cap.1
  have hcut := cutI (some ⟨g, 0, none⟩) (n + 1) c n (by omega) (fun e => by cases e)
  have hmx := h.own.max
  simp only at hmx
  have hn2 : (n : Int) + 1 ≤ 140737488355328 := by omega
  have HH : Hid (LineAt w ⟨p, la, some ⟨g, 0, none⟩, c, fr⟩) := h
  have HN : Hid (n + 1 = fr.length) := hn
  generalize fr.getD n 0 = z at e1 ⊢
  clear h hl hb hn hcap hmx
  go_enter Tryz.func205, Tryz.ntmps205
  go_wp2
  go_ret
  have hk := keeps_setB w p 1 (.slice (some ⟨g, 0, none⟩) n c)
  have hlen : (fr.take n).length = n := by rw [List.length_take]; have := HN.out; omega
  refine ⟨rfl, ⟨?_, (HH.out.own.cutL okI (by show n ≤ fr.length; have := HN.out; omega)).keeps hk (fun b hb e => HH.out.o_p HH.out b hb e)⟩, hk⟩
  have hb := blk_set HH.out.blk 1 (.slice (some ⟨g, 0, none⟩) n c)
  refine hb.trans ?_
  simp [lcells, hlen]

theorem step_app1 {α : Type} {E : El α} (hE : E.Ok) {w : World} {ops : Array Oper} {o : Oper} {a : Act} {K : Act → World → Prop} {Q : Exit → Act → World → Prop} {Ep : Prop} (hgd : o.guard = none) (s x : Operand)
    (ho : o.op = .call { callee := .builtin .append, args := #[s, x], argTypes := #[E.t, E.t] })
    (oa : Option Addr) (n c : Nat) (xs : List α) (hs : a.eval s = .slice oa n c) (hn : n = xs.length) (hown : Own E w oa c xs)
    (ox : Option Addr) (m d : Nat) (news : List α) (hx : a.eval x = .slice ox m d) (hm : m = news.length) (hd : ox = none → d = 0) (hrow : Row E w ox news)
    (hb : (xs.length + news.length) * E.nb ≤ 140737488355328) (hb2 : xs.length + news.length ≤ 140737488355328)
    (h : ∀ o' c' w', Own E w' o' c' (xs ++ news) → Ap w oa o' w' → K (a.put o.dst (.slice o' (n + m) c')) w') :
    if Region.wanted o (yielded ops a.tmps) = true then Oper.wp Tryz.prog o a w K Q else Ep := by
  have hw : Region.wanted o (yielded ops a.tmps) = true := by simp [Region.wanted, hgd]
  rw [if_pos hw]
  subst hn hm
  obtain ⟨o', c', w', hr, h1, h2⟩ := run_app hE w o.type oa c xs hown ox d news hd hrow hb hb2
  unfold Oper.wp execOp
  simp only [ho, resolve, invoke, builtin, Sem.run_bind, Sem.run_pure, Result.andThen_ok, List.map_toArray, List.map_cons, List.map_nil, hs, hx, hr]
  exact h o' c' w' h1 h2
theorem own_oneI (w : World) (x : Nat) : Sl IE (w.alloc (.cells #[.int .u64 (x : Int)] 46)) (some ⟨w.heap.size, 0, none⟩) 1 [x] := by
  refine ⟨.inr ⟨_, 0, rfl, fun j u hj => ?_⟩, by simp, fun e => by cases e⟩
  rw [Nat.zero_add, cell_of_blk (blk_new w _)]
  simpa [El.cells, IE] using hj
theorem Ap.at {w w' : World} {oa o' : Option Addr} (h : Ap w oa o' w') {k : Nat} {ob : Obj} (hk : w.heap[k]? = some ob) (hn : ¬ inO oa k) : w'.heap[k]? = some ob := by
  rcases h with ⟨_, h⟩ | ⟨_, h⟩
  · exact h.at hk hn
  · exact h.at hk id
theorem Ap.keeps {w w' : World} {oa o' : Option Addr} (h : Ap w oa o' w') : Keeps (inO oa) w w' ∧ ∀ b, inO o' b → inO oa b ∨ w.heap.size ≤ b := by
  rcases h with ⟨rfl, h⟩ | ⟨⟨g, rfl, hg⟩, h⟩
  · exact ⟨h, fun b hb => .inl hb⟩
  · refine ⟨h.of_no, ?_⟩
    rintro b ⟨x, e, rfl⟩
    cases e
    exact .inr hg
theorem assertI (v : Value) (w : World) : (Instr.typeAssert (.iface 46 v) 20 46 false).run Tryz.prog w = .ok v w := by kernel_rfl
set_option maxRecDepth 10000 in
theorem push_ids (w : World) (x : Ln) (i : Nat) (h : LineAt w x) (hb : x.fr.length ≤ 2000000000000) :
    Calls Tryz.prog 206 #[.pointer (some ⟨x.p, 1, none⟩), .iface 46 (.int .u64 ((i : Nat) : Int))] w fun e w' => e = .returned (.tuple #[]) ∧ ∃ o' c', LineAt w' (x.with o' c' (x.fr ++ [i])) ∧ (∀ b, inO o' b → inO x.o b ∨ w.heap.size ≤ b) ∧ Keeps (fun b => b = x.p ∨ inO x.o b) w w' := by
  obtain ⟨p, la, o, c, fr⟩ := x
  simp only [Ln.with] at *
  obtain ⟨n, hn⟩ : ∃ n, n = fr.length := ⟨_, rfl⟩
  have d1 : w.cell? ⟨p, 1, none⟩ = some (.slice o n c) := by rw [hn]; exact cell_of_blk h.blk 1
  have f1 : w.frozen? ⟨p, 1, none⟩ = false := frozen_of_blk h.blk 1
  have HH : Hid (LineAt w ⟨p, la, o, c, fr⟩) := h
  have HN : Hid (n = fr.length) := hn
  have HB : Hid ((fr.length + [i].length) * IE.nb ≤ 140737488355328 ∧ fr.length + [i].length ≤ 140737488355328) := ⟨by simp [IE]; omega, by simp; omega⟩
  obtain ⟨w0, hw0⟩ : ∃ w0, w0 = (w.alloc (.cells #[.int .u64 ((i : Nat) : Int)] 46)).drew := ⟨_, rfl⟩
  have hk0 : Keeps no w w0 := by rw [hw0]; exact ((Keeps.refl no w).alloc _).drew
  have d1' := hk0.cellN d1
  have f1' : w0.frozen? ⟨p, 1, none⟩ = false := frozen_of_blk (hk0.at h.blk id) 1
  have HO : Hid (Own IE w0 o c fr) := h.own.keepsN hk0
  have HK0 : Hid (Keeps no w w0) := hk0
  have HLB : Hid (w0.heap[p]? = some (.cells (lcells ⟨p, la, o, c, fr⟩) 117 (0, 0)) ∧ ¬ inO o p) := ⟨hk0.at h.blk id, fun e => h.o_p h p e rfl⟩
  have HR : Hid (Row IE w0 (some ⟨w.heap.size, 0, none⟩) [i]) := (show _ by rw [hw0]; exact (own_oneI w i).row.keepsN (Keeps.refl no _).drew)
  have hta := fun w => assertI (.int .u64 ((i : Nat) : Int)) w
  rw [hw0] at d1' f1' HO HK0 HR HLB
  change (w.alloc (.cells #[.int .u64 ((i : Nat) : Int)] 46)).cell? ⟨p, 1, none⟩ = _ at d1'
  change (w.alloc (.cells #[.int .u64 ((i : Nat) : Int)] 46)).frozen? ⟨p, 1, none⟩ = _ at f1'
  clear h hn hb hw0 hk0
  go_enter Tryz.func206, Tryz.ntmps206
  go_wp2_with fail
  go_region_law
    (refine step_app1 okI rfl (.tmp 7) (.tmp 10) rfl o n c fr rfl HN.out HO.out (some (Addr.mk w.heap.size 0 none)) 1 1 [i] rfl rfl (fun e => by cases e) HR.out HB.out.1 HB.out.2 ?_; intro o2 c2 w2 ho2 hap2; have hbk := hap2.at HLB.out.1 HLB.out.2; have d2 : w2.cell? ⟨p, 1, none⟩ = some (.slice o fr.length c) := cell_of_blk hbk 1; have f2 := frozen_of_blk hbk 1; have HA : Hid (Own IE w2 o2 c2 (fr ++ [i]) ∧ Ap _ o o2 w2 ∧ w2.heap[p]? = some (.cells (lcells ⟨p, la, o, c, fr⟩) 117 (0, 0))) := ⟨ho2, hap2, hbk⟩; clear ho2 hap2 hbk)
  all_goals go_wp2_with fail
  all_goals go_end0
  all_goals
    obtain ⟨ho2, hap2, hbk⟩ := HA.out
    have hk := keeps_setB w2 p 1 (.slice o2 (n + 1) c2)
    have hkk := (HK0.out.of_no.trans hap2.keeps.1)
    refine ⟨rfl, o2, c2, ⟨?_, ho2.keeps hk (fun b hb e => ?_)⟩, fun b hb => ?_, (hkk.mono (fun b hb => .inr hb)).trans (hk.mono (fun b hb => .inl hb))⟩
    · refine (blk_set hbk 1 (.slice o2 (n + 1) c2)).trans ?_
      simp [lcells, HN.out]
    · obtain ⟨cur, hcc⟩ := ho2.tag b hb
      have e' : b = p := e
      rw [e', hbk] at hcc
      injection hcc with hcc
      injection hcc with _ hcc _
      cases hcc
    · rcases hap2.keeps.2 b hb with h | h
      · exact .inl h
      · exact .inr (Nat.le_trans HK0.out.size h)
end Go.Proofs.YtbnohdgdadfjlaaGreatDoor
