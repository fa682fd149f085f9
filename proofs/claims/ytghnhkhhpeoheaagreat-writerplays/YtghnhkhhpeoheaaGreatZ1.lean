/- A question told: its lists copied. -/
import Derived.Test.YtghnhkhhpeoheaaGreatZ0
namespace Go.Proofs.YtghnhkhhpeoheaaGreat
open Go.RowKit Go.Sort Orl
set_option linter.unusedVariables false
set_option linter.unusedSimpArgs false

theorem tcl_any (w : World) (a : Option Addr) (n c : Nat) (xs : List Tx) (hn : n = xs.length) (hs : Sl TE w a c xs) (hb : xs.length ≤ 100000) :
    Calls Tryz.prog 56 #[.slice a n c] w fun e w' => ∃ v, e = .returned v ∧ Gives TE w xs v w' := by
  have HN : Hid (n = xs.length) := hn
  have hb' : Hid (xs.length ≤ 100000) := hb
  match a, hs with
  | none, hs =>
    have h0 : xs = [] := by rcases hs.row with h | ⟨b, off, h, _⟩; exact h; cases h
    have hnil := fun w => Lib.run_eql_slice_nil (P := Tryz.prog) w 41 9 none n c 0 0 Tryz.underlying41
    clear hn hb
    go_enter Tryz.func56, Tryz.ntmps56
    go_wp2_with fail
    go_ret
    subst h0
    exact ⟨_, rfl, none, 0, 0, rfl, (show 0 = _ by simp), own_nil _, new_none _, Keeps.refl _ _⟩
  | some ad, hs =>
    have hnil := fun w => Lib.run_eql_slice_nil (P := Tryz.prog) w 41 9 (some ad) n c 0 0 Tryz.underlying41
    clear hn hb
    go_enter Tryz.func56, Tryz.ntmps56
    go_wp2_with (at_builtin; refine wpList_app okT rfl _ _ rfl _ _ _ [] rfl rfl (own_empty okT _) _ _ _ xs rfl HN.out hs.nil (hs.row.keepsN ((Keeps.refl _ _).alloc _)) (by have := hb'.out; simp [TE]; omega) (by have := hb'.out; simp; omega) ?_; intro o' c' w' ho hap)
    go_ret
    have := hap.new (w0 := w) (new_fresh w _ (Nat.le_refl _) _) ((Keeps.refl _ _).alloc _)
    refine ⟨_, rfl, o', _, c', rfl, show _ = _ by simp [HN.out], by simpa using ho, this.1, this.2⟩
theorem pcl_any (w : World) (a : Option Addr) (n c : Nat) (xs : List Pr) (hn : n = xs.length) (hs : Sl PE w a c xs) (hb : xs.length ≤ 100000) :
    Calls Tryz.prog 46 #[.slice a n c] w fun e w' => ∃ v, e = .returned v ∧ Gives PE w xs v w' := by
  have HN : Hid (n = xs.length) := hn
  have hb' : Hid (xs.length ≤ 100000) := hb
  match a, hs with
  | none, hs =>
    have h0 : xs = [] := by rcases hs.row with h | ⟨b, off, h, _⟩; exact h; cases h
    have hnil := fun w => Lib.run_eql_slice_nil (P := Tryz.prog) w 22 61 none n c 0 0 Tryz.underlying22
    clear hn hb
    go_enter Tryz.func46, Tryz.ntmps46
    go_wp2_with fail
    go_ret
    subst h0
    exact ⟨_, rfl, none, 0, 0, rfl, (show 0 = _ by simp), own_nil _, new_none _, Keeps.refl _ _⟩
  | some ad, hs =>
    have hnil := fun w => Lib.run_eql_slice_nil (P := Tryz.prog) w 22 61 (some ad) n c 0 0 Tryz.underlying22
    clear hn hb
    go_enter Tryz.func46, Tryz.ntmps46
    go_wp2_with (at_builtin; refine wpList_app okP rfl _ _ rfl _ _ _ [] rfl rfl (own_empty okP _) _ _ _ xs rfl HN.out hs.nil (hs.row.keepsN ((Keeps.refl _ _).alloc _)) (by have := hb'.out; simp [PE]; omega) (by have := hb'.out; simp; omega) ?_; intro o' c' w' ho hap)
    go_ret
    have := hap.new (w0 := w) (new_fresh w _ (Nat.le_refl _) _) ((Keeps.refl _ _).alloc _)
    refine ⟨_, rfl, o', _, c', rfl, show _ = _ by simp [HN.out], by simpa using ho, this.1, this.2⟩
/-- a question told: its lists are new -/
def ToldTo (w : World) (q : Qn) (e : Ending) (w' : World) : Prop := ∃ r, e = .returned (aggQ r) ∧ QNw w' r q ∧ New w r.po ∧ New w r.ko ∧ Keeps no w w'
theorem post_size (a b c d e f g h i : Value) : (Tryz.prog.info? 63).map (·.size) = some (#[a, b, c, d, e, f, g, h, i] : Array Value).size := by
  show _ = some 9
  kernel_rfl
theorem keeps_one (w : World) (B j : Nat) (v : Value) : Keeps (fun i => i = B) w (w.setCell ⟨B, j, none⟩ v) := (Keeps.refl (fun i => i = B) w).setCell (p := ⟨B, j, none⟩) (.inl (show (fun i => i = B) B from rfl)) v
theorem two_blk (w : World) (a b : Obj) : ((w.alloc a).alloc b).heap[w.heap.size]? = some a ∧ ((w.alloc a).alloc b).heap[w.heap.size + 1]? = some b := by
  refine ⟨blk_alloc (blk_new w a) b, ?_⟩
  have h := blk_new (w.alloc a) b
  have e : (w.alloc a).heap.size = w.heap.size + 1 := by simp
  rwa [e] at h
set_option maxRecDepth 10000 in
set_option maxHeartbeats 1000000 in
theorem told_any (w : World) (r : RQ) (q : Qn) (h : QOf w r q) (hf : FitQ q) : Calls Tryz.prog 42 #[aggQ r] w (ToldTo w q) := by
  have HQ : Hid (QOf w r q ∧ FitQ q) := ⟨h, hf⟩
  clear h hf
  obtain ⟨x0, x1, x2, x3, x4, xpo, xpn, xpc, xko, xkn, xkc, xwo, xwc, xvo, xvc⟩ := r
  unfold aggQ
  simp only
  have HP : Hid (∀ X, Keeps no w X → Calls Tryz.prog 46 #[.slice xpo xpn xpc] X fun e w' => ∃ v, e = .returned v ∧ Gives PE X q.pairs v w') := fun X hX => pcl_any X _ _ _ _ HQ.out.1.pn (HQ.out.1.ps.keepsN hX) (by have := HQ.out.2.pl; omega)
  have HT : Hid (∀ X, Keeps no w X → Calls Tryz.prog 56 #[.slice xko xkn xkc] X fun e w' => ∃ v, e = .returned v ∧ Gives TE X q.keys v w') := fun X hX => tcl_any X _ _ _ _ HQ.out.1.kn (HQ.out.1.ks.keepsN hX) (by have := HQ.out.2.kl; omega)
  obtain ⟨B, hB⟩ : ∃ B, B = w.heap.size := ⟨_, rfl⟩
  go_enter Tryz.func42, Tryz.ntmps42
  go_wp2_with fail
  refine (HP.out _ (((Keeps.refl no w).alloc _).alloc _)).mono ?_
  rintro e w1 ⟨v, rfl, o1, n1, c1, rfl, hn1, ho1, hw1, hk1⟩
  have hb1 := hk1.at (two_blk w _ _).1 id
  have hb2 := hk1.at (two_blk w _ _).2 id
  have HK1 : Hid (Keeps no w w1) := (((Keeps.refl no w).alloc _).alloc _).trans hk1
  have HO1 : Hid (Own PE w1 o1 c1 q.pairs ∧ New w o1 ∧ n1 = q.pairs.length) := ⟨ho1, hw1.of_le (by simp; omega), hn1.out⟩
  clear hn1 ho1 hw1 hk1
  rw [← hB] at hb1 hb2 ⊢
  have c0 := cell_of_blk hb1 0
  have c1' := cell_of_blk hb1 1
  have c2 := cell_of_blk hb1 2
  have c3 := cell_of_blk hb1 3
  have c4 := cell_of_blk hb1 4
  have c5 := cell_of_blk hb1 5
  have c6 := cell_of_blk hb1 6
  have f5 := frozen_of_blk hb1 5
  simp only [List.getElem?_toArray, List.getElem?_cons_succ, List.getElem?_cons_zero] at c0 c1' c2 c3 c4 c5 c6
  have HB : Hid (B = w.heap.size) := hB
  have HB2 : Hid (w1.heap[B + 1]? = some (.cells #[.int .i64 0, .int .i64 0, .int .i64 0, .int .u64 0, .int .u64 0, .slice none 0 0, .slice none 0 0, .slice none 0 0, .slice none 0 0] 63 (0, 0))) := hb2
  have hb1' := blk_set hb1 5 (.slice o1 n1 c1)
  have HB1 : Hid ((w1.setCell ⟨B, 5, none⟩ (.slice o1 n1 c1)).heap[B]? = some (.cells #[.int .i64 x0, .int .i64 x1, .int .i64 x2, .int .u64 (x3 : Nat), .int .u64 (x4 : Nat), .slice o1 n1 c1, .slice xko xkn xkc, .slice xwo 0 xwc, .slice xvo 0 xvc] 63 (0, 0))) := by show _ = _; simpa using hb1'
  have HK2 : Hid (Keeps no w (w1.setCell ⟨B, 5, none⟩ (.slice o1 n1 c1)) ∧ Keeps (fun i => i = B) w1 (w1.setCell ⟨B, 5, none⟩ (.slice o1 n1 c1))) := ⟨HK1.out.setCell (.inr (by simp; omega)) _, keeps_one w1 B 5 _⟩
  clear hb1 hb2 hb1' hB
  go_wp2_with fail
  refine (HT.out _ HK2.out.1).mono ?_
  rintro e w3 ⟨v, rfl, o2, n2, d2, rfl, hn2, ho2, hw2, hk2⟩
  have hb3 := hk2.at HB1.out id
  have hb4 := hk2.at (HK2.out.2.at HB2.out (by simp)) id
  have HO2 : Hid (Own TE w3 o2 d2 q.keys ∧ New w o2 ∧ n2 = q.keys.length) := ⟨ho2, hw2.of_le HK2.out.1.size, hn2.out⟩
  have HO3 : Hid (Own PE w3 o1 c1 q.pairs ∧ New w o1 ∧ n1 = q.pairs.length) := by
    refine ⟨(HO1.out.1.keeps HK2.out.2 (fun i hi e => ?_)).keepsN hk2, HO1.out.2⟩
    subst e
    obtain ⟨x, e, hx⟩ := hi
    rcases HO1.out.1.shape with ⟨e2, _⟩ | ⟨g, cur, e2, hg, _⟩
    · rw [e2] at e; cases e
    · rw [e2] at e; cases e
      simp only at hx
      subst hx
      have := HB1.out
      rw [blk_set hg] at this
      injection this with this
      injection this with _ h1 _
      exact absurd h1 (by decide)
  have HK3 : Hid (Keeps no w w3) := HK2.out.1.trans hk2
  clear HO1 HK1 HB1 HB2 HK2 hn2 ho2 hw2 hk2 c0 c1' c2 c3 c4 c5 c6 f5
  have c0 := cell_of_blk hb3 0
  have c1' := cell_of_blk hb3 1
  have c2 := cell_of_blk hb3 2
  have c3 := cell_of_blk hb3 3
  have c4 := cell_of_blk hb3 4
  have c5 := cell_of_blk hb3 5
  have c6 := cell_of_blk hb3 6
  have c7 := cell_of_blk hb3 7
  have c8 := cell_of_blk hb3 8
  have f6 := frozen_of_blk hb3 6
  simp only [List.getElem?_toArray, List.getElem?_cons_succ, List.getElem?_cons_zero] at c0 c1' c2 c3 c4 c5 c6 c7 c8
  have d0 := cell_of_blk hb4 0
  have d1 := cell_of_blk hb4 1
  have d2' := cell_of_blk hb4 2
  have d3 := cell_of_blk hb4 3
  have d4 := cell_of_blk hb4 4
  have d5 := cell_of_blk hb4 5
  have d6 := cell_of_blk hb4 6
  have d7 := cell_of_blk hb4 7
  have d8 := cell_of_blk hb4 8
  have g0 := frozen_of_blk hb4 0
  have g1 := frozen_of_blk hb4 1
  have g2 := frozen_of_blk hb4 2
  have g3 := frozen_of_blk hb4 3
  have g4 := frozen_of_blk hb4 4
  have g5 := frozen_of_blk hb4 5
  have g6 := frozen_of_blk hb4 6
  have g7 := frozen_of_blk hb4 7
  have g8 := frozen_of_blk hb4 8
  simp only [List.getElem?_toArray, List.getElem?_cons_succ, List.getElem?_cons_zero] at d0 d1 d2' d3 d4 d5 d6 d7 d8
  have HE : Hid (∀ vs, vs = [Value.int .i64 x0, .int .i64 x1, .int .i64 x2, .int .u64 (x3 : Nat), .int .u64 (x4 : Nat), .slice o1 n1 c1, .slice o2 n2 d2, .slice xwo 0 xwc, .slice xvo 0 xvc] → ∀ W, W = (w3.setCell ⟨B, 6, none⟩ (.slice o2 n2 d2)).setCells (B + 1) 0 vs → W.heap[B + 1]? = some (.cells vs.toArray 63 (0, 0)) ∧ Keeps no w W ∧ Own PE W o1 c1 q.pairs ∧ Own TE W o2 d2 q.keys) := by
    rintro vs rfl W rfl
    have k1 : Keeps (fun i => i = B ∨ i = B + 1) w3 ((w3.setCell ⟨B, 6, none⟩ (.slice o2 n2 d2)).setCells (B + 1) 0 [Value.int .i64 x0, .int .i64 x1, .int .i64 x2, .int .u64 (x3 : Nat), .int .u64 (x4 : Nat), .slice o1 n1 c1, .slice o2 n2 d2, .slice xwo 0 xwc, .slice xvo 0 xvc]) :=
      keeps_setCells' _ _ ((keeps_one w3 B 6 _).mono (fun i hi => .inl hi)) (.inl (.inr rfl))
    have hx := blk_set_ne hb4 (p := ⟨B, 6, none⟩) (show B + 1 ≠ B by omega) (.slice o2 n2 d2)
    have tag : ∀ {α : Type} {E : El α} {o : Option Addr} {c : Nat} {xs : List α}, Own E w3 o c xs → E.e ≠ 63 → ∀ i, inO o i → ¬ (i = B ∨ i = B + 1) := by
      intro α E o c xs ho hne i hi e
      obtain ⟨x, e1, hx⟩ := hi
      rcases ho.shape with ⟨e2, _⟩ | ⟨g, cur, e2, hg, _⟩
      · rw [e2] at e1; cases e1
      · rw [e2] at e1; cases e1
        simp only at hx
        subst hx
        rcases e with rfl | rfl
        · rw [hg] at hb3; injection hb3 with h1; injection h1 with _ h1 _; exact hne h1
        · rw [hg] at hb4; injection hb4 with h1; injection h1 with _ h1 _; exact hne h1
    refine ⟨blk_whole hx _ rfl, HK3.out.then k1 (fun i hi => .inr ?_), HO3.out.1.keeps k1 (tag HO3.out.1 (by decide)), HO2.out.1.keeps k1 (tag HO2.out.1 (by decide))⟩
    have := HB.out
    rcases hi with rfl | rfl <;> omega
  clear hb3 hb4
  go_wp2_with fail
  have hE := HE.out _ rfl _ rfl
  (try simp only [Exit.inBlock, Exit.then])
  refine bodyPost_ret (results_row1 rfl _ _ (B + 1) _ rfl (run_loadVar_row _ _ _ _ _ _ _ hE.1 Tryz.underlying63 rfl (post_size _ _ _ _ _ _ _ _ _))) rfl ?_
  refine ⟨⟨x0, x1, x2, x3, x4, o1, n1, c1, o2, n2, d2, xwo, xwc, xvo, xvc⟩, rfl, ⟨HQ.out.1.part, HQ.out.1.kind, HQ.out.1.client, HQ.out.1.req, HQ.out.1.id, HO3.out.2.2, hE.2.2.1, HO2.out.2.2, hE.2.2.2⟩, HO3.out.2.1, HO2.out.2.1, hE.2.1⟩
end Go.Proofs.YtghnhkhhpeoheaaGreat
