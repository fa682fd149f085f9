/- overs: lists written over, then lengthened, then read. -/
import Derived.Test.YtghnhkhhpeoheaaOv
import Derived.Deep.RegionHeld3
import Derived.Deep.RegionHeldLaw
import Derived.Deep.CutBlock
import Derived.Deep.CutRange
import Derived.Laws.Tables
import Derived.Great.BuildSlice
namespace Go.Proofs.Ytghnhkhhpeoheaa
open Go.RowKit Go.Sort Orl
set_option linter.unusedVariables false
set_option linter.unusedSimpArgs false

def nmL : List Tx := [⟨#[48]⟩, ⟨#[49]⟩, ⟨#[50]⟩, ⟨#[51]⟩, ⟨#[52]⟩]
def nmT (i : Nat) : Tx := nmL.getD (i % 5) e0
theorem nm_cell (i : Nat) : (#[Value.string ⟨#[48]⟩, .string ⟨#[49]⟩, .string ⟨#[50]⟩, .string ⟨#[51]⟩, .string ⟨#[52]⟩] : Array Value)[i % 5]? = some (.string (nmT i)) := by
  unfold nmT
  have h : i % 5 < 5 := Nat.mod_lt _ (by decide)
  generalize i % 5 = m at h
  match m, h with
  | 0, _ => rfl
  | 1, _ => rfl
  | 2, _ => rfl
  | 3, _ => rfl
  | 4, _ => rfl
/-- what has been written over: all ahead of (a, b) -/
def Done (L : Lay) (A : Nat → Nat → Int) (K : Nat → Nat → List Tx) (P : Nat → Nat → List Pr) (a b : Nat) : Prop :=
  ∀ i k, i < 3 → k < L.N i → (i < a ∨ (i = a ∧ k < b)) → K i k = List.replicate (L.KN i k) (nmT i) ∧ P i k = List.replicate (L.PN i k) (nmT i, nmT k) ∧ A i k = -1 - (i : Int)
section
variable {L : Lay} {A : Nat → Nat → Int} {K : Nat → Nat → List Tx} {P : Nat → Nat → List Pr} {a b : Nat}
theorem done_start : Done L A K P 0 0 := fun i k _ _ h => by omega
theorem Done.row (h : Done L A K P a b) (hb : L.N a ≤ b) : Done L A K P (a + 1) 0 := by
  intro i k hi hk hc
  refine h i k hi hk ?_
  by_cases e : i = a
  · subst e; exact .inr ⟨rfl, by omega⟩
  · exact .inl (by omega)
theorem Done.tK (h : Done L A K P a b) (V : List Tx) : Done L A (upd2 K a b V) P a b := by
  intro i k hi hk hc
  rw [upd2_ne _ _ (by rintro ⟨rfl, rfl⟩; omega)]
  exact h i k hi hk hc
theorem Done.tP (h : Done L A K P a b) (V : List Pr) : Done L A K (upd2 P a b V) a b := by
  intro i k hi hk hc
  rw [upd2_ne _ _ (by rintro ⟨rfl, rfl⟩; omega)]
  exact h i k hi hk hc
theorem Done.next (h : Done L A K P a b) (h1 : K a b = List.replicate (L.KN a b) (nmT a)) (h2 : P a b = List.replicate (L.PN a b) (nmT a, nmT b)) : Done L (upd2 A a b (-1 - (a : Int))) K P a (b + 1) := by
  intro i k hi hk hc
  by_cases e : i = a ∧ k = b
  · obtain ⟨rfl, rfl⟩ := e
    exact ⟨h1, h2, upd2_at ..⟩
  · rw [upd2_ne _ _ e]
    refine h i k hi hk ?_
    rcases hc with hc | ⟨rfl, hc⟩
    · exact .inl hc
    · exact .inr ⟨rfl, by have : ¬ k = b := fun h => e ⟨rfl, h⟩; omega⟩
end
theorem rep_of {α : Type} {l : List α} {n : Nat} {d v : α} (hn : l.length = n) (h : ∀ y, y < n → l.getD y d = v) : l = List.replicate n v := by
  refine List.eq_replicate_iff.2 ⟨hn, fun x hx => ?_⟩
  obtain ⟨j, hj, rfl⟩ := List.mem_iff_getElem.1 hx
  rw [← h j (by omega), List.getD_eq_getElem?_getD, List.getElem?_eq_getElem hj]
  rfl
theorem set_prog {α : Type} {l : List α} {x n : Nat} {d v : α} (hn : l.length = n) (hx : x < n) (h : ∀ y, y < x → l.getD y d = v) : ∀ y, y < x + 1 → (l.set x v).getD y d = v := by
  intro y hy
  rw [List.getD_eq_getElem?_getD, List.getElem?_set]
  by_cases e : x = y
  · rw [if_pos e, if_pos (by omega)]; rfl
  · rw [if_neg e, ← List.getD_eq_getElem?_getD]; exact h y (by omega)
theorem tmod5 (i : Nat) : ((i : Nat) : Int).tmod 5 = ((i % 5 : Nat) : Int) := by
  rw [Int.tmod_eq_emod_of_nonneg (by omega)]; omega
abbrev mo : Tx := ⟨#[109, 111, 114, 101]⟩
abbrev rq99 : RQ := ⟨-99, 0, 0, 0, 0, none, 0, 0, none, 0, 0, none, 0, none, 0⟩
theorem wpList_buildC {ops : Array Oper} {rest : List Oper} {o : Oper} {a : Act} {w : World} {Q : Exit → Act → World → Prop} (hg : o.guard = none) (t : TypeId) (parts : Array (Nat × Operand)) (ho : o.op = .build t parts) (cells : Array Value)
    (hc : Try.prog.built t (parts.map fun (i, x) => (i, a.eval x)).toList = some cells)
    (h : wpList Try.prog ops Q rest (a.put o.dst (.agg cells)) w) : wpList Try.prog ops Q (o :: rest) a w :=
  wpList_build hg t parts ho (by rw [hc]; rfl) (by rw [hc]; exact h)
theorem wpList_oneQ {ops : Array Oper} {rest : List Oper} {o : Oper} {a : Act} {w : World} {Q : Exit → Act → World → Prop} (hg : o.guard = none) (x : Operand) (ho : o.op = .buildSlice 30 1 #[(0, x)]) (v0 v1 v2 v3 v4 v5 v6 v7 v8 : Value) (hx : a.eval x = .agg #[v0, v1, v2, v3, v4, v5, v6, v7, v8])
    (h : wpList Try.prog ops Q rest (a.put o.dst (.slice (some ⟨w.heap.size, 0, none⟩) 1 1)) (w.alloc (.cells #[v0, v1, v2, v3, v4, v5, v6, v7, v8] 41))) : wpList Try.prog ops Q (o :: rest) a w := by
  obtain ⟨i0, hi, hz0, hz1, hz2⟩ := info_parts infoQ
  refine wpList_buildSlice hg 30 41 1 #[(0, x)] ho #[v0, v1, v2, v3, v4, v5, v6, v7, v8] i0 _ Try.underlying30 hi hz0 (by rw [hz1]; decide) (by rw [hz1]; decide) ?_ h
  simp only [List.map_toArray, List.map_cons, List.map_nil, hx, hz1]
  kernel_rfl
/-- a question's two lists are lengthened: what they were stays -/
structure Gw (L : Lay) (A : Nat → Nat → Int) (K : Nat → Nat → List Tx) (P : Nat → Nat → List Pr) (wm : World) (a b x y : Nat) (oa : Option Addr) (na ca : Nat) (ob : Option Addr) (nb cb : Nat) (w : World) : Prop where
  kp : Keeps (OB L) wm w
  ov : Ov w L A K P
  la : na = (K a b ++ List.replicate x mo).length
  lb : nb = (P a b ++ List.replicate y (mo, e0)).length
  fa : Own TE w oa ca (K a b ++ List.replicate x mo)
  ra : (oa = L.KO a b ∧ ca = L.KC a b) ∨ ∀ z, inO oa z → wm.heap.size ≤ z
  fb : Own PE w ob cb (P a b ++ List.replicate y (mo, e0))
  rb : (ob = L.PO a b ∧ cb = L.PC a b) ∨ ∀ z, inO ob z → wm.heap.size ≤ z
section
variable {L : Lay} {A : Nat → Nat → Int} {K : Nat → Nat → List Tx} {P : Nat → Nat → List Pr} {wm w w' : World} {a b x y : Nat} {oa : Option Addr} {na ca : Nat} {ob : Option Addr} {nb cb : Nat}
theorem Gw.keepsN (h : Gw L A K P wm a b x y oa na ca ob nb cb w) (k : Keeps no w w') : Gw L A K P wm a b x y oa na ca ob nb cb w' :=
  ⟨h.kp.trans k.of_no, h.ov.keepsN k, h.la, h.lb, h.fa.keepsN k, h.ra, h.fb.keepsN k, h.rb⟩
theorem rep_snoc {α : Type} (l : List α) (x : Nat) (v : α) : l ++ List.replicate x v ++ [v] = l ++ List.replicate (x + 1) v := by
  rw [List.append_assoc, List.replicate_succ']
theorem Gw.stepK (s : Sep L) (hi : a < 3) (hk : b < L.N a) (hB : ∀ z, OB L z → z < wm.heap.size) (h : Gw L A K P wm a b x y oa na ca ob nb cb w) {o' : Option Addr} {c' : Nat} (ho : Own TE w' o' c' (K a b ++ List.replicate x mo ++ [mo])) (ha : Ap w oa o' w') (hc : o' = oa → c' = ca) : Gw L A K P wm a b (x + 1) y o' (na + 1) c' ob nb cb w' := by
  rw [rep_snoc] at ho
  obtain ⟨g1, g2, g3⟩ := h.ov.appK s hi hk hB h.kp.size h.ra ha hc ho
  refine ⟨h.kp.then g3 (fun i hi => hi), g1, ?_, h.lb, ho, g2, ?_, h.rb⟩
  · rw [h.la]; simp; omega
  · rcases ha with ⟨_, hk2⟩ | ⟨_, hk2⟩
    · exact h.fb.keeps hk2 (own_apart (by decide) h.fb h.fa)
    · exact h.fb.keepsN hk2
theorem Gw.stepP (s : Sep L) (hi : a < 3) (hk : b < L.N a) (hB : ∀ z, OB L z → z < wm.heap.size) (h : Gw L A K P wm a b x y oa na ca ob nb cb w) {o' : Option Addr} {c' : Nat} (ho : Own PE w' o' c' (P a b ++ List.replicate y (mo, e0) ++ [(mo, e0)])) (ha : Ap w ob o' w') (hc : o' = ob → c' = cb) : Gw L A K P wm a b x (y + 1) oa na ca o' (nb + 1) c' w' := by
  rw [rep_snoc] at ho
  obtain ⟨g1, g2, g3⟩ := h.ov.appP s hi hk hB h.kp.size h.rb ha hc ho
  refine ⟨h.kp.then g3 (fun i hi => hi), g1, h.la, ?_, ?_, h.ra, ho, g2⟩
  · rw [h.lb]; simp; omega
  · rcases ha with ⟨_, hk2⟩ | ⟨_, hk2⟩
    · exact h.fa.keeps hk2 (own_apart (by decide) h.fa h.fb)
    · exact h.fa.keepsN hk2
end
theorem Ov.app99 {L : Lay} {A : Nat → Nat → Int} {K : Nat → Nat → List Tx} {P : Nat → Nat → List Pr} {w1 w w6 : World} {a : Nat} {X : Obj} (s : Sep L) (h : Ov w L A K P) (hk : Keeps (OB L) w1 w) (hi : a < 3) {oo : Option Addr} {oc on : Nat} (hoo : L.O a = oo ∧ L.C a = oc ∧ L.N a = on) {r : List RQ} (hr : Own QE w oo oc r ∧ r.length = on ∧ ∀ k, k < on → RowIs L (A a k) a k (r.getD k rq0)) {o6 : Option Addr} {c6 : Nat} (ho6 : Own QE w6 o6 c6 (r ++ [rq99])) (ha6 : Ap (w.alloc X) oo o6 w6) (hc6 : o6 = oo → c6 = oc) :
    (Keeps (OB L) w1 w6 ∧ Ov w6 L A K P) ∧ ∃ bp offp, o6 = some ⟨bp, offp, none⟩ ∧ w6.cell? ⟨bp, offp + on * 9, none⟩ = some (.int .i64 (-99)) := by
  obtain ⟨rfl, rfl, rfl⟩ := hoo
  obtain ⟨hrO, hrn, hrr⟩ := hr
  have hAL : Keeps no w (w.alloc X) := (Keeps.refl _ _).alloc _
  obtain ⟨hv6, hk6⟩ := (h.keepsN hAL).appO s hi h.lt hAL.size (hrO.keepsN hAL) hrn hrr ha6 hc6 ho6
  refine ⟨⟨(hk.trans hAL.of_no).then hk6 (fun i hi => hi.imp id (fun h => Nat.le_trans hk.size h)), hv6⟩, ?_⟩
  obtain ⟨bp, offp, ep, h9⟩ := ho6.sl.atQ (j := L.N a) (by simp; omega)
  have c0 := h9.c0
  rw [getD_app, if_neg (by omega)] at c0
  have e1 : L.N a - r.length = 0 := by omega
  rw [e1] at c0
  exact ⟨bp, offp, ep, c0⟩
set_option maxRecDepth 10000 in
set_option maxHeartbeats 8000000 in
theorem overs_any (w : World) (L : Lay) (A : Nat → Nat → Int) (K : Nat → Nat → List Tx) (P : Nat → Nat → List Pr) (G : Nat) (hs : Sep L) (ho : Ov w L A K P) (hG : ∀ i, i < 3 → w.cell? ⟨G, i, none⟩ = some (.slice (L.O i) (L.N i) (L.C i))) (hGn : ¬ OB L G) :
    Calls Try.prog 19 #[.slice (some ⟨G, 0, none⟩) 3 3] w fun e w' => e = .returned (.bool true) ∧ Keeps (OB L) w w' := by
  have HS : Hid (Sep L) := hs
  obtain ⟨w1, hw1⟩ : ∃ w1, w1 = w.alloc (.cells #[.string ⟨#[48]⟩, .string ⟨#[49]⟩, .string ⟨#[50]⟩, .string ⟨#[51]⟩, .string ⟨#[52]⟩] 9) := ⟨_, rfl⟩
  obtain ⟨gN, hgN⟩ : ∃ gN, gN = w.heap.size := ⟨_, rfl⟩
  have hk1 : Keeps no w w1 := by rw [hw1]; exact (Keeps.refl _ _).alloc _
  have hb1 : w1.heap[gN]? = some (.cells #[.string ⟨#[48]⟩, .string ⟨#[49]⟩, .string ⟨#[50]⟩, .string ⟨#[51]⟩, .string ⟨#[52]⟩] 9 (0, 0)) := by rw [hw1, hgN]; exact blk_new _ _
  have HC : Hid (∀ X, Keeps (OB L) w1 X → (∀ i, i < 3 → X.cell? ⟨G, i, none⟩ = some (.slice (L.O i) (L.N i) (L.C i))) ∧ (∀ i, X.cell? ⟨gN, i % 5, none⟩ = some (.string (nmT i)))) := by
    intro X hX
    refine ⟨fun i hi => hX.cell (hk1.cellN (hG i hi)) hGn, fun i => hX.cell ?_ ?_⟩
    · rw [cell_of_blk hb1]; exact nm_cell i
    · intro h; have h2 := ho.lt _ h; simp only at h2; omega
  have HO1 : Hid (Ov w1 L A K P ∧ Keeps no w w1) := ⟨ho.keepsN hk1, hk1⟩
  clear hs ho hG hGn hk1 hb1
  go_enter Try.func19, Try.ntmps19
  go_upto_region 2 with fail
  rw [← hw1, ← hgN]
  clear hw1 hgN
  have HKW : Hid (Keeps no w w1) := HO1.out.2
  go_wp2_with fail
  go_loopw [4] (fun s4 wr => ∃ a : Nat, a ≤ 3 ∧ s4 = .int .i64 a ∧ Hid (Keeps (OB L) w1 wr ∧ ∃ A K P, Ov wr L A K P ∧ Done L A K P a 0)) (fun s4 _ => 3 - (intOf s4).toNat)
  case atStart => exact ⟨0, by omega, rfl, Keeps.refl _ _, A, K, P, HO1.out.1, done_start⟩
  case round =>
    clear HO1 A K P
    rename World => wr
    obtain ⟨a, ha, rfl, HR⟩ := hrel
    by_cases hlt : a < 3
    · have hlt' : (a : Int) < 3 := by omega
      have hn64 : ((L.N a : Nat) : Int) ≤ 64 := by have := HS.out.n a hlt; omega
      as_aux_lemma =>
      obtain ⟨M, hM⟩ : ∃ M, M = a % 5 := ⟨_, rfl⟩
      have hmt : ((a : Nat) : Int).tmod 5 = (M : Int) := by rw [tmod5, hM]
      have hme : ((a : Nat) : Int) % 5 = (M : Int) := by omega
      have hM5 : (M : Int) < 5 := by omega
      have HMD : Hid (a % 5 = M) := hM.symm
      clear hM
      go_wp2_with fail
      go_loopw [5] (fun s5 wl => ∃ b : Nat, b ≤ L.N a ∧ s5 = .int .i64 b ∧ Hid (Keeps (OB L) w1 wl ∧ ∃ A K P, Ov wl L A K P ∧ Done L A K P a b)) (fun s5 _ => L.N a - (intOf s5).toNat)
      case atStart => exact ⟨0, by omega, rfl, HR.out⟩
      case round =>
        clear HR
        rename World => wl
        obtain ⟨b, hb, rfl, HL⟩ := hrel
        have HLK : Hid (Keeps (OB L) w1 wl) := HL.out.1
        have hg := (HC.out wl HLK.out).1 a hlt
        by_cases hbl : b < L.N a
        · have hbl' : (b : Int) < ((L.N a : Nat) : Int) := by omega
          obtain ⟨A, K, P, hov, hd⟩ := HL.out.2
          have HDN : Hid (Done L A K P a b) := hd
          clear hd HL hg
          obtain ⟨bo, hbo, -, -⟩ := hov.setA HS.out hlt hbl 0
          obtain ⟨r, hrO, hrn, hrr⟩ := hov.row a hlt
          obtain ⟨bo2, off2, hoa, h9⟩ := hrO.sl.atQ (j := b) (by omega)
          have hri := hrr b hbl
          rw [hbo] at hoa
          injection hoa with hoa2
          injection hoa2 with hoa3 hoa4 _
          subst hoa3 hoa4
          generalize r.getD b rq0 = x at h9 hri
          obtain ⟨x0, x1, x2, x3, x4, xpo, xpn, xpc, xko, xkn, xkc, xwo, xwc, xvo, xvc⟩ := x
          obtain ⟨e0, e1, e2, e3, e4, e5, e6⟩ := hri
          simp only at e0 e1 e2 e3 e4 e5 e6
          subst e0 e1 e2 e3 e4 e5 e6
          obtain ⟨z0, z1, z2, z3, z4, z5, z6, z7, z8⟩ := h9
          simp only [Nat.zero_add] at z0 z1 z2 z3 z4 z5 z6 z7 z8
          have hg := (HC.out wl HLK.out).1 a hlt
          rw [hbo] at hg
          clear hrO hrn hrr r
          obtain ⟨wm, hwm⟩ : ∃ wm, wm = wl.alloc (.cells #[.int .i64 x1, .int .i64 x2, .int .u64 (x3 : Nat), .int .u64 (x4 : Nat), .slice (L.PO a b) (L.PN a b) (L.PC a b), .slice (L.KO a b) (L.KN a b) (L.KC a b), .slice xwo 0 xwc, .slice xvo 0 xvc] 39) := ⟨_, rfl⟩
          obtain ⟨BM, hBM⟩ : ∃ BM, BM = wl.heap.size := ⟨_, rfl⟩
          have hkm : Keeps no wl wm := by rw [hwm]; exact (Keeps.refl _ _).alloc _
          have hbm : wm.heap[BM]? = some (.cells #[.int .i64 x1, .int .i64 x2, .int .u64 (x3 : Nat), .int .u64 (x4 : Nat), .slice (L.PO a b) (L.PN a b) (L.PC a b), .slice (L.KO a b) (L.KN a b) (L.KC a b), .slice xwo 0 xwc, .slice xvo 0 xvc] 39 (0, 0)) := by rw [hwm, hBM]; exact blk_new _ _
          have HM : Hid (∀ X, Keeps (OB L) wm X → X.cell? ⟨BM, 4, none⟩ = some (.slice (L.PO a b) (L.PN a b) (L.PC a b)) ∧ X.cell? ⟨BM, 5, none⟩ = some (.slice (L.KO a b) (L.KN a b) (L.KC a b)) ∧ Keeps (OB L) w1 X) := by
            intro X hX
            have hn : ¬ OB L BM := fun h => by have h2 := hov.lt _ h; omega
            exact ⟨hX.cell (by rw [cell_of_blk hbm]; rfl) hn, hX.cell (by rw [cell_of_blk hbm]; rfl) hn, (HLK.out.trans hkm.of_no).trans hX⟩
          have HOM : Hid (Ov wm L A K P) := hov.keepsN hkm
          have hk20 : ((L.KN a b : Nat) : Int) ≤ 2000 := by have := HS.out.kn a b hlt hbl; omega
          have hp20 : ((L.PN a b : Nat) : Int) ≤ 2000 := by have := HS.out.pn a b hlt hbl; omega
          clear hkm hbm hov
          go_upto_region 9 with fail
          rw [← hwm, ← hBM]
          clear hwm hBM z0 z1 z2 z3 z4 z5 z6 z7 z8 hg
          obtain ⟨M2, hM2⟩ : ∃ M2, M2 = b % 5 := ⟨_, rfl⟩
          have hmt2 : ((b : Nat) : Int).tmod 5 = (M2 : Int) := by rw [tmod5, hM2]
          have hme2 : ((b : Nat) : Int) % 5 = (M2 : Int) := by omega
          have hN5 : (M2 : Int) < 5 := by omega
          have HMD2 : Hid (b % 5 = M2) := hM2.symm
          clear hM2
          go_wp2_with fail
          go_loopw [7] (fun s7 wx => ∃ x : Nat, x ≤ L.KN a b ∧ s7 = .int .i64 x ∧ Hid (Keeps (OB L) wm wx ∧ ∃ K, Ov wx L A K P ∧ Done L A K P a b ∧ ∀ y, y < x → (K a b).getD y e0 = nmT a)) (fun s7 _ => L.KN a b - (intOf s7).toNat)
          case atStart => exact ⟨0, by omega, rfl, Keeps.refl _ _, K, HOM.out, HDN.out, fun y hy => by omega⟩
          case round =>
            clear HOM HDN K
            rename World => wx
            obtain ⟨x, hx, rfl, HX0⟩ := hrel
            have HX : Hid (Keeps (OB L) wm wx) := HX0.out.1
            obtain ⟨K, hok⟩ := HX0.out.2
            have HOK : Hid (Ov wx L A K P ∧ Done L A K P a b ∧ ∀ y, y < x → (K a b).getD y e0 = nmT a) := hok
            clear hok HX0
            obtain ⟨y4, y5, -⟩ := HM.out wx HX.out
            clear y4
            by_cases hxl : x < L.KN a b
            · have hxl' : (x : Int) < ((L.KN a b : Nat) : Int) := by omega
              obtain ⟨kb, hkb, -⟩ := HOK.out.1.setK HS.out hlt hbl hxl (nmT a)
              have HKB : Hid (L.KO a b = some ⟨kb, 0, none⟩) := hkb
              clear hkb
              as_aux_lemma =>
              have HSX : Hid (∀ X, Keeps (OB L) wx X → X.cell? ⟨BM, 5, none⟩ = some (.slice (some ⟨kb, 0, none⟩) (L.KN a b) (L.KC a b)) ∧ X.cell? ⟨gN, M, none⟩ = some (.string (nmT a))) := by
                intro X hX
                have h := HM.out X (HX.out.trans hX)
                have h2 := (HC.out X h.2.2).2 a
                rw [HMD.out] at h2
                have h3 := h.2.1
                rw [HKB.out] at h3
                exact ⟨h3, h2⟩
              go_wp2_with fail
              refine wp_region_held_drew (S := fun X => X.cell? ⟨BM, 5, none⟩ = some (.slice (some ⟨kb, 0, none⟩) (L.KN a b) (L.KC a b)) ∧ X.cell? ⟨gN, M, none⟩ = some (.string (nmT a))) (by kernel_rfl) ?_ (fun hHeld => ?_)
              · exact HSX.out _ ((Keeps.refl _ _).drew)
              have HDW : Hid (Keeps no wx wx.drew) := (Keeps.refl _ _).drew
              generalize wx.drew = zd at HDW hHeld ⊢
              refine wpAnyH_take (i := 0) (v := ?_) (by simp only [List.getElem?_toArray, List.getElem?_cons_succ, List.getElem?_cons_zero]; rfl) (by kernel_rfl) (by kernel_rfl) (by kernel_rfl) (by exact fun _ _ _ h => h) (Or.inl ⟨by rfl, ?_⟩) (by assumption) ?_
              rotate_left
              · (intro _ hSw; (try dsimp only at hSw); go_simp; (try with_reducible rfl))
              try simp only [Act.put, List.setIfInBounds_toArray, List.set_cons_zero, List.set_cons_succ]
              refine wpAnyH_take (i := 1) (v := ?_) (by simp only [List.getElem?_toArray, List.getElem?_cons_succ, List.getElem?_cons_zero]; rfl) (by kernel_rfl) (by kernel_rfl) (by kernel_rfl) (by exact fun _ _ _ h => h) (Or.inl ⟨by rfl, ?_⟩) (by assumption) ?_
              rotate_left
              · (intro _ hSw; (try dsimp only at hSw); have hz := hSw.1; go_simp; (try with_reducible rfl))
              try simp only [Act.put, List.setIfInBounds_toArray, List.set_cons_zero, List.set_cons_succ]
              refine wpAnyH_take (i := 2) (v := ?_) (by simp only [List.getElem?_toArray, List.getElem?_cons_succ, List.getElem?_cons_zero]; rfl) (by kernel_rfl) (by kernel_rfl) (by kernel_rfl) (by exact fun _ _ _ h => h) (Or.inl ⟨by rfl, ?_⟩) (by assumption) ?_
              rotate_left
              · (intro _ hSw; (try dsimp only at hSw); go_simp; (try with_reducible rfl))
              try simp only [Act.put, List.setIfInBounds_toArray, List.set_cons_zero, List.set_cons_succ]
              refine wpAnyH_take (i := 3) (v := ?_) (by simp only [List.getElem?_toArray, List.getElem?_cons_succ, List.getElem?_cons_zero]; rfl) (by kernel_rfl) (by kernel_rfl) (by kernel_rfl) (by exact fun _ _ _ h => h) (Or.inl ⟨by rfl, ?_⟩) (by assumption) ?_
              rotate_left
              · (intro _ hSw; (try dsimp only at hSw); go_simp; (try with_reducible rfl))
              try simp only [Act.put, List.setIfInBounds_toArray, List.set_cons_zero, List.set_cons_succ]
              refine wpAnyH_take (i := 4) (v := ?_) (by simp only [List.getElem?_toArray, List.getElem?_cons_succ, List.getElem?_cons_zero]; rfl) (by kernel_rfl) (by kernel_rfl) (by kernel_rfl) (by exact fun _ _ _ h => h) (Or.inl ⟨by rfl, ?_⟩) (by assumption) ?_
              rotate_left
              · (intro _ hSw; (try dsimp only at hSw); go_simp; (try with_reducible rfl))
              try simp only [Act.put, List.setIfInBounds_toArray, List.set_cons_zero, List.set_cons_succ]
              refine wpAnyH_take (i := 5) (v := ?_) (by simp only [List.getElem?_toArray, List.getElem?_cons_succ, List.getElem?_cons_zero]; rfl) (by kernel_rfl) (by kernel_rfl) (by kernel_rfl) (by exact fun _ _ _ h => h) (Or.inl ⟨by rfl, ?_⟩) (by assumption) ?_
              rotate_left
              · (intro _ hSw; (try dsimp only at hSw); go_simp; (try with_reducible rfl))
              try simp only [Act.put, List.setIfInBounds_toArray, List.set_cons_zero, List.set_cons_succ]
              refine wpAnyH_take (i := 6) (v := ?_) (by simp only [List.getElem?_toArray, List.getElem?_cons_succ, List.getElem?_cons_zero]; rfl) (by kernel_rfl) (by kernel_rfl) (by kernel_rfl) (by exact fun _ _ _ h => h) (Or.inl ⟨by rfl, ?_⟩) (by assumption) ?_
              rotate_left
              · (intro _ hSw; (try dsimp only at hSw); go_simp; (try with_reducible rfl))
              try simp only [Act.put, List.setIfInBounds_toArray, List.set_cons_zero, List.set_cons_succ]
              refine wpAnyH_take (i := 7) (v := ?_) (by simp only [List.getElem?_toArray, List.getElem?_cons_succ, List.getElem?_cons_zero]; rfl) (by kernel_rfl) (by kernel_rfl) (by kernel_rfl) (by exact fun _ _ _ h => h) (Or.inl ⟨by rfl, ?_⟩) (by assumption) ?_
              rotate_left
              · (intro _ hSw; (try dsimp only at hSw); have hz := hSw.2; go_simp; (try with_reducible rfl))
              try simp only [Act.put, List.setIfInBounds_toArray, List.set_cons_zero, List.set_cons_succ]
              refine wpAnyH_take (i := 8) (v := ?_) (by simp only [List.getElem?_toArray, List.getElem?_cons_succ, List.getElem?_cons_zero]; rfl) (by kernel_rfl) (by kernel_rfl) (by kernel_rfl) (by exact fun _ _ _ h => h) (Or.inl ⟨by rfl, ?_⟩) (by assumption) ?_
              rotate_left
              · (intro _ hSw; (try dsimp only at hSw); go_simp; (try with_reducible rfl))
              try simp only [Act.put, List.setIfInBounds_toArray, List.set_cons_zero, List.set_cons_succ]
              obtain ⟨kb2, hkb2, hfz, hov3, hkp3⟩ := (HOK.out.1.keepsN HDW.out).setK HS.out hlt hbl hxl (nmT a)
              rw [HKB.out] at hkb2
              injection hkb2 with hkb3
              injection hkb3 with hkb4 _ _
              subst hkb4
              have fx := hfz x
              obtain ⟨kb5, off5, e5, cx⟩ := ((HOK.out.1.keepsN HDW.out).key a b hlt hbl).1.sl.at (j := x) (by rw [(HOK.out.1.key a b hlt hbl).2]; exact hxl)
              rw [HKB.out] at e5
              injection e5 with e6
              injection e6 with e7 e8 _
              subst e7 e8
              rw [Nat.zero_add] at cx
              have HN : Hid (Keeps (OB L) wm (zd.setCell ⟨kb, x, none⟩ (.string (nmT a))) ∧ ∃ K, Ov (zd.setCell ⟨kb, x, none⟩ (.string (nmT a))) L A K P ∧ Done L A K P a b ∧ ∀ y, y < x + 1 → (K a b).getD y e0 = nmT a) := ⟨(HX.out.trans HDW.out.of_no).trans hkp3, _, hov3, HOK.out.2.1.tK _, by rw [upd2_at]; exact set_prog (HOK.out.1.key a b hlt hbl).2 hxl HOK.out.2.2⟩
              have hkq : Keeps (OB L) wx (zd.setCell ⟨kb, x, none⟩ (.string (nmT a))) := (HDW.out.of_no).trans hkp3
              have HKQ : Hid (Keeps (OB L) wx (zd.setCell ⟨kb, x, none⟩ (.string (nmT a)))) := hkq
              clear hov3 hkp3 hfz hkq HOK
              refine wpAnyH_ready (rs := [9]) (by kernel_rfl) (by simp) ?_
              refine AllReadyH.cons (by simp only [List.getElem?_toArray, List.getElem?_cons_succ, List.getElem?_cons_zero]; rfl) (fun Kq hKq => ?_) AllReadyH.nil
              go_simp
              refine hKq.out _ _ ?_ (fun hHeldN => ?_)
              · exact HSX.out _ HKQ.out
              clear hKq Kq hHeld
              have hHeld := hHeldN
              clear hHeldN
              refine wpAnyH_done (by kernel_rfl) ?_ _
              clear hHeld
              go_wp2_with fail
              go_roundw
              case rel => exact ⟨x + 1, by omega, by go_num, HN.out⟩
              case measure => simp [intOf]; omega
            · have hxl' : ¬ (x : Int) < ((L.KN a b : Nat) : Int) := by omega
              have HKD : Hid (K a b = List.replicate (L.KN a b) (nmT a)) := rep_of (HOK.out.1.key a b hlt hbl).2 (fun y hy => HOK.out.2.2 y (by omega))
              have HO2 : Hid (Ov wx L A K P ∧ Done L A K P a b) := ⟨HOK.out.1, HOK.out.2.1⟩
              have HX2 : Hid (Keeps (OB L) wm wx) := HX.out
              clear HOK
              go_wp2_with fail
              clear y5 hxl hxl' hx HX
              go_loopw [8] (fun s8 wy => ∃ x : Nat, x ≤ L.PN a b ∧ s8 = .int .i64 x ∧ Hid (Keeps (OB L) wm wy ∧ ∃ P, Ov wy L A K P ∧ Done L A K P a b ∧ ∀ y, y < x → (P a b).getD y p0 = (nmT a, nmT b))) (fun s8 _ => L.PN a b - (intOf s8).toNat)
              case atStart => exact ⟨0, by omega, rfl, HX2.out, P, HO2.out.1, HO2.out.2, fun y hy => by omega⟩
              case round =>
                clear HO2 HX2
                have HK0 : Hid (wx = wx) := rfl
                clear HK0
                rename World => wx
                obtain ⟨x, hx, rfl, HX0⟩ := hrel
                have HX : Hid (Keeps (OB L) wm wx) := HX0.out.1
                obtain ⟨P, hok⟩ := HX0.out.2
                have HOK : Hid (Ov wx L A K P ∧ Done L A K P a b ∧ ∀ y, y < x → (P a b).getD y p0 = (nmT a, nmT b)) := hok
                clear hok HX0
                obtain ⟨y4, y5, hkw⟩ := HM.out wx HX.out
                have HKW1 : Hid (Keeps (OB L) w1 wx) := hkw
                clear y5 hkw
                by_cases hxl : x < L.PN a b
                · have hxl' : (x : Int) < ((L.PN a b : Nat) : Int) := by omega
                  obtain ⟨pb, hkb, -⟩ := HOK.out.1.setP HS.out hlt hbl hxl (nmT a) (nmT b)
                  have HKB : Hid (L.PO a b = some ⟨pb, 0, none⟩) := hkb
                  clear hkb
                  as_aux_lemma =>
                  have HSX : Hid (∀ X, Keeps (OB L) wx X → X.cell? ⟨BM, 4, none⟩ = some (.slice (some ⟨pb, 0, none⟩) (L.PN a b) (L.PC a b)) ∧ X.cell? ⟨gN, M, none⟩ = some (.string (nmT a)) ∧ X.cell? ⟨gN, M2, none⟩ = some (.string (nmT b))) := by
                    intro X hX
                    have h := HM.out X (HX.out.trans hX)
                    have h2 := (HC.out X h.2.2).2 a
                    have h4 := (HC.out X h.2.2).2 b
                    rw [HMD.out] at h2
                    rw [HMD2.out] at h4
                    have h3 := h.1
                    rw [HKB.out] at h3
                    exact ⟨h3, h2, h4⟩
                  go_wp2_with fail
                  refine wp_region_held_drew (S := fun X => X.cell? ⟨BM, 4, none⟩ = some (.slice (some ⟨pb, 0, none⟩) (L.PN a b) (L.PC a b)) ∧ X.cell? ⟨gN, M, none⟩ = some (.string (nmT a)) ∧ X.cell? ⟨gN, M2, none⟩ = some (.string (nmT b))) (by kernel_rfl) ?_ (fun hHeld => ?_)
                  · exact HSX.out _ ((Keeps.refl _ _).drew)
                  have HDW : Hid (Keeps no wx wx.drew) := (Keeps.refl _ _).drew
                  generalize wx.drew = zd at HDW hHeld ⊢
                  refine wpAnyH_take (i := 0) (v := ?_) (by simp only [List.getElem?_toArray, List.getElem?_cons_succ, List.getElem?_cons_zero]; rfl) (by kernel_rfl) (by kernel_rfl) (by kernel_rfl) (by exact fun _ _ _ h => h) (Or.inl ⟨by rfl, ?_⟩) (by assumption) ?_
                  rotate_left
                  · (intro _ hSw; (try dsimp only at hSw); go_simp; (try with_reducible rfl))
                  try simp only [Act.put, List.setIfInBounds_toArray, List.set_cons_zero, List.set_cons_succ]
                  refine wpAnyH_take (i := 1) (v := ?_) (by simp only [List.getElem?_toArray, List.getElem?_cons_succ, List.getElem?_cons_zero]; rfl) (by kernel_rfl) (by kernel_rfl) (by kernel_rfl) (by exact fun _ _ _ h => h) (Or.inl ⟨by rfl, ?_⟩) (by assumption) ?_
                  rotate_left
                  · (intro _ hSw; (try dsimp only at hSw); have hz := hSw.1; go_simp; (try with_reducible rfl))
                  try simp only [Act.put, List.setIfInBounds_toArray, List.set_cons_zero, List.set_cons_succ]
                  refine wpAnyH_take (i := 2) (v := ?_) (by simp only [List.getElem?_toArray, List.getElem?_cons_succ, List.getElem?_cons_zero]; rfl) (by kernel_rfl) (by kernel_rfl) (by kernel_rfl) (by exact fun _ _ _ h => h) (Or.inl ⟨by rfl, ?_⟩) (by assumption) ?_
                  rotate_left
                  · (intro _ hSw; (try dsimp only at hSw); go_simp; (try with_reducible rfl))
                  try simp only [Act.put, List.setIfInBounds_toArray, List.set_cons_zero, List.set_cons_succ]
                  refine wpAnyH_take (i := 3) (v := ?_) (by simp only [List.getElem?_toArray, List.getElem?_cons_succ, List.getElem?_cons_zero]; rfl) (by kernel_rfl) (by kernel_rfl) (by kernel_rfl) (by exact fun _ _ _ h => h) (Or.inl ⟨by rfl, ?_⟩) (by assumption) ?_
                  rotate_left
                  · (intro _ hSw; (try dsimp only at hSw); go_simp; (try with_reducible rfl))
                  try simp only [Act.put, List.setIfInBounds_toArray, List.set_cons_zero, List.set_cons_succ]
                  refine wpAnyH_take (i := 4) (v := ?_) (by simp only [List.getElem?_toArray, List.getElem?_cons_succ, List.getElem?_cons_zero]; rfl) (by kernel_rfl) (by kernel_rfl) (by kernel_rfl) (by exact fun _ _ _ h => h) (Or.inl ⟨by rfl, ?_⟩) (by assumption) ?_
                  rotate_left
                  · (intro _ hSw; (try dsimp only at hSw); go_simp; (try with_reducible rfl))
                  try simp only [Act.put, List.setIfInBounds_toArray, List.set_cons_zero, List.set_cons_succ]
                  refine wpAnyH_take (i := 5) (v := ?_) (by simp only [List.getElem?_toArray, List.getElem?_cons_succ, List.getElem?_cons_zero]; rfl) (by kernel_rfl) (by kernel_rfl) (by kernel_rfl) (by exact fun _ _ _ h => h) (Or.inl ⟨by rfl, ?_⟩) (by assumption) ?_
                  rotate_left
                  · (intro _ hSw; (try dsimp only at hSw); go_simp; (try with_reducible rfl))
                  try simp only [Act.put, List.setIfInBounds_toArray, List.set_cons_zero, List.set_cons_succ]
                  refine wpAnyH_take (i := 6) (v := ?_) (by simp only [List.getElem?_toArray, List.getElem?_cons_succ, List.getElem?_cons_zero]; rfl) (by kernel_rfl) (by kernel_rfl) (by kernel_rfl) (by exact fun _ _ _ h => h) (Or.inl ⟨by rfl, ?_⟩) (by assumption) ?_
                  rotate_left
                  · (intro _ hSw; (try dsimp only at hSw); go_simp; (try with_reducible rfl))
                  try simp only [Act.put, List.setIfInBounds_toArray, List.set_cons_zero, List.set_cons_succ]
                  refine wpAnyH_take (i := 7) (v := ?_) (by simp only [List.getElem?_toArray, List.getElem?_cons_succ, List.getElem?_cons_zero]; rfl) (by kernel_rfl) (by kernel_rfl) (by kernel_rfl) (by exact fun _ _ _ h => h) (Or.inl ⟨by rfl, ?_⟩) (by assumption) ?_
                  rotate_left
                  · (intro _ hSw; (try dsimp only at hSw); have hz := hSw.2.1; go_simp; (try with_reducible rfl))
                  try simp only [Act.put, List.setIfInBounds_toArray, List.set_cons_zero, List.set_cons_succ]
                  refine wpAnyH_take (i := 8) (v := ?_) (by simp only [List.getElem?_toArray, List.getElem?_cons_succ, List.getElem?_cons_zero]; rfl) (by kernel_rfl) (by kernel_rfl) (by kernel_rfl) (by exact fun _ _ _ h => h) (Or.inl ⟨by rfl, ?_⟩) (by assumption) ?_
                  rotate_left
                  · (intro _ hSw; (try dsimp only at hSw); go_simp; (try with_reducible rfl))
                  try simp only [Act.put, List.setIfInBounds_toArray, List.set_cons_zero, List.set_cons_succ]
                  refine wpAnyH_take (i := 9) (v := ?_) (by simp only [List.getElem?_toArray, List.getElem?_cons_succ, List.getElem?_cons_zero]; rfl) (by kernel_rfl) (by kernel_rfl) (by kernel_rfl) (by exact fun _ _ _ h => h) (Or.inl ⟨by rfl, ?_⟩) (by assumption) ?_
                  rotate_left
                  · (intro _ hSw; (try dsimp only at hSw); go_simp; (try with_reducible rfl))
                  try simp only [Act.put, List.setIfInBounds_toArray, List.set_cons_zero, List.set_cons_succ]
                  refine wpAnyH_take (i := 10) (v := ?_) (by simp only [List.getElem?_toArray, List.getElem?_cons_succ, List.getElem?_cons_zero]; rfl) (by kernel_rfl) (by kernel_rfl) (by kernel_rfl) (by exact fun _ _ _ h => h) (Or.inl ⟨by rfl, ?_⟩) (by assumption) ?_
                  rotate_left
                  · (intro _ hSw; (try dsimp only at hSw); go_simp; (try with_reducible rfl))
                  try simp only [Act.put, List.setIfInBounds_toArray, List.set_cons_zero, List.set_cons_succ]
                  refine wpAnyH_take (i := 11) (v := ?_) (by simp only [List.getElem?_toArray, List.getElem?_cons_succ, List.getElem?_cons_zero]; rfl) (by kernel_rfl) (by kernel_rfl) (by kernel_rfl) (by exact fun _ _ _ h => h) (Or.inl ⟨by rfl, ?_⟩) (by assumption) ?_
                  rotate_left
                  · (intro _ hSw; (try dsimp only at hSw); go_simp; (try with_reducible rfl))
                  try simp only [Act.put, List.setIfInBounds_toArray, List.set_cons_zero, List.set_cons_succ]
                  refine wpAnyH_take (i := 12) (v := ?_) (by simp only [List.getElem?_toArray, List.getElem?_cons_succ, List.getElem?_cons_zero]; rfl) (by kernel_rfl) (by kernel_rfl) (by kernel_rfl) (by exact fun _ _ _ h => h) (Or.inl ⟨by rfl, ?_⟩) (by assumption) ?_
                  rotate_left
                  · (intro _ hSw; (try dsimp only at hSw); have hz := hSw.2.2; go_simp; (try with_reducible rfl))
                  try simp only [Act.put, List.setIfInBounds_toArray, List.set_cons_zero, List.set_cons_succ]
                  refine wpAnyH_take (i := 13) (v := ?_) (by simp only [List.getElem?_toArray, List.getElem?_cons_succ, List.getElem?_cons_zero]; rfl) (by kernel_rfl) (by kernel_rfl) (by kernel_rfl) (by exact fun _ _ _ h => h) (Or.inl ⟨by rfl, ?_⟩) (by assumption) ?_
                  rotate_left
                  · (intro _ hSw; (try dsimp only at hSw); go_simp; (try with_reducible rfl))
                  try simp only [Act.put, List.setIfInBounds_toArray, List.set_cons_zero, List.set_cons_succ]
                  refine wpAnyH_take (i := 14) (v := ?_) (by simp only [List.getElem?_toArray, List.getElem?_cons_succ, List.getElem?_cons_zero]; rfl) (by kernel_rfl) (by kernel_rfl) (by kernel_rfl) (by exact fun _ _ _ h => h) (Or.inl ⟨by rfl, ?_⟩) (by assumption) ?_
                  rotate_left
                  · (intro _ hSw; (try dsimp only at hSw); go_simp; (try with_reducible rfl))
                  try simp only [Act.put, List.setIfInBounds_toArray, List.set_cons_zero, List.set_cons_succ]
                  obtain ⟨pb2, hpb2, hfz, hov3, hkp3⟩ := (HOK.out.1.keepsN HDW.out).setP HS.out hlt hbl hxl (nmT a) (nmT b)
                  rw [HKB.out] at hpb2
                  injection hpb2 with hkb3
                  injection hkb3 with hkb4 _ _
                  subst hkb4
                  have fx := hfz (x * 2)
                  have fx1 := hfz (x * 2 + 1)
                  obtain ⟨kb5, off5, e5, cx, cx1⟩ := ((HOK.out.1.keepsN HDW.out).pr a b hlt hbl).1.sl.atP (j := x) (by rw [(HOK.out.1.pr a b hlt hbl).2]; exact hxl)
                  rw [HKB.out] at e5
                  injection e5 with e6
                  injection e6 with e7 e8 _
                  subst e7 e8
                  rw [Nat.zero_add] at cx cx1
                  have HN : Hid (Keeps (OB L) wm ((zd.setCell ⟨pb, x * 2, none⟩ (.string (nmT a))).setCell ⟨pb, x * 2 + 1, none⟩ (.string (nmT b))) ∧ ∃ P, Ov ((zd.setCell ⟨pb, x * 2, none⟩ (.string (nmT a))).setCell ⟨pb, x * 2 + 1, none⟩ (.string (nmT b))) L A K P ∧ Done L A K P a b ∧ ∀ y, y < x + 1 → (P a b).getD y p0 = (nmT a, nmT b)) := ⟨(HX.out.trans HDW.out.of_no).trans hkp3, _, hov3, HOK.out.2.1.tP _, by rw [upd2_at]; exact set_prog (HOK.out.1.pr a b hlt hbl).2 hxl HOK.out.2.2⟩
                  have HKQ : Hid (Keeps (OB L) wx ((zd.setCell ⟨pb, x * 2, none⟩ (.string (nmT a))).setCell ⟨pb, x * 2 + 1, none⟩ (.string (nmT b)))) := (HDW.out.of_no).trans hkp3
                  clear hov3 hkp3 hfz HOK
                  refine wpAnyH_ready (rs := [15]) (by kernel_rfl) (by simp) ?_
                  refine AllReadyH.cons (by simp only [List.getElem?_toArray, List.getElem?_cons_succ, List.getElem?_cons_zero]; rfl) (fun Kq hKq => ?_) AllReadyH.nil
                  go_simp
                  refine hKq.out _ _ ?_ (fun hHeldN => ?_)
                  · exact HSX.out _ HKQ.out
                  clear hKq Kq hHeld
                  have hHeld := hHeldN
                  clear hHeldN
                  refine wpAnyH_done (by kernel_rfl) ?_ _
                  clear hHeld
                  go_wp2_with fail
                  go_roundw
                  case rel => exact ⟨x + 1, by omega, by go_num, HN.out⟩
                  case measure => simp [intOf]; omega
                · have hxl' : ¬ (x : Int) < ((L.PN a b : Nat) : Int) := by omega
                  have HPD : Hid (P a b = List.replicate (L.PN a b) (nmT a, nmT b)) := rep_of (HOK.out.1.pr a b hlt hbl).2 (fun y hy => HOK.out.2.2 y (by omega))
                  obtain ⟨b3, hb3, hfz, hov3, hkp3⟩ := HOK.out.1.setA HS.out hlt hbl (-1 - (a : Int))
                  have hg := (HC.out wx HKW1.out).1 a hlt
                  rw [hb3] at hg
                  have fx := hfz (b * 9)
                  have cx := HOK.out.1.part HS.out hlt hbl hb3
                  have HN : Hid (Keeps (OB L) w1 (wx.setCell ⟨b3, b * 9, none⟩ (.int .i64 (-1 - (a : Int)))) ∧ ∃ A K P, Ov (wx.setCell ⟨b3, b * 9, none⟩ (.int .i64 (-1 - (a : Int)))) L A K P ∧ Done L A K P a (b + 1)) := ⟨HKW1.out.trans hkp3, _, _, _, hov3, HOK.out.2.1.next HKD.out HPD.out⟩
                  clear hov3 hkp3 hfz HOK HPD hb3
                  go_wp2_with fail
                  go_roundw
                  case rel => exact ⟨b + 1, by omega, by go_num, HN.out⟩
                  case measure => simp [intOf]; omega
        · have hbl' : ¬ (b : Int) < ((L.N a : Nat) : Int) := by omega
          obtain ⟨A, K, P, hov, hd⟩ := HL.out.2
          have HN : Hid (Keeps (OB L) w1 wl ∧ ∃ A K P, Ov wl L A K P ∧ Done L A K P (a + 1) 0) := ⟨HLK.out, A, K, P, hov, hd.row (by omega)⟩
          clear hov hd HL
          go_wp2_with fail
          go_roundw
          case rel => exact ⟨a + 1, by omega, by go_num, HN.out⟩
          case measure => simp [intOf]; omega
    · have hlt' : ¬ (a : Int) < 3 := by omega
      obtain ⟨A, K, P, hov, hd⟩ := HR.out.2
      obtain rfl : a = 3 := by omega
      have HV : Hid (Keeps (OB L) w1 wr ∧ Ov wr L A K P) := ⟨HR.out.1, hov⟩
      have HD : Hid (Done L A K P 3 0) := hd
      clear hov hd HR hlt ha
      go_wp2_with fail
      clear hlt'
      go_loopw [9] (fun s9 wq => ∃ a : Nat, a ≤ 3 ∧ s9 = .int .i64 a ∧ Hid (Keeps (OB L) w1 wq ∧ Ov wq L A K P)) (fun s9 _ => 3 - (intOf s9).toNat)
      case atStart => exact ⟨0, by omega, rfl, HV.out⟩
      case round =>
        clear HV
        rename World => wq
        obtain ⟨a, ha, rfl, HR⟩ := hrel
        by_cases hlt : a < 3
        · have hlt' : (a : Int) < 3 := by omega
          have hn64 : ((L.N a : Nat) : Int) ≤ 64 := by have := HS.out.n a hlt; omega
          as_aux_lemma =>
          go_wp2_with fail
          go_loopw [10] (fun s10 wl => ∃ b : Nat, b ≤ L.N a ∧ s10 = .int .i64 b ∧ Hid (Keeps (OB L) w1 wl ∧ Ov wl L A K P)) (fun s10 _ => L.N a - (intOf s10).toNat)
          case atStart => exact ⟨0, by omega, rfl, HR.out⟩
          case round =>
            clear HR
            rename World => wl
            obtain ⟨b, hb, rfl, HL⟩ := hrel
            have HLK : Hid (Keeps (OB L) w1 wl) := HL.out.1
            have hg := (HC.out wl HLK.out).1 a hlt
            by_cases hbl : b < L.N a
            · have hbl' : (b : Int) < ((L.N a : Nat) : Int) := by omega
              have hov := HL.out.2
              clear HL hg
              obtain ⟨bo, hbo, -, -⟩ := hov.setA HS.out hlt hbl 0
              obtain ⟨r, hrO, hrn, hrr⟩ := hov.row a hlt
              obtain ⟨bo2, off2, hoa, h9⟩ := hrO.sl.atQ (j := b) (by omega)
              have hri := hrr b hbl
              rw [hbo] at hoa
              injection hoa with hoa2
              injection hoa2 with hoa3 hoa4 _
              subst hoa3 hoa4
              generalize r.getD b rq0 = x at h9 hri
              obtain ⟨x0, x1, x2, x3, x4, xpo, xpn, xpc, xko, xkn, xkc, xwo, xwc, xvo, xvc⟩ := x
              obtain ⟨e0, e1, e2, e3, e4, e5, e6⟩ := hri
              simp only at e0 e1 e2 e3 e4 e5 e6
              subst e0 e1 e2 e3 e4 e5 e6
              obtain ⟨z0, z1, z2, z3, z4, z5, z6, z7, z8⟩ := h9
              simp only [Nat.zero_add] at z0 z1 z2 z3 z4 z5 z6 z7 z8
              have hg := (HC.out wl HLK.out).1 a hlt
              rw [hbo] at hg
              clear hrO hrn hrr r
              obtain ⟨wm, hwm⟩ : ∃ wm, wm = wl.alloc (.cells #[.int .i64 x1, .int .i64 x2, .int .u64 (x3 : Nat), .int .u64 (x4 : Nat), .slice (L.PO a b) (L.PN a b) (L.PC a b), .slice (L.KO a b) (L.KN a b) (L.KC a b), .slice xwo 0 xwc, .slice xvo 0 xvc] 39) := ⟨_, rfl⟩
              obtain ⟨BM, hBM⟩ : ∃ BM, BM = wl.heap.size := ⟨_, rfl⟩
              have hkm : Keeps no wl wm := by rw [hwm]; exact (Keeps.refl _ _).alloc _
              have hbm : wm.heap[BM]? = some (.cells #[.int .i64 x1, .int .i64 x2, .int .u64 (x3 : Nat), .int .u64 (x4 : Nat), .slice (L.PO a b) (L.PN a b) (L.PC a b), .slice (L.KO a b) (L.KN a b) (L.KC a b), .slice xwo 0 xwc, .slice xvo 0 xvc] 39 (0, 0)) := by rw [hwm, hBM]; exact blk_new _ _
              have HM : Hid (∀ X, Keeps (OB L) wm X → X.cell? ⟨BM, 4, none⟩ = some (.slice (L.PO a b) (L.PN a b) (L.PC a b)) ∧ X.cell? ⟨BM, 5, none⟩ = some (.slice (L.KO a b) (L.KN a b) (L.KC a b)) ∧ Keeps (OB L) w1 X) := by
                intro X hX
                have hn : ¬ OB L BM := fun h => by have h2 := hov.lt _ h; omega
                exact ⟨hX.cell (by rw [cell_of_blk hbm]; rfl) hn, hX.cell (by rw [cell_of_blk hbm]; rfl) hn, (HLK.out.trans hkm.of_no).trans hX⟩
              have HOM : Hid (Ov wm L A K P) := hov.keepsN hkm
              have hk20 : ((L.KN a b : Nat) : Int) ≤ 2000 := by have := HS.out.kn a b hlt hbl; omega
              have hp20 : ((L.PN a b : Nat) : Int) ≤ 2000 := by have := HS.out.pn a b hlt hbl; omega
              clear hkm hbm hov
              go_upto_region 25 with fail
              rw [← hwm, ← hBM]
              clear hwm hBM z0 z1 z2 z3 z4 z5 z6 z7 z8 hg
              obtain ⟨y4, y5, -⟩ := HM.out wm (Keeps.refl _ _)
              have HB : Hid (∀ z, OB L z → z < wm.heap.size) := HOM.out.lt
              go_wp2_with fail
              clear y4 y5
              go_loopw [12, 13, 14] (fun s12 s13 s14 wx => ∃ (x : Nat) (oa : Option Addr) (na ca : Nat) (ob : Option Addr) (nb cb : Nat), x ≤ 20 ∧ s14 = .int .i64 x ∧ s12 = .slice oa na ca ∧ s13 = .slice ob nb cb ∧ Hid (Gw L A K P wm a b x x oa na ca ob nb cb wx)) (fun _ _ s14 _ => 20 - (intOf s14).toNat)
              case atStart =>
                have h1 := HOM.out.key a b hlt hbl
                have h2 := HOM.out.pr a b hlt hbl
                exact ⟨0, _, _, _, _, _, _, by omega, rfl, rfl, rfl, ⟨Keeps.refl _ _, HOM.out, by simp [h1.2], by simp [h2.2], by simpa using h1.1, .inl ⟨rfl, rfl⟩, by simpa using h2.1, .inl ⟨rfl, rfl⟩⟩⟩
              case round =>
                clear HOM
                rename World => wx
                obtain ⟨x, oa, na, ca, ob, nb, cb, hx, rfl, rfl, rfl, HG⟩ := hrel
                have HLN : Hid ((K a b).length = L.KN a b ∧ (P a b).length = L.PN a b) := ⟨(HG.out.ov.key a b hlt hbl).2, (HG.out.ov.pr a b hlt hbl).2⟩
                by_cases hxl : x < 20
                · have hxl' : (x : Int) < 20 := by omega
                  have HLA : Hid (((K a b ++ List.replicate x mo).length + [mo].length) * TE.nb ≤ 140737488355328 ∧ (K a b ++ List.replicate x mo).length + [mo].length ≤ 140737488355328) := by
                    have := HLN.out.1
                    refine ⟨?_, ?_⟩ <;> simp [TE] <;> omega
                  have HLB : Hid (((P a b ++ List.replicate x (mo, e0)).length + [(mo, e0)].length) * PE.nb ≤ 140737488355328 ∧ (P a b ++ List.replicate x (mo, e0)).length + [(mo, e0)].length ≤ 140737488355328) := by
                    have := HLN.out.2
                    refine ⟨?_, ?_⟩ <;> simp [PE] <;> omega
                  have HGA : Hid (Gw L A K P wm a b x x oa na ca ob nb cb (wx.alloc (.cells #[.string mo] 9))) := HG.out.keepsN ((Keeps.refl _ _).alloc _)
                  have hna2 : (na : Int) ≤ 2100 := by have h := HG.out.la; have := HLN.out.1; simp at h; omega
                  have hnb2 : (nb : Int) ≤ 2100 := by have h := HG.out.lb; have := HLN.out.2; simp at h; omega
                  as_aux_lemma =>
                  go_upto_region 31 with (at_builtin; refine wpList_appC okT rfl _ _ rfl oa na ca (K a b ++ List.replicate x mo) rfl HGA.out.la HGA.out.fa _ _ _ [mo] rfl rfl (fun h => by cases h) (own_one wx mo).row HLA.out.1 HLA.out.2 ?_; intro o6 c6 w6 ho6 ha6 hc6)
                  have HG6 : Hid (Gw L A K P wm a b (x + 1) x o6 (na + 1) c6 ob nb cb w6) := HGA.out.stepK HS.out hlt hbl HB.out ho6 ha6 hc6
                  have HGB : Hid (Gw L A K P wm a b (x + 1) x o6 (na + 1) c6 ob nb cb (w6.alloc (.cells #[.string mo, .string e0] 50))) := HG6.out.keepsN ((Keeps.refl _ _).alloc _)
                  clear ho6 ha6 hc6 HGA HG
                  go_wp2_with (at_builtin; refine wpList_appC okP rfl _ _ rfl ob nb cb (P a b ++ List.replicate x (mo, e0)) rfl HGB.out.lb HGB.out.fb _ _ _ [(mo, e0)] rfl rfl (fun h => by cases h) (own_oneP w6 mo e0).row HLB.out.1 HLB.out.2 ?_; intro o7 c7 w7 ho7 ha7 hc7)
                  have HG7 : Hid (Gw L A K P wm a b (x + 1) (x + 1) o6 (na + 1) c6 o7 (nb + 1) c7 w7) := HGB.out.stepP HS.out hlt hbl HB.out ho7 ha7 hc7
                  clear ho7 ha7 hc7 HGB HG6
                  go_roundw
                  case rel => exact ⟨x + 1, o6, na + 1, c6, o7, nb + 1, c7, by omega, by go_num, rfl, rfl, HG7.out⟩
                  case measure => simp [intOf]; omega
                · have hxl' : ¬ (x : Int) < 20 := by omega
                  obtain rfl : x = 20 := by omega
                  obtain ⟨y4, y5, hk1⟩ := HM.out wx HG.out.kp
                  obtain ⟨ba, offa, ea, ca0⟩ := HG.out.fa.sl.at (j := L.KN a b) (by have := HLN.out.1; simp; omega)
                  obtain ⟨bb, offb, eb, cb0, -⟩ := HG.out.fb.sl.atP (j := L.PN a b) (by have := HLN.out.2; simp; omega)
                  rw [getD_app, if_neg (by have := HLN.out.1; omega)] at ca0
                  rw [getD_app, if_neg (by have := HLN.out.2; omega)] at cb0
                  have e1 : L.KN a b - (K a b).length = 0 := by have := HLN.out.1; omega
                  have e2 : L.PN a b - (P a b).length = 0 := by have := HLN.out.2; omega
                  rw [e1] at ca0
                  rw [e2] at cb0
                  have ca1 : wx.cell? ⟨ba, offa + L.KN a b, none⟩ = some (.string mo) := ca0
                  have cb1 : wx.cell? ⟨bb, offb + L.PN a b * 2, none⟩ = some (.string mo) := cb0
                  have hna2 : ((L.KN a b : Nat) : Int) < (na : Int) := by have h := HG.out.la; have := HLN.out.1; simp at h; omega
                  have hnb2 : ((L.PN a b : Nat) : Int) < (nb : Int) := by have h := HG.out.lb; have := HLN.out.2; simp at h; omega
                  subst ea eb
                  have HN : Hid (Keeps (OB L) w1 wx ∧ Ov wx L A K P) := ⟨hk1, HG.out.ov⟩
                  clear ca0 cb0 e1 e2 hk1 HG HLN hxl hx
                  go_wp2_with fail
                  go_roundw
                  case rel => exact ⟨b + 1, by omega, by go_num, HN.out⟩
                  case measure => simp [intOf]; omega
            · have hbl' : ¬ (b : Int) < ((L.N a : Nat) : Int) := by omega
              obtain ⟨r, hrO, hrn, hrr⟩ := HL.out.2.row a hlt
              obtain ⟨oo, hoo⟩ : ∃ oo, L.O a = oo := ⟨_, rfl⟩
              obtain ⟨oc, hoc⟩ : ∃ oc, L.C a = oc := ⟨_, rfl⟩
              obtain ⟨on, hon⟩ : ∃ on, L.N a = on := ⟨_, rfl⟩
              rw [hoo, hoc, hon] at hg
              rw [hoo, hoc] at hrO
              rw [hon] at hrn hrr hbl' hn64
              have HRR : Hid (Own QE wl oo oc r ∧ r.length = on ∧ ∀ k, k < on → RowIs L (A a k) a k (r.getD k rq0)) := ⟨hrO, hrn, hrr⟩
              have HLA : Hid ((r.length + [rq99].length) * QE.nb ≤ 140737488355328 ∧ r.length + [rq99].length ≤ 140737488355328 ∧ on = r.length) := by
                refine ⟨?_, ?_, hrn.symm⟩ <;> simp [QE] <;> omega
              have HOO : Hid (L.O a = oo ∧ L.C a = oc ∧ L.N a = on) := ⟨hoo, hoc, hon⟩
              have HG6 : Hid (∀ X, Keeps (OB L) w1 X → X.cell? ⟨G, a, none⟩ = some (.slice oo on oc)) := by
                intro X hX
                have h := (HC.out X hX).1 a hlt
                rw [hoo, hoc, hon] at h
                exact h
              clear hrO hrn hrr hoo hoc hon hb hbl
              go_upto_region 34 with fail
              go_cut [15] from 147 to 153 (fun t15 w6 => ∃ (bp offp n1 c6 : Nat), t15 = .slice (some ⟨bp, offp, none⟩) n1 c6 ∧ Hid (n1 = on + 1 ∧ w6.cell? ⟨bp, offp + on * 9, none⟩ = some (.int .i64 (-99)) ∧ Keeps (OB L) w1 w6 ∧ Ov w6 L A K P))
              case first =>
                as_aux_lemma =>
                obtain ⟨r9, hr9⟩ : ∃ r9 : RQ, r9 = rq99 := ⟨_, rfl⟩
                have HR9 : Hid (r9 = rq99) := hr9
                clear hr9
                go_wp2_with (first | (refine wpList_buildC (by rfl) 41 #[(0, .const (.int .i64 (-99)))] (by rfl) #[.int .i64 r9.part, .int .i64 r9.kind, .int .i64 r9.client, .int .u64 (r9.req : Nat), .int .u64 (r9.id : Nat), .slice r9.po r9.pn r9.pc, .slice r9.ko r9.kn r9.kc, .slice r9.wo 0 r9.wc, .slice r9.vo 0 r9.vc] (by rw [HR9.out]; kernel_rfl) ?_; simp only [Act.put]) | (refine wpList_oneQ (by rfl) (.tmp 151) (by rfl) _ _ _ _ _ _ _ _ _ (by rfl) ?_; simp only [Act.put]) | (at_builtin; refine wpList_appC okQ rfl _ _ rfl oo on oc r rfl HLA.out.2.2 (HRR.out.1.keepsN ((Keeps.refl _ _).alloc _)) _ _ _ [r9] rfl rfl (fun h => by cases h) (lit_one (E := QE) _ r9 _ rfl).row HLA.out.1 HLA.out.2.1 ?_; intro o6 c6 w6 ho6 ha6 hc6; rw [HR9.out] at ho6; obtain ⟨hn6, bp, offp, rfl, c1⟩ := HL.out.2.app99 HS.out HLK.out hlt HOO.out HRR.out ho6 ha6 hc6; have HN : Hid (w6.cell? ⟨bp, offp + on * 9, none⟩ = some (.int .i64 (-99)) ∧ Keeps (OB L) w1 w6 ∧ Ov w6 L A K P) := ⟨c1, hn6⟩; clear hn6 ho6 ha6 hc6 c1))
                go_meet
                case rel => exact ⟨bp, offp, _, c6, rfl, rfl, HN.out⟩
              case rest =>
              obtain ⟨bp, offp, n1, c6, rfl, H6⟩ := hcut
              rename World => w6
              clear hg
              have hg6 := HG6.out w6 H6.out.2.2.1
              have hlt9 : (on : Int) < (n1 : Int) := by have := H6.out.1; omega
              have c1 := H6.out.2.1
              have HN : Hid (Keeps (OB L) w1 w6 ∧ Ov w6 L A K P) := H6.out.2.2
              clear H6 HRR HLA HOO HG6 HL HLK
              go_wp2_with fail
              go_roundw
              case rel => exact ⟨a + 1, by omega, by go_num, HN.out⟩
              case measure => simp [intOf]; omega
        · have hlt' : ¬ (a : Int) < 3 := by omega
          have HV : Hid (Keeps (OB L) w1 wq ∧ Ov wq L A K P) := HR.out
          clear HR hlt ha
          go_wp2_with fail
          clear hlt'
          go_loopw [16] (fun s16 wq => ∃ a : Nat, a ≤ 3 ∧ s16 = .int .i64 a ∧ Hid (Keeps (OB L) w1 wq ∧ Ov wq L A K P)) (fun s16 _ => 3 - (intOf s16).toNat)
          case atStart => exact ⟨0, by omega, rfl, HV.out⟩
          case round =>
            clear HV
            rename World => wq
            obtain ⟨a, ha, rfl, HR⟩ := hrel
            by_cases hlt : a < 3
            · have hlt' : (a : Int) < 3 := by omega
              have hn64 : ((L.N a : Nat) : Int) ≤ 64 := by have := HS.out.n a hlt; omega
              as_aux_lemma =>
              obtain ⟨M, hM⟩ : ∃ M, M = a % 5 := ⟨_, rfl⟩
              have hmt : ((a : Nat) : Int).tmod 5 = (M : Int) := by rw [tmod5, hM]
              have hme : ((a : Nat) : Int) % 5 = (M : Int) := by omega
              have hM5 : (M : Int) < 5 := by omega
              have HMD : Hid (a % 5 = M) := hM.symm
              clear hM
              go_wp2_with fail
              go_loopw [17] (fun s17 wl => ∃ b : Nat, b ≤ L.N a ∧ s17 = .int .i64 b ∧ Hid (Keeps (OB L) w1 wl ∧ Ov wl L A K P)) (fun s17 _ => L.N a - (intOf s17).toNat)
              case atStart => exact ⟨0, by omega, rfl, HR.out⟩
              case round =>
                clear HR
                rename World => wl
                obtain ⟨b, hb, rfl, HL⟩ := hrel
                have HLK : Hid (Keeps (OB L) w1 wl) := HL.out.1
                have hg := (HC.out wl HLK.out).1 a hlt
                by_cases hbl : b < L.N a
                · have hbl' : (b : Int) < ((L.N a : Nat) : Int) := by omega
                  have hov := HL.out.2
                  have HDN : Hid (K a b = List.replicate (L.KN a b) (nmT a) ∧ P a b = List.replicate (L.PN a b) (nmT a, nmT b) ∧ A a b = -1 - (a : Int)) := HD.out a b hlt hbl (.inl hlt)
                  clear HL hg
                  obtain ⟨bo, hbo, -, -⟩ := hov.setA HS.out hlt hbl 0
                  obtain ⟨r, hrO, hrn, hrr⟩ := hov.row a hlt
                  obtain ⟨bo2, off2, hoa, h9⟩ := hrO.sl.atQ (j := b) (by omega)
                  have hri := hrr b hbl
                  rw [hbo] at hoa
                  injection hoa with hoa2
                  injection hoa2 with hoa3 hoa4 _
                  subst hoa3 hoa4
                  generalize r.getD b rq0 = x at h9 hri
                  obtain ⟨x0, x1, x2, x3, x4, xpo, xpn, xpc, xko, xkn, xkc, xwo, xwc, xvo, xvc⟩ := x
                  obtain ⟨e0, e1, e2, e3, e4, e5, e6⟩ := hri
                  simp only at e0 e1 e2 e3 e4 e5 e6
                  subst e0 e1 e2 e3 e4 e5 e6
                  obtain ⟨z0, z1, z2, z3, z4, z5, z6, z7, z8⟩ := h9
                  simp only [Nat.zero_add] at z0 z1 z2 z3 z4 z5 z6 z7 z8
                  have hg := (HC.out wl HLK.out).1 a hlt
                  rw [hbo] at hg
                  clear hrO hrn hrr r
                  obtain ⟨wm, hwm⟩ : ∃ wm, wm = wl.alloc (.cells #[.int .i64 x1, .int .i64 x2, .int .u64 (x3 : Nat), .int .u64 (x4 : Nat), .slice (L.PO a b) (L.PN a b) (L.PC a b), .slice (L.KO a b) (L.KN a b) (L.KC a b), .slice xwo 0 xwc, .slice xvo 0 xvc] 39) := ⟨_, rfl⟩
                  obtain ⟨BM, hBM⟩ : ∃ BM, BM = wl.heap.size := ⟨_, rfl⟩
                  have hkm : Keeps no wl wm := by rw [hwm]; exact (Keeps.refl _ _).alloc _
                  have hbm : wm.heap[BM]? = some (.cells #[.int .i64 x1, .int .i64 x2, .int .u64 (x3 : Nat), .int .u64 (x4 : Nat), .slice (L.PO a b) (L.PN a b) (L.PC a b), .slice (L.KO a b) (L.KN a b) (L.KC a b), .slice xwo 0 xwc, .slice xvo 0 xvc] 39 (0, 0)) := by rw [hwm, hBM]; exact blk_new _ _
                  have HM : Hid (∀ X, Keeps (OB L) wm X → X.cell? ⟨BM, 4, none⟩ = some (.slice (L.PO a b) (L.PN a b) (L.PC a b)) ∧ X.cell? ⟨BM, 5, none⟩ = some (.slice (L.KO a b) (L.KN a b) (L.KC a b)) ∧ Keeps (OB L) w1 X) := by
                    intro X hX
                    have hn : ¬ OB L BM := fun h => by have h2 := hov.lt _ h; omega
                    exact ⟨hX.cell (by rw [cell_of_blk hbm]; rfl) hn, hX.cell (by rw [cell_of_blk hbm]; rfl) hn, (HLK.out.trans hkm.of_no).trans hX⟩
                  have HOM : Hid (Ov wm L A K P) := hov.keepsN hkm
                  have hk20 : ((L.KN a b : Nat) : Int) ≤ 2000 := by have := HS.out.kn a b hlt hbl; omega
                  have hp20 : ((L.PN a b : Nat) : Int) ≤ 2000 := by have := HS.out.pn a b hlt hbl; omega
                  clear hkm hbm hov
                  go_upto_region 44 with fail
                  rw [← hwm, ← hBM]
                  clear hwm hBM z0 z1 z2 z3 z4 z5 z6 z7 z8 hg
                  obtain ⟨M2, hM2⟩ : ∃ M2, M2 = b % 5 := ⟨_, rfl⟩
                  have hmt2 : ((b : Nat) : Int).tmod 5 = (M2 : Int) := by rw [tmod5, hM2]
                  have hme2 : ((b : Nat) : Int) % 5 = (M2 : Int) := by omega
                  have hN5 : (M2 : Int) < 5 := by omega
                  have HMD2 : Hid (b % 5 = M2) := hM2.symm
                  clear hM2
                  have HBO : Hid (L.O a = some ⟨bo, 0, none⟩) := hbo
                  clear hbo
                  go_wp2_with fail
                  go_loopw [19] (fun s19 wx => ∃ x : Nat, x ≤ L.KN a b ∧ s19 = .int .i64 x ∧ Hid (Keeps no wm wx)) (fun s19 _ => L.KN a b - (intOf s19).toNat)
                  case atStart => exact ⟨0, by omega, rfl, Keeps.refl _ _⟩
                  case round =>
                    rename World => wx
                    obtain ⟨x, hx, rfl, HX⟩ := hrel
                    obtain ⟨y4, y5, hk1⟩ := HM.out wx HX.out.of_no
                    have n1 := (HC.out wx hk1).2 a
                    rw [HMD.out] at n1
                    clear y4 hk1
                    by_cases hxl : x < L.KN a b
                    · have hxl' : (x : Int) < ((L.KN a b : Nat) : Int) := by omega
                      obtain ⟨kb, koff, ek, cx⟩ := ((HOM.out.keepsN HX.out).key a b hlt hbl).1.sl.at (j := x) (by rw [(HOM.out.key a b hlt hbl).2]; exact hxl)
                      rw [HDN.out.1, List.getD_eq_getElem?_getD, List.getElem?_replicate, if_pos hxl] at cx
                      have cy : wx.cell? ⟨kb, koff + x, none⟩ = some (.string (nmT a)) := cx
                      rw [ek] at y5
                      clear cx ek
                      go_wp2_with fail
                      go_quiet (fail)
                      go_wp2_with fail
                      go_roundw
                      case rel => exact ⟨x + 1, by omega, by go_num, HX.out.drewN _⟩
                      case measure => simp [intOf]; omega
                    · have hxl' : ¬ (x : Int) < ((L.KN a b : Nat) : Int) := by omega
                      have HX2 : Hid (Keeps no wm wx) := HX.out
                      go_wp2_with fail
                      clear y5 n1 hxl hxl' hx HX
                      go_loopw [20] (fun s20 wx => ∃ x : Nat, x ≤ L.PN a b ∧ s20 = .int .i64 x ∧ Hid (Keeps no wm wx)) (fun s20 _ => L.PN a b - (intOf s20).toNat)
                      case atStart => exact ⟨0, by omega, rfl, HX2.out⟩
                      case round =>
                        clear HX2
                        rename World => wy
                        obtain ⟨x, hx, rfl, HX⟩ := hrel
                        obtain ⟨y4, y5, hk1⟩ := HM.out wy HX.out.of_no
                        have n1 := (HC.out wy hk1).2 a
                        have n2 := (HC.out wy hk1).2 b
                        rw [HMD.out] at n1
                        rw [HMD2.out] at n2
                        have HK1 : Hid (Keeps (OB L) w1 wy) := hk1
                        clear y5 hk1
                        by_cases hxl : x < L.PN a b
                        · have hxl' : (x : Int) < ((L.PN a b : Nat) : Int) := by omega
                          obtain ⟨kb, koff, ek, cx, cx1⟩ := ((HOM.out.keepsN HX.out).pr a b hlt hbl).1.sl.atP (j := x) (by rw [(HOM.out.pr a b hlt hbl).2]; exact hxl)
                          rw [HDN.out.2.1, List.getD_eq_getElem?_getD, List.getElem?_replicate, if_pos hxl] at cx cx1
                          have cy : wy.cell? ⟨kb, koff + x * 2, none⟩ = some (.string (nmT a)) := cx
                          have cy1 : wy.cell? ⟨kb, koff + x * 2 + 1, none⟩ = some (.string (nmT b)) := cx1
                          rw [ek] at y4
                          clear cx cx1 ek
                          go_wp2_with fail
                          go_quiet (fail)
                          go_wp2_with fail
                          go_roundw
                          case rel => exact ⟨x + 1, by omega, by go_num, HX.out.drewN _⟩
                          case measure => simp [intOf]; omega
                        · have hxl' : ¬ (x : Int) < ((L.PN a b : Nat) : Int) := by omega
                          have hg := (HC.out wy HK1.out).1 a hlt
                          have cx := (HOM.out.keepsN HX.out).part HS.out hlt hbl HBO.out
                          rw [HDN.out.2.2] at cx
                          rw [HBO.out] at hg
                          have HN : Hid (Keeps (OB L) w1 wy ∧ Ov wy L A K P) := ⟨HK1.out, HOM.out.keepsN HX.out⟩
                          clear HX
                          go_wp2_with fail
                          go_roundw
                          case rel => exact ⟨b + 1, by omega, by go_num, HN.out⟩
                          case measure => simp [intOf]; omega
                · have hbl' : ¬ (b : Int) < ((L.N a : Nat) : Int) := by omega
                  go_wp2_with fail
                  go_roundw
                  case rel => exact ⟨a + 1, by omega, by go_num, HL.out⟩
                  case measure => simp [intOf]; omega
            · have hlt' : ¬ (a : Int) < 3 := by omega
              go_wp2_with fail
              go_ret
              exact ⟨rfl, (HKW.out.of_no).trans HR.out.1⟩
end Go.Proofs.Ytghnhkhhpeoheaa
