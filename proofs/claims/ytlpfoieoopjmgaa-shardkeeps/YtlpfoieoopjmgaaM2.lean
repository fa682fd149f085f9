import Derived.Test.YtlpfoieoopjmgaaM1
namespace Go.Proofs.Ytlpfoieoopjmgaa
open Go.RowKit
set_option linter.unusedVariables false
set_option linter.unusedSimpArgs false

theorem frozen_al {w : World} {p : Addr} (h : w.frozen? p = false) (hb : p.block < w.heap.size) (o : Obj) : (w.alloc o).frozen? p = false := by
  unfold World.frozen? at h ⊢
  rw [Below.heap_alloc w o p.block hb]
  exact h
theorem lit_one2 {α : Type} {E : El α} (w : World) (o : Obj) (x : α) (cs : Array Value) (hc : cs.toList = E.enc x) : Sl E ((w.alloc o).alloc (.cells cs E.e)) (some ⟨w.heap.size + 1, 0, none⟩) 1 [x] := by
  have := lit_one (E := E) (w.alloc o) x cs hc
  have e : (w.alloc o).heap.size = w.heap.size + 1 := by simp
  rwa [e] at this
def rep {α : Type} (mk : Nat → α) (L : List (LS α)) (j : Nat) : List α := List.replicate (L.getD j ls0).xs.length (mk j)
theorem rep_of {α : Type} (mk : Nat → α) (L : List (LS α)) (j : Nat) (d : α) (f : List α) (hl : f.length = (L.getD j ls0).xs.length) (h : ∀ t, t < (L.getD j ls0).xs.length → f.getD t d = mk j) : f = rep mk L j := by
  unfold rep
  apply List.ext_getElem (by simp [hl])
  intro t h1 h2
  have := h t (by omega)
  rw [List.getD_eq_getElem?_getD, List.getElem?_eq_getElem h1] at this
  simp at this
  simp [this]


/-! ### a region that draws, only reads, and calls 'mark': its worlds are those with some marks' bytes more -/
def al (w : World) (O : Obj) : Nat → World
  | 0 => w
  | n + 1 => (al w O n).alloc O
theorem al_keeps (w : World) (O : Obj) : ∀ n, Keeps no w (al w O n)
  | 0 => Keeps.refl _ _
  | n + 1 => (al_keeps w O n).alloc O
theorem al_cell {w : World} (O : Obj) {p : Addr} {v : Value} (h : w.cell? p = some v) : ∀ n, (al w O n).cell? p = some v := fun n => (al_keeps w O n).cellN h
theorem region_marks {id : Nat} {Q : Exit → Act → World → Prop} {a : Act} {w : World} {l : List Oper} (O : Obj) (hm : Try.prog.follows .mixedOrders = true) (hB : Region.lexB .any l.toArray = true)
    (h : wpQuiet Try.prog l.toArray (fun w' => ∃ n, w' = (al w O n).drewN 1) (fun a' => ∀ w', (∃ n, w' = (al w O n).drewN 1) → Q .normal a' w') l a) : (Code.region id l.toArray true).wp Try.prog Q a w :=
  wp_region_quiet (C := fun w' => ∃ n, w' = (al w O n).drewN 1) hm hB ⟨0, rfl⟩ (by simpa using h)
theorem mark_al (i : Nat) (hi : i ≤ 1000) (w : World) (n : Nat) : Calls Try.prog 26 #[.int .i64 (i : Int)] ((al w (mkO i) n).drewN 1) fun e w'' => e = .returned (.string (mkT i)) ∧ ∃ m, w'' = (al w (mkO i) m).drewN 1 :=
  (mark_any i hi _).mono fun e w' ⟨he, hw⟩ => ⟨he, n + 1, by rw [hw]; rfl⟩

/-! ### both kinds together -/
structure One (B : Nat) (w : World) (oA : Option Addr) (cA : Nat) (L : List (LS Tx)) (F : Nat → List Tx) (oX : Option Addr) (cX : Nat) (Y : List (LS Pr)) (H : Nat → List Pr) (wr : World) : Prop where
  t : Half1 TE XE B oA cA L F wr
  p : Half1 PE YE B oX cX Y H wr
  kp : Keeps (fun k => B ≤ k) w wr
structure Both (B : Nat) (w : World) (oA : Option Addr) (cA : Nat) (L : List (LS Tx)) (i : Nat) (ol : Option Addr) (cl : Nat) (La : List (LS Tx)) (oX : Option Addr) (cX : Nat) (Y : List (LS Pr)) (j : Nat) (ox : Option Addr) (cx : Nat) (Lx : List (LS Pr)) (wr : World) : Prop where
  t : Half2 TE XE B mkT oA cA L i ol cl La wr
  p : Half2 PE YE B mkP oX cX Y j ox cx Lx wr
  kp : Keeps (fun k => B ≤ k) w wr
theorem One.keepsN {B : Nat} {w : World} {oA : Option Addr} {cA : Nat} {L : List (LS Tx)} {F : Nat → List Tx} {oX : Option Addr} {cX : Nat} {Y : List (LS Pr)} {H : Nat → List Pr} {wr w' : World} (h : One B w oA cA L F oX cX Y H wr) (k : Keeps no wr w') : One B w oA cA L F oX cX Y H w' := ⟨h.t.keepsN k, h.p.keepsN k, h.kp.trans k.of_no⟩
theorem Both.keepsN {B : Nat} {w : World} {oA : Option Addr} {cA : Nat} {L : List (LS Tx)} {i : Nat} {ol : Option Addr} {cl : Nat} {La : List (LS Tx)} {oX : Option Addr} {cX : Nat} {Y : List (LS Pr)} {j : Nat} {ox : Option Addr} {cx : Nat} {Lx : List (LS Pr)} {wr w' : World} (h : Both B w oA cA L i ol cl La oX cX Y j ox cx Lx wr) (k : Keeps no wr w') : Both B w oA cA L i ol cl La oX cX Y j ox cx Lx w' := ⟨h.t.keepsN k, h.p.keepsN k, h.kp.trans k.of_no⟩
theorem One.setT {B : Nat} {w : World} {oA : Option Addr} {cA : Nat} {L : List (LS Tx)} {F : Nat → List Tx} {oX : Option Addr} {cX : Nat} {Y : List (LS Pr)} {H : Nat → List Pr} {wr : World} (h : One B w oA cA L F oX cX Y H wr) (i k n : Nat) (hi : i < L.length) (hk : k < n) (hn : n = (L.getD i ls0).xs.length) (x : Tx) :
    ∃ g, (L.getD i ls0).o = some ⟨g, 0, none⟩ ∧ (∃ v, wr.cell? ⟨g, k, none⟩ = some (.string v)) ∧ wr.frozen? ⟨g, k, none⟩ = false ∧ One B w oA cA L (fun j => if j = i then (F i).set k x else F j) oX cX Y H (wr.setCell ⟨g, k, none⟩ (.string x)) := by
  obtain ⟨g, e, h1, h2, h3, h4⟩ := (h.t.eA i hi).store okT rfl Value.string (fun _ => rfl) e0 k (by rw [h.t.fA i hi, ← hn]; exact hk) x
  exact ⟨g, e, ⟨_, h1⟩, h2, h.t.set (by decide) i k hi x h3 h4, h.p.other h4 (fun b hb => ⟨9, by decide, by decide, (h.t.eA i hi).tag b hb⟩), h.kp.trans (h4.mono (h.t.bL i hi))⟩
theorem One.setP {B : Nat} {w : World} {oA : Option Addr} {cA : Nat} {L : List (LS Tx)} {F : Nat → List Tx} {oX : Option Addr} {cX : Nat} {Y : List (LS Pr)} {H : Nat → List Pr} {wr : World} (h : One B w oA cA L F oX cX Y H wr) (i k n : Nat) (hi : i < Y.length) (hk : k < n) (hn : n = (Y.getD i ls0).xs.length) (x : Pr) :
    ∃ g, (Y.getD i ls0).o = some ⟨g, 0, none⟩ ∧ (∃ v, wr.cell? ⟨g, k * 2, none⟩ = some (.string v)) ∧ (∃ v, wr.cell? ⟨g, k * 2 + 1, none⟩ = some (.string v)) ∧ wr.frozen? ⟨g, k * 2, none⟩ = false ∧ wr.frozen? ⟨g, k * 2 + 1, none⟩ = false ∧ One B w oA cA L F oX cX Y (fun j => if j = i then (H i).set k x else H j) ((wr.setCell ⟨g, k * 2, none⟩ (.string x.1)).setCell ⟨g, k * 2 + 1, none⟩ (.string x.2)) := by
  obtain ⟨g, e, h1, h1', h2, h2', h3, h4⟩ := (h.p.eA i hi).store2 okP rfl p0 k (by rw [h.p.fA i hi, ← hn]; exact hk) x _ _ _ _ rfl rfl
  exact ⟨g, e, ⟨_, h1⟩, ⟨_, h1'⟩, h2, h2', h.t.other h4 (fun b hb => ⟨38, by decide, by decide, (h.p.eA i hi).tag b hb⟩), h.p.set (by decide) i k hi x h3 h4, h.kp.trans (h4.mono (h.p.bL i hi))⟩
theorem Both.pushT {B : Nat} {w : World} {oA : Option Addr} {cA : Nat} {L : List (LS Tx)} {i : Nat} {ol : Option Addr} {cl : Nat} {La : List (LS Tx)} {oX : Option Addr} {cX : Nat} {Y : List (LS Pr)} {j : Nat} {ox : Option Addr} {cx : Nat} {Lx : List (LS Pr)} {wz wr w' : World} (h : Both B w oA cA L i ol cl La oX cX Y j ox cx Lx wz) (hB : B ≤ w.heap.size) (hi : i < L.length) {o : Option Addr} {c : Nat} (hg : Grow TE wz (L.getD i ls0).o (L.getD i ls0).xs.length (mkT i) 30 o c wr)
    {o' : Option Addr} {c' : Nat} (ho : Own XE w' o' c' (La ++ [⟨o, c, List.replicate ((L.getD i ls0).xs.length + 30) (mkT i)⟩])) (hap : Ap wr ol o' w') : Both B w oA cA L (i + 1) o' c' (La ++ [⟨o, c, List.replicate ((L.getD i ls0).xs.length + 30) (mkT i)⟩]) oX cX Y j ox cx Lx w' := by
  have hk2 : Keeps (inO ol) wr w' := by
    rcases hap with ⟨_, hk⟩ | ⟨_, hk⟩
    · exact hk
    · exact hk.of_no
  have hla : Own XE wr ol cl La := h.t.la.keeps hg.kp (fun b h1 h2 => tags_ne (by decide) (h.t.eA i (Nat.le_refl _) hi) h.t.la b h2 h1)
  have hp1 := h.p.other hg.kp (fun b hb => ⟨9, by decide, by decide, (h.t.eA i (Nat.le_refl _) hi).tag b hb⟩)
  exact ⟨h.t.push (by decide) hi hg (Nat.le_trans hB h.kp.size) ho hap, hp1.other hk2 (fun b hb => ⟨22, by decide, by decide, hla.tag b hb⟩), (h.kp.trans (hg.kp.mono (h.t.bL i hi))).trans (hk2.mono h.t.bl)⟩
theorem Both.pushP {B : Nat} {w : World} {oA : Option Addr} {cA : Nat} {L : List (LS Tx)} {i : Nat} {ol : Option Addr} {cl : Nat} {La : List (LS Tx)} {oX : Option Addr} {cX : Nat} {Y : List (LS Pr)} {j : Nat} {ox : Option Addr} {cx : Nat} {Lx : List (LS Pr)} {wz wr w' : World} (h : Both B w oA cA L i ol cl La oX cX Y j ox cx Lx wz) (hB : B ≤ w.heap.size) (hj : j < Y.length) {o : Option Addr} {c : Nat} (hg : Grow PE wz (Y.getD j ls0).o (Y.getD j ls0).xs.length (mkP j) 30 o c wr)
    {o' : Option Addr} {c' : Nat} (ho : Own YE w' o' c' (Lx ++ [⟨o, c, List.replicate ((Y.getD j ls0).xs.length + 30) (mkP j)⟩])) (hap : Ap wr ox o' w') : Both B w oA cA L i ol cl La oX cX Y (j + 1) o' c' (Lx ++ [⟨o, c, List.replicate ((Y.getD j ls0).xs.length + 30) (mkP j)⟩]) w' := by
  have hk2 : Keeps (inO ox) wr w' := by
    rcases hap with ⟨_, hk⟩ | ⟨_, hk⟩
    · exact hk
    · exact hk.of_no
  have hla : Own YE wr ox cx Lx := h.p.la.keeps hg.kp (fun b h1 h2 => tags_ne (by decide) (h.p.eA j (Nat.le_refl _) hj) h.p.la b h2 h1)
  have hp1 := h.t.other hg.kp (fun b hb => ⟨38, by decide, by decide, (h.p.eA j (Nat.le_refl _) hj).tag b hb⟩)
  exact ⟨hp1.other hk2 (fun b hb => ⟨36, by decide, by decide, hla.tag b hb⟩), h.p.push (by decide) hj hg (Nat.le_trans hB h.kp.size) ho hap, (h.kp.trans (hg.kp.mono (h.p.bL j hj))).trans (hk2.mono h.p.bl)⟩
theorem both_of {B : Nat} {w : World} {oA : Option Addr} {cA : Nat} {L : List (LS Tx)} {F : Nat → List Tx} {oX : Option Addr} {cX : Nat} {Y : List (LS Pr)} {H : Nat → List Pr} {wr : World} (h : One B w oA cA L F oX cX Y H wr) (hF : ∀ j, j < L.length → F j = rep mkT L j) (hH : ∀ j, j < Y.length → H j = rep mkP Y j) : Both B w oA cA L 0 none 0 [] oX cX Y 0 none 0 [] wr :=
  ⟨half2_of h.t hF, half2_of h.p hH, h.kp⟩
theorem grow_nil {α : Type} {E : El α} {wz : World} {o : Option Addr} {c n : Nat} {x : α} (h : Own E wz o c (List.replicate n x)) : Grow E wz o n x 0 o c wz := ⟨h, .inl rfl, Keeps.refl _ _, h.rw⟩
/-- the marks of one list, as they are read again -/
theorem Half2.read {α : Type} {E : El α} {X : El (LS α)} {B : Nat} {mk : Nat → α} {oA : Option Addr} {cA : Nat} {L : List (LS α)} {i : Nat} {ol : Option Addr} {cl : Nat} {La : List (LS α)} {wr : World} (h : Half2 E X B mk oA cA L i ol cl La wr) (j : Nat) (hj : j < i) : Sl E wr (La.getD j ls0).o (La.getD j ls0).c (List.replicate ((L.getD j ls0).xs.length + 30) (mk j)) := by
  have := (h.lae j hj).2.sl
  rwa [(h.lae j hj).1] at this
end Go.Proofs.Ytlpfoieoopjmgaa
