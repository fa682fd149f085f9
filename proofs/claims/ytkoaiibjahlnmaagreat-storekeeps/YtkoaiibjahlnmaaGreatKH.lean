import Derived.Test.YtkoaiibjahlnmaaGreatKD
import Derived.BigRegion
import Derived.Deep.RegionLaw
import Derived.Deep.RegionHeldLaw
import Derived.Test.YtkoaiibjahlnmaaGreatOP
/- StoreKeeps: lists of slices, each by itself; a list's mark (by wip/tools/mkma11.py). -/
namespace Go.Proofs.YtkoaiibjahlnmaaGreat
open Go.RowKit Go.Sort Orl
set_option linter.unusedVariables false
set_option linter.unusedSimpArgs false

structure LS (α : Type) where
  o : Option Addr
  c : Nat
  xs : List α
def ls0 {α : Type} : LS α := ⟨none, 0, []⟩
def LS.enc {α : Type} (s : LS α) : List Value := [.slice s.o s.xs.length s.c]
def XE : El (LS Tx) := ⟨44, 63, 1, 24, LS.enc⟩
theorem infoKX : (Tryz.prog.info? 44).map (fun i => (i.zero, i.size, i.bytes)) = some (some (.slice none 0 0), 1, 24) := by kernel_rfl
theorem okX : XE.Ok := by
  obtain ⟨i0, hi, hz0, hz1, hz2⟩ := info_parts infoKX
  exact ⟨fun _ => rfl, fun x u hu => by simp [XE, LS.enc] at hu; subst hu; rfl, by decide, Tryz.underlying63, i0, _, hi, hz0, hz1, hz2, rfl⟩
variable {α : Type} {E : El α}
theorem Sl.one {w : World} {a : Option Addr} {c : Nat} {xs : List α} (h : Sl E w a c xs) (hx : E.Ok) (hk : E.k = 1) (d : α) {j : Nat} (hj : j < xs.length) (u : Value) (hu : E.enc (xs.getD j d) = [u]) : ∃ b off, a = some ⟨b, off, none⟩ ∧ w.cell? ⟨b, off + j, none⟩ = some u := by
  rcases h.row with e | ⟨b, off, rfl, hc⟩
  · subst e; simp at hj
  · refine ⟨b, off, rfl, hc j _ ?_⟩
    have := cells_at hx d xs j 0 hj (by omega)
    rw [hk, hu] at this
    simpa using this
theorem getD_set {α : Type} (l : List α) (i j : Nat) (x d : α) (hi : i < l.length) : (l.set i x).getD j d = if j = i then x else l.getD j d := by
  simp only [List.getD_eq_getElem?_getD, List.getElem?_set]
  by_cases h : i = j
  · subst h; simp [hi]
  · rw [if_neg h, if_neg (Ne.symm h)]
theorem getD_append {α : Type} (l m : List α) (j : Nat) (d : α) : (l ++ m).getD j d = if j < l.length then l.getD j d else m.getD (j - l.length) d := by
  simp only [List.getD_eq_getElem?_getD]
  split
  · rw [List.getElem?_append_left (by assumption)]
  · rw [List.getElem?_append_right (by omega)]

theorem tagsK_ne {α β : Type} {E : El α} {F : El β} (hEF : E.e ≠ F.e) {w : World} {o o' : Option Addr} {c c' : Nat} {xs : List α} {ys : List β} (h : Own E w o c xs) (h' : Own F w o' c' ys) : ∀ k, inO o k → ¬ inO o' k := by
  intro k h1 h2
  obtain ⟨a, ha⟩ := h.tag k h1
  obtain ⟨b, hb⟩ := h'.tag k h2
  rw [ha] at hb
  injection hb with hb
  injection hb with _ hb _
  exact hEF hb

theorem cells_map (hk : E.k = 1) (f : α → Value) (hf : ∀ x, E.enc x = [f x]) : ∀ l : List α, E.cells l = l.map f
  | [] => rfl
  | x :: r => by
    have := cells_map hk f hf r
    simp only [El.cells, List.flatMap_cons, List.map_cons] at this ⊢
    rw [this, hf]; rfl
theorem Own.store1 {w : World} {o : Option Addr} {c : Nat} {xs : List α} (hE : E.Ok) (hk : E.k = 1) (f : α → Value) (hf : ∀ x, E.enc x = [f x]) (d : α) (h : Own E w o c xs) (j : Nat) (hj : j < xs.length) (s : α) :
    ∃ g, o = some ⟨g, 0, none⟩ ∧ w.cell? ⟨g, j, none⟩ = some (f (xs.getD j d)) ∧ w.frozen? ⟨g, j, none⟩ = false ∧ Own E (w.setCell ⟨g, j, none⟩ (f s)) o c (xs.set j s) ∧ Keeps (inO o) w (w.setCell ⟨g, j, none⟩ (f s)) := by
  rcases h.shape with ⟨_, _, e⟩ | ⟨g, cur, rfl, hg, hc, hm, hs, ht⟩
  · rw [e] at hj; simp at hj
  · refine ⟨g, rfl, ?_, frozen_of_blk hg j, ?_, (Keeps.refl _ _).setCell (.inl ⟨_, rfl, rfl⟩) _⟩
    · obtain ⟨b, off, e, h1⟩ := h.sl.one hE hk d hj _ (hf _)
      cases e
      rw [Nat.zero_add] at h1
      exact h1
    · refine own_of_shape hE (blk_set hg j _) (by simpa using hc) hm (by simp [hs]) ?_
      rw [cells_map hk f hf] at ht ⊢
      rw [hk, Nat.mul_one] at ht
      simp only [Array.toList_setIfInBounds, List.length_set, List.map_set, hk, Nat.mul_one]
      rw [List.take_set, ht]

structure Kind {α : Type} (E : El α) (X : El (LS α)) : Prop where
  e : E.Ok
  x : X.Ok
  ne : E.e ≠ X.e
  k : X.k = 1
  enc : ∀ s, X.enc s = [.slice s.o s.xs.length s.c]
theorem kindT : Kind TE XE := ⟨okT, okX, by decide, rfl, fun _ => rfl⟩
variable {X : El (LS α)}
theorem lit_one {α : Type} {E : El α} (w : World) (x : α) (cs : Array Value) (hc : cs.toList = E.enc x) : Sl E (w.alloc (.cells cs E.e)) (some ⟨w.heap.size, 0, none⟩) 1 [x] :=
  ⟨.inr ⟨w.heap.size, 0, rfl, fun j u hj => by
    rw [cell_of_blk (blk_new w _), Nat.zero_add, ← Array.getElem?_toList, hc]
    simpa [El.cells] using hj⟩, by simp, by simp⟩
theorem cell_al {w : World} {p : Addr} {v : Value} (h : w.cell? p = some v) (o : Obj) : (w.alloc o).cell? p = some v := ((Keeps.refl no w).alloc o).cellN h
/-! ### a list's mark -/
theorem conv3 (W : World) (B : Nat) (z1 z2 z3 : Int) (h : W.heap[B]? = some (.cells #[.int .u8 z1, .int .u8 z2, .int .u8 z3] 5 (0, 0))) : (convert 138 9 (.slice (some ⟨B, 0, none⟩) 3 3)).run Tryz.prog W = .ok (.string (mkL [z1, z2, z3])) W := by
  rw [run_convert_bytes_string W 138 9 5 _ 3 3 Tryz.underlying138 Tryz.underlying5 Tryz.underlying9]
  have hload := run_loadCells_list (P := Tryz.prog) W ⟨B, 0, none⟩ [.int .u8 z1, .int .u8 z2, .int .u8 z3] (by
    intro j u hj
    rw [addr_add, Nat.zero_add, cell_of_blk h]
    simpa using hj)
  exact run_bytesToString W ⟨B, 0, none⟩ 3 3 [z1, z2, z3] hload
def mkZ (i : Nat) : Int := IntKind.u8.wrap (i : Int)
def mkS (i : Nat) : Tx := mkL [mkZ i, (i : Int) / 256, 7]
def mkO (i : Nat) : Obj := .cells #[.int .u8 (mkZ i), .int .u8 ((i : Int) / 256), .int .u8 7] 5
theorem mark_any (i : Nat) (hi : i ≤ 1000) (w : World) : Calls Tryz.prog 58 #[.int .i64 (i : Int)] w fun e w' => e = .returned (.string (mkS i)) ∧ w' = w.alloc (mkO i) := by
  have hz : IntKind.u8.wrap (i : Int) = mkZ i := rfl
  have hcv := conv3 (w.alloc (.cells #[.int .u8 (mkZ i), .int .u8 ((i : Int) / 256), .int .u8 7] 5)) w.heap.size (mkZ i) ((i : Int) / 256) 7 (blk_new w _)
  obtain ⟨z1, hz1⟩ : ∃ z, z = mkZ i := ⟨_, rfl⟩
  rw [← hz1] at hz hcv
  have HZ : Hid (z1 = mkZ i) := hz1
  clear hz1
  go_enter Tryz.func58, Tryz.ntmps58
  go_wp2_with fail
  go_ret
  exact ⟨by rw [HZ.out]; rfl, by rw [HZ.out]; rfl⟩

def Tg (e : TypeId) (w : World) (k : Nat) : Prop := ∃ cur, w.heap[k]? = some (.cells cur e (0, 0))
theorem Tg.lt {e : TypeId} {w : World} {k : Nat} (h : Tg e w k) : k < w.heap.size := by
  obtain ⟨cur, h⟩ := h; exact lt_of_block h
theorem Tg.ne {e f : TypeId} {w : World} {k : Nat} (h : Tg e w k) (h' : Tg f w k) : e = f := by
  obtain ⟨a, ha⟩ := h
  obtain ⟨b, hb⟩ := h'
  rw [ha] at hb
  injection hb with hb
  injection hb
/-- a row whose block is of its kind -/
structure Rw (E : El α) (w : World) (o : Option Addr) (xs : List α) : Prop where
  row : Row E w o xs
  tag : ∀ k, inO o k → Tg E.e w k
theorem Own.rw {w : World} {o : Option Addr} {c : Nat} {xs : List α} (h : Own E w o c xs) : Rw E w o xs := ⟨h.row, h.tag⟩
theorem Rw.keeps {S : Nat → Prop} {w w' : World} {o : Option Addr} {xs : List α} (h : Rw E w o xs) (hk : Keeps S w w') (ha : ∀ k, inO o k → ¬ S k) : Rw E w' o xs :=
  ⟨h.row.keeps hk ha, fun k hi => by
    obtain ⟨cur, hc⟩ := h.tag k hi
    exact ⟨cur, hk.at hc (ha k hi)⟩⟩
theorem Rw.keepsN {w w' : World} {o : Option Addr} {xs : List α} (h : Rw E w o xs) (hk : Keeps no w w') : Rw E w' o xs := h.keeps hk (fun _ _ => id)

structure Half1 {α : Type} (E : El α) (X : El (LS α)) (B : Nat → Prop) (oA : Option Addr) (cA : Nat) (L : List (LS α)) (F : Nat → List α) (wr : World) : Prop where
  XA : Own X wr oA cA L
  bL : ∀ j, j < L.length → ∀ k, inO (L.getD j ls0).o k → B k
  eA : ∀ j, j < L.length → Own E wr (L.getD j ls0).o (L.getD j ls0).c (F j)
  fA : ∀ j, j < L.length → (F j).length = (L.getD j ls0).xs.length
  far : ∀ i j, i < L.length → j < L.length → i ≠ j → ∀ k, inO (L.getD i ls0).o k → ¬ inO (L.getD j ls0).o k
theorem Half1.keepsN {B : Nat → Prop} {oA : Option Addr} {cA : Nat} {L : List (LS α)} {F : Nat → List α} {wr w' : World} (h : Half1 E X B oA cA L F wr) (k : Keeps no wr w') : Half1 E X B oA cA L F w' :=
  ⟨h.XA.keepsN k, h.bL, fun j hj => (h.eA j hj).keepsN k, h.fA, h.far⟩
/-- what is done to a block of another kind -/
theorem Half1.other {B : Nat → Prop} {oA : Option Addr} {cA : Nat} {L : List (LS α)} {F : Nat → List α} {wr w' : World} (h : Half1 E X B oA cA L F wr) {S : Nat → Prop} (hk : Keeps S wr w') (hS : ∀ k, S k → ∃ e, e ≠ E.e ∧ e ≠ X.e ∧ Tg e wr k) : Half1 E X B oA cA L F w' :=
  ⟨h.XA.keeps hk (fun k h1 h2 => by obtain ⟨e, _, he, ht⟩ := hS k h2; exact he (ht.ne (h.XA.tag k h1))), h.bL, fun j hj => (h.eA j hj).keeps hk (fun k h1 h2 => by obtain ⟨e, he, _, ht⟩ := hS k h2; exact he (ht.ne ((h.eA j hj).tag k h1))), h.fA, h.far⟩
/-- one element of one list written over -/
theorem Half1.set (hne : E.e ≠ X.e) {B : Nat → Prop} {oA : Option Addr} {cA : Nat} {L : List (LS α)} {F : Nat → List α} {wr w' : World} (h : Half1 E X B oA cA L F wr) (i k : Nat) (hi : i < L.length) (x : α) (ho : Own E w' (L.getD i ls0).o (L.getD i ls0).c ((F i).set k x)) (hk : Keeps (inO (L.getD i ls0).o) wr w') : Half1 E X B oA cA L (fun j => if j = i then (F i).set k x else F j) w' := by
  refine ⟨h.XA.keeps hk (fun b h1 h2 => tagsK_ne hne (h.eA i hi) h.XA b h2 h1), h.bL, fun j hj => ?_, fun j hj => ?_, h.far⟩
  · by_cases e : j = i
    · rw [if_pos e, e]; exact ho
    · rw [if_neg e]; exact (h.eA j hj).keeps hk (fun b h1 h2 => h.far j i hj hi e b h1 h2)
  · by_cases e : j = i
    · rw [if_pos e, List.length_set, e]; exact h.fA i hi
    · rw [if_neg e]; exact h.fA j hj
theorem Half1.at {B : Nat → Prop} {oA : Option Addr} {cA : Nat} {L : List (LS α)} {F : Nat → List α} {wr : World} (h : Half1 E X B oA cA L F wr) (K : Kind E X) (i : Nat) (hi : i < L.length) : ∃ b, oA = some ⟨b, 0, none⟩ ∧ wr.cell? ⟨b, i, none⟩ = some (.slice (L.getD i ls0).o (L.getD i ls0).xs.length (L.getD i ls0).c) := by
  obtain ⟨b, off, e, hc⟩ := h.XA.sl.one K.x K.k ls0 hi _ (K.enc _)
  have ho : off = 0 := by
    rcases h.XA.shape with ⟨e', _⟩ | ⟨g, cur, e', _⟩
    · rw [e'] at e; cases e
    · rw [e'] at e; cases e; rfl
  subst ho
  rw [Nat.zero_add] at hc
  exact ⟨b, e, hc⟩

structure Half2 {α : Type} (E : El α) (X : El (LS α)) (B : Nat → Prop) (mk : Nat → α) (oA : Option Addr) (cA : Nat) (L : List (LS α)) (i : Nat) (ol : Option Addr) (cl : Nat) (La : List (LS α)) (wr : World) : Prop where
  XA : Own X wr oA cA L
  bL : ∀ j, j < L.length → ∀ k, inO (L.getD j ls0).o k → B k
  rA : ∀ j, j < L.length → Rw E wr (L.getD j ls0).o (List.replicate (L.getD j ls0).xs.length (mk j))
  eA : ∀ j, i ≤ j → j < L.length → Own E wr (L.getD j ls0).o (L.getD j ls0).c (List.replicate (L.getD j ls0).xs.length (mk j))
  far : ∀ i j, i < L.length → j < L.length → i ≠ j → ∀ k, inO (L.getD i ls0).o k → ¬ inO (L.getD j ls0).o k
  la : Own X wr ol cl La
  bl : ∀ k, inO ol k → B k
  sepl : ∀ k, inO ol k → ¬ inO oA k
  len : La.length = i
  lae : ∀ j, j < i → (La.getD j ls0).xs = List.replicate ((L.getD j ls0).xs.length + 30) (mk j) ∧ Own E wr (La.getD j ls0).o (La.getD j ls0).c (La.getD j ls0).xs
  sep : ∀ j, j < i → ∀ t, t < L.length → t ≠ j → ∀ k, inO (La.getD j ls0).o k → ¬ inO (L.getD t ls0).o k
theorem Half2.keepsN {B : Nat → Prop} {mk : Nat → α} {oA : Option Addr} {cA : Nat} {L : List (LS α)} {i : Nat} {ol : Option Addr} {cl : Nat} {La : List (LS α)} {wr w' : World} (h : Half2 E X B mk oA cA L i ol cl La wr) (k : Keeps no wr w') : Half2 E X B mk oA cA L i ol cl La w' :=
  ⟨h.XA.keepsN k, h.bL, fun j hj => (h.rA j hj).keepsN k, fun j h1 h2 => (h.eA j h1 h2).keepsN k, h.far, h.la.keepsN k, h.bl, h.sepl, h.len, fun j hj => ⟨(h.lae j hj).1, (h.lae j hj).2.keepsN k⟩, h.sep⟩
theorem Half2.other {B : Nat → Prop} {mk : Nat → α} {oA : Option Addr} {cA : Nat} {L : List (LS α)} {i : Nat} {ol : Option Addr} {cl : Nat} {La : List (LS α)} {wr w' : World} (h : Half2 E X B mk oA cA L i ol cl La wr) {S : Nat → Prop} (hk : Keeps S wr w') (hS : ∀ k, S k → ∃ e, e ≠ E.e ∧ e ≠ X.e ∧ Tg e wr k) : Half2 E X B mk oA cA L i ol cl La w' := by
  have hE : ∀ {o : Option Addr}, (∀ k, inO o k → Tg E.e wr k) → ∀ k, inO o k → ¬ S k := fun ht k h1 h2 => by
    obtain ⟨e, he, _, hte⟩ := hS k h2; exact he (hte.ne (ht k h1))
  have hX : ∀ {o : Option Addr}, (∀ k, inO o k → Tg X.e wr k) → ∀ k, inO o k → ¬ S k := fun ht k h1 h2 => by
    obtain ⟨e, _, he, hte⟩ := hS k h2; exact he (hte.ne (ht k h1))
  exact ⟨h.XA.keeps hk (hX h.XA.tag), h.bL, fun j hj => (h.rA j hj).keeps hk (hE (h.rA j hj).tag), fun j h1 h2 => (h.eA j h1 h2).keeps hk (hE (h.eA j h1 h2).tag), h.far, h.la.keeps hk (hX h.la.tag), h.bl, h.sepl, h.len, fun j hj => ⟨(h.lae j hj).1, (h.lae j hj).2.keeps hk (hE (h.lae j hj).2.tag)⟩, h.sep⟩
theorem half2_of {B : Nat → Prop} {mk : Nat → α} {oA : Option Addr} {cA : Nat} {L : List (LS α)} {F : Nat → List α} {wr : World} (h : Half1 E X B oA cA L F wr) (hF : ∀ j, j < L.length → F j = List.replicate (L.getD j ls0).xs.length (mk j)) : Half2 E X B mk oA cA L 0 none 0 [] wr :=
  ⟨h.XA, h.bL, fun j hj => by rw [← hF j hj]; exact (h.eA j hj).rw, fun j _ hj => by rw [← hF j hj]; exact h.eA j hj, h.far, own_nil _, fun k ⟨x, e, _⟩ => (by cases e), fun k ⟨x, e, _⟩ => (by cases e), rfl, fun j hj => by omega, fun j hj => by omega⟩
theorem Half2.at {B : Nat → Prop} {mk : Nat → α} {oA : Option Addr} {cA : Nat} {L : List (LS α)} {i : Nat} {ol : Option Addr} {cl : Nat} {La : List (LS α)} {wr : World} (h : Half2 E X B mk oA cA L i ol cl La wr) (K : Kind E X) (j : Nat) (hj : j < L.length) : ∃ b, oA = some ⟨b, 0, none⟩ ∧ wr.cell? ⟨b, j, none⟩ = some (.slice (L.getD j ls0).o (L.getD j ls0).xs.length (L.getD j ls0).c) := by
  obtain ⟨b, off, e, hc⟩ := h.XA.sl.one K.x K.k ls0 hj _ (K.enc _)
  have ho : off = 0 := by
    rcases h.XA.shape with ⟨e', _⟩ | ⟨g, cur, e', _⟩
    · rw [e'] at e; cases e
    · rw [e'] at e; cases e; rfl
  subst ho
  rw [Nat.zero_add] at hc
  exact ⟨b, e, hc⟩
theorem Half2.atL {B : Nat → Prop} {mk : Nat → α} {oA : Option Addr} {cA : Nat} {L : List (LS α)} {i : Nat} {ol : Option Addr} {cl : Nat} {La : List (LS α)} {wr : World} (h : Half2 E X B mk oA cA L i ol cl La wr) (K : Kind E X) (j : Nat) (hj : j < i) : ∃ b, ol = some ⟨b, 0, none⟩ ∧ wr.cell? ⟨b, j, none⟩ = some (.slice (La.getD j ls0).o ((L.getD j ls0).xs.length + 30) (La.getD j ls0).c) := by
  obtain ⟨b, off, e, hc⟩ := h.la.sl.one K.x K.k ls0 (j := j) (by rw [h.len]; exact hj) _ (K.enc _)
  have ho : off = 0 := by
    rcases h.la.shape with ⟨e', _⟩ | ⟨g, cur, e', _⟩
    · rw [e'] at e; cases e
    · rw [e'] at e; cases e; rfl
  subst ho
  rw [Nat.zero_add, (h.lae j hj).1, List.length_replicate] at hc
  exact ⟨b, e, hc⟩

/-- one list growing -/
structure Grow {α : Type} (E : El α) (wz : World) (oi : Option Addr) (n : Nat) (x : α) (q : Nat) (o : Option Addr) (c : Nat) (wr : World) : Prop where
  own : Own E wr o c (List.replicate (n + q) x)
  at_ : o = oi ∨ New wz o
  kp : Keeps (inO oi) wz wr
  old : Rw E wr oi (List.replicate n x)
theorem Grow.keepsN {wz : World} {oi : Option Addr} {n : Nat} {x : α} {q : Nat} {o : Option Addr} {c : Nat} {wr w' : World} (h : Grow E wz oi n x q o c wr) (k : Keeps no wr w') : Grow E wz oi n x q o c w' :=
  ⟨h.own.keepsN k, h.at_, h.kp.trans k.of_no, h.old.keepsN k⟩
theorem rep_snoc {α : Type} (n : Nat) (x : α) : List.replicate n x ++ [x] = List.replicate (n + 1) x := by
  rw [List.replicate_succ']
theorem Grow.more {wz : World} {oi : Option Addr} {n : Nat} {x : α} {q : Nat} {o : Option Addr} {c : Nat} {wr w' : World} (hE : E.Ok) (hlt : ∀ k, inO oi k → k < wz.heap.size) (h : Grow E wz oi n x q o c wr) {o' : Option Addr} {c' : Nat} (ho : Own E w' o' c' (List.replicate (n + q) x ++ [x])) (hap : Ap wr o o' w') : Grow E wz oi n x (q + 1) o' c' w' := by
  rw [rep_snoc] at ho
  have ho' : Own E w' o' c' (List.replicate (n + (q + 1)) x) := ho
  have htake : (List.replicate (n + (q + 1)) x).take n = List.replicate n x := by
    rw [List.take_replicate, Nat.min_eq_left (by omega)]
  rcases h.at_ with e | hn
  · subst e
    rcases hap with ⟨e, hk⟩ | ⟨⟨g, e, hg⟩, hk⟩
    · subst e
      exact ⟨ho', .inl rfl, h.kp.trans hk, ⟨by have := ho'.row.take hE n; rwa [htake] at this, ho'.tag⟩⟩
    · refine ⟨ho', .inr ?_, h.kp.trans hk.of_no, h.old.keepsN hk⟩
      rintro k ⟨y, ey, rfl⟩
      rw [e] at ey
      cases ey
      exact Nat.le_trans h.kp.size hg
  · have hapart : ∀ k, inO oi k → ¬ inO o k := fun k h1 h2 => by have := hlt k h1; have := hn k h2; omega
    rcases hap with ⟨e, hk⟩ | ⟨⟨g, e, hg⟩, hk⟩
    · subst e
      exact ⟨ho', .inr hn, h.kp.then hk (fun k hk2 => .inr (hn k hk2)), h.old.keeps hk hapart⟩
    · refine ⟨ho', .inr ?_, h.kp.trans hk.of_no, h.old.keepsN hk⟩
      rintro k ⟨y, ey, rfl⟩
      rw [e] at ey
      cases ey
      exact Nat.le_trans h.kp.size hg
/-- a list grown is laid behind the others -/
theorem Half2.push (hne : E.e ≠ X.e) {B : Nat → Prop} {mk : Nat → α} {oA : Option Addr} {cA : Nat} {L : List (LS α)} {i : Nat} {ol : Option Addr} {cl : Nat} {La : List (LS α)} {wz wr w' : World} (h : Half2 E X B mk oA cA L i ol cl La wz) (hi : i < L.length) {o : Option Addr} {c : Nat} (hg : Grow E wz (L.getD i ls0).o (L.getD i ls0).xs.length (mk i) 30 o c wr) (hB : ∀ k, wz.heap.size ≤ k → B k)
    {o' : Option Addr} {c' : Nat} (ho : Own X w' o' c' (La ++ [⟨o, c, List.replicate ((L.getD i ls0).xs.length + 30) (mk i)⟩])) (hap : Ap wr ol o' w') : Half2 E X B mk oA cA L (i + 1) o' c' (La ++ [⟨o, c, List.replicate ((L.getD i ls0).xs.length + 30) (mk i)⟩]) w' := by
  have hk := hg.kp
  have hXA : Own X wr oA cA L := h.XA.keeps hk (fun b h1 h2 => tagsK_ne hne (h.eA i (Nat.le_refl _) hi) h.XA b h2 h1)
  have hla : Own X wr ol cl La := h.la.keeps hk (fun b h1 h2 => tagsK_ne hne (h.eA i (Nat.le_refl _) hi) h.la b h2 h1)
  have hk2 : Keeps (inO ol) wr w' := by
    rcases hap with ⟨_, hk⟩ | ⟨_, hk⟩
    · exact hk
    · exact hk.of_no
  have hE2 : ∀ {p : Option Addr}, (∀ k, inO p k → Tg E.e wr k) → ∀ k, inO p k → ¬ inO ol k := fun ht k h1 h2 => hne ((ht k h1).ne (hla.tag k h2))
  have hr : ∀ j, j < L.length → Rw E wr (L.getD j ls0).o (List.replicate (L.getD j ls0).xs.length (mk j)) := by
    intro j hj
    by_cases e : j = i
    · rw [e]; exact hg.old
    · exact (h.rA j hj).keeps hk (fun b h1 h2 => h.far j i hj hi e b h1 h2)
  have hlist : ∀ j, (La ++ [(⟨o, c, List.replicate ((L.getD i ls0).xs.length + 30) (mk i)⟩ : LS α)]).getD j ls0 = if j < i then La.getD j ls0 else if j = i then ⟨o, c, List.replicate ((L.getD i ls0).xs.length + 30) (mk i)⟩ else ls0 := by
    intro j
    rw [getD_append, h.len]
    by_cases h1 : j < i
    · rw [if_pos h1, if_pos h1]
    · rw [if_neg h1, if_neg h1]
      by_cases h2 : j = i
      · rw [if_pos h2, h2]; simp
      · rw [if_neg h2, List.getD_eq_getElem?_getD, List.getElem?_eq_none (by simp; omega)]; rfl
  refine ⟨hXA.keeps hk2 (fun k h1 h2 => h.sepl k h2 h1), h.bL, fun j hj => (hr j hj).keeps hk2 (hE2 (hr j hj).tag), ?_, h.far, ho, ?_, ?_, by rw [List.length_append, h.len]; rfl, ?_, ?_⟩
  · intro j h1 h2
    have he : Own E wr (L.getD j ls0).o (L.getD j ls0).c (List.replicate (L.getD j ls0).xs.length (mk j)) := (h.eA j (by omega) h2).keeps hk (fun b h3 h4 => h.far j i h2 hi (by omega) b h3 h4)
    exact he.keeps hk2 (hE2 he.tag)
  · intro k hk3
    rcases hap with ⟨e, _⟩ | ⟨⟨g, e, hgg⟩, _⟩
    · rw [e] at hk3; exact h.bl k hk3
    · obtain ⟨y, ey, rfl⟩ := hk3
      rw [e] at ey
      cases ey
      exact hB _ (Nat.le_trans hk.size hgg)
  · intro k hk3 hk4
    rcases hap with ⟨e, _⟩ | ⟨⟨g, e, hgg⟩, _⟩
    · rw [e] at hk3; exact h.sepl k hk3 hk4
    · obtain ⟨y, ey, rfl⟩ := hk3
      rw [e] at ey
      cases ey
      have := hXA.lt _ hk4
      simp at this
      omega
  · intro j hj
    rw [hlist j]
    by_cases h1 : j < i
    · rw [if_pos h1]
      have ho2 : Own E wr (La.getD j ls0).o (La.getD j ls0).c (La.getD j ls0).xs := (h.lae j h1).2.keeps hk (fun b h3 h4 => h.sep j h1 i hi (by omega) b h3 h4)
      exact ⟨(h.lae j h1).1, ho2.keeps hk2 (hE2 ho2.tag)⟩
    · have e : j = i := by omega
      rw [if_neg h1, if_pos e]
      subst e
      exact ⟨rfl, hg.own.keeps hk2 (hE2 hg.own.tag)⟩
  · intro j hj t ht htj k
    rw [hlist j]
    by_cases h1 : j < i
    · rw [if_pos h1]; exact h.sep j h1 t ht htj k
    · have e : j = i := by omega
      rw [if_neg h1, if_pos e]
      intro h3 h4
      rcases hg.at_ with e2 | hn
      · rw [show (⟨o, c, List.replicate ((L.getD i ls0).xs.length + 30) (mk i)⟩ : LS α).o = o from rfl, e2] at h3
        exact h.far i t hi ht (by omega) k h3 h4
      · have := hn k h3
        have := ((h.rA t ht).tag k h4).lt
        omega
theorem lit_one2 {α : Type} {E : El α} (w : World) (o : Obj) (x : α) (cs : Array Value) (hc : cs.toList = E.enc x) : Sl E ((w.alloc o).alloc (.cells cs E.e)) (some ⟨w.heap.size + 1, 0, none⟩) 1 [x] := by
  have := lit_one (E := E) (w.alloc o) x cs hc
  have e : (w.alloc o).heap.size = w.heap.size + 1 := by simp
  rwa [e] at this
def rep {α : Type} (mk : Nat → α) (L : List (LS α)) (j : Nat) : List α := List.replicate (L.getD j ls0).xs.length (mk j)
theorem rep_of {α : Type} (mk : Nat → α) (L : List (LS α)) (j : Nat) (d : α) (f : List α) (hl : f.length = (L.getD j ls0).xs.length) (h : ∀ t, t < (L.getD j ls0).xs.length → f.getD t d = mk j) : f = rep mk L j := by
  unfold rep
  apply List.ext_getElem (by simp [hl])
  intro t h1 h2
  have := h t (by omega)
  rw [List.getD_eq_getElem?_getD, List.getElem?_eq_getElem h1] at this
  simp at this
  simp [this]


/-! ### a region that draws, only reads, and calls 'mark': its worlds are those with some marks' bytes more -/
def al (w : World) (O : Obj) : Nat → World
  | 0 => w
  | n + 1 => (al w O n).alloc O
theorem al_keeps (w : World) (O : Obj) : ∀ n, Keeps no w (al w O n)
  | 0 => Keeps.refl _ _
  | n + 1 => (al_keeps w O n).alloc O
theorem al_cell {w : World} (O : Obj) {p : Addr} {v : Value} (h : w.cell? p = some v) : ∀ n, (al w O n).cell? p = some v := fun n => (al_keeps w O n).cellN h
theorem region_marks {id : Nat} {Q : Exit → Act → World → Prop} {a : Act} {w : World} {l : List Oper} (O : Obj) (hm : Tryz.prog.follows .mixedOrders = true) (hB : Region.lexB .any l.toArray = true)
    (h : wpQuiet Tryz.prog l.toArray (fun w' => ∃ n, w' = (al w O n).drewN 1) (fun a' => ∀ w', (∃ n, w' = (al w O n).drewN 1) → Q .normal a' w') l a) : (Code.region id l.toArray true).wp Tryz.prog Q a w :=
  wp_region_quiet (C := fun w' => ∃ n, w' = (al w O n).drewN 1) hm hB ⟨0, rfl⟩ (by simpa using h)
theorem mark_al (i : Nat) (hi : i ≤ 1000) (w : World) (n : Nat) : Calls Tryz.prog 58 #[.int .i64 (i : Int)] ((al w (mkO i) n).drewN 1) fun e w'' => e = .returned (.string (mkS i)) ∧ ∃ m, w'' = (al w (mkO i) m).drewN 1 :=
  (mark_any i hi _).mono fun e w' ⟨he, hw⟩ => ⟨he, n + 1, by rw [hw]; rfl⟩

structure One (B : Nat → Prop) (w : World) (oX : Option Addr) (cX : Nat) (Y : List (LS Tx)) (H : Nat → List Tx) (wr : World) : Prop where
  p : Half1 TE XE B oX cX Y H wr
  kp : Keeps B w wr
structure Both (B : Nat → Prop) (w : World) (oX : Option Addr) (cX : Nat) (Y : List (LS Tx)) (j : Nat) (ox : Option Addr) (cx : Nat) (Lx : List (LS Tx)) (wr : World) : Prop where
  p : Half2 TE XE B mkS oX cX Y j ox cx Lx wr
  kp : Keeps B w wr
theorem One.keepsN {B : Nat → Prop} {w : World} {oX : Option Addr} {cX : Nat} {Y : List (LS Tx)} {H : Nat → List Tx} {wr w' : World} (h : One B w oX cX Y H wr) (k : Keeps no wr w') : One B w oX cX Y H w' := ⟨h.p.keepsN k, h.kp.trans k.of_no⟩
theorem Both.keepsN {B : Nat → Prop} {w : World} {oX : Option Addr} {cX : Nat} {Y : List (LS Tx)} {j : Nat} {ox : Option Addr} {cx : Nat} {Lx : List (LS Tx)} {wr w' : World} (h : Both B w oX cX Y j ox cx Lx wr) (k : Keeps no wr w') : Both B w oX cX Y j ox cx Lx w' := ⟨h.p.keepsN k, h.kp.trans k.of_no⟩
theorem One.setP {B : Nat → Prop} {w : World} {oX : Option Addr} {cX : Nat} {Y : List (LS Tx)} {H : Nat → List Tx} {wr : World} (h : One B w oX cX Y H wr) (i k n : Nat) (hi : i < Y.length) (hk : k < n) (hn : n = (Y.getD i ls0).xs.length) (x : Tx) :
    ∃ g, (Y.getD i ls0).o = some ⟨g, 0, none⟩ ∧ (∃ v, wr.cell? ⟨g, k, none⟩ = some (.string v)) ∧ wr.frozen? ⟨g, k, none⟩ = false ∧ One B w oX cX Y (fun j => if j = i then (H i).set k x else H j) (wr.setCell ⟨g, k, none⟩ (.string x)) := by
  obtain ⟨g, e, h1, h2, h3, h4⟩ := (h.p.eA i hi).store1 okT rfl Value.string (fun _ => rfl) e0 k (by rw [h.p.fA i hi, ← hn]; exact hk) x
  exact ⟨g, e, ⟨_, h1⟩, h2, h.p.set (by decide) i k hi x h3 h4, h.kp.trans (h4.mono (h.p.bL i hi))⟩
theorem Both.pushP {B : Nat → Prop} {w : World} {oX : Option Addr} {cX : Nat} {Y : List (LS Tx)} {j : Nat} {ox : Option Addr} {cx : Nat} {Lx : List (LS Tx)} {wz wr w' : World} (h : Both B w oX cX Y j ox cx Lx wz) (hB : ∀ k, w.heap.size ≤ k → B k) (hj : j < Y.length) {o : Option Addr} {c : Nat} (hg : Grow TE wz (Y.getD j ls0).o (Y.getD j ls0).xs.length (mkS j) 30 o c wr)
    {o' : Option Addr} {c' : Nat} (ho : Own XE w' o' c' (Lx ++ [⟨o, c, List.replicate ((Y.getD j ls0).xs.length + 30) (mkS j)⟩])) (hap : Ap wr ox o' w') : Both B w oX cX Y (j + 1) o' c' (Lx ++ [⟨o, c, List.replicate ((Y.getD j ls0).xs.length + 30) (mkS j)⟩]) w' := by
  have hk2 : Keeps (inO ox) wr w' := by
    rcases hap with ⟨_, hk⟩ | ⟨_, hk⟩
    · exact hk
    · exact hk.of_no
  exact ⟨h.p.push (by decide) hj hg (fun k hk => hB k (Nat.le_trans h.kp.size hk)) ho hap, (h.kp.trans (hg.kp.mono (h.p.bL j hj))).trans (hk2.mono h.p.bl)⟩
theorem both_of {B : Nat → Prop} {w : World} {oX : Option Addr} {cX : Nat} {Y : List (LS Tx)} {H : Nat → List Tx} {wr : World} (h : One B w oX cX Y H wr) (hH : ∀ j, j < Y.length → H j = rep mkS Y j) : Both B w oX cX Y 0 none 0 [] wr :=
  ⟨half2_of h.p hH, h.kp⟩
theorem grow_nil {α : Type} {E : El α} {wz : World} {o : Option Addr} {c n : Nat} {x : α} (h : Own E wz o c (List.replicate n x)) : Grow E wz o n x 0 o c wz := ⟨h, .inl rfl, Keeps.refl _ _, h.rw⟩
/-- the marks of one list, as they are read again -/
theorem Half2.read {α : Type} {E : El α} {X : El (LS α)} {B : Nat → Prop} {mk : Nat → α} {oA : Option Addr} {cA : Nat} {L : List (LS α)} {i : Nat} {ol : Option Addr} {cl : Nat} {La : List (LS α)} {wr : World} (h : Half2 E X B mk oA cA L i ol cl La wr) (j : Nat) (hj : j < i) : Sl E wr (La.getD j ls0).o (La.getD j ls0).c (List.replicate ((L.getD j ls0).xs.length + 30) (mk j)) := by
  have := (h.lae j hj).2.sl
  rwa [(h.lae j hj).1] at this
end Go.Proofs.YtkoaiibjahlnmaaGreat
/- StoreKeeps: 'marked' (written by wip/tools/mkmb11.py). -/
namespace Go.Proofs.YtkoaiibjahlnmaaGreat
open Go.RowKit Go.Sort Orl
set_option linter.unusedVariables false
set_option linter.unusedSimpArgs false

set_option maxHeartbeats 20000000 in
set_option maxRecDepth 10000 in
theorem marked_any (B : Nat → Prop) (w : World) (oX : Option Addr) (NX cX : Nat) (Y : List (LS Tx)) (hNX : NX = Y.length) (hNX2 : NX ≤ 1000) (hB : ∀ k, w.heap.size ≤ k → B k)
    (hY : Half1 TE XE B oX cX Y (fun j => (Y.getD j ls0).xs) w)
    (fY : ∀ j, j < Y.length → ((Y.getD j ls0).xs.length : Int) ≤ 8796093022000) :
    Calls Tryz.prog 24 #[.slice oX NX cX] w fun e w' => e = .returned (.bool true) ∧ Keeps B w w' := by
  have HS : Hid (NX = Y.length ∧ (∀ k, w.heap.size ≤ k → B k) ∧ (∀ j, j < Y.length → ((Y.getD j ls0).xs.length : Int) ≤ 8796093022000)) := ⟨hNX, hB, fY⟩
  have H0 : Hid (One B w oX cX Y (fun j => (Y.getD j ls0).xs) w) := ⟨hY, Keeps.refl _ _⟩
  clear hNX hB hY fY
  go_enter Tryz.func24, Tryz.ntmps24
  go_wp2_with fail
  go_loopw [4] (fun s wr => ∃ (i : Nat) (H : Nat → List Tx), i ≤ NX ∧ s = .int .i64 i ∧ Hid (One B w oX cX Y H wr ∧ ∀ j, j < i → H j = rep mkS Y j)) (fun s _ => NX - (intOf s).toNat)
  case atStart => exact ⟨0, _, by omega, rfl, ⟨H0.out, fun j hj => by omega⟩⟩
  case round =>
    clear H0
    obtain ⟨i, H, hi, rfl, HI⟩ := hrel
    by_cases hlt : i < NX
    · have hiL : i < Y.length := by rw [← HS.out.1]; exact hlt
      obtain ⟨bx, eA⟩ : ∃ b, oX = some ⟨b, 0, none⟩ := by obtain ⟨b, e, _⟩ := HI.out.1.p.at kindT i hiL; exact ⟨b, e⟩
      subst eA
      have hfit := HS.out.2.2 i hiL
      obtain ⟨si, hsi⟩ : ∃ si, si = Y.getD i ls0 := ⟨_, rfl⟩
      obtain ⟨n, hn⟩ : ∃ n, n = si.xs.length := ⟨_, rfl⟩
      rw [← hsi, ← hn] at hfit
      have hnI : (n : Int) ≤ 8796093022000 := by omega
      have HSI : Hid (si = Y.getD i ls0 ∧ n = (Y.getD i ls0).xs.length ∧ i < Y.length) := ⟨hsi, by rw [hn, hsi], hiL⟩
      have DX : Hid (∀ wr H, One B w (some ⟨bx, 0, none⟩) cX Y H wr → wr.cell? ⟨bx, i, none⟩ = some (.slice si.o n si.c)) := fun wr H h => by
        obtain ⟨b, e, hc⟩ := h.p.at kindT i hiL
        cases e
        rw [hc, hn, hsi]
      clear hsi hn hfit hiL
      have d1 := DX.out wr H HI.out.1
      go_wp2_with fail
      go_loopw [5] (fun s wr => ∃ (k : Nat) (H : Nat → List Tx), k ≤ n ∧ s = .int .i64 k ∧ Hid (One B w (some ⟨bx, 0, none⟩) cX Y H wr ∧ (∀ j, j < i → H j = rep mkS Y j) ∧ ∀ t, t < k → (H i).getD t e0 = mkS i)) (fun s _ => n - (intOf s).toNat)
      case atStart => exact ⟨0, H, by omega, rfl, ⟨HI.out.1, HI.out.2, fun t ht => by omega⟩⟩
      case round =>
        clear HI d1
        obtain ⟨k, H, hk, rfl, HI⟩ := hrel
        have d1 := DX.out wr H HI.out.1
        by_cases hkn : k < n
        · have hO := HI.out.1.keepsN ((Keeps.refl _ _).alloc (mkO i))
          obtain ⟨g, eg, ⟨v1, q1⟩, q2, q3⟩ := hO.setP i k n HSI.out.2.2 hkn HSI.out.2.1 (mkS i)
          rw [← HSI.out.1] at eg
          rw [eg] at d1
          have r1 := cell_al d1 (mkO i)
          have HQ3 : Hid (One B w (some ⟨bx, 0, none⟩) cX Y (fun j => if j = i then (H i).set k (mkS i) else H j) ((wr.alloc (mkO i)).setCell ⟨g, k, none⟩ (.string (mkS i)))) := q3
          have HLEN : Hid (k < (H i).length) := by rw [HI.out.1.p.fA i HSI.out.2.2, ← HSI.out.2.1]; exact hkn
          have hkI : (k : Int) < n := by omega
          clear q3 eg hO
          go_wp2_with fail
          go_region_with (go_at_call 58; go_loud (refine (mark_any i (by omega) _).mono ?_); rintro e w' ⟨rfl, rfl⟩)
          all_goals
           (go_wp2_with fail
            go_roundw
            case rel =>
             refine ⟨k + 1, (fun j => if j = i then (H i).set k (mkS i) else H j), by omega, by go_num, ⟨HQ3.out.keepsN (Keeps.refl _ _).drew, fun j hj => ?_, fun t ht => ?_⟩⟩
             · show (if j = i then (H i).set k (mkS i) else H j) = _
               rw [if_neg (by omega)]; exact HI.out.2.1 j hj
             · show (if i = i then (H i).set k (mkS i) else H i).getD t e0 = _
               rw [if_pos rfl, getD_set _ _ _ _ _ HLEN.out]
               by_cases e : t = k
               · rw [if_pos e]
               · rw [if_neg e]; exact HI.out.2.2 t (by omega)
            case measure => simp [intOf] <;> omega)
        · go_wp2_with fail
          go_roundw
          case rel =>
            refine ⟨i + 1, H, by omega, by go_num, ⟨HI.out.1, fun j hj => ?_⟩⟩
            by_cases e : j = i
            · subst e
              exact rep_of mkS Y j e0 (H j) (HI.out.1.p.fA j HSI.out.2.2) (fun t ht => HI.out.2.2 t (by have := HSI.out.2.1; omega))
            · exact HI.out.2.1 j (by omega)
          case measure => simp [intOf] <;> omega
    · have HFp : Hid (∀ j, j < Y.length → H j = rep mkS Y j) := fun j hj => HI.out.2 j (by have := HS.out.1; omega)
      have H0 : Hid (One B w oX cX Y H wr) := HI.out.1
      clear HI
      go_wp2_with fail
      clear hlt hi
      have H1 : Hid (Both B w oX cX Y 0 none 0 [] wr) := both_of H0.out HFp.out
      clear H0 HFp
      have H0 : Hid _ := H1.out
      clear H1
      go_loopw [3, 6] (fun sl s wr => ∃ (i : Nat) (olp : Option Addr) (clp : Nat) (Lap : List (LS Tx)), i ≤ NX ∧ s = .int .i64 i ∧ sl = .slice olp i clp ∧ Hid (Both B w oX cX Y i olp clp Lap wr)) (fun _ s _ => NX - (intOf s).toNat)
      case atStart => exact ⟨0, none, 0, [], by omega, rfl, rfl, H0⟩
      case round =>
        clear H0
        obtain ⟨i, olp, clp, Lap, hi, rfl, rfl, HI⟩ := hrel
        rename World => wz
        by_cases hlt : i < NX
        · have hiL : i < Y.length := by rw [← HS.out.1]; exact hlt
          obtain ⟨bx, eA⟩ : ∃ b, oX = some ⟨b, 0, none⟩ := by obtain ⟨b, e, _⟩ := HI.out.p.at kindT i hiL; exact ⟨b, e⟩
          subst eA
          have hfit := HS.out.2.2 i hiL
          obtain ⟨si, hsi⟩ : ∃ si, si = Y.getD i ls0 := ⟨_, rfl⟩
          obtain ⟨n, hn⟩ : ∃ n, n = si.xs.length := ⟨_, rfl⟩
          rw [← hsi, ← hn] at hfit
          have hnI : (n : Int) ≤ 8796093022000 := by omega
          have HSI : Hid (si = Y.getD i ls0 ∧ n = (Y.getD i ls0).xs.length ∧ i < Y.length) := ⟨hsi, by rw [hn, hsi], hiL⟩
          have d1 : wz.cell? ⟨bx, i, none⟩ = some (.slice si.o n si.c) := by
            obtain ⟨b, e, hc⟩ := HI.out.p.at kindT i hiL
            cases e
            rw [hc, hn, hsi]
          have HG0 : Hid (Grow TE wz si.o n (mkS i) 0 si.o si.c wz ∧ ∀ k, inO si.o k → k < wz.heap.size) := by
            rw [hn, hsi]
            exact ⟨grow_nil (HI.out.p.eA i (Nat.le_refl _) hiL), (HI.out.p.eA i (Nat.le_refl _) hiL).lt⟩
          clear hsi hn hfit hiL
          go_wp2_with fail
          go_loopw [7, 8] (fun sl s wr => ∃ (q m : Nat) (o : Option Addr) (c : Nat), q ≤ 30 ∧ s = .int .i64 q ∧ sl = .slice o m c ∧ Hid (m = n + q ∧ Grow TE wz si.o n (mkS i) q o c wr)) (fun _ s _ => 30 - (intOf s).toNat)
          case atStart => exact ⟨0, n, si.o, si.c, by omega, rfl, rfl, ⟨rfl, HG0.out.1⟩⟩
          case round =>
            obtain ⟨q, m, o, c, hq, rfl, rfl, HG⟩ := hrel
            have hmI : (m : Int) ≤ 8796093022000 + 30 := by have := HG.out.1; omega
            by_cases hqq : q < 30
            · have HB : Hid (((List.replicate (n + q) (mkS i)).length + [mkS i].length) * TE.nb ≤ 140737488355328 ∧ (List.replicate (n + q) (mkS i)).length + [mkS i].length ≤ 140737488355328) := ⟨by simp [TE]; omega, by simp; omega⟩
              go_wp2_with (first | (go_at_call 58; go_loud (refine (mark_any i (by omega) _).mono ?_); rintro e w' ⟨rfl, hw'⟩; subst w') | (at_builtin; go_loud (refine wpList_app okT rfl _ _ rfl _ _ _ (List.replicate (n + q) (mkS i)) rfl (by rw [List.length_replicate]; exact HG.out.1) ((HG.out.2.own.keepsN ((Keeps.refl _ _).alloc _)).keepsN ((Keeps.refl _ _).alloc _)) _ _ _ [mkS i] rfl rfl (fun h => by cases h) (lit_one2 (E := TE) _ _ (mkS i) _ rfl).row HB.out.1 HB.out.2 ?_); intro o5 c5 w5 ho5 hap5))
              go_roundw
              case rel => exact ⟨q + 1, m + 1, o5, c5, by omega, by go_num, rfl, ⟨by have := HG.out.1; omega, (HG.out.2.keepsN (((Keeps.refl _ _).alloc _).alloc _)).more okT HG0.out.2 ho5 hap5⟩⟩
              case measure => simp [intOf] <;> omega
            · obtain rfl : q = 30 := by omega
              have HGG : Hid (Grow TE wz (Y.getD i ls0).o (Y.getD i ls0).xs.length (mkS i) 30 o c wr ∧ m = (Y.getD i ls0).xs.length + 30) := by
                have h3 := HG.out.2
                have h4 := HG.out.1
                rw [HSI.out.1, HSI.out.2.1] at h3
                rw [HSI.out.2.1] at h4
                exact ⟨h3, h4⟩
              have HLA : Hid (Own XE wr olp clp Lap ∧ i = Lap.length) := ⟨HI.out.p.la.keeps HGG.out.1.kp (fun b h1 h2 => tagsK_ne (by decide) (HI.out.p.eA i (Nat.le_refl _) HSI.out.2.2) HI.out.p.la b h2 h1), HI.out.p.len.symm⟩
              have HB : Hid ((Lap.length + [(⟨o, c, List.replicate ((Y.getD i ls0).xs.length + 30) (mkS i)⟩ : LS Tx)].length) * XE.nb ≤ 140737488355328 ∧ Lap.length + [(⟨o, c, List.replicate ((Y.getD i ls0).xs.length + 30) (mkS i)⟩ : LS Tx)].length ≤ 140737488355328) := by
                have := HLA.out.2
                exact ⟨by simp [XE]; omega, by simp; omega⟩
              go_wp2_with (at_builtin; go_loud (refine wpList_app okX rfl _ _ rfl _ _ _ Lap rfl HLA.out.2 (HLA.out.1.keepsN ((Keeps.refl _ _).alloc _)) _ _ _ [⟨o, c, List.replicate ((Y.getD i ls0).xs.length + 30) (mkS i)⟩] rfl rfl (fun h => by cases h) (lit_one (E := XE) _ _ _ (by simp [XE, LS.enc, HGG.out.2])).row HB.out.1 HB.out.2 ?_); intro o6 c6 w6 ho6 hap6)
              go_roundw
              case rel => exact ⟨i + 1, o6, c6, _, by omega, by go_num, rfl, HI.out.pushP HS.out.2.1 HSI.out.2.2 (HGG.out.1.keepsN ((Keeps.refl _ _).alloc _)) ho6 hap6⟩
              case measure => simp [intOf] <;> omega
        · have hiN : i = NX := by omega
          subst i
          have H0 : Hid (Both B w oX cX Y NX olp clp Lap wz) := HI.out
          clear HI
          go_wp2_with fail
          clear hlt hi
          go_loopw [9] (fun s wr => ∃ (i : Nat), i ≤ NX ∧ s = .int .i64 i ∧ Hid (Keeps no wz wr)) (fun s _ => NX - (intOf s).toNat)
          case atStart => exact ⟨0, by omega, rfl, Keeps.refl _ _⟩
          case round =>
            obtain ⟨i, hi, rfl, HK0⟩ := hrel
            by_cases hlt : i < NX
            · have hiL : i < Y.length := by rw [← HS.out.1]; exact hlt
              have hfit := HS.out.2.2 i hiL
              obtain ⟨bx, eA, d1z⟩ := H0.out.p.at kindT i hiL
              obtain ⟨bl, eL, d2z⟩ := H0.out.p.atL kindT i hlt
              have hr1 := H0.out.p.read i hlt
              have hr2 := (H0.out.p.rA i hiL).row
              obtain ⟨n, hn⟩ : ∃ n, n = (Y.getD i ls0).xs.length := ⟨_, rfl⟩
              rw [← hn] at d1z d2z hr1 hr2 hfit
              obtain ⟨so, hso⟩ : ∃ so, so = (Y.getD i ls0).o := ⟨_, rfl⟩
              obtain ⟨sc, hsc⟩ : ∃ sc, sc = (Y.getD i ls0).c := ⟨_, rfl⟩
              obtain ⟨lo, hlo⟩ : ∃ lo, lo = (Lap.getD i ls0).o := ⟨_, rfl⟩
              obtain ⟨lc, hlc⟩ : ∃ lc, lc = (Lap.getD i ls0).c := ⟨_, rfl⟩
              rw [← hso, ← hsc] at d1z
              rw [← hlo, ← hlc] at d2z hr1
              rw [← hso] at hr2
              subst eA
              subst eL
              have hnI : (n : Int) ≤ 8796093022000 := by omega
              have HR : Hid (Sl TE wz lo lc (List.replicate (n + 30) (mkS i)) ∧ Row TE wz so (List.replicate n (mkS i)) ∧ wz.cell? ⟨bx, i, none⟩ = some (.slice so n sc) ∧ wz.cell? ⟨bl, i, none⟩ = some (.slice lo (n + 30) lc)) := ⟨hr1, hr2, d1z, d2z⟩
              have d1 := HK0.out.cellN d1z
              have d2 := HK0.out.cellN d2z
              clear hso hsc hlo hlc hn hr1 hr2 hfit hiL d1z d2z
              go_wp2_with fail
              go_loopw [10] (fun s wr => ∃ (k : Nat), k ≤ n + 30 ∧ s = .int .i64 k ∧ Hid (Keeps no wz wr)) (fun s _ => n + 30 - (intOf s).toNat)
              case atStart => exact ⟨0, by omega, rfl, HK0⟩
              case round =>
                clear d1 d2
                obtain ⟨k, hk, rfl, HK⟩ := hrel
                have d1 := HK.out.cellN HR.out.2.2.1
                have d2 := HK.out.cellN HR.out.2.2.2
                by_cases hkn : k < n + 30
                · have hkI : (k : Int) < (n : Int) + 30 := by omega
                  obtain ⟨b5, off5, e5, d5⟩ := (HR.out.1.keepsN HK.out).at (j := k) (by simpa using hkn)
                  subst e5
                  rw [show (List.replicate (n + 30) (mkS i)).getD k e0 = mkS i by simp [hkn]] at d5
                  have hself : ((mkS i).toList == (mkS i).toList) = true := by simp
                  have t1 := al_cell (mkO i) d1
                  have t2 := al_cell (mkO i) d2
                  have t5 := al_cell (mkO i) d5
                  by_cases hk2 : k < n
                  · have hk2I : (k : Int) < n := by omega
                    obtain ⟨b6, off6, e6, d6⟩ := Sl.at (c := n) (w := wr) (a := so) (xs := List.replicate n (mkS i)) ⟨HR.out.2.1.keepsN HK.out, by simp, by
                      rcases HR.out.2.1 with e | ⟨b, off, e, _⟩
                      · have := congrArg List.length e; simp at this; omega
                      · intro h; rw [h] at e; cases e⟩ (j := k) (by simpa using hk2)
                    subst e6
                    rw [show (List.replicate n (mkS i)).getD k e0 = mkS i by simp [hk2]] at d6
                    have t6 := al_cell (mkO i) d6
                    go_wp2_with fail
                    refine region_marks (mkO i) (by kernel_rfl) (by kernel_rfl) ?_
                    repeat (go_big_quiet_step ((go_at_call 58; exact mark_al i (by omega) _ _)))
                    refine wpQuiet_nil ?_
                    intro _ hw'
                    obtain ⟨nq, hw''⟩ := hw'
                    subst hw''
                    go_wp2_with fail
                    go_roundw
                    case rel => exact ⟨k + 1, by omega, by go_num, HK.out.trans ((al_keeps _ _ _).drewN _)⟩
                    case measure => simp [intOf] <;> omega
                  · have hk2I : ¬ (k : Int) < n := by omega
                    go_wp2_with fail
                    refine region_marks (mkO i) (by kernel_rfl) (by kernel_rfl) ?_
                    repeat (go_big_quiet_step ((go_at_call 58; exact mark_al i (by omega) _ _)))
                    refine wpQuiet_nil ?_
                    intro _ hw'
                    obtain ⟨nq, hw''⟩ := hw'
                    subst hw''
                    go_wp2_with fail
                    go_roundw
                    case rel => exact ⟨k + 1, by omega, by go_num, HK.out.trans ((al_keeps _ _ _).drewN _)⟩
                    case measure => simp [intOf] <;> omega
                · go_wp2_with fail
                  go_roundw
                  case rel => exact ⟨i + 1, by omega, by go_num, HK⟩
                  case measure => simp [intOf] <;> omega
            · go_wp2_with fail
              go_ret
              exact ⟨rfl, H0.out.kp.trans HK0.out.of_no⟩
end Go.Proofs.YtkoaiibjahlnmaaGreat
/- StoreKeeps, in pure functions. -/
namespace Go.Proofs.YtkoaiibjahlnmaaGreat
open Go.RowKit Go.Maps Go.Sort Orl
set_option linter.unusedVariables false
set_option linter.unusedSimpArgs false

def tA : Tx := ⟨#[97]⟩
def tB : Tx := ⟨#[98]⟩
def kAB : List Tx := [tA, tB]
def psS (x : Tx) : List Pr := [(tA, x), (tB, x)]
def psT (x : Tx) : List Pr := [(tA, x)]
theorem kAB_ok : okKeys kAB = true := by decide +kernel
theorem psS_inc (x : Tx) : Inc ltp (psS x) := by
  unfold Inc psS
  refine List.Pairwise.cons (fun q hq => ?_) (List.pairwise_singleton _ _)
  simp at hq; subst hq
  show lts tA tB = true
  decide +kernel
theorem ok_S (x : Tx) (hx : x.size ≤ 1000) : okPut 1099511627776 (psS x) kAB 1000 = true := by
  rw [okPut_iff]
  refine ⟨by omega, kAB_ok, ?_, by decide⟩
  rw [okPairs_iff]
  refine ⟨fun p hp => ?_, by simp [psS], psS_inc x⟩
  simp only [psS, List.mem_cons, List.not_mem_nil, or_false] at hp
  rcases hp with rfl | rfl
  · exact ⟨by simp; omega, by simp [kAB]⟩
  · exact ⟨by simp; omega, by simp [kAB]⟩
theorem ok_T (x : Tx) (hx : x.size ≤ 1000) : okPut 1099511627776 (psT x) kAB 1000 = true := by
  rw [okPut_iff]
  refine ⟨by omega, kAB_ok, ?_, by decide⟩
  rw [okPairs_iff]
  refine ⟨fun p hp => ?_, by simp [psT], List.pairwise_singleton _ _⟩
  simp only [psT, List.mem_cons, List.not_mem_nil, or_false] at hp
  subst hp
  exact ⟨by simp; omega, by simp [kAB]⟩
/-- names of the steps are small -/
def SmallI (s : St) : Prop := ∀ m, s.V m ≠ none → m.2 < 1000000
theorem small_new : SmallI St.new := fun m h => absurd rfl h
theorem small_put {s : St} (h : SmallI s) (r : RV) (now : Int) : SmallI (putS s r now) := by
  intro m hm
  cases hv : (putS s r now).V m with
  | none => exact absurd hv hm
  | some v =>
    rcases put_casesO (miss_ap s r) hv with h1 | ⟨p, hp, rfl, rfl⟩
    · exact h m (by rw [h1]; simp)
    · exact (idw_lt r.wr).2
theorem small_com {s : St} (h : SmallI s) (i : Nat) (now : Int) : SmallI (commitS s i now) := fun m hm => h m ((comO_ne s i now m).1 hm)
theorem small_drop {s : St} (h : SmallI s) (m0 : Mk) : SmallI (dropR s m0) := by
  intro m hm
  refine h m (fun e => hm ?_)
  unfold dropR
  split
  · exact e
  · split
    · exact e
    · unfold dropS
      simp only
      split
      · rfl
      · exact e
theorem small_step {s : St} (h : SmallI s) (r : RV) (now : Int) : SmallI (stepS s r now) := by
  unfold stepS
  split
  · exact small_put h r now
  · split
    · exact small_com h _ _
    · exact small_drop h _
theorem small_steps (xs : List RV) (now : Int) : ∀ k, SmallI (stepsS St.new xs now k)
  | 0 => small_new
  | k + 1 => small_step (small_steps xs now k) _ _
/-- the store behind its last Put and Commit -/
def keepS (s : St) (x : Tx) : St := commitS (putAll 1099511627776 kAB 1000 s (miss s 1099511627776 (psS x))) 1099511627776 1001
theorem miss_S {s : St} (h : SmallI s) (x : Tx) : miss s 1099511627776 (psS x) = psS x := by
  refine List.filter_eq_self.2 (fun p hp => ?_)
  cases hv : s.V (p.1, 1099511627776) with
  | none => rfl
  | some v => have := h (p.1, 1099511627776) (by rw [hv]; simp); simp at this
theorem put_VA {s : St} (h : SmallI s) (x : Tx) : (putAll 1099511627776 kAB 1000 s (miss s 1099511627776 (psS x))).V (tA, 1099511627776) = some ⟨x, kAB, stampOf s 1099511627776 1000 tA⟩ := by
  rw [miss_S h]
  exact putAll_mem _ _ _ (psS x) s (inc_apart (psS_inc x)) (tA, x) (by simp [psS])
theorem keep_V {s : St} (h : SmallI s) (x : Tx) : ∃ st, (keepS s x).V (tA, 1099511627776) = some ⟨x, kAB, st⟩ := by
  have h1 := put_VA h x
  cases hv : (keepS s x).V (tA, 1099511627776) with
  | none => exact absurd hv ((comO_ne _ _ _ _).2 (by rw [h1]; simp))
  | some v =>
    obtain ⟨u, hu, e1, e2, _⟩ := com_some hv
    rw [h1] at hu
    injection hu with hu
    subst hu
    obtain ⟨a, b, c⟩ := v
    simp only at e1 e2
    subst e1 e2
    exact ⟨c, rfl⟩
theorem keep_last {s : St} (h : SmallI s) (hok : Ok s) (x : Tx) : (keepS s x).last tA = 1099511627776 := by
  unfold keepS
  rw [com_last, if_pos]
  rw [upB_iff]
  refine ⟨by rw [put_VA h]; simp, ?_⟩
  rw [putAll_last]
  by_cases h0 : s.last tA = 0
  · omega
  · have := h _ (hok.la tA h0)
    simp only at this
    omega
/-- the other store -/
def keepT (x : Tx) : St := putAll 1099511627776 kAB 1000 St.new (miss St.new 1099511627776 (psT x))
theorem keepT_eq (x : Tx) : keepT x = putAll 1099511627776 kAB 1000 St.new (psT x) := rfl
theorem keepT_V (x : Tx) (m : Mk) : (keepT x).V m ≠ none ↔ m = (tA, 1099511627776) := by
  rw [keepT_eq]
  constructor
  · intro h
    by_cases e : (tA, 1099511627776) = m
    · exact e.symm
    · refine absurd ?_ h
      rw [putAll_V]
      · rfl
      · intro p hp
        simp only [psT, List.mem_cons, List.not_mem_nil, or_false] at hp
        subst hp
        exact e
  · rintro rfl
    rw [putAll_mem _ _ _ (psT x) St.new (List.pairwise_singleton _ _) (tA, x) (by simp [psT])]
    simp
theorem keepT_kd {x : Tx} {ks : List KV} {o : Option Addr} {n c : Nat} {w : World} (h : Kd (keepT x) ks o n c w) : n = 1 := by
  have h1 : ∀ a ∈ ks.map (·.m), a = (tA, 1099511627776) := fun a ha => by
    obtain ⟨y, hy, rfl⟩ := List.mem_map.1 ha
    exact (keepT_V x _).1 (by rw [h.is y hy]; simp)
  have h2 := h.all (tA, 1099511627776) ((keepT_V x _).2 rfl)
  have h3 := h.inc
  have h0 : n = (ks.map (·.m)).length := by rw [List.length_map]; exact h.n
  rw [h0]
  clear h0
  generalize ks.map (·.m) = l at h1 h2 h3
  match l, h1, h2, h3 with
  | [], _, h2, _ => cases h2
  | [a], _, _, _ => rfl
  | a :: b :: r, h1, _, h3 =>
    have e1 := h1 a (by simp)
    have e2 := h1 b (by simp)
    have h4 := (List.pairwise_cons.1 h3).1 b (by simp)
    rw [e1, e2] at h4
    exact absurd h4 (by rw [swoM.irrefl]; simp)
theorem keepT_ld {x : Tx} {ls : List Mk} {o : Option Addr} {n c : Nat} {w : World} (h : Ld (keepT x) ls o n c w) : n = 0 := by
  rw [h.n]
  cases ls with
  | nil => rfl
  | cons m r =>
    obtain ⟨k, i⟩ := m
    have h1 := (h.is.2 k i).1 (by simp)
    rw [keepT_eq, putAll_last] at h1
    exact absurd (show (0 : Nat) = i from h1.1) (fun e => h1.2 e.symm)
end Go.Proofs.YtkoaiibjahlnmaaGreat
/- StoreKeeps: what is held while lists are written over. -/
namespace Go.Proofs.YtkoaiibjahlnmaaGreat
open Go.RowKit Go.Maps Go.Sort Orl
set_option linter.unusedVariables false
set_option linter.unusedSimpArgs false

theorem Keeps.monoLt {S S' : Nat → Prop} {w w' : World} (h : Keeps S w w') (hS : ∀ b, b < w.heap.size → S b → S' b) : Keeps S' w w' :=
  ⟨h.os, h.tape, h.output, h.size, fun k hk hn => h.block k hk (fun hc => hn (hS k hk hc))⟩
section
variable {w0 w w' : World} {p : Nat} {s : St} {N : Nat} {p' : Nat} {s' : St} {N' : Nat} {P : Nat → Prop}
theorem Tw.wide (h : Tw w0 w p s N p' s' N' P) {D : Nat → Prop} (hD : ∀ b, D b → b < w.heap.size → P b) (hk : Keeps D w w') : Tw w0 w' p s N p' s' N' (fun b => P b ∨ (w.heap.size ≤ b ∧ b < w'.heap.size)) := by
  have hk' : Keeps P w w' := hk.monoLt (fun b h1 h2 => hD b h2 h1)
  obtain ⟨T, T', h1, h2, h3, h4⟩ := h
  refine ⟨T, T', ⟨h1.is.keeps hk' (fun b hb hc => hb (h4 b hc).1), h1.ok, h1.new, h1.keep.then hk' (fun b hb => .inr (h4 b hb).2.2.1)⟩, ⟨h2.is.keeps hk' (fun b hb hc => hb (h4 b hc).2.1), h2.ok, h2.new, h2.keep.then hk' (fun b hb => .inr (h4 b hb).2.2.1)⟩, h3, fun b hb => ?_⟩
  rcases hb with hb | ⟨hb1, hb2⟩
  · exact ⟨(h4 b hb).1, (h4 b hb).2.1, (h4 b hb).2.2.1, Nat.lt_of_lt_of_le (h4 b hb).2.2.2 hk.size⟩
  · refine ⟨?_, ?_, Nat.le_trans h1.keep.size hb1, hb2⟩
    · cases e : T b with
      | none => rfl
      | some r => have := h1.is.lt b (by rw [e]; simp); omega
    · cases e : T' b with
      | none => rfl
      | some r => have := h2.is.lt b (by rw [e]; simp); omega
end
/-- two stores, what was told of them, and what was wanted, beside blocks D that are written over -/
structure KS (D : Nat → Prop) (w wr : World) (ps pk : Nat) (s : St) (N M : Nat) (ys : List KV) (oy : Option Addr) (ny cy : Nat) (lq : List Mk) (oq : Option Addr) (nq cq : Nat) (W : Nat) (ow : Option Addr) (cw : Nat) (x : Tx) : Prop where
  tw : ∃ P, Tw w wr ps s N pk s M P ∧ ∀ b, D b → b < wr.heap.size → P b
  y : Kd s ys oy ny cy wr
  q : Ld s lq oq nq cq wr
  wk : Own TE wr ow cw kAB
  wb : wr.heap[W]? = some (.cells #[.string tA, .int .u64 1099511627776, .string x, .slice ow 2 cw] 46 (0, 0))
  dy : ∀ b, inO oy b → ¬ D b
  dk : ∀ v ∈ ys, ∀ b, inO v.o b → ¬ D b
  dq : ∀ b, inO oq b → ¬ D b
  dw : ∀ b, inO ow b → ¬ D b
  dW : ¬ D W
variable {D : Nat → Prop} {w wr wr' : World} {ps pk : Nat} {s : St} {N M : Nat} {ys : List KV} {oy : Option Addr} {ny cy : Nat} {lq : List Mk} {oq : Option Addr} {nq cq : Nat} {W : Nat} {ow : Option Addr} {cw : Nat} {x : Tx}
theorem KS.write (h : KS D w wr ps pk s N M ys oy ny cy lq oq nq cq W ow cw x) (hk : Keeps D wr wr') (hD : ∀ b, wr.heap.size ≤ b → D b) : KS D w wr' ps pk s N M ys oy ny cy lq oq nq cq W ow cw x := by
  obtain ⟨P, h1, h2⟩ := h.tw
  refine ⟨⟨_, h1.wide h2 hk, fun b hb hl => ?_⟩, ⟨h.y.n, h.y.own.keeps hk h.dy, fun v hv => (h.y.key v hv).keeps hk (h.dk v hv), h.y.is, h.y.all, h.y.inc, h.y.ok, h.y.le⟩, ⟨h.q.n, h.q.own.keeps hk h.dq, h.q.is, h.q.ok, h.q.le⟩, h.wk.keeps hk h.dw, hk.at h.wb h.dW, h.dy, h.dk, h.dq, h.dw, h.dW⟩
  by_cases hc : b < wr.heap.size
  · exact .inl (h2 b hb hc)
  · exact .inr ⟨by omega, hl⟩
theorem KS.go (h : KS D w wr ps pk s N M ys oy ny cy lq oq nq cq W ow cw x) (hk : Keeps no wr wr') (hD : ∀ b, wr.heap.size ≤ b → D b) : KS D w wr' ps pk s N M ys oy ny cy lq oq nq cq W ow cw x := h.write hk.of_no hD
/-- one cell of one element written over -/
theorem cells_setc {α : Type} {E : El α} (hE : E.Ok) (r : Nat) (v : Value) (x' : α) (hr : r < E.k) : ∀ (xs : List α) (j : Nat) (d : α), j < xs.length → E.enc x' = (E.enc (xs.getD j d)).set r v → E.cells (xs.set j x') = (E.cells xs).set (j * E.k + r) v
  | [], j, d, h, _ => absurd h (by simp)
  | y :: xs, 0, d, _, he => by
    have he' : E.enc x' = (E.enc y).set r v := he
    simp only [List.set_cons_zero, El.cells, List.flatMap_cons, Nat.zero_mul, Nat.zero_add]
    rw [he', List.set_append_left _ _ (by rw [hE.len]; exact hr)]
  | y :: xs, j + 1, d, h, he => by
    have ih := cells_setc hE r v x' hr xs j d (by simpa using h) he
    simp only [El.cells] at ih
    simp only [List.set_cons_succ, El.cells, List.flatMap_cons]
    rw [ih, List.set_append_right _ _ (by rw [hE.len, Nat.succ_mul]; omega), hE.len]
    congr 2
    rw [Nat.succ_mul]; omega
theorem Own.storeC {α : Type} {E : El α} (hE : E.Ok) {w : World} {o : Option Addr} {c : Nat} {xs : List α} (h : Own E w o c xs) (j r : Nat) (d : α) (hj : j < xs.length) (hr : r < E.k) (v : Value) (x' : α) (he : E.enc x' = (E.enc (xs.getD j d)).set r v) :
    ∃ g, o = some ⟨g, 0, none⟩ ∧ w.frozen? ⟨g, j * E.k + r, none⟩ = false ∧ Own E (w.setCell ⟨g, j * E.k + r, none⟩ v) o c (xs.set j x') ∧ Keeps (inO o) w (w.setCell ⟨g, j * E.k + r, none⟩ v) := by
  rcases h.shape with ⟨_, _, e⟩ | ⟨g, cur, rfl, hg, hc, hm, hs, ht⟩
  · rw [e] at hj; simp at hj
  · refine ⟨g, rfl, frozen_of_blk hg _, ?_, (Keeps.refl _ _).setCell (.inl ⟨_, rfl, rfl⟩) _⟩
    refine own_of_shape hE (blk_set hg _ _) (by simpa using hc) hm (by simp [hs]) ?_
    rw [cells_setc hE r v x' hr xs j d hj he]
    simp only [Array.toList_setIfInBounds, List.length_set]
    rw [List.take_set, ht]
theorem sl_of_blk {α : Type} {E : El α} {w : World} {g c : Nat} {arr : Array Value} {t : TypeId} (hb : w.heap[g]? = some (.cells arr t (0, 0))) (xs : List α) (rest : List Value) (ha : arr.toList = E.cells xs ++ rest) (hc : xs.length ≤ c) : Sl E w (some ⟨g, 0, none⟩) c xs := by
  refine ⟨.inr ⟨g, 0, rfl, fun j u hj => ?_⟩, hc, fun e => by cases e⟩
  rw [cell_of_blk hb, Nat.zero_add, ← Array.getElem?_toList, ha, List.getElem?_append_left (List.getElem?_eq_some_iff.1 hj).1]
  exact hj
def spare : Tx := ⟨#[115, 112, 97, 114, 101]⟩
/-- the two lists handed in -/
structure Hd (w : World) (K L : Nat) (v : Tx) : Prop where
  k : w.heap[K]? = some (.cells #[.string tA, .string tB, .string spare] 9 (0, 0))
  l : w.heap[L]? = some (.cells #[.string tA, .string v, .string tB, .string v, .string spare, .string ⟨#[]⟩] 57 (0, 0))
theorem Hd.keeps {w w' : World} {K L : Nat} {v : Tx} (h : Hd w K L v) {S : Nat → Prop} (hk : Keeps S w w') (h1 : ¬ S K) (h2 : ¬ S L) : Hd w' K L v := ⟨hk.at h.k h1, hk.at h.l h2⟩
theorem Tw.putS {w0 w : World} {p : Nat} {s : St} {N : Nat} {p' : Nat} {s' : St} {N' : Nat} {P : Nat → Prop} (h : Tw w0 w p s N p' s' N' P) {K L : Nat} {v : Tx} (hd : Hd w K L v) (hK : P K) (hL : P L) (hv : v.size ≤ 1000) (hN : N ≤ 1000) :
    Calls Tryz.prog 21 #[.pointer (some ⟨p, 0, none⟩), .int .u64 1099511627776, .slice (some ⟨L, 0, none⟩) 2 3, .slice (some ⟨K, 0, none⟩) 2 3, .int .i64 1000] w fun e w' => ∃ B, e = .returned (.tuple #[.bool B, .int .i64 0]) ∧ Hid (Tw w0 w' p (putAll 1099511627776 kAB 1000 s (miss s 1099511627776 (psS v))) (N + (miss s 1099511627776 (psS v)).length) p' s' N' P ∧ Hd w' K L v) := by
  obtain ⟨P1, ho, hP, hb⟩ := h.left
  refine (ho.put 1099511627776 (psS v) kAB 1000 (some ⟨L, 0, none⟩) 2 3 (some ⟨K, 0, none⟩) 2 3 (by omega) rfl rfl (sl_of_blk hd.l (psS v) [.string spare, .string ⟨#[]⟩] rfl (by simp [psS])) (sl_of_blk hd.k kAB [.string spare] rfl (by simp [kAB])) (by simp [psS]) (ok_S v hv) (by omega)).mono ?_
  rintro e w' ⟨he, h1⟩
  exact ⟨_, he, hb _ _ _ h1.out.1 h1.out.2, hd.keeps h1.out.2 (fun hc => hc (hP _ hK)) (fun hc => hc (hP _ hL))⟩
theorem Tw.putT {w0 w : World} {p : Nat} {N : Nat} {p' : Nat} {s' : St} {N' : Nat} {P : Nat → Prop} (h : Tw w0 w p St.new N p' s' N' P) {K L : Nat} {v : Tx} (hd : Hd w K L v) (hK : P K) (hL : P L) (hv : v.size ≤ 1000) (hN : N ≤ 1000) :
    Calls Tryz.prog 21 #[.pointer (some ⟨p, 0, none⟩), .int .u64 1099511627776, .slice (some ⟨L, 0, none⟩) 1 3, .slice (some ⟨K, 0, none⟩) 2 3, .int .i64 1000] w fun e w' => ∃ B, e = .returned (.tuple #[.bool B, .int .i64 0]) ∧ Hid (Tw w0 w' p (keepT v) (N + 1) p' s' N' P ∧ Hd w' K L v) := by
  obtain ⟨P1, ho, hP, hb⟩ := h.left
  refine (ho.put 1099511627776 (psT v) kAB 1000 (some ⟨L, 0, none⟩) 1 3 (some ⟨K, 0, none⟩) 2 3 (by omega) rfl rfl (sl_of_blk hd.l (psT v) [.string tB, .string v, .string spare, .string ⟨#[]⟩] rfl (by simp [psT])) (sl_of_blk hd.k kAB [.string spare] rfl (by simp [kAB])) (by simp [psT]) (ok_T v hv) (by omega)).mono ?_
  rintro e w' ⟨he, h1⟩
  exact ⟨_, he, hb _ _ _ h1.out.1 h1.out.2, hd.keeps h1.out.2 (fun hc => hc (hP _ hK)) (fun hc => hc (hP _ hL))⟩
/-- what is wanted -/
structure Wn (w : World) (W O : Nat) (x : Tx) : Prop where
  k : Own TE w (some ⟨O, 0, none⟩) 2 kAB
  b : w.heap[W]? = some (.cells #[.string tA, .int .u64 1099511627776, .string x, .slice (some ⟨O, 0, none⟩) 2 2] 46 (0, 0))
theorem Wn.keeps {w w' : World} {W O : Nat} {x : Tx} (h : Wn w W O x) {S : Nat → Prop} (hk : Keeps S w w') (h1 : ¬ S W) (h2 : ¬ S O) : Wn w' W O x := ⟨h.k.keeps hk (fun b hb => by obtain ⟨y, e, rfl⟩ := hb; cases e; exact h2), hk.at h.b h1⟩
theorem Wn.keepsN {w w' : World} {W O : Nat} {x : Tx} (h : Wn w W O x) (hk : Keeps no w w') : Wn w' W O x := h.keeps hk id id
theorem Tw.com {w0 w : World} {p : Nat} {s : St} {N : Nat} {p' : Nat} {s' : St} {N' : Nat} {P : Nat → Prop} (h : Tw w0 w p s N p' s' N' P) (hN : N ≤ 1000) :
    Calls Tryz.prog 12 #[.pointer (some ⟨p, 0, none⟩), .int .u64 1099511627776, .int .i64 1001] w fun e w' => ∃ n : Nat, e = .returned (.tuple #[.int .i64 ((n : Nat) : Int), .int .i64 0]) ∧ Hid (Tw w0 w' p (commitS s 1099511627776 1001) N p' s' N' P ∧ Keeps (fun b => ¬ P b) w w') := by
  obtain ⟨P1, ho, hP, hb⟩ := h.left
  refine (ho.commit 1099511627776 1001 (by omega) (by omega) (by decide) (by omega)).mono ?_
  rintro e w' ⟨n, he, _, h1⟩
  exact ⟨n, he, hb _ _ _ h1.out.1 h1.out.2, h1.out.2.mono (fun b hb hc => hb (hP b hc))⟩
theorem okA : KM.ok (tA, 1099511627776) := ⟨by show tA.size ≤ maxLen; unfold maxLen; show (1 : Nat) ≤ _; omega, by show (1099511627776 : Nat) < _; omega⟩
theorem Ow.byA {w0 w : World} {p : Nat} {s : St} {N : Nat} {P : Nat → Prop} (h : Ow w0 w p s N P) {s0 : St} {x : Tx} (hs : s = keepS s0 x) (hsm : SmallI s0) :
    Calls Tryz.prog 22 #[.pointer (some ⟨p, 0, none⟩), .string ⟨#[97]⟩, .int .u64 1099511627776] w fun e w' => ∃ o c, e = .returned (.tuple #[.agg #[.string ⟨#[97]⟩, .int .u64 1099511627776, .string x, .slice o 2 c], .int .i64 0]) ∧ Hid (Keeps no w w' ∧ Own TE w' o c kAB ∧ New w o) := by
  obtain ⟨st, hv⟩ := keep_V hsm x
  rw [← hs] at hv
  refine (h.byID tA 1099511627776 okA).mono ?_
  rintro e w' ⟨a, b, c, o, n, d, he, hk, hh⟩
  obtain ⟨rfl, rfl, rfl, rfl, ho, hn⟩ := hh.out _ hv
  refine ⟨o, d, ?_, hk.out, ho, hn⟩
  have hb : byE s (tA, 1099511627776) = 0 := by simp [byE, hv]
  rw [he, hb]
  rfl
theorem Ow.latA {w0 w : World} {p : Nat} {s : St} {N : Nat} {P : Nat → Prop} (h : Ow w0 w p s N P) {s0 : St} {x : Tx} (hs : s = keepS s0 x) (hsm : SmallI s0) (hok : Ok s0) :
    Calls Tryz.prog 23 #[.pointer (some ⟨p, 0, none⟩), .string ⟨#[97]⟩] w fun e w' => ∃ o c, e = .returned (.agg #[.string ⟨#[97]⟩, .int .u64 1099511627776, .string x, .slice o 2 c]) ∧ Hid (Keeps no w w' ∧ Own TE w' o c kAB ∧ New w o) := by
  obtain ⟨st, hv⟩ := keep_V hsm x
  have hl := keep_last hsm hok x
  rw [← hs] at hv hl
  refine (h.latest tA (by show (1 : Nat) ≤ 65535; omega)).mono ?_
  rintro e w' ⟨c, o, n, d, he, hk, hh, _⟩
  rw [hl] at hh he
  obtain ⟨rfl, rfl, ho, hn⟩ := hh.out _ hv
  exact ⟨o, d, he, hk.out, ho, hn⟩
/-- a version told, in a variable -/
structure TvK (A B : Nat) (wr : World) (V : Nat) (o : Option Addr) (c : Nat) (x : Tx) : Prop where
  b : wr.heap[V]? = some (.cells #[.string ⟨#[97]⟩, .int .u64 1099511627776, .string x, .slice o 2 c] 46 (0, 0))
  k : Own TE wr o c kAB
  ge : ∀ b, inO o b → A ≤ b ∧ b < B
theorem TvK.keepsN {A B : Nat} {w w' : World} {V : Nat} {o : Option Addr} {c : Nat} {x : Tx} (h : TvK A B w V o c x) (hk : Keeps no w w') : TvK A B w' V o c x := ⟨hk.at h.b id, h.k.keepsN hk, h.ge⟩
structure Sa (w wr : World) (p q : Nat) (s : St) (N : Nat) (t : St) (v : Tx) (O A1 B1 V1 : Nat) (o1 : Option Addr) (c1 A2 B2 V2 : Nat) (o2 : Option Addr) (c2 : Nat) : Prop where
  tw : Tw w wr p s N q t 1 (fun b => A1 ≤ b ∧ b < wr.heap.size)
  wn : Wn wr (O + 1) O v
  le : N ≤ 302
  t1 : TvK A1 B1 wr V1 o1 c1 v
  t2 : TvK A2 B2 wr V2 o2 c2 v
  lt : O + 1 < A1 ∧ A1 ≤ B1 ∧ B1 ≤ A2 ∧ A2 ≤ B2 ∧ B2 ≤ wr.heap.size
theorem Sa.go {w wr wr' : World} {p q : Nat} {s : St} {N : Nat} {t : St} {v : Tx} {O A1 B1 V1 : Nat} {o1 : Option Addr} {c1 A2 B2 V2 : Nat} {o2 : Option Addr} {c2 : Nat} (h : Sa w wr p q s N t v O A1 B1 V1 o1 c1 A2 B2 V2 o2 c2) (hk : Keeps no wr wr') : Sa w wr' p q s N t v O A1 B1 V1 o1 c1 A2 B2 V2 o2 c2 :=
  ⟨(h.tw.grow hk).sub (fun b hb => by
    by_cases hc : b < wr.heap.size
    · exact .inl ⟨hb.1, hc⟩
    · exact .inr ⟨by omega, hb.2⟩), h.wn.keepsN hk, h.le, h.t1.keepsN hk, h.t2.keepsN hk, ⟨h.lt.1, h.lt.2.1, h.lt.2.2.1, h.lt.2.2.2.1, Nat.le_trans h.lt.2.2.2.2 hk.size⟩⟩
/-- versions told, their blocks between two numbers -/
structure Kx (A B : Nat) (s : St) (ks : List KV) (o : Option Addr) (n c : Nat) (wr : World) : Prop where
  kd : Kd s ks o n c wr
  ap : ks.Pairwise apartK
  ge : ∀ b, inO o b → A ≤ b ∧ b < B
  gk : ∀ u ∈ ks, ∀ b, inO u.o b → A ≤ b ∧ b < B
  le : A ≤ B
theorem Kx.keepsN {A B : Nat} {s : St} {ks : List KV} {o : Option Addr} {n c : Nat} {w w' : World} (h : Kx A B s ks o n c w) (hk : Keeps no w w') : Kx A B s ks o n c w' := ⟨h.kd.keepsN hk, h.ap, h.ge, h.gk, h.le⟩
theorem kx_of {s : St} {ks : List KV} {o : Option Addr} {n c : Nat} {w w' : World} (h : Kd s ks o n c w') (h2 : Kl w ks o c w') : Kx w.heap.size w'.heap.size s ks o n c w' := ⟨h, h2.apart, fun b hb => ⟨h2.new b hb, h2.own.lt b hb⟩, fun u hu b hb => ⟨(h2.key u hu).2 b hb, (h2.key u hu).1.lt b hb⟩, h2.keep.size⟩
structure Lx (A B : Nat) (s : St) (ls : List Mk) (o : Option Addr) (n c : Nat) (wr : World) : Prop where
  ld : Ld s ls o n c wr
  ge : ∀ b, inO o b → A ≤ b ∧ b < B
  le : A ≤ B
theorem Lx.keepsN {A B : Nat} {s : St} {ls : List Mk} {o : Option Addr} {n c : Nat} {w w' : World} (h : Lx A B s ls o n c w) (hk : Keeps no w w') : Lx A B s ls o n c w' := ⟨h.ld.keepsN hk, h.ge, h.le⟩
theorem lx_of {s : St} {ls : List Mk} {o : Option Addr} {n c : Nat} {w w' : World} (h : Ld s ls o n c w') (h2 : New w o) (hk : Keeps no w w') : Lx w.heap.size w'.heap.size s ls o n c w' := ⟨h, fun b hb => ⟨h2 b hb, h.own.lt b hb⟩, hk.size⟩
/-- all that is held behind Load -/
structure Sb (w wr : World) (p pk : Nat) (s : St) (N M : Nat) (v : Tx) (O A1 V1 : Nat) (o1 : Option Addr) (c1 A2 V2 : Nat) (o2 : Option Addr) (c2 A3 A4 : Nat) (kx : List KV) (ox : Option Addr) (nx cx A5 : Nat) (ky : List KV) (oy : Option Addr) (ny cy A6 : Nat) (lp : List Mk) (op : Option Addr) (np cp A7 : Nat) (lq : List Mk) (oq : Option Addr) (nq cq : Nat) : Prop where
  tw : Tw w wr p s N pk s M (fun b => A1 ≤ b ∧ b < A7)
  wn : Wn wr (O + 1) O v
  t1 : TvK A1 V1 wr V1 o1 c1 v
  t2 : TvK A2 V2 wr V2 o2 c2 v
  x : Kx A3 A4 s kx ox nx cx wr
  y : Kx A4 A5 s ky oy ny cy wr
  p : Lx A5 A6 s lp op np cp wr
  q : Lx A6 A7 s lq oq nq cq wr
  le : N ≤ 302 ∧ M ≤ 302 ∧ kx.length ≤ 302 ∧ ky.length ≤ 302 ∧ lp.length ≤ 302 ∧ lq.length ≤ 302
  lt : O + 1 < A1 ∧ A1 ≤ V1 ∧ V1 ≤ A2 ∧ A2 ≤ V2 ∧ V2 ≤ A3
theorem Sb.go {w wr wr' : World} {p pk : Nat} {s : St} {N M : Nat} {v : Tx} {O A1 V1 : Nat} {o1 : Option Addr} {c1 A2 V2 : Nat} {o2 : Option Addr} {c2 A3 A4 : Nat} {kx : List KV} {ox : Option Addr} {nx cx A5 : Nat} {ky : List KV} {oy : Option Addr} {ny cy A6 : Nat} {lp : List Mk} {op : Option Addr} {np cp A7 : Nat} {lq : List Mk} {oq : Option Addr} {nq cq : Nat} (h : Sb w wr p pk s N M v O A1 V1 o1 c1 A2 V2 o2 c2 A3 A4 kx ox nx cx A5 ky oy ny cy A6 lp op np cp A7 lq oq nq cq) (hk : Keeps no wr wr') : Sb w wr' p pk s N M v O A1 V1 o1 c1 A2 V2 o2 c2 A3 A4 kx ox nx cx A5 ky oy ny cy A6 lp op np cp A7 lq oq nq cq :=
  ⟨h.tw.go hk, h.wn.keepsN hk, h.t1.keepsN hk, h.t2.keepsN hk, h.x.keepsN hk, h.y.keepsN hk, h.p.keepsN hk, h.q.keepsN hk, h.le, h.lt⟩
theorem sameA (W : World) (x : Tx) {o o' : Option Addr} {c c' : Nat} (h1 : Own TE W o c kAB) (h2 : Own TE W o' c' kAB) :
    Calls Tryz.prog 16 #[.agg #[.string ⟨#[97]⟩, .int .u64 1099511627776, .string x, .slice o 2 c], .agg #[.string ⟨#[97]⟩, .int .u64 1099511627776, .string x, .slice o' 2 c']] W fun e w' => e = .returned (.bool true) ∧ Keeps no W w' := by
  refine (sameVersion_any W ⟨⟨#[97]⟩, 1099511627776, x, o, 2, c⟩ ⟨⟨#[97]⟩, 1099511627776, x, o', 2, c'⟩ kAB kAB rfl rfl (by simp [kAB]) (by simp [kAB]) h1.sl h2.sl).mono ?_
  rintro e w' ⟨⟨B, hB, hB2⟩, hk⟩
  exact ⟨by rw [hB, hB2.out.2 ⟨rfl, rfl, rfl, rfl⟩], hk⟩
end Go.Proofs.YtkoaiibjahlnmaaGreat
/- StoreKeeps: the loop that lays the lists. -/
namespace Go.Proofs.YtkoaiibjahlnmaaGreat
open Go.RowKit Go.Maps Go.Sort Orl
set_option linter.unusedVariables false
set_option linter.unusedSimpArgs false

def lsK (u : KV) : LS Tx := ⟨u.o, u.c, u.keys⟩
def YL (o1 : Option Addr) (c1 : Nat) (o2 : Option Addr) (c2 : Nat) (kx : List KV) (t : Nat) : List (LS Tx) := ⟨o1, c1, kAB⟩ :: ⟨o2, c2, kAB⟩ :: (kx.take t).map lsK
theorem YL_len (o1 : Option Addr) (c1 : Nat) (o2 : Option Addr) (c2 : Nat) (kx : List KV) (t : Nat) (h : t ≤ kx.length) : (YL o1 c1 o2 c2 kx t).length = t + 2 := by
  simp [YL, List.length_take]; omega
theorem YL_snoc (o1 : Option Addr) (c1 : Nat) (o2 : Option Addr) (c2 : Nat) (kx : List KV) (t : Nat) (h : t < kx.length) : YL o1 c1 o2 c2 kx (t + 1) = YL o1 c1 o2 c2 kx t ++ [lsK (kx.getD t kv0)] := by
  unfold YL
  rw [take_succ_getD kx t kv0 h, List.map_append]
  rfl
/-- as it was, but for the stamp -/
structure KvAs (a b : KV) : Prop where
  m : a.m = b.m
  val : a.val = b.val
  o : a.o = b.o
  c : a.c = b.c
  keys : a.keys = b.keys
def KsAs (a b : List KV) : Prop := a.length = b.length ∧ ∀ j, j < a.length → KvAs (a.getD j kv0) (b.getD j kv0)
theorem KsAs.refl (a : List KV) : KsAs a a := ⟨rfl, fun _ _ => ⟨rfl, rfl, rfl, rfl, rfl⟩⟩
theorem KsAs.set {a b : List KV} (h : KsAs a b) (j : Nat) (hj : j < b.length) (z : Int) : KsAs a (b.set j { b.getD j kv0 with stamp := z }) := by
  refine ⟨by rw [List.length_set]; exact h.1, fun i hi => ?_⟩
  rw [getD_set _ _ _ _ _ hj]
  by_cases e : i = j
  · rw [if_pos e, e]
    have := h.2 j (by rw [h.1]; exact hj)
    exact ⟨this.m, this.val, this.o, this.c, this.keys⟩
  · rw [if_neg e]; exact h.2 i hi
structure Lp (Q : World → Prop) (G : Nat) (o1 : Option Addr) (c1 : Nat) (o2 : Option Addr) (c2 : Nat) (kx : List KV) (ox : Option Addr) (cx : Nat) (lp : List Mk) (op : Option Addr) (cp t : Nat) (ol : Option Addr) (cl : Nat) (wr : World) : Prop where
  q : Q wr
  sz : G ≤ wr.heap.size
  k1 : Own TE wr o1 c1 kAB
  k2 : Own TE wr o2 c2 kAB
  ks : ∀ u ∈ kx, Own TE wr u.o u.c u.keys
  x : ∃ kx', Own KE wr ox cx kx' ∧ KsAs kx kx'
  p : Own LE wr op cp lp
  l : Own XE wr ol cl (YL o1 c1 o2 c2 kx t)
  lg : ∀ b, inO ol b → G ≤ b
section
variable {Q : World → Prop} {D : Nat → Prop} {G : Nat} {o1 : Option Addr} {c1 : Nat} {o2 : Option Addr} {c2 : Nat} {kx : List KV} {ox : Option Addr} {cx : Nat} {lp : List Mk} {op : Option Addr} {cp t : Nat} {ol : Option Addr} {cl : Nat} {wr w' : World}
theorem Lp.go (hQ : ∀ a b, Q a → G ≤ a.heap.size → Keeps D a b → Q b) (h : Lp Q G o1 c1 o2 c2 kx ox cx lp op cp t ol cl wr) (hk : Keeps no wr w') : Lp Q G o1 c1 o2 c2 kx ox cx lp op cp t ol cl w' := by
  obtain ⟨kx', h1, h2⟩ := h.x
  exact ⟨hQ _ _ h.q h.sz hk.of_no, Nat.le_trans h.sz hk.size, h.k1.keepsN hk, h.k2.keepsN hk, fun u hu => (h.ks u hu).keepsN hk, ⟨kx', h1.keepsN hk, h2⟩, h.p.keepsN hk, h.l.keepsN hk, h.lg⟩
theorem Lp.push (hQ : ∀ a b, Q a → G ≤ a.heap.size → Keeps D a b → Q b) (hG : ∀ b, G ≤ b → D b) (h : Lp Q G o1 c1 o2 c2 kx ox cx lp op cp t ol cl wr) (ht : t < kx.length) {o' : Option Addr} {c' : Nat} (ho : Own XE w' o' c' (YL o1 c1 o2 c2 kx t ++ [lsK (kx.getD t kv0)])) (ha : Ap wr ol o' w') : Lp Q G o1 c1 o2 c2 kx ox cx lp op cp (t + 1) o' c' w' := by
  have hk : Keeps (inO ol) wr w' := by
    rcases ha with ⟨_, hk⟩ | ⟨_, hk⟩
    · exact hk
    · exact hk.of_no
  have hT : ∀ {o : Option Addr} {c : Nat} {ys : List Tx}, Own TE wr o c ys → Own TE w' o c ys := fun hh => hh.keeps hk (fun b h1 h2 => tags_ne hh h.l (by decide) b h1 h2)
  obtain ⟨kx', h1, h2⟩ := h.x
  rw [← YL_snoc _ _ _ _ _ _ ht] at ho
  refine ⟨hQ _ _ h.q h.sz (hk.mono (fun b hb => hG b (h.lg b hb))), Nat.le_trans h.sz hk.size, hT h.k1, hT h.k2, fun u hu => hT (h.ks u hu), ⟨kx', h1.keeps hk (fun b g1 g2 => tags_ne h1 h.l (by decide) b g1 g2), h2⟩, h.p.keeps hk (fun b g1 g2 => tags_ne h.p h.l (by decide) b g1 g2), ho, fun b hb => ?_⟩
  rcases ha with ⟨e, _⟩ | ⟨⟨g, e, hg⟩, _⟩
  · rw [e] at hb; exact h.lg b hb
  · obtain ⟨y, ey, rfl⟩ := hb
    rw [e] at ey
    cases ey
    exact Nat.le_trans h.sz hg
/-- a stamp written over -/
theorem Lp.stamp (hQ : ∀ a b, Q a → G ≤ a.heap.size → Keeps D a b → Q b) (hx : ∀ b, inO ox b → D b) (h : Lp Q G o1 c1 o2 c2 kx ox cx lp op cp t ol cl wr) (j : Nat) (hj : j < kx.length) :
    ∃ g, ox = some ⟨g, 0, none⟩ ∧ wr.frozen? ⟨g, j * 5 + 4, none⟩ = false ∧ (∃ z, wr.cell? ⟨g, j * 5 + 4, none⟩ = some (.int .i64 z)) ∧ Lp Q G o1 c1 o2 c2 kx ox cx lp op cp t ol cl (wr.setCell ⟨g, j * 5 + 4, none⟩ (.int .i64 (-7))) := by
  obtain ⟨kx', h1, h2⟩ := h.x
  have hj' : j < kx'.length := by rw [← h2.1]; exact hj
  obtain ⟨g, e, h3, h4, h5⟩ := h1.storeC okK j 4 kv0 hj' (by decide) (.int .i64 (-7)) { kx'.getD j kv0 with stamp := -7 } rfl
  obtain ⟨b, off, e', _, _, _, _, d4⟩ := h1.sl.atK hj'
  have hc : wr.cell? ⟨g, j * 5 + 4, none⟩ = some (.int .i64 (kx'.getD j kv0).stamp) := by
    have h7 : off = 0 ∧ b = g := by rw [e] at e'; cases e'; exact ⟨rfl, rfl⟩
    rw [h7.1, h7.2, Nat.zero_add] at d4
    exact d4
  refine ⟨g, e, h3, ⟨_, hc⟩, ?_⟩
  have hT : ∀ {o : Option Addr} {c : Nat} {ys : List Tx}, Own TE wr o c ys → Own TE (wr.setCell ⟨g, j * 5 + 4, none⟩ (.int .i64 (-7))) o c ys := fun hh => hh.keeps h5 (fun b g1 g2 => tags_ne hh h1 (by decide) b g1 g2)
  exact ⟨hQ _ _ h.q h.sz (h5.mono (fun b hb => hx b hb)), Nat.le_trans h.sz h5.size, hT h.k1, hT h.k2, fun u hu => hT (h.ks u hu), ⟨_, h4, h2.set j hj' (-7)⟩, h.p.keeps h5 (fun b g1 g2 => tags_ne h.p h1 (by decide) b g1 g2), h.l.keeps h5 (fun b g1 g2 => tags_ne h.l h1 (by decide) b g1 g2), h.lg⟩
end
/-- the blocks that are written over -/
def Dk (A1 A4 A5 A6 G b : Nat) : Prop := (A1 ≤ b ∧ b < A4) ∨ (A5 ≤ b ∧ b < A6) ∨ G ≤ b
section
variable {w wr : World} {p pk : Nat} {s : St} {N M : Nat} {v : Tx} {O A1 V1 : Nat} {o1 : Option Addr} {c1 A2 V2 : Nat} {o2 : Option Addr} {c2 A3 A4 : Nat} {kx : List KV} {ox : Option Addr} {nx cx A5 : Nat} {ky : List KV} {oy : Option Addr} {ny cy A6 : Nat} {lp : List Mk} {op : Option Addr} {np cp A7 : Nat} {lq : List Mk} {oq : Option Addr} {nq cq : Nat}
theorem sb_ks (h : Sb w wr p pk s N M v O A1 V1 o1 c1 A2 V2 o2 c2 A3 A4 kx ox nx cx A5 ky oy ny cy A6 lp op np cp A7 lq oq nq cq) : KS (Dk A1 A4 A5 A6 wr.heap.size) w wr p pk s N M ky oy ny cy lq oq nq cq (O + 1) (some ⟨O, 0, none⟩) 2 v := by
  have q1 := h.x.le
  have q2 := h.y.le
  have q3 := h.p.le
  have q4 := h.q.le
  obtain ⟨r1, r2, r3, r4, r5⟩ := h.lt
  have hW := lt_of_block h.wn.b
  refine ⟨⟨_, h.tw, fun b hb hl => ?_⟩, h.y.kd, h.q.ld, h.wn.k, h.wn.b, fun b hb hc => ?_, fun u hu b hb hc => ?_, fun b hb hc => ?_, fun b hb hc => ?_, fun hc => ?_⟩
  · rcases hb with hb | hb | hb <;> omega
  · have g1 := h.y.ge b hb
    have g2 := h.y.kd.own.lt b hb
    rcases hc with hc | hc | hc <;> omega
  · have g1 := h.y.gk u hu b hb
    have g2 := (h.y.kd.key u hu).lt b hb
    rcases hc with hc | hc | hc <;> omega
  · have g1 := h.q.ge b hb
    have g2 := h.q.ld.own.lt b hb
    rcases hc with hc | hc | hc <;> omega
  · have g2 := h.wn.k.lt b hb
    obtain ⟨y, e, rfl⟩ := hb
    cases e
    simp only at g2 hc
    rcases hc with hc | hc | hc <;> omega
  · rcases hc with hc | hc | hc <;> omega
theorem lp_start (h : Sb w wr p pk s N M v O A1 V1 o1 c1 A2 V2 o2 c2 A3 A4 kx ox nx cx A5 ky oy ny cy A6 lp op np cp A7 lq oq nq cq) : Lp (fun X => KS (Dk A1 A4 A5 A6 wr.heap.size) w X p pk s N M ky oy ny cy lq oq nq cq (O + 1) (some ⟨O, 0, none⟩) 2 v) wr.heap.size o1 c1 o2 c2 kx ox cx lp op cp 0 (some ⟨wr.heap.size, 0, none⟩) 2 (wr.alloc (.cells #[.slice o1 2 c1, .slice o2 2 c2] 44)) := by
  have hk : Keeps no wr (wr.alloc (.cells #[.slice o1 2 c1, .slice o2 2 c2] 44)) := (Keeps.refl no wr).alloc _
  refine ⟨(sb_ks h).go hk (fun b hb => .inr (.inr hb)), hk.size, h.t1.k.keepsN hk, h.t2.k.keepsN hk, fun u hu => (h.x.kd.key u hu).keepsN hk, ⟨kx, h.x.kd.own.keepsN hk, KsAs.refl kx⟩, h.p.ld.own.keepsN hk, ?_, fun b hb => by obtain ⟨y, e, rfl⟩ := hb; cases e; exact Nat.le_refl _⟩
  exact own_of_shape okX (blk_new wr _) (by simp [YL]) (by unfold maxLen; omega) (by simp [XE]) (by simp [YL, XE, El.cells, LS.enc, kAB])
end
def apL (a b : LS Tx) : Prop := ∀ k, inO a.o k → ¬ inO b.o k
theorem far_of {Y : List (LS Tx)} (h : Y.Pairwise apL) : ∀ i j, i < Y.length → j < Y.length → i ≠ j → ∀ k, inO (Y.getD i ls0).o k → ¬ inO (Y.getD j ls0).o k := by
  intro i j hi hj hne k h1 h2
  rw [List.pairwise_iff_getElem] at h
  have e1 : Y.getD i ls0 = Y[i] := by simp [List.getD_eq_getElem?_getD, hi]
  have e2 : Y.getD j ls0 = Y[j] := by simp [List.getD_eq_getElem?_getD, hj]
  rw [e1] at h1
  rw [e2] at h2
  rcases Nat.lt_or_ge i j with hij | hij
  · exact h i j hi hj hij k h1 h2
  · exact h j i hj hi (by omega) k h2 h1
theorem YL_far {A1 V1 A2 V2 A3 A4 : Nat} {o1 : Option Addr} {c1 : Nat} {o2 : Option Addr} {c2 : Nat} {kx : List KV} (h1 : ∀ b, inO o1 b → A1 ≤ b ∧ b < V1) (h2 : ∀ b, inO o2 b → A2 ≤ b ∧ b < V2) (h3 : ∀ u ∈ kx, ∀ b, inO u.o b → A3 ≤ b ∧ b < A4) (ha : kx.Pairwise apartK) (hl : V1 ≤ A2 ∧ A2 ≤ V2 ∧ V2 ≤ A3) (t : Nat) : (YL o1 c1 o2 c2 kx t).Pairwise apL := by
  unfold YL
  refine List.Pairwise.cons (fun y hy k g1 g2 => ?_) (List.Pairwise.cons (fun y hy k g1 g2 => ?_) ?_)
  · have q1 := h1 k g1
    rcases List.mem_cons.1 hy with rfl | hy
    · have q2 := h2 k g2; omega
    · obtain ⟨u, hu, rfl⟩ := List.mem_map.1 hy
      have q2 := h3 u (List.mem_of_mem_take hu) k g2
      omega
  · have q1 := h2 k g1
    obtain ⟨u, hu, rfl⟩ := List.mem_map.1 hy
    have q2 := h3 u (List.mem_of_mem_take hu) k g2
    omega
  · rw [List.pairwise_map]
    exact (ha.sublist (List.take_sublist t kx)).imp (fun hab => hab)
/-- the blocks that marked writes -/
def Bm (Y : List (LS Tx)) (n b : Nat) : Prop := (∃ j, j < Y.length ∧ inO (Y.getD j ls0).o b) ∨ n ≤ b
theorem Lp.half {Q : World → Prop} {G : Nat} {o1 : Option Addr} {c1 : Nat} {o2 : Option Addr} {c2 : Nat} {kx : List KV} {ox : Option Addr} {cx : Nat} {lp : List Mk} {op : Option Addr} {cp t : Nat} {ol : Option Addr} {cl : Nat} {wr : World} (h : Lp Q G o1 c1 o2 c2 kx ox cx lp op cp t ol cl wr) (hf : (YL o1 c1 o2 c2 kx t).Pairwise apL) : Half1 TE XE (Bm (YL o1 c1 o2 c2 kx t) wr.heap.size) ol cl (YL o1 c1 o2 c2 kx t) (fun j => ((YL o1 c1 o2 c2 kx t).getD j ls0).xs) wr := by
  refine ⟨h.l, fun j hj k hk => .inl ⟨j, hj, hk⟩, fun j hj => ?_, fun j hj => rfl, far_of hf⟩
  have hm : (YL o1 c1 o2 c2 kx t).getD j ls0 ∈ YL o1 c1 o2 c2 kx t := getD_mem_lt _ hj
  generalize (YL o1 c1 o2 c2 kx t).getD j ls0 = y at hm
  unfold YL at hm
  rcases List.mem_cons.1 hm with rfl | hm
  · exact h.k1
  · rcases List.mem_cons.1 hm with rfl | hm
    · exact h.k2
    · obtain ⟨u, hu, rfl⟩ := List.mem_map.1 hm
      exact h.ks u (List.mem_of_mem_take hu)
section
variable {w wr : World} {p pk : Nat} {s : St} {N M : Nat} {v : Tx} {O A1 V1 : Nat} {o1 : Option Addr} {c1 A2 V2 : Nat} {o2 : Option Addr} {c2 A3 A4 : Nat} {kx : List KV} {ox : Option Addr} {nx cx A5 : Nat} {ky : List KV} {oy : Option Addr} {ny cy A6 : Nat} {lp : List Mk} {op : Option Addr} {np cp A7 : Nat} {lq : List Mk} {oq : Option Addr} {nq cq : Nat}
/-- what is told of every list -/
theorem yl_each (h : Sb w wr p pk s N M v O A1 V1 o1 c1 A2 V2 o2 c2 A3 A4 kx ox nx cx A5 ky oy ny cy A6 lp op np cp A7 lq oq nq cq) (t : Nat) : ∀ y ∈ YL o1 c1 o2 c2 kx t, ((y.xs.length : Int) ≤ 8796093022000) ∧ ∀ b, inO y.o b → A1 ≤ b ∧ b < A4 := by
  obtain ⟨r1, r2, r3, r4, r5⟩ := h.lt
  have q1 := h.x.le
  intro y hy
  unfold YL at hy
  rcases List.mem_cons.1 hy with rfl | hy
  · exact ⟨by simp [kAB], fun b hb => by have := h.t1.ge b hb; omega⟩
  · rcases List.mem_cons.1 hy with rfl | hy
    · exact ⟨by simp [kAB], fun b hb => by have := h.t2.ge b hb; omega⟩
    · obtain ⟨u, hu, rfl⟩ := List.mem_map.1 hy
      have hm := List.mem_of_mem_take hu
      exact ⟨by have := (h.x.kd.okKs u hm).2; show (u.keys.length : Int) ≤ _; omega, fun b hb => by have := h.x.gk u hm b hb; omega⟩
theorem bm_dk (h : Sb w wr p pk s N M v O A1 V1 o1 c1 A2 V2 o2 c2 A3 A4 kx ox nx cx A5 ky oy ny cy A6 lp op np cp A7 lq oq nq cq) (t G n : Nat) (hn : G ≤ n) : ∀ b, Bm (YL o1 c1 o2 c2 kx t) n b → Dk A1 A4 A5 A6 G b := by
  intro b hb
  rcases hb with ⟨j, hj, hb⟩ | hb
  · exact .inl ((yl_each h t _ (getD_mem_lt ls0 hj)).2 b hb)
  · exact .inr (.inr (Nat.le_trans hn hb))
end
theorem lp_marked {w wr : World} {p pk : Nat} {s : St} {N M : Nat} {v : Tx} {O A1 V1 : Nat} {o1 : Option Addr} {c1 A2 V2 : Nat} {o2 : Option Addr} {c2 A3 A4 : Nat} {kx : List KV} {ox : Option Addr} {nx cx A5 : Nat} {ky : List KV} {oy : Option Addr} {ny cy A6 : Nat} {lp : List Mk} {op : Option Addr} {np cp A7 : Nat} {lq : List Mk} {oq : Option Addr} {nq cq : Nat} (hs : Sb w wr p pk s N M v O A1 V1 o1 c1 A2 V2 o2 c2 A3 A4 kx ox nx cx A5 ky oy ny cy A6 lp op np cp A7 lq oq nq cq)
    {Q : World → Prop} {G t : Nat} {ol : Option Addr} {cl : Nat} {wz : World} (h : Lp Q G o1 c1 o2 c2 kx ox cx lp op cp t ol cl wz) (m : Nat) (hm : m = (YL o1 c1 o2 c2 kx t).length) (h2 : m ≤ 1000) :
    Calls Tryz.prog 24 #[.slice ol m cl] wz fun e w' => e = .returned (.bool true) ∧ Keeps (Bm (YL o1 c1 o2 c2 kx t) wz.heap.size) wz w' := by
  have hf := YL_far (c1 := c1) (c2 := c2) hs.t1.ge hs.t2.ge hs.x.gk hs.x.ap ⟨hs.lt.2.2.1, hs.lt.2.2.2.1, hs.lt.2.2.2.2⟩ t
  have hh := h.half hf
  have he := yl_each hs t
  exact marked_any _ wz ol m cl _ hm h2 (fun k hk => Or.inr hk) hh (fun j hj => (he _ (getD_mem_lt ls0 hj)).1)
end Go.Proofs.YtkoaiibjahlnmaaGreat
/- StoreKeeps: behind marked. -/
namespace Go.Proofs.YtkoaiibjahlnmaaGreat
open Go.RowKit Go.Maps Go.Sort Orl
set_option linter.unusedVariables false
set_option linter.unusedSimpArgs false

theorem ap_keeps {w w' : World} {o o' : Option Addr} (h : Ap w o o' w') : Keeps (inO o) w w' := by
  rcases h with ⟨_, hk⟩ | ⟨_, hk⟩
  · exact hk
  · exact hk.of_no
structure Lr (Q : World → Prop) (G nx : Nat) (ox : Option Addr) (cx np : Nat) (op : Option Addr) (cp : Nat) (wr : World) : Prop where
  q : Q wr
  sz : G ≤ wr.heap.size
  x : ∃ kx', Own KE wr ox cx kx' ∧ kx'.length = nx
  p : ∃ lp', Own LE wr op cp lp' ∧ lp'.length = np
theorem Lp.mark {Q : World → Prop} {D : Nat → Prop} {G : Nat} {o1 : Option Addr} {c1 : Nat} {o2 : Option Addr} {c2 : Nat} {kx : List KV} {ox : Option Addr} {cx : Nat} {lp : List Mk} {op : Option Addr} {cp t : Nat} {ol : Option Addr} {cl : Nat} {wz w' : World}
    (hQ : ∀ a b, Q a → G ≤ a.heap.size → Keeps D a b → Q b) (h : Lp Q G o1 c1 o2 c2 kx ox cx lp op cp t ol cl wz) (hD : ∀ b, Bm (YL o1 c1 o2 c2 kx t) wz.heap.size b → D b) (hk : Keeps (Bm (YL o1 c1 o2 c2 kx t) wz.heap.size) wz w') : Lr Q G kx.length ox cx lp.length op cp w' := by
  have hO : ∀ j, j < (YL o1 c1 o2 c2 kx t).length → ∃ o c ys, Own TE wz o c ys ∧ ((YL o1 c1 o2 c2 kx t).getD j ls0).o = o := fun j hj => by
    have hm : (YL o1 c1 o2 c2 kx t).getD j ls0 ∈ YL o1 c1 o2 c2 kx t := getD_mem_lt _ hj
    generalize (YL o1 c1 o2 c2 kx t).getD j ls0 = y at hm
    unfold YL at hm
    rcases List.mem_cons.1 hm with rfl | hm
    · exact ⟨_, _, _, h.k1, rfl⟩
    · rcases List.mem_cons.1 hm with rfl | hm
      · exact ⟨_, _, _, h.k2, rfl⟩
      · obtain ⟨u, hu, rfl⟩ := List.mem_map.1 hm
        exact ⟨_, _, _, h.ks u (List.mem_of_mem_take hu), rfl⟩
  have hB : ∀ {α : Type} {E : El α} {o : Option Addr} {c : Nat} {ys : List α}, E.e ≠ TE.e → Own E wz o c ys → Own E w' o c ys := fun hne hh => hh.keeps hk (fun b hb hc => by
    rcases hc with ⟨j, hj, hc⟩ | hc
    · obtain ⟨o', c', ys', h1, h2⟩ := hO j hj
      rw [h2] at hc
      exact tags_ne hh h1 hne b hb hc
    · have := hh.lt b hb; omega)
  obtain ⟨kx', h1, h2⟩ := h.x
  exact ⟨hQ _ _ h.q h.sz (hk.mono hD), Nat.le_trans h.sz hk.size, ⟨kx', hB (by decide) h1, h2.1.symm⟩, ⟨lp, hB (by decide) h.p, rfl⟩⟩
section
variable {Q : World → Prop} {D : Nat → Prop} {G nx : Nat} {ox : Option Addr} {cx np : Nat} {op : Option Addr} {cp : Nat} {wr w' : World}
theorem Lr.go (hQ : ∀ a b, Q a → G ≤ a.heap.size → Keeps D a b → Q b) (h : Lr Q G nx ox cx np op cp wr) (hk : Keeps no wr w') : Lr Q G nx ox cx np op cp w' := by
  obtain ⟨kx', h1, h2⟩ := h.x
  obtain ⟨lp', h3, h4⟩ := h.p
  exact ⟨hQ _ _ h.q h.sz hk.of_no, Nat.le_trans h.sz hk.size, ⟨kx', h1.keepsN hk, h2⟩, ⟨lp', h3.keepsN hk, h4⟩⟩
/-- a key written over -/
theorem Lr.key (hQ : ∀ a b, Q a → G ≤ a.heap.size → Keeps D a b → Q b) (hp : ∀ b, inO op b → D b) (h : Lr Q G nx ox cx np op cp wr) (j : Nat) (hj : j < np) :
    ∃ g, op = some ⟨g, 0, none⟩ ∧ wr.frozen? ⟨g, j * 2, none⟩ = false ∧ (∃ z, wr.cell? ⟨g, j * 2, none⟩ = some (.string z)) ∧ Lr Q G nx ox cx np op cp (wr.setCell ⟨g, j * 2, none⟩ (.string ⟨#[63]⟩)) := by
  obtain ⟨kx', h1, h2⟩ := h.x
  obtain ⟨lp', h3, h4⟩ := h.p
  have hj' : j < lp'.length := by omega
  obtain ⟨g, e, h5, h6, h7⟩ := h3.storeC okL j 0 (e0, 0) hj' (by decide) (.string ⟨#[63]⟩) (⟨#[63]⟩, (lp'.getD j (e0, 0)).2) rfl
  obtain ⟨b, off, e', d0, _⟩ := h3.sl.atL hj'
  have hc : wr.cell? ⟨g, j * 2, none⟩ = some (.string (lp'.getD j (e0, 0)).1) := by
    have h7 : off = 0 ∧ b = g := by rw [e] at e'; cases e'; exact ⟨rfl, rfl⟩
    rw [h7.1, h7.2, Nat.zero_add] at d0
    exact d0
  refine ⟨g, e, h5, ⟨_, hc⟩, ?_⟩
  exact ⟨hQ _ _ h.q h.sz (h7.mono (fun b hb => hp b hb)), Nat.le_trans h.sz h7.size, ⟨kx', h1.keeps h7 (fun b g1 g2 => tags_ne h1 h3 (by decide) b g1 g2), h2⟩, ⟨_, h6, by rw [List.length_set]; exact h4⟩⟩
theorem Lr.appX (hQ : ∀ a b, Q a → G ≤ a.heap.size → Keeps D a b → Q b) (hx : ∀ b, inO ox b → D b) (h : Lr Q G nx ox cx np op cp wr) {kx' : List KV} (h1 : Own KE wr ox cx kx') (h2 : kx'.length = nx) {o' : Option Addr} {c' : Nat} {n : KV} (ho : Own KE w' o' c' (kx' ++ [n])) (ha : Ap wr ox o' w') : Lr Q G (nx + 1) o' c' np op cp w' := by
  have hk : Keeps (inO ox) wr w' := by
    rcases ha with ⟨_, hk⟩ | ⟨_, hk⟩
    · exact hk
    · exact hk.of_no
  obtain ⟨lp', h3, h4⟩ := h.p
  exact ⟨hQ _ _ h.q h.sz (hk.mono hx), Nat.le_trans h.sz hk.size, ⟨_, ho, by simp [h2]⟩, ⟨lp', h3.keeps hk (fun b g1 g2 => tags_ne h3 h1 (by decide) b g1 g2), h4⟩⟩
theorem Lr.appXP (hQ : ∀ a b, Q a → G ≤ a.heap.size → Keeps D a b → Q b) (hx : ∀ b, inO ox b → D b) (h : Lr Q G nx ox cx np op cp wr) {kx' : List KV} (h1 : Own KE wr ox cx kx') (h2 : kx'.length = nx) {lp' : List Mk} (hp : Own LE wr op cp lp') {ob : Obj} {o' : Option Addr} {c' : Nat} {n : KV} (ho : Own KE w' o' c' (kx' ++ [n])) (ha : Ap (wr.alloc ob) ox o' w') : Lr Q G (nx + 1) o' c' np op cp w' ∧ Own LE w' op cp lp' := by
  have hk : Keeps no wr (wr.alloc ob) := (Keeps.refl no wr).alloc _
  exact ⟨(h.go hQ hk).appX hQ hx (h1.keepsN hk) h2 ho ha, (hp.keepsN hk).keeps (ap_keeps ha) (fun b g1 g2 => tags_ne (hp.keepsN hk) (h1.keepsN hk) (by decide) b g1 g2)⟩
theorem Lr.appPP (hQ : ∀ a b, Q a → G ≤ a.heap.size → Keeps D a b → Q b) (hp : ∀ b, inO op b → D b) (h : Lr Q G nx ox cx np op cp wr) {lp' : List Mk} (h1 : Own LE wr op cp lp') {ob : Obj} {o' : Option Addr} (ha : Ap (wr.alloc ob) op o' w') : Q w' := by
  have hk : Keeps no wr (wr.alloc ob) := (Keeps.refl no wr).alloc _
  exact hQ _ _ (h.go hQ hk).q (h.go hQ hk).sz ((ap_keeps ha).mono hp)
theorem Lr.appP (hQ : ∀ a b, Q a → G ≤ a.heap.size → Keeps D a b → Q b) (hp : ∀ b, inO op b → D b) (h : Lr Q G nx ox cx np op cp wr) {lp' : List Mk} (h1 : Own LE wr op cp lp') {o' : Option Addr} (ha : Ap wr op o' w') : Q w' ∧ G ≤ w'.heap.size := by
  have hk : Keeps (inO op) wr w' := by
    rcases ha with ⟨_, hk⟩ | ⟨_, hk⟩
    · exact hk
    · exact hk.of_no
  exact ⟨hQ _ _ h.q h.sz (hk.mono hp), Nat.le_trans h.sz hk.size⟩
end
theorem KS.first {D : Nat → Prop} {w wr : World} {ps pk : Nat} {s : St} {N M : Nat} {ys : List KV} {oy : Option Addr} {ny cy : Nat} {lq : List Mk} {oq : Option Addr} {nq cq W : Nat} {ow : Option Addr} {cw : Nat} {x : Tx} (h : KS D w wr ps pk s N M ys oy ny cy lq oq nq cq W ow cw x) : Ow w wr ps s N no ∧ Ow w wr pk s M no := by
  obtain ⟨P, h1, _⟩ := h.tw
  exact ⟨h1.first.sub (fun b hb => hb.elim), h1.swap.first.sub (fun b hb => hb.elim)⟩
/-- what the last row asks -/
structure Kz (w wr : World) (ps pk : Nat) (s : St) (N M : Nat) (ys : List KV) (oy : Option Addr) (ny cy : Nat) (lq : List Mk) (oq : Option Addr) (nq cq W : Nat) (ow : Option Addr) (cw : Nat) (x : Tx) : Prop where
  a : Ow w wr ps s N no
  b : Ow w wr pk s M no
  y : Kd s ys oy ny cy wr
  q : Ld s lq oq nq cq wr
  wk : Own TE wr ow cw kAB
  wb : wr.heap[W]? = some (.cells #[.string tA, .int .u64 1099511627776, .string x, .slice ow 2 cw] 46 (0, 0))
theorem KS.kz {D : Nat → Prop} {w wr : World} {ps pk : Nat} {s : St} {N M : Nat} {ys : List KV} {oy : Option Addr} {ny cy : Nat} {lq : List Mk} {oq : Option Addr} {nq cq W : Nat} {ow : Option Addr} {cw : Nat} {x : Tx} (h : KS D w wr ps pk s N M ys oy ny cy lq oq nq cq W ow cw x) : Kz w wr ps pk s N M ys oy ny cy lq oq nq cq W ow cw x :=
  ⟨h.first.1, h.first.2, h.y, h.q, h.wk, h.wb⟩
theorem Kz.go {w wr wr' : World} {ps pk : Nat} {s : St} {N M : Nat} {ys : List KV} {oy : Option Addr} {ny cy : Nat} {lq : List Mk} {oq : Option Addr} {nq cq W : Nat} {ow : Option Addr} {cw : Nat} {x : Tx} (h : Kz w wr ps pk s N M ys oy ny cy lq oq nq cq W ow cw x) (hk : Keeps no wr wr') : Kz w wr' ps pk s N M ys oy ny cy lq oq nq cq W ow cw x :=
  ⟨h.a.go hk, h.b.go hk, h.y.keepsN hk, h.q.keepsN hk, h.wk.keepsN hk, hk.at h.wb id⟩
theorem Sb.lens {w wr : World} {p pk : Nat} {s : St} {N M : Nat} {v : Tx} {O A1 V1 : Nat} {o1 : Option Addr} {c1 A2 V2 : Nat} {o2 : Option Addr} {c2 A3 A4 : Nat} {kx : List KV} {ox : Option Addr} {nx cx A5 : Nat} {ky : List KV} {oy : Option Addr} {ny cy A6 : Nat} {lp : List Mk} {op : Option Addr} {np cp A7 : Nat} {lq : List Mk} {oq : Option Addr} {nq cq : Nat} (h : Sb w wr p pk s N M v O A1 V1 o1 c1 A2 V2 o2 c2 A3 A4 kx ox nx cx A5 ky oy ny cy A6 lp op np cp A7 lq oq nq cq) : ny = nx ∧ nq = np := by
  have h1 := (kd_same (fun _ => rfl) h.x.kd h.y.kd).1
  have h2 := ld_same (fun _ => rfl) h.p.ld h.q.ld
  exact ⟨by rw [h.y.kd.n, h.x.kd.n, h1], by rw [h.q.ld.n, h.p.ld.n, h2]⟩
end Go.Proofs.YtkoaiibjahlnmaaGreat
