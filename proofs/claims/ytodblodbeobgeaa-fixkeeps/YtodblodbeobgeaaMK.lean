/- Lists of slices, each by itself; marked. -/
import Derived.Test.YtodblodbeobgeaaQ1
import Derived.BigRegion
import Derived.Deep.RegionLaw
import Derived.Deep.RegionHeldLaw
namespace Go.Proofs.Ytodblodbeobgeaa
open Go.RowKit Go.Sort Orl
set_option linter.unusedVariables false
set_option linter.unusedSimpArgs false

theorem Own.tag {α : Type} {E : El α} {w : World} {o : Option Addr} {c : Nat} {xs : List α} (h : Own E w o c xs) : ∀ k, inO o k → ∃ cur, w.heap[k]? = some (.cells cur E.e (0, 0)) := by
  rintro k ⟨x, e, rfl⟩
  rcases h.shape with ⟨e', _⟩ | ⟨g, cur, e', hg, _⟩
  · rw [e'] at e; cases e
  · rw [e'] at e; cases e; exact ⟨cur, hg⟩
theorem Own.max {α : Type} {E : El α} {w : World} {o : Option Addr} {c : Nat} {xs : List α} (h : Own E w o c xs) : c ≤ maxLen := by
  rcases h.shape with ⟨_, e, _⟩ | ⟨g, cur, _, _, _, h3, _⟩
  · omega
  · exact h3
structure LS (α : Type) where
  o : Option Addr
  c : Nat
  xs : List α
def ls0 {α : Type} : LS α := ⟨none, 0, []⟩
def LS.enc {α : Type} (s : LS α) : List Value := [.slice s.o s.xs.length s.c]
def XE : El (LS Tx) := ⟨30, 48, 1, 24, LS.enc⟩
theorem infoKX : (Try.prog.info? 30).map (fun i => (i.zero, i.size, i.bytes)) = some (some (.slice none 0 0), 1, 24) := by kernel_rfl
theorem okX : XE.Ok := by
  obtain ⟨i0, hi, hz0, hz1, hz2⟩ := info_parts infoKX
  exact ⟨fun _ => rfl, fun x u hu => by simp [XE, LS.enc] at hu; subst hu; rfl, by decide, Try.underlying48, i0, _, hi, hz0, hz1, hz2, rfl⟩
variable {α : Type} {E : El α}
theorem Sl.one {w : World} {a : Option Addr} {c : Nat} {xs : List α} (h : Sl E w a c xs) (hx : E.Ok) (hk : E.k = 1) (d : α) {j : Nat} (hj : j < xs.length) (u : Value) (hu : E.enc (xs.getD j d) = [u]) : ∃ b off, a = some ⟨b, off, none⟩ ∧ w.cell? ⟨b, off + j, none⟩ = some u := by
  rcases h.row with e | ⟨b, off, rfl, hc⟩
  · subst e; simp at hj
  · refine ⟨b, off, rfl, hc j _ ?_⟩
    have := cells_at hx d xs j 0 hj (by omega)
    rw [hk, hu] at this
    simpa using this
theorem getD_set {α : Type} (l : List α) (i j : Nat) (x d : α) (hi : i < l.length) : (l.set i x).getD j d = if j = i then x else l.getD j d := by
  simp only [List.getD_eq_getElem?_getD, List.getElem?_set]
  by_cases h : i = j
  · subst h; simp [hi]
  · rw [if_neg h, if_neg (Ne.symm h)]
theorem getD_append {α : Type} (l m : List α) (j : Nat) (d : α) : (l ++ m).getD j d = if j < l.length then l.getD j d else m.getD (j - l.length) d := by
  simp only [List.getD_eq_getElem?_getD]
  split
  · rw [List.getElem?_append_left (by assumption)]
  · rw [List.getElem?_append_right (by omega)]

theorem tagsK_ne {α β : Type} {E : El α} {F : El β} (hEF : E.e ≠ F.e) {w : World} {o o' : Option Addr} {c c' : Nat} {xs : List α} {ys : List β} (h : Own E w o c xs) (h' : Own F w o' c' ys) : ∀ k, inO o k → ¬ inO o' k := by
  intro k h1 h2
  obtain ⟨a, ha⟩ := h.tag k h1
  obtain ⟨b, hb⟩ := h'.tag k h2
  rw [ha] at hb
  injection hb with hb
  injection hb with _ hb _
  exact hEF hb

theorem cells_map (hk : E.k = 1) (f : α → Value) (hf : ∀ x, E.enc x = [f x]) : ∀ l : List α, E.cells l = l.map f
  | [] => rfl
  | x :: r => by
    have := cells_map hk f hf r
    simp only [El.cells, List.flatMap_cons, List.map_cons] at this ⊢
    rw [this, hf]; rfl
theorem Own.store1 {w : World} {o : Option Addr} {c : Nat} {xs : List α} (hE : E.Ok) (hk : E.k = 1) (f : α → Value) (hf : ∀ x, E.enc x = [f x]) (d : α) (h : Own E w o c xs) (j : Nat) (hj : j < xs.length) (s : α) :
    ∃ g, o = some ⟨g, 0, none⟩ ∧ w.cell? ⟨g, j, none⟩ = some (f (xs.getD j d)) ∧ w.frozen? ⟨g, j, none⟩ = false ∧ Own E (w.setCell ⟨g, j, none⟩ (f s)) o c (xs.set j s) ∧ Keeps (inO o) w (w.setCell ⟨g, j, none⟩ (f s)) := by
  rcases h.shape with ⟨_, _, e⟩ | ⟨g, cur, rfl, hg, hc, hm, hs, ht⟩
  · rw [e] at hj; simp at hj
  · refine ⟨g, rfl, ?_, frozen_of_blk hg j, ?_, (Keeps.refl _ _).setCell (.inl ⟨_, rfl, rfl⟩) _⟩
    · obtain ⟨b, off, e, h1⟩ := h.sl.one hE hk d hj _ (hf _)
      cases e
      rw [Nat.zero_add] at h1
      exact h1
    · refine own_of_shape hE (blk_set hg j _) (by simpa using hc) hm (by simp [hs]) ?_
      rw [cells_map hk f hf] at ht ⊢
      rw [hk, Nat.mul_one] at ht
      simp only [Array.toList_setIfInBounds, List.length_set, List.map_set, hk, Nat.mul_one]
      rw [List.take_set, ht]

structure Kind {α : Type} (E : El α) (X : El (LS α)) : Prop where
  e : E.Ok
  x : X.Ok
  ne : E.e ≠ X.e
  k : X.k = 1
  enc : ∀ s, X.enc s = [.slice s.o s.xs.length s.c]
theorem kindT : Kind TE XE := ⟨okT, okX, by decide, rfl, fun _ => rfl⟩
variable {X : El (LS α)}
theorem lit_one {α : Type} {E : El α} (w : World) (x : α) (cs : Array Value) (hc : cs.toList = E.enc x) : Sl E (w.alloc (.cells cs E.e)) (some ⟨w.heap.size, 0, none⟩) 1 [x] :=
  ⟨.inr ⟨w.heap.size, 0, rfl, fun j u hj => by
    rw [cell_of_blk (blk_new w _), Nat.zero_add, ← Array.getElem?_toList, hc]
    simpa [El.cells] using hj⟩, by simp, by simp⟩
theorem cell_al {w : World} {p : Addr} {v : Value} (h : w.cell? p = some v) (o : Obj) : (w.alloc o).cell? p = some v := ((Keeps.refl no w).alloc o).cellN h
/-! ### a list's mark -/
theorem conv3 (W : World) (B : Nat) (z1 z2 z3 : Int) (h : W.heap[B]? = some (.cells #[.int .u8 z1, .int .u8 z2, .int .u8 z3] 5 (0, 0))) : (convert 61 9 (.slice (some ⟨B, 0, none⟩) 3 3)).run Try.prog W = .ok (.string (mkL [z1, z2, z3])) W := by
  rw [run_convert_bytes_string W 61 9 5 _ 3 3 Try.underlying61 Try.underlying5 Try.underlying9]
  have hload := run_loadCells_list (P := Try.prog) W ⟨B, 0, none⟩ [.int .u8 z1, .int .u8 z2, .int .u8 z3] (by
    intro j u hj
    rw [addr_add, Nat.zero_add, cell_of_blk h]
    simpa using hj)
  exact run_bytesToString W ⟨B, 0, none⟩ 3 3 [z1, z2, z3] hload
def mkZ (i : Nat) : Int := IntKind.u8.wrap (i : Int)
def mkS (i : Nat) : Tx := mkL [mkZ i, 7, 7]
def mkO (i : Nat) : Obj := .cells #[.int .u8 (mkZ i), .int .u8 7, .int .u8 7] 5
theorem mark_any (i : Nat) (hi : i ≤ 1000) (w : World) : Calls Try.prog 36 #[.int .i64 (i : Int)] w fun e w' => e = .returned (.string (mkS i)) ∧ w' = w.alloc (mkO i) := by
  have hz : IntKind.u8.wrap (i : Int) = mkZ i := rfl
  have hcv := conv3 (w.alloc (.cells #[.int .u8 (mkZ i), .int .u8 7, .int .u8 7] 5)) w.heap.size (mkZ i) 7 7 (blk_new w _)
  obtain ⟨z1, hz1⟩ : ∃ z, z = mkZ i := ⟨_, rfl⟩
  rw [← hz1] at hz hcv
  have HZ : Hid (z1 = mkZ i) := hz1
  clear hz1
  go_enter Try.func36, Try.ntmps36
  go_wp2_with fail
  go_ret
  exact ⟨by rw [HZ.out]; rfl, by rw [HZ.out]; rfl⟩

def Tg (e : TypeId) (w : World) (k : Nat) : Prop := ∃ cur, w.heap[k]? = some (.cells cur e (0, 0))
theorem Tg.lt {e : TypeId} {w : World} {k : Nat} (h : Tg e w k) : k < w.heap.size := by
  obtain ⟨cur, h⟩ := h; exact lt_of_block h
theorem Tg.ne {e f : TypeId} {w : World} {k : Nat} (h : Tg e w k) (h' : Tg f w k) : e = f := by
  obtain ⟨a, ha⟩ := h
  obtain ⟨b, hb⟩ := h'
  rw [ha] at hb
  injection hb with hb
  injection hb
/-- a row whose block is of its kind -/
structure Rw (E : El α) (w : World) (o : Option Addr) (xs : List α) : Prop where
  row : Row E w o xs
  tag : ∀ k, inO o k → Tg E.e w k
theorem Own.rw {w : World} {o : Option Addr} {c : Nat} {xs : List α} (h : Own E w o c xs) : Rw E w o xs := ⟨h.row, h.tag⟩
theorem Rw.keeps {S : Nat → Prop} {w w' : World} {o : Option Addr} {xs : List α} (h : Rw E w o xs) (hk : Keeps S w w') (ha : ∀ k, inO o k → ¬ S k) : Rw E w' o xs :=
  ⟨h.row.keeps hk ha, fun k hi => by
    obtain ⟨cur, hc⟩ := h.tag k hi
    exact ⟨cur, hk.at hc (ha k hi)⟩⟩
theorem Rw.keepsN {w w' : World} {o : Option Addr} {xs : List α} (h : Rw E w o xs) (hk : Keeps no w w') : Rw E w' o xs := h.keeps hk (fun _ _ => id)

structure Half1 {α : Type} (E : El α) (X : El (LS α)) (B : Nat → Prop) (oA : Option Addr) (cA : Nat) (L : List (LS α)) (F : Nat → List α) (wr : World) : Prop where
  XA : Own X wr oA cA L
  bL : ∀ j, j < L.length → ∀ k, inO (L.getD j ls0).o k → B k
  eA : ∀ j, j < L.length → Own E wr (L.getD j ls0).o (L.getD j ls0).c (F j)
  fA : ∀ j, j < L.length → (F j).length = (L.getD j ls0).xs.length
  far : ∀ i j, i < L.length → j < L.length → i ≠ j → ∀ k, inO (L.getD i ls0).o k → ¬ inO (L.getD j ls0).o k
theorem Half1.keepsN {B : Nat → Prop} {oA : Option Addr} {cA : Nat} {L : List (LS α)} {F : Nat → List α} {wr w' : World} (h : Half1 E X B oA cA L F wr) (k : Keeps no wr w') : Half1 E X B oA cA L F w' :=
  ⟨h.XA.keepsN k, h.bL, fun j hj => (h.eA j hj).keepsN k, h.fA, h.far⟩
/-- what is done to a block of another kind -/
theorem Half1.other {B : Nat → Prop} {oA : Option Addr} {cA : Nat} {L : List (LS α)} {F : Nat → List α} {wr w' : World} (h : Half1 E X B oA cA L F wr) {S : Nat → Prop} (hk : Keeps S wr w') (hS : ∀ k, S k → ∃ e, e ≠ E.e ∧ e ≠ X.e ∧ Tg e wr k) : Half1 E X B oA cA L F w' :=
  ⟨h.XA.keeps hk (fun k h1 h2 => by obtain ⟨e, _, he, ht⟩ := hS k h2; exact he (ht.ne (h.XA.tag k h1))), h.bL, fun j hj => (h.eA j hj).keeps hk (fun k h1 h2 => by obtain ⟨e, he, _, ht⟩ := hS k h2; exact he (ht.ne ((h.eA j hj).tag k h1))), h.fA, h.far⟩
/-- one element of one list written over -/
theorem Half1.set (hne : E.e ≠ X.e) {B : Nat → Prop} {oA : Option Addr} {cA : Nat} {L : List (LS α)} {F : Nat → List α} {wr w' : World} (h : Half1 E X B oA cA L F wr) (i k : Nat) (hi : i < L.length) (x : α) (ho : Own E w' (L.getD i ls0).o (L.getD i ls0).c ((F i).set k x)) (hk : Keeps (inO (L.getD i ls0).o) wr w') : Half1 E X B oA cA L (fun j => if j = i then (F i).set k x else F j) w' := by
  refine ⟨h.XA.keeps hk (fun b h1 h2 => tagsK_ne hne (h.eA i hi) h.XA b h2 h1), h.bL, fun j hj => ?_, fun j hj => ?_, h.far⟩
  · by_cases e : j = i
    · rw [if_pos e, e]; exact ho
    · rw [if_neg e]; exact (h.eA j hj).keeps hk (fun b h1 h2 => h.far j i hj hi e b h1 h2)
  · by_cases e : j = i
    · rw [if_pos e, List.length_set, e]; exact h.fA i hi
    · rw [if_neg e]; exact h.fA j hj
theorem Half1.at {B : Nat → Prop} {oA : Option Addr} {cA : Nat} {L : List (LS α)} {F : Nat → List α} {wr : World} (h : Half1 E X B oA cA L F wr) (K : Kind E X) (i : Nat) (hi : i < L.length) : ∃ b, oA = some ⟨b, 0, none⟩ ∧ wr.cell? ⟨b, i, none⟩ = some (.slice (L.getD i ls0).o (L.getD i ls0).xs.length (L.getD i ls0).c) := by
  obtain ⟨b, off, e, hc⟩ := h.XA.sl.one K.x K.k ls0 hi _ (K.enc _)
  have ho : off = 0 := by
    rcases h.XA.shape with ⟨e', _⟩ | ⟨g, cur, e', _⟩
    · rw [e'] at e; cases e
    · rw [e'] at e; cases e; rfl
  subst ho
  rw [Nat.zero_add] at hc
  exact ⟨b, e, hc⟩

structure Half2 {α : Type} (E : El α) (X : El (LS α)) (B : Nat → Prop) (mk : Nat → α) (oA : Option Addr) (cA : Nat) (L : List (LS α)) (i : Nat) (ol : Option Addr) (cl : Nat) (La : List (LS α)) (wr : World) : Prop where
  XA : Own X wr oA cA L
  bL : ∀ j, j < L.length → ∀ k, inO (L.getD j ls0).o k → B k
  rA : ∀ j, j < L.length → Rw E wr (L.getD j ls0).o (List.replicate (L.getD j ls0).xs.length (mk j))
  eA : ∀ j, i ≤ j → j < L.length → Own E wr (L.getD j ls0).o (L.getD j ls0).c (List.replicate (L.getD j ls0).xs.length (mk j))
  far : ∀ i j, i < L.length → j < L.length → i ≠ j → ∀ k, inO (L.getD i ls0).o k → ¬ inO (L.getD j ls0).o k
  la : Own X wr ol cl La
  bl : ∀ k, inO ol k → B k
  sepl : ∀ k, inO ol k → ¬ inO oA k
  len : La.length = i
  lae : ∀ j, j < i → (La.getD j ls0).xs = List.replicate ((L.getD j ls0).xs.length + 30) (mk j) ∧ Own E wr (La.getD j ls0).o (La.getD j ls0).c (La.getD j ls0).xs
  sep : ∀ j, j < i → ∀ t, t < L.length → t ≠ j → ∀ k, inO (La.getD j ls0).o k → ¬ inO (L.getD t ls0).o k
theorem Half2.keepsN {B : Nat → Prop} {mk : Nat → α} {oA : Option Addr} {cA : Nat} {L : List (LS α)} {i : Nat} {ol : Option Addr} {cl : Nat} {La : List (LS α)} {wr w' : World} (h : Half2 E X B mk oA cA L i ol cl La wr) (k : Keeps no wr w') : Half2 E X B mk oA cA L i ol cl La w' :=
  ⟨h.XA.keepsN k, h.bL, fun j hj => (h.rA j hj).keepsN k, fun j h1 h2 => (h.eA j h1 h2).keepsN k, h.far, h.la.keepsN k, h.bl, h.sepl, h.len, fun j hj => ⟨(h.lae j hj).1, (h.lae j hj).2.keepsN k⟩, h.sep⟩
theorem Half2.other {B : Nat → Prop} {mk : Nat → α} {oA : Option Addr} {cA : Nat} {L : List (LS α)} {i : Nat} {ol : Option Addr} {cl : Nat} {La : List (LS α)} {wr w' : World} (h : Half2 E X B mk oA cA L i ol cl La wr) {S : Nat → Prop} (hk : Keeps S wr w') (hS : ∀ k, S k → ∃ e, e ≠ E.e ∧ e ≠ X.e ∧ Tg e wr k) : Half2 E X B mk oA cA L i ol cl La w' := by
  have hE : ∀ {o : Option Addr}, (∀ k, inO o k → Tg E.e wr k) → ∀ k, inO o k → ¬ S k := fun ht k h1 h2 => by
    obtain ⟨e, he, _, hte⟩ := hS k h2; exact he (hte.ne (ht k h1))
  have hX : ∀ {o : Option Addr}, (∀ k, inO o k → Tg X.e wr k) → ∀ k, inO o k → ¬ S k := fun ht k h1 h2 => by
    obtain ⟨e, _, he, hte⟩ := hS k h2; exact he (hte.ne (ht k h1))
  exact ⟨h.XA.keeps hk (hX h.XA.tag), h.bL, fun j hj => (h.rA j hj).keeps hk (hE (h.rA j hj).tag), fun j h1 h2 => (h.eA j h1 h2).keeps hk (hE (h.eA j h1 h2).tag), h.far, h.la.keeps hk (hX h.la.tag), h.bl, h.sepl, h.len, fun j hj => ⟨(h.lae j hj).1, (h.lae j hj).2.keeps hk (hE (h.lae j hj).2.tag)⟩, h.sep⟩
theorem half2_of {B : Nat → Prop} {mk : Nat → α} {oA : Option Addr} {cA : Nat} {L : List (LS α)} {F : Nat → List α} {wr : World} (h : Half1 E X B oA cA L F wr) (hF : ∀ j, j < L.length → F j = List.replicate (L.getD j ls0).xs.length (mk j)) : Half2 E X B mk oA cA L 0 none 0 [] wr :=
  ⟨h.XA, h.bL, fun j hj => by rw [← hF j hj]; exact (h.eA j hj).rw, fun j _ hj => by rw [← hF j hj]; exact h.eA j hj, h.far, own_nil _, fun k ⟨x, e, _⟩ => (by cases e), fun k ⟨x, e, _⟩ => (by cases e), rfl, fun j hj => by omega, fun j hj => by omega⟩
theorem Half2.at {B : Nat → Prop} {mk : Nat → α} {oA : Option Addr} {cA : Nat} {L : List (LS α)} {i : Nat} {ol : Option Addr} {cl : Nat} {La : List (LS α)} {wr : World} (h : Half2 E X B mk oA cA L i ol cl La wr) (K : Kind E X) (j : Nat) (hj : j < L.length) : ∃ b, oA = some ⟨b, 0, none⟩ ∧ wr.cell? ⟨b, j, none⟩ = some (.slice (L.getD j ls0).o (L.getD j ls0).xs.length (L.getD j ls0).c) := by
  obtain ⟨b, off, e, hc⟩ := h.XA.sl.one K.x K.k ls0 hj _ (K.enc _)
  have ho : off = 0 := by
    rcases h.XA.shape with ⟨e', _⟩ | ⟨g, cur, e', _⟩
    · rw [e'] at e; cases e
    · rw [e'] at e; cases e; rfl
  subst ho
  rw [Nat.zero_add] at hc
  exact ⟨b, e, hc⟩
theorem Half2.atL {B : Nat → Prop} {mk : Nat → α} {oA : Option Addr} {cA : Nat} {L : List (LS α)} {i : Nat} {ol : Option Addr} {cl : Nat} {La : List (LS α)} {wr : World} (h : Half2 E X B mk oA cA L i ol cl La wr) (K : Kind E X) (j : Nat) (hj : j < i) : ∃ b, ol = some ⟨b, 0, none⟩ ∧ wr.cell? ⟨b, j, none⟩ = some (.slice (La.getD j ls0).o ((L.getD j ls0).xs.length + 30) (La.getD j ls0).c) := by
  obtain ⟨b, off, e, hc⟩ := h.la.sl.one K.x K.k ls0 (j := j) (by rw [h.len]; exact hj) _ (K.enc _)
  have ho : off = 0 := by
    rcases h.la.shape with ⟨e', _⟩ | ⟨g, cur, e', _⟩
    · rw [e'] at e; cases e
    · rw [e'] at e; cases e; rfl
  subst ho
  rw [Nat.zero_add, (h.lae j hj).1, List.length_replicate] at hc
  exact ⟨b, e, hc⟩

/-- one list growing -/
structure Grow {α : Type} (E : El α) (wz : World) (oi : Option Addr) (n : Nat) (x : α) (q : Nat) (o : Option Addr) (c : Nat) (wr : World) : Prop where
  own : Own E wr o c (List.replicate (n + q) x)
  at_ : o = oi ∨ New wz o
  kp : Keeps (inO oi) wz wr
  old : Rw E wr oi (List.replicate n x)
theorem Grow.keepsN {wz : World} {oi : Option Addr} {n : Nat} {x : α} {q : Nat} {o : Option Addr} {c : Nat} {wr w' : World} (h : Grow E wz oi n x q o c wr) (k : Keeps no wr w') : Grow E wz oi n x q o c w' :=
  ⟨h.own.keepsN k, h.at_, h.kp.trans k.of_no, h.old.keepsN k⟩
theorem rep_snoc {α : Type} (n : Nat) (x : α) : List.replicate n x ++ [x] = List.replicate (n + 1) x := by
  rw [List.replicate_succ']
theorem Grow.more {wz : World} {oi : Option Addr} {n : Nat} {x : α} {q : Nat} {o : Option Addr} {c : Nat} {wr w' : World} (hE : E.Ok) (hlt : ∀ k, inO oi k → k < wz.heap.size) (h : Grow E wz oi n x q o c wr) {o' : Option Addr} {c' : Nat} (ho : Own E w' o' c' (List.replicate (n + q) x ++ [x])) (hap : Ap wr o o' w') : Grow E wz oi n x (q + 1) o' c' w' := by
  rw [rep_snoc] at ho
  have ho' : Own E w' o' c' (List.replicate (n + (q + 1)) x) := ho
  have htake : (List.replicate (n + (q + 1)) x).take n = List.replicate n x := by
    rw [List.take_replicate, Nat.min_eq_left (by omega)]
  rcases h.at_ with e | hn
  · subst e
    rcases hap with ⟨e, hk⟩ | ⟨⟨g, e, hg⟩, hk⟩
    · subst e
      exact ⟨ho', .inl rfl, h.kp.trans hk, ⟨by have := ho'.row.take hE n; rwa [htake] at this, ho'.tag⟩⟩
    · refine ⟨ho', .inr ?_, h.kp.trans hk.of_no, h.old.keepsN hk⟩
      rintro k ⟨y, ey, rfl⟩
      rw [e] at ey
      cases ey
      exact Nat.le_trans h.kp.size hg
  · have hapart : ∀ k, inO oi k → ¬ inO o k := fun k h1 h2 => by have := hlt k h1; have := hn k h2; omega
    rcases hap with ⟨e, hk⟩ | ⟨⟨g, e, hg⟩, hk⟩
    · subst e
      exact ⟨ho', .inr hn, h.kp.then hk (fun k hk2 => .inr (hn k hk2)), h.old.keeps hk hapart⟩
    · refine ⟨ho', .inr ?_, h.kp.trans hk.of_no, h.old.keepsN hk⟩
      rintro k ⟨y, ey, rfl⟩
      rw [e] at ey
      cases ey
      exact Nat.le_trans h.kp.size hg
/-- a list grown is laid behind the others -/
theorem Half2.push (hne : E.e ≠ X.e) {B : Nat → Prop} {mk : Nat → α} {oA : Option Addr} {cA : Nat} {L : List (LS α)} {i : Nat} {ol : Option Addr} {cl : Nat} {La : List (LS α)} {wz wr w' : World} (h : Half2 E X B mk oA cA L i ol cl La wz) (hi : i < L.length) {o : Option Addr} {c : Nat} (hg : Grow E wz (L.getD i ls0).o (L.getD i ls0).xs.length (mk i) 30 o c wr) (hB : ∀ k, wz.heap.size ≤ k → B k)
    {o' : Option Addr} {c' : Nat} (ho : Own X w' o' c' (La ++ [⟨o, c, List.replicate ((L.getD i ls0).xs.length + 30) (mk i)⟩])) (hap : Ap wr ol o' w') : Half2 E X B mk oA cA L (i + 1) o' c' (La ++ [⟨o, c, List.replicate ((L.getD i ls0).xs.length + 30) (mk i)⟩]) w' := by
  have hk := hg.kp
  have hXA : Own X wr oA cA L := h.XA.keeps hk (fun b h1 h2 => tagsK_ne hne (h.eA i (Nat.le_refl _) hi) h.XA b h2 h1)
  have hla : Own X wr ol cl La := h.la.keeps hk (fun b h1 h2 => tagsK_ne hne (h.eA i (Nat.le_refl _) hi) h.la b h2 h1)
  have hk2 : Keeps (inO ol) wr w' := by
    rcases hap with ⟨_, hk⟩ | ⟨_, hk⟩
    · exact hk
    · exact hk.of_no
  have hE2 : ∀ {p : Option Addr}, (∀ k, inO p k → Tg E.e wr k) → ∀ k, inO p k → ¬ inO ol k := fun ht k h1 h2 => hne ((ht k h1).ne (hla.tag k h2))
  have hr : ∀ j, j < L.length → Rw E wr (L.getD j ls0).o (List.replicate (L.getD j ls0).xs.length (mk j)) := by
    intro j hj
    by_cases e : j = i
    · rw [e]; exact hg.old
    · exact (h.rA j hj).keeps hk (fun b h1 h2 => h.far j i hj hi e b h1 h2)
  have hlist : ∀ j, (La ++ [(⟨o, c, List.replicate ((L.getD i ls0).xs.length + 30) (mk i)⟩ : LS α)]).getD j ls0 = if j < i then La.getD j ls0 else if j = i then ⟨o, c, List.replicate ((L.getD i ls0).xs.length + 30) (mk i)⟩ else ls0 := by
    intro j
    rw [getD_append, h.len]
    by_cases h1 : j < i
    · rw [if_pos h1, if_pos h1]
    · rw [if_neg h1, if_neg h1]
      by_cases h2 : j = i
      · rw [if_pos h2, h2]; simp
      · rw [if_neg h2, List.getD_eq_getElem?_getD, List.getElem?_eq_none (by simp; omega)]; rfl
  refine ⟨hXA.keeps hk2 (fun k h1 h2 => h.sepl k h2 h1), h.bL, fun j hj => (hr j hj).keeps hk2 (hE2 (hr j hj).tag), ?_, h.far, ho, ?_, ?_, by rw [List.length_append, h.len]; rfl, ?_, ?_⟩
  · intro j h1 h2
    have he : Own E wr (L.getD j ls0).o (L.getD j ls0).c (List.replicate (L.getD j ls0).xs.length (mk j)) := (h.eA j (by omega) h2).keeps hk (fun b h3 h4 => h.far j i h2 hi (by omega) b h3 h4)
    exact he.keeps hk2 (hE2 he.tag)
  · intro k hk3
    rcases hap with ⟨e, _⟩ | ⟨⟨g, e, hgg⟩, _⟩
    · rw [e] at hk3; exact h.bl k hk3
    · obtain ⟨y, ey, rfl⟩ := hk3
      rw [e] at ey
      cases ey
      exact hB _ (Nat.le_trans hk.size hgg)
  · intro k hk3 hk4
    rcases hap with ⟨e, _⟩ | ⟨⟨g, e, hgg⟩, _⟩
    · rw [e] at hk3; exact h.sepl k hk3 hk4
    · obtain ⟨y, ey, rfl⟩ := hk3
      rw [e] at ey
      cases ey
      have := hXA.lt _ hk4
      simp at this
      omega
  · intro j hj
    rw [hlist j]
    by_cases h1 : j < i
    · rw [if_pos h1]
      have ho2 : Own E wr (La.getD j ls0).o (La.getD j ls0).c (La.getD j ls0).xs := (h.lae j h1).2.keeps hk (fun b h3 h4 => h.sep j h1 i hi (by omega) b h3 h4)
      exact ⟨(h.lae j h1).1, ho2.keeps hk2 (hE2 ho2.tag)⟩
    · have e : j = i := by omega
      rw [if_neg h1, if_pos e]
      subst e
      exact ⟨rfl, hg.own.keeps hk2 (hE2 hg.own.tag)⟩
  · intro j hj t ht htj k
    rw [hlist j]
    by_cases h1 : j < i
    · rw [if_pos h1]; exact h.sep j h1 t ht htj k
    · have e : j = i := by omega
      rw [if_neg h1, if_pos e]
      intro h3 h4
      rcases hg.at_ with e2 | hn
      · rw [show (⟨o, c, List.replicate ((L.getD i ls0).xs.length + 30) (mk i)⟩ : LS α).o = o from rfl, e2] at h3
        exact h.far i t hi ht (by omega) k h3 h4
      · have := hn k h3
        have := ((h.rA t ht).tag k h4).lt
        omega
theorem lit_one2 {α : Type} {E : El α} (w : World) (o : Obj) (x : α) (cs : Array Value) (hc : cs.toList = E.enc x) : Sl E ((w.alloc o).alloc (.cells cs E.e)) (some ⟨w.heap.size + 1, 0, none⟩) 1 [x] := by
  have := lit_one (E := E) (w.alloc o) x cs hc
  have e : (w.alloc o).heap.size = w.heap.size + 1 := by simp
  rwa [e] at this
def rep {α : Type} (mk : Nat → α) (L : List (LS α)) (j : Nat) : List α := List.replicate (L.getD j ls0).xs.length (mk j)
theorem rep_of {α : Type} (mk : Nat → α) (L : List (LS α)) (j : Nat) (d : α) (f : List α) (hl : f.length = (L.getD j ls0).xs.length) (h : ∀ t, t < (L.getD j ls0).xs.length → f.getD t d = mk j) : f = rep mk L j := by
  unfold rep
  apply List.ext_getElem (by simp [hl])
  intro t h1 h2
  have := h t (by omega)
  rw [List.getD_eq_getElem?_getD, List.getElem?_eq_getElem h1] at this
  simp at this
  simp [this]


/-! ### a region that draws, only reads, and calls 'mark': its worlds are those with some marks' bytes more -/
def al (w : World) (O : Obj) : Nat → World
  | 0 => w
  | n + 1 => (al w O n).alloc O
theorem al_keeps (w : World) (O : Obj) : ∀ n, Keeps no w (al w O n)
  | 0 => Keeps.refl _ _
  | n + 1 => (al_keeps w O n).alloc O
theorem al_cell {w : World} (O : Obj) {p : Addr} {v : Value} (h : w.cell? p = some v) : ∀ n, (al w O n).cell? p = some v := fun n => (al_keeps w O n).cellN h
theorem region_marks {id : Nat} {Q : Exit → Act → World → Prop} {a : Act} {w : World} {l : List Oper} (O : Obj) (hm : Try.prog.follows .mixedOrders = true) (hB : Region.lexB .any l.toArray = true)
    (h : wpQuiet Try.prog l.toArray (fun w' => ∃ n, w' = (al w O n).drewN 1) (fun a' => ∀ w', (∃ n, w' = (al w O n).drewN 1) → Q .normal a' w') l a) : (Code.region id l.toArray true).wp Try.prog Q a w :=
  wp_region_quiet (C := fun w' => ∃ n, w' = (al w O n).drewN 1) hm hB ⟨0, rfl⟩ (by simpa using h)
theorem mark_al (i : Nat) (hi : i ≤ 1000) (w : World) (n : Nat) : Calls Try.prog 36 #[.int .i64 (i : Int)] ((al w (mkO i) n).drewN 1) fun e w'' => e = .returned (.string (mkS i)) ∧ ∃ m, w'' = (al w (mkO i) m).drewN 1 :=
  (mark_any i hi _).mono fun e w' ⟨he, hw⟩ => ⟨he, n + 1, by rw [hw]; rfl⟩

structure One (B : Nat → Prop) (w : World) (oX : Option Addr) (cX : Nat) (Y : List (LS Tx)) (H : Nat → List Tx) (wr : World) : Prop where
  p : Half1 TE XE B oX cX Y H wr
  kp : Keeps B w wr
structure Both (B : Nat → Prop) (w : World) (oX : Option Addr) (cX : Nat) (Y : List (LS Tx)) (j : Nat) (ox : Option Addr) (cx : Nat) (Lx : List (LS Tx)) (wr : World) : Prop where
  p : Half2 TE XE B mkS oX cX Y j ox cx Lx wr
  kp : Keeps B w wr
theorem One.keepsN {B : Nat → Prop} {w : World} {oX : Option Addr} {cX : Nat} {Y : List (LS Tx)} {H : Nat → List Tx} {wr w' : World} (h : One B w oX cX Y H wr) (k : Keeps no wr w') : One B w oX cX Y H w' := ⟨h.p.keepsN k, h.kp.trans k.of_no⟩
theorem Both.keepsN {B : Nat → Prop} {w : World} {oX : Option Addr} {cX : Nat} {Y : List (LS Tx)} {j : Nat} {ox : Option Addr} {cx : Nat} {Lx : List (LS Tx)} {wr w' : World} (h : Both B w oX cX Y j ox cx Lx wr) (k : Keeps no wr w') : Both B w oX cX Y j ox cx Lx w' := ⟨h.p.keepsN k, h.kp.trans k.of_no⟩
theorem One.setP {B : Nat → Prop} {w : World} {oX : Option Addr} {cX : Nat} {Y : List (LS Tx)} {H : Nat → List Tx} {wr : World} (h : One B w oX cX Y H wr) (i k n : Nat) (hi : i < Y.length) (hk : k < n) (hn : n = (Y.getD i ls0).xs.length) (x : Tx) :
    ∃ g, (Y.getD i ls0).o = some ⟨g, 0, none⟩ ∧ (∃ v, wr.cell? ⟨g, k, none⟩ = some (.string v)) ∧ wr.frozen? ⟨g, k, none⟩ = false ∧ One B w oX cX Y (fun j => if j = i then (H i).set k x else H j) (wr.setCell ⟨g, k, none⟩ (.string x)) := by
  obtain ⟨g, e, h1, h2, h3, h4⟩ := (h.p.eA i hi).store1 okT rfl Value.string (fun _ => rfl) e0 k (by rw [h.p.fA i hi, ← hn]; exact hk) x
  exact ⟨g, e, ⟨_, h1⟩, h2, h.p.set (by decide) i k hi x h3 h4, h.kp.trans (h4.mono (h.p.bL i hi))⟩
theorem Both.pushP {B : Nat → Prop} {w : World} {oX : Option Addr} {cX : Nat} {Y : List (LS Tx)} {j : Nat} {ox : Option Addr} {cx : Nat} {Lx : List (LS Tx)} {wz wr w' : World} (h : Both B w oX cX Y j ox cx Lx wz) (hB : ∀ k, w.heap.size ≤ k → B k) (hj : j < Y.length) {o : Option Addr} {c : Nat} (hg : Grow TE wz (Y.getD j ls0).o (Y.getD j ls0).xs.length (mkS j) 30 o c wr)
    {o' : Option Addr} {c' : Nat} (ho : Own XE w' o' c' (Lx ++ [⟨o, c, List.replicate ((Y.getD j ls0).xs.length + 30) (mkS j)⟩])) (hap : Ap wr ox o' w') : Both B w oX cX Y (j + 1) o' c' (Lx ++ [⟨o, c, List.replicate ((Y.getD j ls0).xs.length + 30) (mkS j)⟩]) w' := by
  have hk2 : Keeps (inO ox) wr w' := by
    rcases hap with ⟨_, hk⟩ | ⟨_, hk⟩
    · exact hk
    · exact hk.of_no
  exact ⟨h.p.push (by decide) hj hg (fun k hk => hB k (Nat.le_trans h.kp.size hk)) ho hap, (h.kp.trans (hg.kp.mono (h.p.bL j hj))).trans (hk2.mono h.p.bl)⟩
theorem both_of {B : Nat → Prop} {w : World} {oX : Option Addr} {cX : Nat} {Y : List (LS Tx)} {H : Nat → List Tx} {wr : World} (h : One B w oX cX Y H wr) (hH : ∀ j, j < Y.length → H j = rep mkS Y j) : Both B w oX cX Y 0 none 0 [] wr :=
  ⟨half2_of h.p hH, h.kp⟩
theorem grow_nil {α : Type} {E : El α} {wz : World} {o : Option Addr} {c n : Nat} {x : α} (h : Own E wz o c (List.replicate n x)) : Grow E wz o n x 0 o c wz := ⟨h, .inl rfl, Keeps.refl _ _, h.rw⟩
/-- the marks of one list, as they are read again -/
theorem Half2.read {α : Type} {E : El α} {X : El (LS α)} {B : Nat → Prop} {mk : Nat → α} {oA : Option Addr} {cA : Nat} {L : List (LS α)} {i : Nat} {ol : Option Addr} {cl : Nat} {La : List (LS α)} {wr : World} (h : Half2 E X B mk oA cA L i ol cl La wr) (j : Nat) (hj : j < i) : Sl E wr (La.getD j ls0).o (La.getD j ls0).c (List.replicate ((L.getD j ls0).xs.length + 30) (mk j)) := by
  have := (h.lae j hj).2.sl
  rwa [(h.lae j hj).1] at this
end Go.Proofs.Ytodblodbeobgeaa
/- StoreKeeps: 'marked' (written by wip/tools/mkmb11.py). -/
namespace Go.Proofs.Ytodblodbeobgeaa
open Go.RowKit Go.Sort Orl
set_option linter.unusedVariables false
set_option linter.unusedSimpArgs false

set_option maxHeartbeats 20000000 in
set_option maxRecDepth 10000 in
theorem marked_any (B : Nat → Prop) (w : World) (oX : Option Addr) (NX cX : Nat) (Y : List (LS Tx)) (hNX : NX = Y.length) (hNX2 : NX ≤ 1000) (hB : ∀ k, w.heap.size ≤ k → B k)
    (hY : Half1 TE XE B oX cX Y (fun j => (Y.getD j ls0).xs) w)
    (fY : ∀ j, j < Y.length → ((Y.getD j ls0).xs.length : Int) ≤ 8796093022000) :
    Calls Try.prog 23 #[.slice oX NX cX] w fun e w' => e = .returned (.bool true) ∧ Keeps B w w' := by
  have HS : Hid (NX = Y.length ∧ (∀ k, w.heap.size ≤ k → B k) ∧ (∀ j, j < Y.length → ((Y.getD j ls0).xs.length : Int) ≤ 8796093022000)) := ⟨hNX, hB, fY⟩
  have H0 : Hid (One B w oX cX Y (fun j => (Y.getD j ls0).xs) w) := ⟨hY, Keeps.refl _ _⟩
  clear hNX hB hY fY
  go_enter Try.func23, Try.ntmps23
  go_wp2_with fail
  go_loopw [4] (fun s wr => ∃ (i : Nat) (H : Nat → List Tx), i ≤ NX ∧ s = .int .i64 i ∧ Hid (One B w oX cX Y H wr ∧ ∀ j, j < i → H j = rep mkS Y j)) (fun s _ => NX - (intOf s).toNat)
  case atStart => exact ⟨0, _, by omega, rfl, ⟨H0.out, fun j hj => by omega⟩⟩
  case round =>
    clear H0
    obtain ⟨i, H, hi, rfl, HI⟩ := hrel
    by_cases hlt : i < NX
    · have hiL : i < Y.length := by rw [← HS.out.1]; exact hlt
      obtain ⟨bx, eA⟩ : ∃ b, oX = some ⟨b, 0, none⟩ := by obtain ⟨b, e, _⟩ := HI.out.1.p.at kindT i hiL; exact ⟨b, e⟩
      subst eA
      have hfit := HS.out.2.2 i hiL
      obtain ⟨si, hsi⟩ : ∃ si, si = Y.getD i ls0 := ⟨_, rfl⟩
      obtain ⟨n, hn⟩ : ∃ n, n = si.xs.length := ⟨_, rfl⟩
      rw [← hsi, ← hn] at hfit
      have hnI : (n : Int) ≤ 8796093022000 := by omega
      have HSI : Hid (si = Y.getD i ls0 ∧ n = (Y.getD i ls0).xs.length ∧ i < Y.length) := ⟨hsi, by rw [hn, hsi], hiL⟩
      have DX : Hid (∀ wr H, One B w (some ⟨bx, 0, none⟩) cX Y H wr → wr.cell? ⟨bx, i, none⟩ = some (.slice si.o n si.c)) := fun wr H h => by
        obtain ⟨b, e, hc⟩ := h.p.at kindT i hiL
        cases e
        rw [hc, hn, hsi]
      clear hsi hn hfit hiL
      have d1 := DX.out wr H HI.out.1
      go_wp2_with fail
      go_loopw [5] (fun s wr => ∃ (k : Nat) (H : Nat → List Tx), k ≤ n ∧ s = .int .i64 k ∧ Hid (One B w (some ⟨bx, 0, none⟩) cX Y H wr ∧ (∀ j, j < i → H j = rep mkS Y j) ∧ ∀ t, t < k → (H i).getD t e0 = mkS i)) (fun s _ => n - (intOf s).toNat)
      case atStart => exact ⟨0, H, by omega, rfl, ⟨HI.out.1, HI.out.2, fun t ht => by omega⟩⟩
      case round =>
        clear HI d1
        obtain ⟨k, H, hk, rfl, HI⟩ := hrel
        have d1 := DX.out wr H HI.out.1
        by_cases hkn : k < n
        · have hO := HI.out.1.keepsN ((Keeps.refl _ _).alloc (mkO i))
          obtain ⟨g, eg, ⟨v1, q1⟩, q2, q3⟩ := hO.setP i k n HSI.out.2.2 hkn HSI.out.2.1 (mkS i)
          rw [← HSI.out.1] at eg
          rw [eg] at d1
          have r1 := cell_al d1 (mkO i)
          have HQ3 : Hid (One B w (some ⟨bx, 0, none⟩) cX Y (fun j => if j = i then (H i).set k (mkS i) else H j) ((wr.alloc (mkO i)).setCell ⟨g, k, none⟩ (.string (mkS i)))) := q3
          have HLEN : Hid (k < (H i).length) := by rw [HI.out.1.p.fA i HSI.out.2.2, ← HSI.out.2.1]; exact hkn
          have hkI : (k : Int) < n := by omega
          clear q3 eg hO
          go_wp2_with fail
          go_region_with (go_at_call 36; go_loud (refine (mark_any i (by omega) _).mono ?_); rintro e w' ⟨rfl, rfl⟩)
          all_goals
           (go_wp2_with fail
            go_roundw
            case rel =>
             refine ⟨k + 1, (fun j => if j = i then (H i).set k (mkS i) else H j), by omega, by go_num, ⟨HQ3.out.keepsN (Keeps.refl _ _).drew, fun j hj => ?_, fun t ht => ?_⟩⟩
             · show (if j = i then (H i).set k (mkS i) else H j) = _
               rw [if_neg (by omega)]; exact HI.out.2.1 j hj
             · show (if i = i then (H i).set k (mkS i) else H i).getD t e0 = _
               rw [if_pos rfl, getD_set _ _ _ _ _ HLEN.out]
               by_cases e : t = k
               · rw [if_pos e]
               · rw [if_neg e]; exact HI.out.2.2 t (by omega)
            case measure => simp [intOf] <;> omega)
        · go_wp2_with fail
          go_roundw
          case rel =>
            refine ⟨i + 1, H, by omega, by go_num, ⟨HI.out.1, fun j hj => ?_⟩⟩
            by_cases e : j = i
            · subst e
              exact rep_of mkS Y j e0 (H j) (HI.out.1.p.fA j HSI.out.2.2) (fun t ht => HI.out.2.2 t (by have := HSI.out.2.1; omega))
            · exact HI.out.2.1 j (by omega)
          case measure => simp [intOf] <;> omega
    · have HFp : Hid (∀ j, j < Y.length → H j = rep mkS Y j) := fun j hj => HI.out.2 j (by have := HS.out.1; omega)
      have H0 : Hid (One B w oX cX Y H wr) := HI.out.1
      clear HI
      go_wp2_with fail
      clear hlt hi
      have H1 : Hid (Both B w oX cX Y 0 none 0 [] wr) := both_of H0.out HFp.out
      clear H0 HFp
      have H0 : Hid _ := H1.out
      clear H1
      go_loopw [3, 6] (fun sl s wr => ∃ (i : Nat) (olp : Option Addr) (clp : Nat) (Lap : List (LS Tx)), i ≤ NX ∧ s = .int .i64 i ∧ sl = .slice olp i clp ∧ Hid (Both B w oX cX Y i olp clp Lap wr)) (fun _ s _ => NX - (intOf s).toNat)
      case atStart => exact ⟨0, none, 0, [], by omega, rfl, rfl, H0⟩
      case round =>
        clear H0
        obtain ⟨i, olp, clp, Lap, hi, rfl, rfl, HI⟩ := hrel
        rename World => wz
        by_cases hlt : i < NX
        · have hiL : i < Y.length := by rw [← HS.out.1]; exact hlt
          obtain ⟨bx, eA⟩ : ∃ b, oX = some ⟨b, 0, none⟩ := by obtain ⟨b, e, _⟩ := HI.out.p.at kindT i hiL; exact ⟨b, e⟩
          subst eA
          have hfit := HS.out.2.2 i hiL
          obtain ⟨si, hsi⟩ : ∃ si, si = Y.getD i ls0 := ⟨_, rfl⟩
          obtain ⟨n, hn⟩ : ∃ n, n = si.xs.length := ⟨_, rfl⟩
          rw [← hsi, ← hn] at hfit
          have hnI : (n : Int) ≤ 8796093022000 := by omega
          have HSI : Hid (si = Y.getD i ls0 ∧ n = (Y.getD i ls0).xs.length ∧ i < Y.length) := ⟨hsi, by rw [hn, hsi], hiL⟩
          have d1 : wz.cell? ⟨bx, i, none⟩ = some (.slice si.o n si.c) := by
            obtain ⟨b, e, hc⟩ := HI.out.p.at kindT i hiL
            cases e
            rw [hc, hn, hsi]
          have HG0 : Hid (Grow TE wz si.o n (mkS i) 0 si.o si.c wz ∧ ∀ k, inO si.o k → k < wz.heap.size) := by
            rw [hn, hsi]
            exact ⟨grow_nil (HI.out.p.eA i (Nat.le_refl _) hiL), (HI.out.p.eA i (Nat.le_refl _) hiL).lt⟩
          clear hsi hn hfit hiL
          go_wp2_with fail
          go_loopw [7, 8] (fun sl s wr => ∃ (q m : Nat) (o : Option Addr) (c : Nat), q ≤ 30 ∧ s = .int .i64 q ∧ sl = .slice o m c ∧ Hid (m = n + q ∧ Grow TE wz si.o n (mkS i) q o c wr)) (fun _ s _ => 30 - (intOf s).toNat)
          case atStart => exact ⟨0, n, si.o, si.c, by omega, rfl, rfl, ⟨rfl, HG0.out.1⟩⟩
          case round =>
            obtain ⟨q, m, o, c, hq, rfl, rfl, HG⟩ := hrel
            have hmI : (m : Int) ≤ 8796093022000 + 30 := by have := HG.out.1; omega
            by_cases hqq : q < 30
            · have HB : Hid (((List.replicate (n + q) (mkS i)).length + [mkS i].length) * TE.nb ≤ 140737488355328 ∧ (List.replicate (n + q) (mkS i)).length + [mkS i].length ≤ 140737488355328) := ⟨by simp [TE]; omega, by simp; omega⟩
              go_wp2_with (first | (go_at_call 36; go_loud (refine (mark_any i (by omega) _).mono ?_); rintro e w' ⟨rfl, hw'⟩; subst w') | (at_builtin; go_loud (refine wpList_app okT rfl _ _ rfl _ _ _ (List.replicate (n + q) (mkS i)) rfl (by rw [List.length_replicate]; exact HG.out.1) ((HG.out.2.own.keepsN ((Keeps.refl _ _).alloc _)).keepsN ((Keeps.refl _ _).alloc _)) _ _ _ [mkS i] rfl rfl (fun h => by cases h) (lit_one2 (E := TE) _ _ (mkS i) _ rfl).row HB.out.1 HB.out.2 ?_); intro o5 c5 w5 ho5 hap5))
              go_roundw
              case rel => exact ⟨q + 1, m + 1, o5, c5, by omega, by go_num, rfl, ⟨by have := HG.out.1; omega, (HG.out.2.keepsN (((Keeps.refl _ _).alloc _).alloc _)).more okT HG0.out.2 ho5 hap5⟩⟩
              case measure => simp [intOf] <;> omega
            · obtain rfl : q = 30 := by omega
              have HGG : Hid (Grow TE wz (Y.getD i ls0).o (Y.getD i ls0).xs.length (mkS i) 30 o c wr ∧ m = (Y.getD i ls0).xs.length + 30) := by
                have h3 := HG.out.2
                have h4 := HG.out.1
                rw [HSI.out.1, HSI.out.2.1] at h3
                rw [HSI.out.2.1] at h4
                exact ⟨h3, h4⟩
              have HLA : Hid (Own XE wr olp clp Lap ∧ i = Lap.length) := ⟨HI.out.p.la.keeps HGG.out.1.kp (fun b h1 h2 => tagsK_ne (by decide) (HI.out.p.eA i (Nat.le_refl _) HSI.out.2.2) HI.out.p.la b h2 h1), HI.out.p.len.symm⟩
              have HB : Hid ((Lap.length + [(⟨o, c, List.replicate ((Y.getD i ls0).xs.length + 30) (mkS i)⟩ : LS Tx)].length) * XE.nb ≤ 140737488355328 ∧ Lap.length + [(⟨o, c, List.replicate ((Y.getD i ls0).xs.length + 30) (mkS i)⟩ : LS Tx)].length ≤ 140737488355328) := by
                have := HLA.out.2
                exact ⟨by simp [XE]; omega, by simp; omega⟩
              go_wp2_with (at_builtin; go_loud (refine wpList_app okX rfl _ _ rfl _ _ _ Lap rfl HLA.out.2 (HLA.out.1.keepsN ((Keeps.refl _ _).alloc _)) _ _ _ [⟨o, c, List.replicate ((Y.getD i ls0).xs.length + 30) (mkS i)⟩] rfl rfl (fun h => by cases h) (lit_one (E := XE) _ _ _ (by simp [XE, LS.enc, HGG.out.2])).row HB.out.1 HB.out.2 ?_); intro o6 c6 w6 ho6 hap6)
              go_roundw
              case rel => exact ⟨i + 1, o6, c6, _, by omega, by go_num, rfl, HI.out.pushP HS.out.2.1 HSI.out.2.2 (HGG.out.1.keepsN ((Keeps.refl _ _).alloc _)) ho6 hap6⟩
              case measure => simp [intOf] <;> omega
        · have hiN : i = NX := by omega
          subst i
          have H0 : Hid (Both B w oX cX Y NX olp clp Lap wz) := HI.out
          clear HI
          go_wp2_with fail
          clear hlt hi
          go_loopw [9] (fun s wr => ∃ (i : Nat), i ≤ NX ∧ s = .int .i64 i ∧ Hid (Keeps no wz wr)) (fun s _ => NX - (intOf s).toNat)
          case atStart => exact ⟨0, by omega, rfl, Keeps.refl _ _⟩
          case round =>
            obtain ⟨i, hi, rfl, HK0⟩ := hrel
            by_cases hlt : i < NX
            · have hiL : i < Y.length := by rw [← HS.out.1]; exact hlt
              have hfit := HS.out.2.2 i hiL
              obtain ⟨bx, eA, d1z⟩ := H0.out.p.at kindT i hiL
              obtain ⟨bl, eL, d2z⟩ := H0.out.p.atL kindT i hlt
              have hr1 := H0.out.p.read i hlt
              have hr2 := (H0.out.p.rA i hiL).row
              obtain ⟨n, hn⟩ : ∃ n, n = (Y.getD i ls0).xs.length := ⟨_, rfl⟩
              rw [← hn] at d1z d2z hr1 hr2 hfit
              obtain ⟨so, hso⟩ : ∃ so, so = (Y.getD i ls0).o := ⟨_, rfl⟩
              obtain ⟨sc, hsc⟩ : ∃ sc, sc = (Y.getD i ls0).c := ⟨_, rfl⟩
              obtain ⟨lo, hlo⟩ : ∃ lo, lo = (Lap.getD i ls0).o := ⟨_, rfl⟩
              obtain ⟨lc, hlc⟩ : ∃ lc, lc = (Lap.getD i ls0).c := ⟨_, rfl⟩
              rw [← hso, ← hsc] at d1z
              rw [← hlo, ← hlc] at d2z hr1
              rw [← hso] at hr2
              subst eA
              subst eL
              have hnI : (n : Int) ≤ 8796093022000 := by omega
              have HR : Hid (Sl TE wz lo lc (List.replicate (n + 30) (mkS i)) ∧ Row TE wz so (List.replicate n (mkS i)) ∧ wz.cell? ⟨bx, i, none⟩ = some (.slice so n sc) ∧ wz.cell? ⟨bl, i, none⟩ = some (.slice lo (n + 30) lc)) := ⟨hr1, hr2, d1z, d2z⟩
              have d1 := HK0.out.cellN d1z
              have d2 := HK0.out.cellN d2z
              clear hso hsc hlo hlc hn hr1 hr2 hfit hiL d1z d2z
              go_wp2_with fail
              go_loopw [10] (fun s wr => ∃ (k : Nat), k ≤ n + 30 ∧ s = .int .i64 k ∧ Hid (Keeps no wz wr)) (fun s _ => n + 30 - (intOf s).toNat)
              case atStart => exact ⟨0, by omega, rfl, HK0⟩
              case round =>
                clear d1 d2
                obtain ⟨k, hk, rfl, HK⟩ := hrel
                have d1 := HK.out.cellN HR.out.2.2.1
                have d2 := HK.out.cellN HR.out.2.2.2
                by_cases hkn : k < n + 30
                · have hkI : (k : Int) < (n : Int) + 30 := by omega
                  obtain ⟨b5, off5, e5, d5⟩ := (HR.out.1.keepsN HK.out).at (j := k) (by simpa using hkn)
                  subst e5
                  rw [show (List.replicate (n + 30) (mkS i)).getD k e0 = mkS i by simp [hkn]] at d5
                  have hself : ((mkS i).toList == (mkS i).toList) = true := by simp
                  have t1 := al_cell (mkO i) d1
                  have t2 := al_cell (mkO i) d2
                  have t5 := al_cell (mkO i) d5
                  by_cases hk2 : k < n
                  · have hk2I : (k : Int) < n := by omega
                    obtain ⟨b6, off6, e6, d6⟩ := Sl.at (c := n) (w := wr) (a := so) (xs := List.replicate n (mkS i)) ⟨HR.out.2.1.keepsN HK.out, by simp, by
                      rcases HR.out.2.1 with e | ⟨b, off, e, _⟩
                      · have := congrArg List.length e; simp at this; omega
                      · intro h; rw [h] at e; cases e⟩ (j := k) (by simpa using hk2)
                    subst e6
                    rw [show (List.replicate n (mkS i)).getD k e0 = mkS i by simp [hk2]] at d6
                    have t6 := al_cell (mkO i) d6
                    go_wp2_with fail
                    refine region_marks (mkO i) (by kernel_rfl) (by kernel_rfl) ?_
                    repeat (go_big_quiet_step ((go_at_call 36; exact mark_al i (by omega) _ _)))
                    refine wpQuiet_nil ?_
                    intro _ hw'
                    obtain ⟨nq, hw''⟩ := hw'
                    subst hw''
                    go_wp2_with fail
                    go_roundw
                    case rel => exact ⟨k + 1, by omega, by go_num, HK.out.trans ((al_keeps _ _ _).drewN _)⟩
                    case measure => simp [intOf] <;> omega
                  · have hk2I : ¬ (k : Int) < n := by omega
                    go_wp2_with fail
                    refine region_marks (mkO i) (by kernel_rfl) (by kernel_rfl) ?_
                    repeat (go_big_quiet_step ((go_at_call 36; exact mark_al i (by omega) _ _)))
                    refine wpQuiet_nil ?_
                    intro _ hw'
                    obtain ⟨nq, hw''⟩ := hw'
                    subst hw''
                    go_wp2_with fail
                    go_roundw
                    case rel => exact ⟨k + 1, by omega, by go_num, HK.out.trans ((al_keeps _ _ _).drewN _)⟩
                    case measure => simp [intOf] <;> omega
                · go_wp2_with fail
                  go_roundw
                  case rel => exact ⟨i + 1, by omega, by go_num, HK⟩
                  case measure => simp [intOf] <;> omega
            · go_wp2_with fail
              go_ret
              exact ⟨rfl, H0.out.kp.trans HK0.out.of_no⟩
end Go.Proofs.Ytodblodbeobgeaa
