import Derived.Test.YtjklpcamlppegaaGreatS3
import Derived.BigRegion
import Derived.Deep.RegionLaw
import Derived.Deep.RegionHeldLaw
/- MsgKeeps: lists of slices, each by itself; a list's mark. -/
namespace Go.Proofs.YtjklpcamlppegaaGreat
open Go.RowKit Go.Sort Orl Pk
set_option linter.unusedVariables false
set_option linter.unusedSimpArgs false

structure LS (α : Type) where
  o : Option Addr
  c : Nat
  xs : List α
def ls0 {α : Type} : LS α := ⟨none, 0, []⟩
def LS.enc {α : Type} (s : LS α) : List Value := [.slice s.o s.xs.length s.c]
def BB : El Nat := ⟨5, 38, 1, 1, fun c => [.int .u8 (c : Nat)]⟩
def XE : El (LS Tx) := ⟨25, 33, 1, 24, LS.enc⟩
def ZE : El (LS Nat) := ⟨38, 32, 1, 24, LS.enc⟩
theorem infoK5 : (Tryz.prog.info? 5).map (fun i => (i.zero, i.size, i.bytes)) = some (some (.int .u8 0), 1, 1) := by kernel_rfl
theorem infoK25 : (Tryz.prog.info? 25).map (fun i => (i.zero, i.size, i.bytes)) = some (some (.slice none 0 0), 1, 24) := by kernel_rfl
theorem infoKB : (Tryz.prog.info? 38).map (fun i => (i.zero, i.size, i.bytes)) = some (some (.slice none 0 0), 1, 24) := by kernel_rfl
theorem okBB : BB.Ok := by
  obtain ⟨i0, hi, hz0, hz1, hz2⟩ := info_parts infoK5
  exact ⟨fun _ => rfl, fun x u hu => by simp [BB] at hu; subst hu; rfl, by decide, Tryz.underlying38, i0, _, hi, hz0, hz1, hz2, rfl⟩
theorem okX : XE.Ok := by
  obtain ⟨i0, hi, hz0, hz1, hz2⟩ := info_parts infoK25
  exact ⟨fun _ => rfl, fun x u hu => by simp [XE, LS.enc] at hu; subst hu; rfl, by decide, Tryz.underlying33, i0, _, hi, hz0, hz1, hz2, rfl⟩
theorem okZ : ZE.Ok := by
  obtain ⟨i0, hi, hz0, hz1, hz2⟩ := info_parts infoKB
  exact ⟨fun _ => rfl, fun x u hu => by simp [ZE, LS.enc] at hu; subst hu; rfl, by decide, Tryz.underlying32, i0, _, hi, hz0, hz1, hz2, rfl⟩
theorem cellsBB (bs : List Nat) : BB.cells bs = vals bs := by
  induction bs with
  | nil => rfl
  | cons x r ih =>
    simp only [El.cells, BB, List.flatMap_cons, vals, List.map_cons] at ih ⊢
    rw [ih]; rfl
theorem ownBB (w : World) (o : Option Addr) (c : Nat) (bs : List Nat) : Own BB w o c bs ↔ Owns w o c bs := by
  unfold Own Owns; rw [cellsBB]; exact Iff.rfl
theorem rowBB {w : World} {o : Option Addr} {bs : List Nat} (h : BRow w o bs) : Row BB w o bs := by
  obtain ⟨_, _, h⟩ := h
  rcases h with h | ⟨b, off, e, hc⟩
  · exact .inl h
  · refine .inr ⟨b, off, e, fun j u hj => ?_⟩
    rw [cellsBB] at hj
    have hjl : j < bs.length := by have := (List.getElem?_eq_some_iff.mp hj).1; simpa [vals] using this
    rw [hc j hjl]
    simp [vals, hjl] at hj
    simp [hjl, hj]
variable {α : Type} {E : El α}
theorem Sl.one {w : World} {a : Option Addr} {c : Nat} {xs : List α} (h : Sl E w a c xs) (hx : E.Ok) (hk : E.k = 1) (d : α) {j : Nat} (hj : j < xs.length) (u : Value) (hu : E.enc (xs.getD j d) = [u]) : ∃ b off, a = some ⟨b, off, none⟩ ∧ w.cell? ⟨b, off + j, none⟩ = some u := by
  rcases h.row with e | ⟨b, off, rfl, hc⟩
  · subst e; simp at hj
  · refine ⟨b, off, rfl, hc j _ ?_⟩
    have := cells_at hx d xs j 0 hj (by omega)
    rw [hk, hu] at this
    simpa using this
theorem getD_set {α : Type} (l : List α) (i j : Nat) (x d : α) (hi : i < l.length) : (l.set i x).getD j d = if j = i then x else l.getD j d := by
  simp only [List.getD_eq_getElem?_getD, List.getElem?_set]
  by_cases h : i = j
  · subst h; simp [hi]
  · rw [if_neg h, if_neg (Ne.symm h)]
theorem getD_append {α : Type} (l m : List α) (j : Nat) (d : α) : (l ++ m).getD j d = if j < l.length then l.getD j d else m.getD (j - l.length) d := by
  simp only [List.getD_eq_getElem?_getD]
  split
  · rw [List.getElem?_append_left (by assumption)]
  · rw [List.getElem?_append_right (by omega)]

theorem Own.tag {w : World} {o : Option Addr} {c : Nat} {xs : List α} (h : Own E w o c xs) : ∀ k, inO o k → ∃ cur, w.heap[k]? = some (.cells cur E.e (0, 0)) := by
  rintro k ⟨x, e, rfl⟩
  rcases h.shape with ⟨e', _⟩ | ⟨g, cur, e', hg, _⟩
  · rw [e'] at e; cases e
  · rw [e'] at e; cases e; exact ⟨cur, hg⟩
theorem tags_ne {α β : Type} {E : El α} {F : El β} (hEF : E.e ≠ F.e) {w : World} {o o' : Option Addr} {c c' : Nat} {xs : List α} {ys : List β} (h : Own E w o c xs) (h' : Own F w o' c' ys) : ∀ k, inO o k → ¬ inO o' k := by
  intro k h1 h2
  obtain ⟨a, ha⟩ := h.tag k h1
  obtain ⟨b, hb⟩ := h'.tag k h2
  rw [ha] at hb
  injection hb with hb
  injection hb with _ hb _
  exact hEF hb

theorem cells_map (hk : E.k = 1) (f : α → Value) (hf : ∀ x, E.enc x = [f x]) : ∀ l : List α, E.cells l = l.map f
  | [] => rfl
  | x :: r => by
    have := cells_map hk f hf r
    simp only [El.cells, List.flatMap_cons, List.map_cons] at this ⊢
    rw [this, hf]; rfl
theorem Own.store1 {w : World} {o : Option Addr} {c : Nat} {xs : List α} (hE : E.Ok) (hk : E.k = 1) (f : α → Value) (hf : ∀ x, E.enc x = [f x]) (d : α) (h : Own E w o c xs) (j : Nat) (hj : j < xs.length) (s : α) :
    ∃ g, o = some ⟨g, 0, none⟩ ∧ w.cell? ⟨g, j, none⟩ = some (f (xs.getD j d)) ∧ w.frozen? ⟨g, j, none⟩ = false ∧ Own E (w.setCell ⟨g, j, none⟩ (f s)) o c (xs.set j s) ∧ Keeps (inO o) w (w.setCell ⟨g, j, none⟩ (f s)) := by
  rcases h.shape with ⟨_, _, e⟩ | ⟨g, cur, rfl, hg, hc, hm, hs, ht⟩
  · rw [e] at hj; simp at hj
  · refine ⟨g, rfl, ?_, frozen_of_blk hg j, ?_, (Keeps.refl _ _).setCell (.inl ⟨_, rfl, rfl⟩) _⟩
    · obtain ⟨b, off, e, h1⟩ := h.sl.one hE hk d hj _ (hf _)
      cases e
      rw [Nat.zero_add] at h1
      exact h1
    · refine own_of_shape hE (blk_set hg j _) (by simpa using hc) hm (by simp [hs]) ?_
      rw [cells_map hk f hf] at ht ⊢
      rw [hk, Nat.mul_one] at ht
      simp only [Array.toList_setIfInBounds, List.length_set, List.map_set, hk, Nat.mul_one]
      rw [List.take_set, ht]

structure Kind {α : Type} (E : El α) (X : El (LS α)) : Prop where
  e : E.Ok
  x : X.Ok
  ne : E.e ≠ X.e
  k : X.k = 1
  enc : ∀ s, X.enc s = [.slice s.o s.xs.length s.c]
theorem kindT : Kind TE XE := ⟨okT, okX, by decide, rfl, fun _ => rfl⟩
theorem kindZ : Kind BB ZE := ⟨okBB, okZ, by decide, rfl, fun _ => rfl⟩
variable {X : El (LS α)}
theorem lit_one {α : Type} {E : El α} (w : World) (x : α) (cs : Array Value) (hc : cs.toList = E.enc x) : Sl E (w.alloc (.cells cs E.e)) (some ⟨w.heap.size, 0, none⟩) 1 [x] :=
  ⟨.inr ⟨w.heap.size, 0, rfl, fun j u hj => by
    rw [cell_of_blk (blk_new w _), Nat.zero_add, ← Array.getElem?_toList, hc]
    simpa [El.cells] using hj⟩, by simp, by simp⟩
theorem cell_al {w : World} {p : Addr} {v : Value} (h : w.cell? p = some v) (o : Obj) : (w.alloc o).cell? p = some v := ((Keeps.refl no w).alloc o).cellN h
/-! ### a list's mark -/
def mkL (zs : List Int) : Tx := zs.foldl (fun r n => r.push (UInt8.ofNat n.toNat)) ByteArray.empty
theorem conv3 (W : World) (B : Nat) (z1 z2 z3 : Int) (h : W.heap[B]? = some (.cells #[.int .u8 z1, .int .u8 z2, .int .u8 z3] 5 (0, 0))) : (convert 38 9 (.slice (some ⟨B, 0, none⟩) 3 3)).run Tryz.prog W = .ok (.string (mkL [z1, z2, z3])) W := by
  rw [run_convert_bytes_string W 38 9 5 _ 3 3 Tryz.underlying38 Tryz.underlying5 Tryz.underlying9]
  have hload := run_loadCells_list (P := Tryz.prog) W ⟨B, 0, none⟩ [.int .u8 z1, .int .u8 z2, .int .u8 z3] (by
    intro j u hj
    rw [addr_add, Nat.zero_add, cell_of_blk h]
    simpa using hj)
  exact run_bytesToString W ⟨B, 0, none⟩ 3 3 [z1, z2, z3] hload
def mkS (i : Nat) : Tx := mkL [(i : Int), 7, 7]
def mkB (i : Nat) : Nat := 100 + i
def mkO (i : Nat) : Obj := .cells #[.int .u8 (i : Int), .int .u8 7, .int .u8 7] 5
theorem mark_any (i : Nat) (hi : i ≤ 100) (w : World) : Calls Tryz.prog 35 #[.int .i64 (i : Int)] w fun e w' => e = .returned (.string (mkS i)) ∧ w' = w.alloc (mkO i) := by
  have hcv := conv3 (w.alloc (.cells #[.int .u8 (i : Int), .int .u8 7, .int .u8 7] 5)) w.heap.size (i : Int) 7 7 (blk_new w _)
  have hz : IntKind.u8.wrap (i : Int) = (i : Int) := by rw [IntKind.wrap_u8]; omega
  go_enter Tryz.func35, Tryz.ntmps35
  go_wp2_with fail
  go_ret
  exact ⟨rfl, rfl⟩
/-! ### what 'marked' holds of one kind -/
def Tg (e : TypeId) (w : World) (k : Nat) : Prop := ∃ cur, w.heap[k]? = some (.cells cur e (0, 0))
theorem Tg.lt {e : TypeId} {w : World} {k : Nat} (h : Tg e w k) : k < w.heap.size := by
  obtain ⟨cur, h⟩ := h; exact lt_of_block h
theorem Tg.ne {e f : TypeId} {w : World} {k : Nat} (h : Tg e w k) (h' : Tg f w k) : e = f := by
  obtain ⟨a, ha⟩ := h
  obtain ⟨b, hb⟩ := h'
  rw [ha] at hb
  injection hb with hb
  injection hb
/-- a row whose block is of its kind -/
structure Rw (E : El α) (w : World) (o : Option Addr) (xs : List α) : Prop where
  row : Row E w o xs
  tag : ∀ k, inO o k → Tg E.e w k
theorem Own.rw {w : World} {o : Option Addr} {c : Nat} {xs : List α} (h : Own E w o c xs) : Rw E w o xs := ⟨h.row, h.tag⟩
theorem Rw.keeps {S : Nat → Prop} {w w' : World} {o : Option Addr} {xs : List α} (h : Rw E w o xs) (hk : Keeps S w w') (ha : ∀ k, inO o k → ¬ S k) : Rw E w' o xs :=
  ⟨h.row.keeps hk ha, fun k hi => by
    obtain ⟨cur, hc⟩ := h.tag k hi
    exact ⟨cur, hk.at hc (ha k hi)⟩⟩
theorem Rw.keepsN {w w' : World} {o : Option Addr} {xs : List α} (h : Rw E w o xs) (hk : Keeps no w w') : Rw E w' o xs := h.keeps hk (fun _ _ => id)

structure Half1 {α : Type} (E : El α) (X : El (LS α)) (B : Nat) (oA : Option Addr) (cA : Nat) (L : List (LS α)) (F : Nat → List α) (wr : World) : Prop where
  XA : Own X wr oA cA L
  bL : ∀ j, j < L.length → ∀ k, inO (L.getD j ls0).o k → B ≤ k
  eA : ∀ j, j < L.length → Own E wr (L.getD j ls0).o (L.getD j ls0).c (F j)
  fA : ∀ j, j < L.length → (F j).length = (L.getD j ls0).xs.length
  far : ∀ i j, i < L.length → j < L.length → i ≠ j → ∀ k, inO (L.getD i ls0).o k → ¬ inO (L.getD j ls0).o k
theorem Half1.keepsN {B : Nat} {oA : Option Addr} {cA : Nat} {L : List (LS α)} {F : Nat → List α} {wr w' : World} (h : Half1 E X B oA cA L F wr) (k : Keeps no wr w') : Half1 E X B oA cA L F w' :=
  ⟨h.XA.keepsN k, h.bL, fun j hj => (h.eA j hj).keepsN k, h.fA, h.far⟩
/-- what is done to a block of another kind -/
theorem Half1.other {B : Nat} {oA : Option Addr} {cA : Nat} {L : List (LS α)} {F : Nat → List α} {wr w' : World} (h : Half1 E X B oA cA L F wr) {S : Nat → Prop} (hk : Keeps S wr w') (hS : ∀ k, S k → ∃ e, e ≠ E.e ∧ e ≠ X.e ∧ Tg e wr k) : Half1 E X B oA cA L F w' :=
  ⟨h.XA.keeps hk (fun k h1 h2 => by obtain ⟨e, _, he, ht⟩ := hS k h2; exact he (ht.ne (h.XA.tag k h1))), h.bL, fun j hj => (h.eA j hj).keeps hk (fun k h1 h2 => by obtain ⟨e, he, _, ht⟩ := hS k h2; exact he (ht.ne ((h.eA j hj).tag k h1))), h.fA, h.far⟩
/-- one element of one list written over -/
theorem Half1.set (hne : E.e ≠ X.e) {B : Nat} {oA : Option Addr} {cA : Nat} {L : List (LS α)} {F : Nat → List α} {wr w' : World} (h : Half1 E X B oA cA L F wr) (i k : Nat) (hi : i < L.length) (x : α) (ho : Own E w' (L.getD i ls0).o (L.getD i ls0).c ((F i).set k x)) (hk : Keeps (inO (L.getD i ls0).o) wr w') : Half1 E X B oA cA L (fun j => if j = i then (F i).set k x else F j) w' := by
  refine ⟨h.XA.keeps hk (fun b h1 h2 => tags_ne hne (h.eA i hi) h.XA b h2 h1), h.bL, fun j hj => ?_, fun j hj => ?_, h.far⟩
  · by_cases e : j = i
    · rw [if_pos e, e]; exact ho
    · rw [if_neg e]; exact (h.eA j hj).keeps hk (fun b h1 h2 => h.far j i hj hi e b h1 h2)
  · by_cases e : j = i
    · rw [if_pos e, List.length_set, e]; exact h.fA i hi
    · rw [if_neg e]; exact h.fA j hj
theorem Half1.at {B : Nat} {oA : Option Addr} {cA : Nat} {L : List (LS α)} {F : Nat → List α} {wr : World} (h : Half1 E X B oA cA L F wr) (K : Kind E X) (i : Nat) (hi : i < L.length) : ∃ b, oA = some ⟨b, 0, none⟩ ∧ wr.cell? ⟨b, i, none⟩ = some (.slice (L.getD i ls0).o (L.getD i ls0).xs.length (L.getD i ls0).c) := by
  obtain ⟨b, off, e, hc⟩ := h.XA.sl.one K.x K.k ls0 hi _ (K.enc _)
  have ho : off = 0 := by
    rcases h.XA.shape with ⟨e', _⟩ | ⟨g, cur, e', _⟩
    · rw [e'] at e; cases e
    · rw [e'] at e; cases e; rfl
  subst ho
  rw [Nat.zero_add] at hc
  exact ⟨b, e, hc⟩

structure Half2 {α : Type} (E : El α) (X : El (LS α)) (B : Nat) (mk : Nat → α) (oA : Option Addr) (cA : Nat) (L : List (LS α)) (i : Nat) (ol : Option Addr) (cl : Nat) (La : List (LS α)) (wr : World) : Prop where
  XA : Own X wr oA cA L
  bL : ∀ j, j < L.length → ∀ k, inO (L.getD j ls0).o k → B ≤ k
  rA : ∀ j, j < L.length → Rw E wr (L.getD j ls0).o (List.replicate (L.getD j ls0).xs.length (mk j))
  eA : ∀ j, i ≤ j → j < L.length → Own E wr (L.getD j ls0).o (L.getD j ls0).c (List.replicate (L.getD j ls0).xs.length (mk j))
  far : ∀ i j, i < L.length → j < L.length → i ≠ j → ∀ k, inO (L.getD i ls0).o k → ¬ inO (L.getD j ls0).o k
  la : Own X wr ol cl La
  bl : ∀ k, inO ol k → B ≤ k
  sepl : ∀ k, inO ol k → ¬ inO oA k
  len : La.length = i
  lae : ∀ j, j < i → (La.getD j ls0).xs = List.replicate ((L.getD j ls0).xs.length + 40) (mk j) ∧ Own E wr (La.getD j ls0).o (La.getD j ls0).c (La.getD j ls0).xs
  sep : ∀ j, j < i → ∀ t, t < L.length → t ≠ j → ∀ k, inO (La.getD j ls0).o k → ¬ inO (L.getD t ls0).o k
theorem Half2.keepsN {B : Nat} {mk : Nat → α} {oA : Option Addr} {cA : Nat} {L : List (LS α)} {i : Nat} {ol : Option Addr} {cl : Nat} {La : List (LS α)} {wr w' : World} (h : Half2 E X B mk oA cA L i ol cl La wr) (k : Keeps no wr w') : Half2 E X B mk oA cA L i ol cl La w' :=
  ⟨h.XA.keepsN k, h.bL, fun j hj => (h.rA j hj).keepsN k, fun j h1 h2 => (h.eA j h1 h2).keepsN k, h.far, h.la.keepsN k, h.bl, h.sepl, h.len, fun j hj => ⟨(h.lae j hj).1, (h.lae j hj).2.keepsN k⟩, h.sep⟩
theorem Half2.other {B : Nat} {mk : Nat → α} {oA : Option Addr} {cA : Nat} {L : List (LS α)} {i : Nat} {ol : Option Addr} {cl : Nat} {La : List (LS α)} {wr w' : World} (h : Half2 E X B mk oA cA L i ol cl La wr) {S : Nat → Prop} (hk : Keeps S wr w') (hS : ∀ k, S k → ∃ e, e ≠ E.e ∧ e ≠ X.e ∧ Tg e wr k) : Half2 E X B mk oA cA L i ol cl La w' := by
  have hE : ∀ {o : Option Addr}, (∀ k, inO o k → Tg E.e wr k) → ∀ k, inO o k → ¬ S k := fun ht k h1 h2 => by
    obtain ⟨e, he, _, hte⟩ := hS k h2; exact he (hte.ne (ht k h1))
  have hX : ∀ {o : Option Addr}, (∀ k, inO o k → Tg X.e wr k) → ∀ k, inO o k → ¬ S k := fun ht k h1 h2 => by
    obtain ⟨e, _, he, hte⟩ := hS k h2; exact he (hte.ne (ht k h1))
  exact ⟨h.XA.keeps hk (hX h.XA.tag), h.bL, fun j hj => (h.rA j hj).keeps hk (hE (h.rA j hj).tag), fun j h1 h2 => (h.eA j h1 h2).keeps hk (hE (h.eA j h1 h2).tag), h.far, h.la.keeps hk (hX h.la.tag), h.bl, h.sepl, h.len, fun j hj => ⟨(h.lae j hj).1, (h.lae j hj).2.keeps hk (hE (h.lae j hj).2.tag)⟩, h.sep⟩
theorem half2_of {B : Nat} {mk : Nat → α} {oA : Option Addr} {cA : Nat} {L : List (LS α)} {F : Nat → List α} {wr : World} (h : Half1 E X B oA cA L F wr) (hF : ∀ j, j < L.length → F j = List.replicate (L.getD j ls0).xs.length (mk j)) : Half2 E X B mk oA cA L 0 none 0 [] wr :=
  ⟨h.XA, h.bL, fun j hj => by rw [← hF j hj]; exact (h.eA j hj).rw, fun j _ hj => by rw [← hF j hj]; exact h.eA j hj, h.far, own_nil _, fun k ⟨x, e, _⟩ => (by cases e), fun k ⟨x, e, _⟩ => (by cases e), rfl, fun j hj => by omega, fun j hj => by omega⟩
theorem Half2.at {B : Nat} {mk : Nat → α} {oA : Option Addr} {cA : Nat} {L : List (LS α)} {i : Nat} {ol : Option Addr} {cl : Nat} {La : List (LS α)} {wr : World} (h : Half2 E X B mk oA cA L i ol cl La wr) (K : Kind E X) (j : Nat) (hj : j < L.length) : ∃ b, oA = some ⟨b, 0, none⟩ ∧ wr.cell? ⟨b, j, none⟩ = some (.slice (L.getD j ls0).o (L.getD j ls0).xs.length (L.getD j ls0).c) := by
  obtain ⟨b, off, e, hc⟩ := h.XA.sl.one K.x K.k ls0 hj _ (K.enc _)
  have ho : off = 0 := by
    rcases h.XA.shape with ⟨e', _⟩ | ⟨g, cur, e', _⟩
    · rw [e'] at e; cases e
    · rw [e'] at e; cases e; rfl
  subst ho
  rw [Nat.zero_add] at hc
  exact ⟨b, e, hc⟩
theorem Half2.atL {B : Nat} {mk : Nat → α} {oA : Option Addr} {cA : Nat} {L : List (LS α)} {i : Nat} {ol : Option Addr} {cl : Nat} {La : List (LS α)} {wr : World} (h : Half2 E X B mk oA cA L i ol cl La wr) (K : Kind E X) (j : Nat) (hj : j < i) : ∃ b, ol = some ⟨b, 0, none⟩ ∧ wr.cell? ⟨b, j, none⟩ = some (.slice (La.getD j ls0).o ((L.getD j ls0).xs.length + 40) (La.getD j ls0).c) := by
  obtain ⟨b, off, e, hc⟩ := h.la.sl.one K.x K.k ls0 (j := j) (by rw [h.len]; exact hj) _ (K.enc _)
  have ho : off = 0 := by
    rcases h.la.shape with ⟨e', _⟩ | ⟨g, cur, e', _⟩
    · rw [e'] at e; cases e
    · rw [e'] at e; cases e; rfl
  subst ho
  rw [Nat.zero_add, (h.lae j hj).1, List.length_replicate] at hc
  exact ⟨b, e, hc⟩

/-- one list growing -/
structure Grow {α : Type} (E : El α) (wz : World) (oi : Option Addr) (n : Nat) (x : α) (q : Nat) (o : Option Addr) (c : Nat) (wr : World) : Prop where
  own : Own E wr o c (List.replicate (n + q) x)
  at_ : o = oi ∨ New wz o
  kp : Keeps (inO oi) wz wr
  old : Rw E wr oi (List.replicate n x)
theorem Grow.keepsN {wz : World} {oi : Option Addr} {n : Nat} {x : α} {q : Nat} {o : Option Addr} {c : Nat} {wr w' : World} (h : Grow E wz oi n x q o c wr) (k : Keeps no wr w') : Grow E wz oi n x q o c w' :=
  ⟨h.own.keepsN k, h.at_, h.kp.trans k.of_no, h.old.keepsN k⟩
theorem rep_snoc {α : Type} (n : Nat) (x : α) : List.replicate n x ++ [x] = List.replicate (n + 1) x := by
  rw [List.replicate_succ']
theorem Grow.more {wz : World} {oi : Option Addr} {n : Nat} {x : α} {q : Nat} {o : Option Addr} {c : Nat} {wr w' : World} (hE : E.Ok) (hlt : ∀ k, inO oi k → k < wz.heap.size) (h : Grow E wz oi n x q o c wr) {o' : Option Addr} {c' : Nat} (ho : Own E w' o' c' (List.replicate (n + q) x ++ [x])) (hap : Ap wr o o' w') : Grow E wz oi n x (q + 1) o' c' w' := by
  rw [rep_snoc] at ho
  have ho' : Own E w' o' c' (List.replicate (n + (q + 1)) x) := ho
  have htake : (List.replicate (n + (q + 1)) x).take n = List.replicate n x := by
    rw [List.take_replicate, Nat.min_eq_left (by omega)]
  rcases h.at_ with e | hn
  · subst e
    rcases hap with ⟨e, hk⟩ | ⟨⟨g, e, hg⟩, hk⟩
    · subst e
      exact ⟨ho', .inl rfl, h.kp.trans hk, ⟨by have := ho'.row.take hE n; rwa [htake] at this, ho'.tag⟩⟩
    · refine ⟨ho', .inr ?_, h.kp.trans hk.of_no, h.old.keepsN hk⟩
      rintro k ⟨y, ey, rfl⟩
      rw [e] at ey
      cases ey
      exact Nat.le_trans h.kp.size hg
  · have hapart : ∀ k, inO oi k → ¬ inO o k := fun k h1 h2 => by have := hlt k h1; have := hn k h2; omega
    rcases hap with ⟨e, hk⟩ | ⟨⟨g, e, hg⟩, hk⟩
    · subst e
      exact ⟨ho', .inr hn, h.kp.then hk (fun k hk2 => .inr (hn k hk2)), h.old.keeps hk hapart⟩
    · refine ⟨ho', .inr ?_, h.kp.trans hk.of_no, h.old.keepsN hk⟩
      rintro k ⟨y, ey, rfl⟩
      rw [e] at ey
      cases ey
      exact Nat.le_trans h.kp.size hg
/-- a list grown is laid behind the others -/
theorem Half2.push (hne : E.e ≠ X.e) {B : Nat} {mk : Nat → α} {oA : Option Addr} {cA : Nat} {L : List (LS α)} {i : Nat} {ol : Option Addr} {cl : Nat} {La : List (LS α)} {wz wr w' : World} (h : Half2 E X B mk oA cA L i ol cl La wz) (hi : i < L.length) {o : Option Addr} {c : Nat} (hg : Grow E wz (L.getD i ls0).o (L.getD i ls0).xs.length (mk i) 40 o c wr) (hB : B ≤ wz.heap.size)
    {o' : Option Addr} {c' : Nat} (ho : Own X w' o' c' (La ++ [⟨o, c, List.replicate ((L.getD i ls0).xs.length + 40) (mk i)⟩])) (hap : Ap wr ol o' w') : Half2 E X B mk oA cA L (i + 1) o' c' (La ++ [⟨o, c, List.replicate ((L.getD i ls0).xs.length + 40) (mk i)⟩]) w' := by
  have hk := hg.kp
  have hXA : Own X wr oA cA L := h.XA.keeps hk (fun b h1 h2 => tags_ne hne (h.eA i (Nat.le_refl _) hi) h.XA b h2 h1)
  have hla : Own X wr ol cl La := h.la.keeps hk (fun b h1 h2 => tags_ne hne (h.eA i (Nat.le_refl _) hi) h.la b h2 h1)
  have hk2 : Keeps (inO ol) wr w' := by
    rcases hap with ⟨_, hk⟩ | ⟨_, hk⟩
    · exact hk
    · exact hk.of_no
  have hE2 : ∀ {p : Option Addr}, (∀ k, inO p k → Tg E.e wr k) → ∀ k, inO p k → ¬ inO ol k := fun ht k h1 h2 => hne ((ht k h1).ne (hla.tag k h2))
  have hr : ∀ j, j < L.length → Rw E wr (L.getD j ls0).o (List.replicate (L.getD j ls0).xs.length (mk j)) := by
    intro j hj
    by_cases e : j = i
    · rw [e]; exact hg.old
    · exact (h.rA j hj).keeps hk (fun b h1 h2 => h.far j i hj hi e b h1 h2)
  have hlist : ∀ j, (La ++ [(⟨o, c, List.replicate ((L.getD i ls0).xs.length + 40) (mk i)⟩ : LS α)]).getD j ls0 = if j < i then La.getD j ls0 else if j = i then ⟨o, c, List.replicate ((L.getD i ls0).xs.length + 40) (mk i)⟩ else ls0 := by
    intro j
    rw [getD_append, h.len]
    by_cases h1 : j < i
    · rw [if_pos h1, if_pos h1]
    · rw [if_neg h1, if_neg h1]
      by_cases h2 : j = i
      · rw [if_pos h2, h2]; simp
      · rw [if_neg h2, List.getD_eq_getElem?_getD, List.getElem?_eq_none (by simp; omega)]; rfl
  refine ⟨hXA.keeps hk2 (fun k h1 h2 => h.sepl k h2 h1), h.bL, fun j hj => (hr j hj).keeps hk2 (hE2 (hr j hj).tag), ?_, h.far, ho, ?_, ?_, by rw [List.length_append, h.len]; rfl, ?_, ?_⟩
  · intro j h1 h2
    have he : Own E wr (L.getD j ls0).o (L.getD j ls0).c (List.replicate (L.getD j ls0).xs.length (mk j)) := (h.eA j (by omega) h2).keeps hk (fun b h3 h4 => h.far j i h2 hi (by omega) b h3 h4)
    exact he.keeps hk2 (hE2 he.tag)
  · intro k hk3
    rcases hap with ⟨e, _⟩ | ⟨⟨g, e, hgg⟩, _⟩
    · rw [e] at hk3; exact h.bl k hk3
    · obtain ⟨y, ey, rfl⟩ := hk3
      rw [e] at ey
      cases ey
      exact Nat.le_trans (Nat.le_trans hB hk.size) hgg
  · intro k hk3 hk4
    rcases hap with ⟨e, _⟩ | ⟨⟨g, e, hgg⟩, _⟩
    · rw [e] at hk3; exact h.sepl k hk3 hk4
    · obtain ⟨y, ey, rfl⟩ := hk3
      rw [e] at ey
      cases ey
      have := hXA.lt _ hk4
      simp at this
      omega
  · intro j hj
    rw [hlist j]
    by_cases h1 : j < i
    · rw [if_pos h1]
      have ho2 : Own E wr (La.getD j ls0).o (La.getD j ls0).c (La.getD j ls0).xs := (h.lae j h1).2.keeps hk (fun b h3 h4 => h.sep j h1 i hi (by omega) b h3 h4)
      exact ⟨(h.lae j h1).1, ho2.keeps hk2 (hE2 ho2.tag)⟩
    · have e : j = i := by omega
      rw [if_neg h1, if_pos e]
      subst e
      exact ⟨rfl, hg.own.keeps hk2 (hE2 hg.own.tag)⟩
  · intro j hj t ht htj k
    rw [hlist j]
    by_cases h1 : j < i
    · rw [if_pos h1]; exact h.sep j h1 t ht htj k
    · have e : j = i := by omega
      rw [if_neg h1, if_pos e]
      intro h3 h4
      rcases hg.at_ with e2 | hn
      · rw [show (⟨o, c, List.replicate ((L.getD i ls0).xs.length + 40) (mk i)⟩ : LS α).o = o from rfl, e2] at h3
        exact h.far i t hi ht (by omega) k h3 h4
      · have := hn k h3
        have := ((h.rA t ht).tag k h4).lt
        omega
end Go.Proofs.YtjklpcamlppegaaGreat
/- MsgKeeps: what 'marked' holds of both kinds. -/
namespace Go.Proofs.YtjklpcamlppegaaGreat
open Go.RowKit Go.Sort Orl Pk
set_option linter.unusedVariables false
set_option linter.unusedSimpArgs false

theorem frozen_al {w : World} {p : Addr} (h : w.frozen? p = false) (hb : p.block < w.heap.size) (o : Obj) : (w.alloc o).frozen? p = false := by
  unfold World.frozen? at h ⊢
  rw [Below.heap_alloc w o p.block hb]
  exact h
theorem lit_one2 {α : Type} {E : El α} (w : World) (o : Obj) (x : α) (cs : Array Value) (hc : cs.toList = E.enc x) : Sl E ((w.alloc o).alloc (.cells cs E.e)) (some ⟨w.heap.size + 1, 0, none⟩) 1 [x] := by
  have := lit_one (E := E) (w.alloc o) x cs hc
  have e : (w.alloc o).heap.size = w.heap.size + 1 := by simp
  rwa [e] at this
def rep {α : Type} (mk : Nat → α) (L : List (LS α)) (j : Nat) : List α := List.replicate (L.getD j ls0).xs.length (mk j)
theorem rep_of {α : Type} (mk : Nat → α) (L : List (LS α)) (j : Nat) (d : α) (f : List α) (hl : f.length = (L.getD j ls0).xs.length) (h : ∀ t, t < (L.getD j ls0).xs.length → f.getD t d = mk j) : f = rep mk L j := by
  unfold rep
  apply List.ext_getElem (by simp [hl])
  intro t h1 h2
  have := h t (by omega)
  rw [List.getD_eq_getElem?_getD, List.getElem?_eq_getElem h1] at this
  simp at this
  simp [this]


/-! ### a region that draws, only reads, and calls 'mark': its worlds are those with some marks' bytes more -/
def al (w : World) (O : Obj) : Nat → World
  | 0 => w
  | n + 1 => (al w O n).alloc O
theorem al_keeps (w : World) (O : Obj) : ∀ n, Keeps no w (al w O n)
  | 0 => Keeps.refl _ _
  | n + 1 => (al_keeps w O n).alloc O
theorem al_cell {w : World} (O : Obj) {p : Addr} {v : Value} (h : w.cell? p = some v) : ∀ n, (al w O n).cell? p = some v := fun n => (al_keeps w O n).cellN h
theorem region_marks {id : Nat} {Q : Exit → Act → World → Prop} {a : Act} {w : World} {l : List Oper} (O : Obj) (hm : Tryz.prog.follows .mixedOrders = true) (hB : Region.lexB .any l.toArray = true)
    (h : wpQuiet Tryz.prog l.toArray (fun w' => ∃ n, w' = (al w O n).drewN 1) (fun a' => ∀ w', (∃ n, w' = (al w O n).drewN 1) → Q .normal a' w') l a) : (Code.region id l.toArray true).wp Tryz.prog Q a w :=
  wp_region_quiet (C := fun w' => ∃ n, w' = (al w O n).drewN 1) hm hB ⟨0, rfl⟩ (by simpa using h)
theorem mark_al (i : Nat) (hi : i ≤ 100) (w : World) (n : Nat) : Calls Tryz.prog 35 #[.int .i64 (i : Int)] ((al w (mkO i) n).drewN 1) fun e w'' => e = .returned (.string (mkS i)) ∧ ∃ m, w'' = (al w (mkO i) m).drewN 1 :=
  (mark_any i hi _).mono fun e w' ⟨he, hw⟩ => ⟨he, n + 1, by rw [hw]; rfl⟩

/-! ### both kinds together -/
structure One (B : Nat) (w : World) (oA : Option Addr) (cA : Nat) (L : List (LS Nat)) (F : Nat → List Nat) (oX : Option Addr) (cX : Nat) (Y : List (LS Tx)) (H : Nat → List Tx) (wr : World) : Prop where
  t : Half1 BB ZE B oA cA L F wr
  p : Half1 TE XE B oX cX Y H wr
  kp : Keeps (fun k => B ≤ k) w wr
structure Both (B : Nat) (w : World) (oA : Option Addr) (cA : Nat) (L : List (LS Nat)) (i : Nat) (ol : Option Addr) (cl : Nat) (La : List (LS Nat)) (oX : Option Addr) (cX : Nat) (Y : List (LS Tx)) (j : Nat) (ox : Option Addr) (cx : Nat) (Lx : List (LS Tx)) (wr : World) : Prop where
  t : Half2 BB ZE B mkB oA cA L i ol cl La wr
  p : Half2 TE XE B mkS oX cX Y j ox cx Lx wr
  kp : Keeps (fun k => B ≤ k) w wr
theorem One.keepsN {B : Nat} {w : World} {oA : Option Addr} {cA : Nat} {L : List (LS Nat)} {F : Nat → List Nat} {oX : Option Addr} {cX : Nat} {Y : List (LS Tx)} {H : Nat → List Tx} {wr w' : World} (h : One B w oA cA L F oX cX Y H wr) (k : Keeps no wr w') : One B w oA cA L F oX cX Y H w' := ⟨h.t.keepsN k, h.p.keepsN k, h.kp.trans k.of_no⟩
theorem Both.keepsN {B : Nat} {w : World} {oA : Option Addr} {cA : Nat} {L : List (LS Nat)} {i : Nat} {ol : Option Addr} {cl : Nat} {La : List (LS Nat)} {oX : Option Addr} {cX : Nat} {Y : List (LS Tx)} {j : Nat} {ox : Option Addr} {cx : Nat} {Lx : List (LS Tx)} {wr w' : World} (h : Both B w oA cA L i ol cl La oX cX Y j ox cx Lx wr) (k : Keeps no wr w') : Both B w oA cA L i ol cl La oX cX Y j ox cx Lx w' := ⟨h.t.keepsN k, h.p.keepsN k, h.kp.trans k.of_no⟩
theorem One.setT {B : Nat} {w : World} {oA : Option Addr} {cA : Nat} {L : List (LS Nat)} {F : Nat → List Nat} {oX : Option Addr} {cX : Nat} {Y : List (LS Tx)} {H : Nat → List Tx} {wr : World} (h : One B w oA cA L F oX cX Y H wr) (i k n : Nat) (hi : i < L.length) (hk : k < n) (hn : n = (L.getD i ls0).xs.length) (x : Nat) :
    ∃ g, (L.getD i ls0).o = some ⟨g, 0, none⟩ ∧ (∃ v : Nat, wr.cell? ⟨g, k, none⟩ = some (.int .u8 (v : Nat))) ∧ wr.frozen? ⟨g, k, none⟩ = false ∧ One B w oA cA L (fun j => if j = i then (F i).set k x else F j) oX cX Y H (wr.setCell ⟨g, k, none⟩ (.int .u8 (x : Nat))) := by
  obtain ⟨g, e, h1, h2, h3, h4⟩ := (h.t.eA i hi).store1 okBB rfl (fun c : Nat => Value.int .u8 (c : Nat)) (fun _ => rfl) 0 k (by rw [h.t.fA i hi, ← hn]; exact hk) x
  exact ⟨g, e, ⟨_, h1⟩, h2, h.t.set (by decide) i k hi x h3 h4, h.p.other h4 (fun b hb => ⟨5, by decide, by decide, (h.t.eA i hi).tag b hb⟩), h.kp.trans (h4.mono (h.t.bL i hi))⟩
theorem One.setP {B : Nat} {w : World} {oA : Option Addr} {cA : Nat} {L : List (LS Nat)} {F : Nat → List Nat} {oX : Option Addr} {cX : Nat} {Y : List (LS Tx)} {H : Nat → List Tx} {wr : World} (h : One B w oA cA L F oX cX Y H wr) (i k n : Nat) (hi : i < Y.length) (hk : k < n) (hn : n = (Y.getD i ls0).xs.length) (x : Tx) :
    ∃ g, (Y.getD i ls0).o = some ⟨g, 0, none⟩ ∧ (∃ v, wr.cell? ⟨g, k, none⟩ = some (.string v)) ∧ wr.frozen? ⟨g, k, none⟩ = false ∧ One B w oA cA L F oX cX Y (fun j => if j = i then (H i).set k x else H j) (wr.setCell ⟨g, k, none⟩ (.string x)) := by
  obtain ⟨g, e, h1, h2, h3, h4⟩ := (h.p.eA i hi).store1 okT rfl Value.string (fun _ => rfl) e0 k (by rw [h.p.fA i hi, ← hn]; exact hk) x
  exact ⟨g, e, ⟨_, h1⟩, h2, h.t.other h4 (fun b hb => ⟨9, by decide, by decide, (h.p.eA i hi).tag b hb⟩), h.p.set (by decide) i k hi x h3 h4, h.kp.trans (h4.mono (h.p.bL i hi))⟩
theorem Both.pushT {B : Nat} {w : World} {oA : Option Addr} {cA : Nat} {L : List (LS Nat)} {i : Nat} {ol : Option Addr} {cl : Nat} {La : List (LS Nat)} {oX : Option Addr} {cX : Nat} {Y : List (LS Tx)} {j : Nat} {ox : Option Addr} {cx : Nat} {Lx : List (LS Tx)} {wz wr w' : World} (h : Both B w oA cA L i ol cl La oX cX Y j ox cx Lx wz) (hB : B ≤ w.heap.size) (hi : i < L.length) {o : Option Addr} {c : Nat} (hg : Grow BB wz (L.getD i ls0).o (L.getD i ls0).xs.length (mkB i) 40 o c wr)
    {o' : Option Addr} {c' : Nat} (ho : Own ZE w' o' c' (La ++ [⟨o, c, List.replicate ((L.getD i ls0).xs.length + 40) (mkB i)⟩])) (hap : Ap wr ol o' w') : Both B w oA cA L (i + 1) o' c' (La ++ [⟨o, c, List.replicate ((L.getD i ls0).xs.length + 40) (mkB i)⟩]) oX cX Y j ox cx Lx w' := by
  have hk2 : Keeps (inO ol) wr w' := by
    rcases hap with ⟨_, hk⟩ | ⟨_, hk⟩
    · exact hk
    · exact hk.of_no
  have hla : Own ZE wr ol cl La := h.t.la.keeps hg.kp (fun b h1 h2 => tags_ne (by decide) (h.t.eA i (Nat.le_refl _) hi) h.t.la b h2 h1)
  have hp1 := h.p.other hg.kp (fun b hb => ⟨5, by decide, by decide, (h.t.eA i (Nat.le_refl _) hi).tag b hb⟩)
  exact ⟨h.t.push (by decide) hi hg (Nat.le_trans hB h.kp.size) ho hap, hp1.other hk2 (fun b hb => ⟨38, by decide, by decide, hla.tag b hb⟩), (h.kp.trans (hg.kp.mono (h.t.bL i hi))).trans (hk2.mono h.t.bl)⟩
theorem Both.pushP {B : Nat} {w : World} {oA : Option Addr} {cA : Nat} {L : List (LS Nat)} {i : Nat} {ol : Option Addr} {cl : Nat} {La : List (LS Nat)} {oX : Option Addr} {cX : Nat} {Y : List (LS Tx)} {j : Nat} {ox : Option Addr} {cx : Nat} {Lx : List (LS Tx)} {wz wr w' : World} (h : Both B w oA cA L i ol cl La oX cX Y j ox cx Lx wz) (hB : B ≤ w.heap.size) (hj : j < Y.length) {o : Option Addr} {c : Nat} (hg : Grow TE wz (Y.getD j ls0).o (Y.getD j ls0).xs.length (mkS j) 40 o c wr)
    {o' : Option Addr} {c' : Nat} (ho : Own XE w' o' c' (Lx ++ [⟨o, c, List.replicate ((Y.getD j ls0).xs.length + 40) (mkS j)⟩])) (hap : Ap wr ox o' w') : Both B w oA cA L i ol cl La oX cX Y (j + 1) o' c' (Lx ++ [⟨o, c, List.replicate ((Y.getD j ls0).xs.length + 40) (mkS j)⟩]) w' := by
  have hk2 : Keeps (inO ox) wr w' := by
    rcases hap with ⟨_, hk⟩ | ⟨_, hk⟩
    · exact hk
    · exact hk.of_no
  have hla : Own XE wr ox cx Lx := h.p.la.keeps hg.kp (fun b h1 h2 => tags_ne (by decide) (h.p.eA j (Nat.le_refl _) hj) h.p.la b h2 h1)
  have hp1 := h.t.other hg.kp (fun b hb => ⟨9, by decide, by decide, (h.p.eA j (Nat.le_refl _) hj).tag b hb⟩)
  exact ⟨hp1.other hk2 (fun b hb => ⟨25, by decide, by decide, hla.tag b hb⟩), h.p.push (by decide) hj hg (Nat.le_trans hB h.kp.size) ho hap, (h.kp.trans (hg.kp.mono (h.p.bL j hj))).trans (hk2.mono h.p.bl)⟩
theorem both_of {B : Nat} {w : World} {oA : Option Addr} {cA : Nat} {L : List (LS Nat)} {F : Nat → List Nat} {oX : Option Addr} {cX : Nat} {Y : List (LS Tx)} {H : Nat → List Tx} {wr : World} (h : One B w oA cA L F oX cX Y H wr) (hF : ∀ j, j < L.length → F j = rep mkB L j) (hH : ∀ j, j < Y.length → H j = rep mkS Y j) : Both B w oA cA L 0 none 0 [] oX cX Y 0 none 0 [] wr :=
  ⟨half2_of h.t hF, half2_of h.p hH, h.kp⟩
theorem grow_nil {α : Type} {E : El α} {wz : World} {o : Option Addr} {c n : Nat} {x : α} (h : Own E wz o c (List.replicate n x)) : Grow E wz o n x 0 o c wz := ⟨h, .inl rfl, Keeps.refl _ _, h.rw⟩
/-- the marks of one list, as they are read again -/
theorem Half2.read {α : Type} {E : El α} {X : El (LS α)} {B : Nat} {mk : Nat → α} {oA : Option Addr} {cA : Nat} {L : List (LS α)} {i : Nat} {ol : Option Addr} {cl : Nat} {La : List (LS α)} {wr : World} (h : Half2 E X B mk oA cA L i ol cl La wr) (j : Nat) (hj : j < i) : Sl E wr (La.getD j ls0).o (La.getD j ls0).c (List.replicate ((L.getD j ls0).xs.length + 40) (mk j)) := by
  have := (h.lae j hj).2.sl
  rwa [(h.lae j hj).1] at this
end Go.Proofs.YtjklpcamlppegaaGreat
