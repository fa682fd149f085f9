import Derived.Test.YtlpfoieoopjmgaaPS
import Derived.BigRegion
namespace Go.Proofs.Ytlpfoieoopjmgaa
open Go.RowKit
set_option linter.unusedVariables false
set_option linter.unusedSimpArgs false

/-! ### a list's mark -/
def mkL (zs : List Int) : Tx := zs.foldl (fun r n => r.push (UInt8.ofNat n.toNat)) ByteArray.empty
theorem conv5 (W : World) (B : Nat) (z1 z2 z3 z4 z5 : Int) (h : W.heap[B]? = some (.cells #[.int .u8 z1, .int .u8 z2, .int .u8 z3, .int .u8 z4, .int .u8 z5] 5 (0, 0))) : (convert 70 9 (.slice (some ⟨B, 0, none⟩) 5 5)).run Try.prog W = .ok (.string (mkL [z1, z2, z3, z4, z5])) W := by
  rw [run_convert_bytes_string W 70 9 5 _ 5 5 Try.underlying70 Try.underlying5 Try.underlying9]
  have hload := run_loadCells_list (P := Try.prog) W ⟨B, 0, none⟩ [.int .u8 z1, .int .u8 z2, .int .u8 z3, .int .u8 z4, .int .u8 z5] (by
    intro j u hj
    rw [addr_add, Nat.zero_add, cell_of_blk h]
    simpa using hj)
  exact run_bytesToString W ⟨B, 0, none⟩ 5 5 [z1, z2, z3, z4, z5] hload
def mkZ (i : Nat) : Int := IntKind.u8.wrap (i : Int)
def mkT (i : Nat) : Tx := mkL [mkZ i, (i : Int) / 256, 7, 7, 7]
def mkP (i : Nat) : Pr := (mkT i, e0)
def mkO (i : Nat) : Obj := .cells #[.int .u8 (mkZ i), .int .u8 ((i : Int) / 256), .int .u8 7, .int .u8 7, .int .u8 7] 5
theorem mark_any (i : Nat) (hi : i ≤ 1000) (w : World) : Calls Try.prog 26 #[.int .i64 (i : Int)] w fun e w' => e = .returned (.string (mkT i)) ∧ w' = w.alloc (mkO i) := by
  have hz : IntKind.u8.wrap (i : Int) = mkZ i := rfl
  have hcv := conv5 (w.alloc (.cells #[.int .u8 (mkZ i), .int .u8 ((i : Int) / 256), .int .u8 7, .int .u8 7, .int .u8 7] 5)) w.heap.size (mkZ i) ((i : Int) / 256) 7 7 7 (blk_new w _)
  obtain ⟨z1, hz1⟩ : ∃ z, z = mkZ i := ⟨_, rfl⟩
  rw [← hz1] at hz hcv
  have HZ : Hid (z1 = mkZ i) := hz1
  clear hz1
  go_enter Try.func26, Try.ntmps26
  go_wp2_with fail
  go_ret
  exact ⟨by rw [HZ.out]; rfl, by rw [HZ.out]; rfl⟩

/-! ### two cells written over -/
variable {α : Type} {E : El α} {X : El (LS α)}
theorem cells_set2 (hE : E.Ok) (hk : E.k = 2) (x : α) (u v : Value) (hx : E.enc x = [u, v]) : ∀ (xs : List α) (j : Nat), j < xs.length → E.cells (xs.set j x) = ((E.cells xs).set (j * 2) u).set (j * 2 + 1) v
  | [], j, h => by simp at h
  | y :: r, 0, _ => by
    have hl := hE.len y
    rw [hk] at hl
    match hy : E.enc y, hl with
    | [p, q], _ => simp [El.cells, hx, hy]
  | y :: r, j + 1, h => by
    have ih := cells_set2 hE hk x u v hx r j (by simpa using h)
    have hl := hE.len y
    rw [hk] at hl
    match hy : E.enc y, hl with
    | [p, q], _ =>
      simp only [El.cells, List.set_cons_succ, List.flatMap_cons, hy] at ih ⊢
      rw [ih, show (j + 1) * 2 = j * 2 + 1 + 1 by omega]
      rfl
theorem Own.store2 {w : World} {o : Option Addr} {c : Nat} {xs : List α} (hE : E.Ok) (hk : E.k = 2) (d : α) (h : Own E w o c xs) (j : Nat) (hj : j < xs.length) (s : α) (u v a b : Value) (hs : E.enc s = [u, v]) (hd : E.enc (xs.getD j d) = [a, b]) :
    ∃ g, o = some ⟨g, 0, none⟩ ∧ w.cell? ⟨g, j * 2, none⟩ = some a ∧ w.cell? ⟨g, j * 2 + 1, none⟩ = some b ∧ w.frozen? ⟨g, j * 2, none⟩ = false ∧ w.frozen? ⟨g, j * 2 + 1, none⟩ = false ∧ Own E ((w.setCell ⟨g, j * 2, none⟩ u).setCell ⟨g, j * 2 + 1, none⟩ v) o c (xs.set j s) ∧ Keeps (inO o) w ((w.setCell ⟨g, j * 2, none⟩ u).setCell ⟨g, j * 2 + 1, none⟩ v) := by
  rcases h.shape with ⟨_, _, e⟩ | ⟨g, cur, rfl, hg, hc, hm, hs2, ht⟩
  · rw [e] at hj; simp at hj
  · obtain ⟨b', off, e, h1, h2⟩ := h.sl.two hE hk d hj _ _ hd
    cases e
    rw [Nat.zero_add] at h1 h2
    refine ⟨g, rfl, h1, h2, frozen_of_blk hg _, frozen_of_blk hg _, ?_, ((Keeps.refl _ _).setCell (.inl ⟨_, rfl, rfl⟩) _).setCell (.inl ⟨_, rfl, rfl⟩) _⟩
    refine own_of_shape hE (blk_set (blk_set hg _ _) _ _) (by simpa using hc) hm (by simp [hs2]) ?_
    rw [cells_set2 hE hk s u v hs xs j hj]
    simp only [Array.toList_setIfInBounds, List.length_set]
    rw [List.take_set, List.take_set, ht]

/-! ### what 'marked' holds of one kind -/
def Tg (e : TypeId) (w : World) (k : Nat) : Prop := ∃ cur, w.heap[k]? = some (.cells cur e (0, 0))
theorem Tg.lt {e : TypeId} {w : World} {k : Nat} (h : Tg e w k) : k < w.heap.size := by
  obtain ⟨cur, h⟩ := h; exact lt_of_block h
theorem Tg.ne {e f : TypeId} {w : World} {k : Nat} (h : Tg e w k) (h' : Tg f w k) : e = f := by
  obtain ⟨a, ha⟩ := h
  obtain ⟨b, hb⟩ := h'
  rw [ha] at hb
  injection hb with hb
  injection hb
/-- a row whose block is of its kind -/
structure Rw (E : El α) (w : World) (o : Option Addr) (xs : List α) : Prop where
  row : Row E w o xs
  tag : ∀ k, inO o k → Tg E.e w k
theorem Own.rw {w : World} {o : Option Addr} {c : Nat} {xs : List α} (h : Own E w o c xs) : Rw E w o xs := ⟨h.row, h.tag⟩
theorem Rw.keeps {S : Nat → Prop} {w w' : World} {o : Option Addr} {xs : List α} (h : Rw E w o xs) (hk : Keeps S w w') (ha : ∀ k, inO o k → ¬ S k) : Rw E w' o xs :=
  ⟨h.row.keeps hk ha, fun k hi => by
    obtain ⟨cur, hc⟩ := h.tag k hi
    exact ⟨cur, hk.at hc (ha k hi)⟩⟩
theorem Rw.keepsN {w w' : World} {o : Option Addr} {xs : List α} (h : Rw E w o xs) (hk : Keeps no w w') : Rw E w' o xs := h.keeps hk (fun _ _ => id)

structure Half1 {α : Type} (E : El α) (X : El (LS α)) (B : Nat) (oA : Option Addr) (cA : Nat) (L : List (LS α)) (F : Nat → List α) (wr : World) : Prop where
  XA : Own X wr oA cA L
  bL : ∀ j, j < L.length → ∀ k, inO (L.getD j ls0).o k → B ≤ k
  eA : ∀ j, j < L.length → Own E wr (L.getD j ls0).o (L.getD j ls0).c (F j)
  fA : ∀ j, j < L.length → (F j).length = (L.getD j ls0).xs.length
  far : ∀ i j, i < L.length → j < L.length → i ≠ j → ∀ k, inO (L.getD i ls0).o k → ¬ inO (L.getD j ls0).o k
theorem Half1.keepsN {B : Nat} {oA : Option Addr} {cA : Nat} {L : List (LS α)} {F : Nat → List α} {wr w' : World} (h : Half1 E X B oA cA L F wr) (k : Keeps no wr w') : Half1 E X B oA cA L F w' :=
  ⟨h.XA.keepsN k, h.bL, fun j hj => (h.eA j hj).keepsN k, h.fA, h.far⟩
/-- what is done to a block of another kind -/
theorem Half1.other {B : Nat} {oA : Option Addr} {cA : Nat} {L : List (LS α)} {F : Nat → List α} {wr w' : World} (h : Half1 E X B oA cA L F wr) {S : Nat → Prop} (hk : Keeps S wr w') (hS : ∀ k, S k → ∃ e, e ≠ E.e ∧ e ≠ X.e ∧ Tg e wr k) : Half1 E X B oA cA L F w' :=
  ⟨h.XA.keeps hk (fun k h1 h2 => by obtain ⟨e, _, he, ht⟩ := hS k h2; exact he (ht.ne (h.XA.tag k h1))), h.bL, fun j hj => (h.eA j hj).keeps hk (fun k h1 h2 => by obtain ⟨e, he, _, ht⟩ := hS k h2; exact he (ht.ne ((h.eA j hj).tag k h1))), h.fA, h.far⟩
/-- one element of one list written over -/
theorem Half1.set (hne : E.e ≠ X.e) {B : Nat} {oA : Option Addr} {cA : Nat} {L : List (LS α)} {F : Nat → List α} {wr w' : World} (h : Half1 E X B oA cA L F wr) (i k : Nat) (hi : i < L.length) (x : α) (ho : Own E w' (L.getD i ls0).o (L.getD i ls0).c ((F i).set k x)) (hk : Keeps (inO (L.getD i ls0).o) wr w') : Half1 E X B oA cA L (fun j => if j = i then (F i).set k x else F j) w' := by
  refine ⟨h.XA.keeps hk (fun b h1 h2 => tags_ne hne (h.eA i hi) h.XA b h2 h1), h.bL, fun j hj => ?_, fun j hj => ?_, h.far⟩
  · by_cases e : j = i
    · rw [if_pos e, e]; exact ho
    · rw [if_neg e]; exact (h.eA j hj).keeps hk (fun b h1 h2 => h.far j i hj hi e b h1 h2)
  · by_cases e : j = i
    · rw [if_pos e, List.length_set, e]; exact h.fA i hi
    · rw [if_neg e]; exact h.fA j hj
theorem Half1.at {B : Nat} {oA : Option Addr} {cA : Nat} {L : List (LS α)} {F : Nat → List α} {wr : World} (h : Half1 E X B oA cA L F wr) (K : Kind E X) (i : Nat) (hi : i < L.length) : ∃ b, oA = some ⟨b, 0, none⟩ ∧ wr.cell? ⟨b, i, none⟩ = some (.slice (L.getD i ls0).o (L.getD i ls0).xs.length (L.getD i ls0).c) := by
  obtain ⟨b, off, e, hc⟩ := h.XA.sl.one K.x K.k ls0 hi _ (K.enc _)
  have ho : off = 0 := by
    rcases h.XA.shape with ⟨e', _⟩ | ⟨g, cur, e', _⟩
    · rw [e'] at e; cases e
    · rw [e'] at e; cases e; rfl
  subst ho
  rw [Nat.zero_add] at hc
  exact ⟨b, e, hc⟩

structure Half2 {α : Type} (E : El α) (X : El (LS α)) (B : Nat) (mk : Nat → α) (oA : Option Addr) (cA : Nat) (L : List (LS α)) (i : Nat) (ol : Option Addr) (cl : Nat) (La : List (LS α)) (wr : World) : Prop where
  XA : Own X wr oA cA L
  bL : ∀ j, j < L.length → ∀ k, inO (L.getD j ls0).o k → B ≤ k
  rA : ∀ j, j < L.length → Rw E wr (L.getD j ls0).o (List.replicate (L.getD j ls0).xs.length (mk j))
  eA : ∀ j, i ≤ j → j < L.length → Own E wr (L.getD j ls0).o (L.getD j ls0).c (List.replicate (L.getD j ls0).xs.length (mk j))
  far : ∀ i j, i < L.length → j < L.length → i ≠ j → ∀ k, inO (L.getD i ls0).o k → ¬ inO (L.getD j ls0).o k
  la : Own X wr ol cl La
  bl : ∀ k, inO ol k → B ≤ k
  sepl : ∀ k, inO ol k → ¬ inO oA k
  len : La.length = i
  lae : ∀ j, j < i → (La.getD j ls0).xs = List.replicate ((L.getD j ls0).xs.length + 30) (mk j) ∧ Own E wr (La.getD j ls0).o (La.getD j ls0).c (La.getD j ls0).xs
  sep : ∀ j, j < i → ∀ t, t < L.length → t ≠ j → ∀ k, inO (La.getD j ls0).o k → ¬ inO (L.getD t ls0).o k
theorem Half2.keepsN {B : Nat} {mk : Nat → α} {oA : Option Addr} {cA : Nat} {L : List (LS α)} {i : Nat} {ol : Option Addr} {cl : Nat} {La : List (LS α)} {wr w' : World} (h : Half2 E X B mk oA cA L i ol cl La wr) (k : Keeps no wr w') : Half2 E X B mk oA cA L i ol cl La w' :=
  ⟨h.XA.keepsN k, h.bL, fun j hj => (h.rA j hj).keepsN k, fun j h1 h2 => (h.eA j h1 h2).keepsN k, h.far, h.la.keepsN k, h.bl, h.sepl, h.len, fun j hj => ⟨(h.lae j hj).1, (h.lae j hj).2.keepsN k⟩, h.sep⟩
theorem Half2.other {B : Nat} {mk : Nat → α} {oA : Option Addr} {cA : Nat} {L : List (LS α)} {i : Nat} {ol : Option Addr} {cl : Nat} {La : List (LS α)} {wr w' : World} (h : Half2 E X B mk oA cA L i ol cl La wr) {S : Nat → Prop} (hk : Keeps S wr w') (hS : ∀ k, S k → ∃ e, e ≠ E.e ∧ e ≠ X.e ∧ Tg e wr k) : Half2 E X B mk oA cA L i ol cl La w' := by
  have hE : ∀ {o : Option Addr}, (∀ k, inO o k → Tg E.e wr k) → ∀ k, inO o k → ¬ S k := fun ht k h1 h2 => by
    obtain ⟨e, he, _, hte⟩ := hS k h2; exact he (hte.ne (ht k h1))
  have hX : ∀ {o : Option Addr}, (∀ k, inO o k → Tg X.e wr k) → ∀ k, inO o k → ¬ S k := fun ht k h1 h2 => by
    obtain ⟨e, _, he, hte⟩ := hS k h2; exact he (hte.ne (ht k h1))
  exact ⟨h.XA.keeps hk (hX h.XA.tag), h.bL, fun j hj => (h.rA j hj).keeps hk (hE (h.rA j hj).tag), fun j h1 h2 => (h.eA j h1 h2).keeps hk (hE (h.eA j h1 h2).tag), h.far, h.la.keeps hk (hX h.la.tag), h.bl, h.sepl, h.len, fun j hj => ⟨(h.lae j hj).1, (h.lae j hj).2.keeps hk (hE (h.lae j hj).2.tag)⟩, h.sep⟩
theorem half2_of {B : Nat} {mk : Nat → α} {oA : Option Addr} {cA : Nat} {L : List (LS α)} {F : Nat → List α} {wr : World} (h : Half1 E X B oA cA L F wr) (hF : ∀ j, j < L.length → F j = List.replicate (L.getD j ls0).xs.length (mk j)) : Half2 E X B mk oA cA L 0 none 0 [] wr :=
  ⟨h.XA, h.bL, fun j hj => by rw [← hF j hj]; exact (h.eA j hj).rw, fun j _ hj => by rw [← hF j hj]; exact h.eA j hj, h.far, own_nil _, fun k ⟨x, e, _⟩ => (by cases e), fun k ⟨x, e, _⟩ => (by cases e), rfl, fun j hj => by omega, fun j hj => by omega⟩
theorem Half2.at {B : Nat} {mk : Nat → α} {oA : Option Addr} {cA : Nat} {L : List (LS α)} {i : Nat} {ol : Option Addr} {cl : Nat} {La : List (LS α)} {wr : World} (h : Half2 E X B mk oA cA L i ol cl La wr) (K : Kind E X) (j : Nat) (hj : j < L.length) : ∃ b, oA = some ⟨b, 0, none⟩ ∧ wr.cell? ⟨b, j, none⟩ = some (.slice (L.getD j ls0).o (L.getD j ls0).xs.length (L.getD j ls0).c) := by
  obtain ⟨b, off, e, hc⟩ := h.XA.sl.one K.x K.k ls0 hj _ (K.enc _)
  have ho : off = 0 := by
    rcases h.XA.shape with ⟨e', _⟩ | ⟨g, cur, e', _⟩
    · rw [e'] at e; cases e
    · rw [e'] at e; cases e; rfl
  subst ho
  rw [Nat.zero_add] at hc
  exact ⟨b, e, hc⟩
theorem Half2.atL {B : Nat} {mk : Nat → α} {oA : Option Addr} {cA : Nat} {L : List (LS α)} {i : Nat} {ol : Option Addr} {cl : Nat} {La : List (LS α)} {wr : World} (h : Half2 E X B mk oA cA L i ol cl La wr) (K : Kind E X) (j : Nat) (hj : j < i) : ∃ b, ol = some ⟨b, 0, none⟩ ∧ wr.cell? ⟨b, j, none⟩ = some (.slice (La.getD j ls0).o ((L.getD j ls0).xs.length + 30) (La.getD j ls0).c) := by
  obtain ⟨b, off, e, hc⟩ := h.la.sl.one K.x K.k ls0 (j := j) (by rw [h.len]; exact hj) _ (K.enc _)
  have ho : off = 0 := by
    rcases h.la.shape with ⟨e', _⟩ | ⟨g, cur, e', _⟩
    · rw [e'] at e; cases e
    · rw [e'] at e; cases e; rfl
  subst ho
  rw [Nat.zero_add, (h.lae j hj).1, List.length_replicate] at hc
  exact ⟨b, e, hc⟩

/-- one list growing -/
structure Grow {α : Type} (E : El α) (wz : World) (oi : Option Addr) (n : Nat) (x : α) (q : Nat) (o : Option Addr) (c : Nat) (wr : World) : Prop where
  own : Own E wr o c (List.replicate (n + q) x)
  at_ : o = oi ∨ New wz o
  kp : Keeps (inO oi) wz wr
  old : Rw E wr oi (List.replicate n x)
theorem Grow.keepsN {wz : World} {oi : Option Addr} {n : Nat} {x : α} {q : Nat} {o : Option Addr} {c : Nat} {wr w' : World} (h : Grow E wz oi n x q o c wr) (k : Keeps no wr w') : Grow E wz oi n x q o c w' :=
  ⟨h.own.keepsN k, h.at_, h.kp.trans k.of_no, h.old.keepsN k⟩
theorem rep_snoc {α : Type} (n : Nat) (x : α) : List.replicate n x ++ [x] = List.replicate (n + 1) x := by
  rw [List.replicate_succ']
theorem Grow.more {wz : World} {oi : Option Addr} {n : Nat} {x : α} {q : Nat} {o : Option Addr} {c : Nat} {wr w' : World} (hE : E.Ok) (hlt : ∀ k, inO oi k → k < wz.heap.size) (h : Grow E wz oi n x q o c wr) {o' : Option Addr} {c' : Nat} (ho : Own E w' o' c' (List.replicate (n + q) x ++ [x])) (hap : Ap wr o o' w') : Grow E wz oi n x (q + 1) o' c' w' := by
  rw [rep_snoc] at ho
  have ho' : Own E w' o' c' (List.replicate (n + (q + 1)) x) := ho
  have htake : (List.replicate (n + (q + 1)) x).take n = List.replicate n x := by
    rw [List.take_replicate, Nat.min_eq_left (by omega)]
  rcases h.at_ with e | hn
  · subst e
    rcases hap with ⟨e, hk⟩ | ⟨⟨g, e, hg⟩, hk⟩
    · subst e
      exact ⟨ho', .inl rfl, h.kp.trans hk, ⟨by have := ho'.row.take hE n; rwa [htake] at this, ho'.tag⟩⟩
    · refine ⟨ho', .inr ?_, h.kp.trans hk.of_no, h.old.keepsN hk⟩
      rintro k ⟨y, ey, rfl⟩
      rw [e] at ey
      cases ey
      exact Nat.le_trans h.kp.size hg
  · have hapart : ∀ k, inO oi k → ¬ inO o k := fun k h1 h2 => by have := hlt k h1; have := hn k h2; omega
    rcases hap with ⟨e, hk⟩ | ⟨⟨g, e, hg⟩, hk⟩
    · subst e
      exact ⟨ho', .inr hn, h.kp.then hk (fun k hk2 => .inr (hn k hk2)), h.old.keeps hk hapart⟩
    · refine ⟨ho', .inr ?_, h.kp.trans hk.of_no, h.old.keepsN hk⟩
      rintro k ⟨y, ey, rfl⟩
      rw [e] at ey
      cases ey
      exact Nat.le_trans h.kp.size hg
/-- a list grown is laid behind the others -/
theorem Half2.push (hne : E.e ≠ X.e) {B : Nat} {mk : Nat → α} {oA : Option Addr} {cA : Nat} {L : List (LS α)} {i : Nat} {ol : Option Addr} {cl : Nat} {La : List (LS α)} {wz wr w' : World} (h : Half2 E X B mk oA cA L i ol cl La wz) (hi : i < L.length) {o : Option Addr} {c : Nat} (hg : Grow E wz (L.getD i ls0).o (L.getD i ls0).xs.length (mk i) 30 o c wr) (hB : B ≤ wz.heap.size)
    {o' : Option Addr} {c' : Nat} (ho : Own X w' o' c' (La ++ [⟨o, c, List.replicate ((L.getD i ls0).xs.length + 30) (mk i)⟩])) (hap : Ap wr ol o' w') : Half2 E X B mk oA cA L (i + 1) o' c' (La ++ [⟨o, c, List.replicate ((L.getD i ls0).xs.length + 30) (mk i)⟩]) w' := by
  have hk := hg.kp
  have hXA : Own X wr oA cA L := h.XA.keeps hk (fun b h1 h2 => tags_ne hne (h.eA i (Nat.le_refl _) hi) h.XA b h2 h1)
  have hla : Own X wr ol cl La := h.la.keeps hk (fun b h1 h2 => tags_ne hne (h.eA i (Nat.le_refl _) hi) h.la b h2 h1)
  have hk2 : Keeps (inO ol) wr w' := by
    rcases hap with ⟨_, hk⟩ | ⟨_, hk⟩
    · exact hk
    · exact hk.of_no
  have hE2 : ∀ {p : Option Addr}, (∀ k, inO p k → Tg E.e wr k) → ∀ k, inO p k → ¬ inO ol k := fun ht k h1 h2 => hne ((ht k h1).ne (hla.tag k h2))
  have hr : ∀ j, j < L.length → Rw E wr (L.getD j ls0).o (List.replicate (L.getD j ls0).xs.length (mk j)) := by
    intro j hj
    by_cases e : j = i
    · rw [e]; exact hg.old
    · exact (h.rA j hj).keeps hk (fun b h1 h2 => h.far j i hj hi e b h1 h2)
  have hlist : ∀ j, (La ++ [(⟨o, c, List.replicate ((L.getD i ls0).xs.length + 30) (mk i)⟩ : LS α)]).getD j ls0 = if j < i then La.getD j ls0 else if j = i then ⟨o, c, List.replicate ((L.getD i ls0).xs.length + 30) (mk i)⟩ else ls0 := by
    intro j
    rw [getD_append, h.len]
    by_cases h1 : j < i
    · rw [if_pos h1, if_pos h1]
    · rw [if_neg h1, if_neg h1]
      by_cases h2 : j = i
      · rw [if_pos h2, h2]; simp
      · rw [if_neg h2, List.getD_eq_getElem?_getD, List.getElem?_eq_none (by simp; omega)]; rfl
  refine ⟨hXA.keeps hk2 (fun k h1 h2 => h.sepl k h2 h1), h.bL, fun j hj => (hr j hj).keeps hk2 (hE2 (hr j hj).tag), ?_, h.far, ho, ?_, ?_, by rw [List.length_append, h.len]; rfl, ?_, ?_⟩
  · intro j h1 h2
    have he : Own E wr (L.getD j ls0).o (L.getD j ls0).c (List.replicate (L.getD j ls0).xs.length (mk j)) := (h.eA j (by omega) h2).keeps hk (fun b h3 h4 => h.far j i h2 hi (by omega) b h3 h4)
    exact he.keeps hk2 (hE2 he.tag)
  · intro k hk3
    rcases hap with ⟨e, _⟩ | ⟨⟨g, e, hgg⟩, _⟩
    · rw [e] at hk3; exact h.bl k hk3
    · obtain ⟨y, ey, rfl⟩ := hk3
      rw [e] at ey
      cases ey
      exact Nat.le_trans (Nat.le_trans hB hk.size) hgg
  · intro k hk3 hk4
    rcases hap with ⟨e, _⟩ | ⟨⟨g, e, hgg⟩, _⟩
    · rw [e] at hk3; exact h.sepl k hk3 hk4
    · obtain ⟨y, ey, rfl⟩ := hk3
      rw [e] at ey
      cases ey
      have := hXA.lt _ hk4
      simp at this
      omega
  · intro j hj
    rw [hlist j]
    by_cases h1 : j < i
    · rw [if_pos h1]
      have ho2 : Own E wr (La.getD j ls0).o (La.getD j ls0).c (La.getD j ls0).xs := (h.lae j h1).2.keeps hk (fun b h3 h4 => h.sep j h1 i hi (by omega) b h3 h4)
      exact ⟨(h.lae j h1).1, ho2.keeps hk2 (hE2 ho2.tag)⟩
    · have e : j = i := by omega
      rw [if_neg h1, if_pos e]
      subst e
      exact ⟨rfl, hg.own.keeps hk2 (hE2 hg.own.tag)⟩
  · intro j hj t ht htj k
    rw [hlist j]
    by_cases h1 : j < i
    · rw [if_pos h1]; exact h.sep j h1 t ht htj k
    · have e : j = i := by omega
      rw [if_neg h1, if_pos e]
      intro h3 h4
      rcases hg.at_ with e2 | hn
      · rw [show (⟨o, c, List.replicate ((L.getD i ls0).xs.length + 30) (mk i)⟩ : LS α).o = o from rfl, e2] at h3
        exact h.far i t hi ht (by omega) k h3 h4
      · have := hn k h3
        have := ((h.rA t ht).tag k h4).lt
        omega
end Go.Proofs.Ytlpfoieoopjmgaa
