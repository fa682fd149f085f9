/- RecordMemory: three slices of bytes that are written over; the six records out of all that is held. -/
import Derived.Test.YtdalheeifgampaaDoorM2
namespace Go.Proofs.YtdalheeifgampaaDoor
open Go.RowKit Go.Sort Orl Pk
set_option linter.unusedVariables false
set_option linter.unusedSimpArgs false

theorem blk_new2 (w : World) (X Y : Obj) : ((w.alloc X).alloc Y).heap[w.heap.size + 1]? = some Y := by
  have e1 : (w.alloc X).heap.size = w.heap.size + 1 := by simp
  have := blk_new (w.alloc X) Y
  rw [e1] at this
  exact this
theorem Ap.kO {w w' : World} {oa o' : Option Addr} (h : Ap w oa o' w') : Keeps (inO oa) w w' := by
  rcases h with ⟨_, h⟩ | ⟨_, h⟩
  · exact h
  · exact h.of_no
theorem Ov.start {W : World} {g c n v : Nat} {bs : List Nat} (h : Owns W (some ⟨g, 0, none⟩) c bs) (hn : bs.length = n) : Ov W g c n v 0 := ⟨bs, h, hn, fun j hj => absurd hj (Nat.not_lt_zero _)⟩
theorem Ov.lt {W : World} {g c n v q : Nat} (h : Ov W g c n v q) : g < W.heap.size := by
  obtain ⟨bs, h1, _⟩ := h
  exact h1.lt g ⟨_, rfl, rfl⟩
/-- three slices of bytes, written over up to qa, qb, qc -/
structure Abc (lo hi gA cA gC cC gB cB nA nC qA qB qC : Nat) (W : World) : Prop where
  a : Ov W gA cA nA 1 qA
  c : Ov W gC cC nC 3 qC
  b : Ov W gB cB nA 2 qB
  la : lo ≤ gA
  ac : gA < gC
  cb : gC < gB
  bh : gB < hi
theorem Abc.keeps {lo hi gA cA gC cC gB cB nA nC qA qB qC : Nat} {S : Nat → Prop} {W W' : World} (h : Abc lo hi gA cA gC cC gB cB nA nC qA qB qC W) (hk : Keeps S W W') (hS : ∀ x, S x → gB < x) : Abc lo hi gA cA gC cC gB cB nA nC qA qB qC W' := by
  have h1 := h.ac
  have h2 := h.cb
  exact ⟨h.a.keeps hk (fun e => by have := hS _ e; omega), h.c.keeps hk (fun e => by have := hS _ e; omega), h.b.keeps hk (fun e => by have := hS _ e; omega), h.la, h.ac, h.cb, h.bh⟩
theorem Abc.keepsN {lo hi gA cA gC cC gB cB nA nC qA qB qC : Nat} {W W' : World} (h : Abc lo hi gA cA gC cC gB cB nA nC qA qB qC W) (hk : Keeps no W W') : Abc lo hi gA cA gC cC gB cB nA nC qA qB qC W' := h.keeps hk (fun _ e => e.elim)
theorem Abc.setA {lo hi gA cA gC cC gB cB nA nC qA qB qC : Nat} {W : World} (h : Abc lo hi gA cA gC cC gB cB nA nC qA qB qC W) (hq : qA < nA) : Abc lo hi gA cA gC cC gB cB nA nC (qA + 1) qB qC (W.setCell ⟨gA, qA, none⟩ (.int .u8 1)) := by
  have h1 := h.ac
  have h2 := h.cb
  have kS : Keeps (eqA gA) W (W.setCell ⟨gA, qA, none⟩ (.int .u8 1)) := (Keeps.refl (eqA gA) W).setA _ _
  exact ⟨h.a.set hq, h.c.keeps kS (by unfold eqA; omega), h.b.keeps kS (by unfold eqA; omega), h.la, h.ac, h.cb, h.bh⟩
theorem Abc.setB {lo hi gA cA gC cC gB cB nA nC qA qB qC : Nat} {W : World} (h : Abc lo hi gA cA gC cC gB cB nA nC qA qB qC W) (hq : qB < nA) : Abc lo hi gA cA gC cC gB cB nA nC qA (qB + 1) qC (W.setCell ⟨gB, qB, none⟩ (.int .u8 2)) := by
  have h1 := h.ac
  have h2 := h.cb
  have kS : Keeps (eqA gB) W (W.setCell ⟨gB, qB, none⟩ (.int .u8 2)) := (Keeps.refl (eqA gB) W).setA _ _
  exact ⟨h.a.keeps kS (by unfold eqA; omega), h.c.keeps kS (by unfold eqA; omega), h.b.set hq, h.la, h.ac, h.cb, h.bh⟩
theorem Abc.setC {lo hi gA cA gC cC gB cB nA nC qA qB qC : Nat} {W : World} (h : Abc lo hi gA cA gC cC gB cB nA nC qA qB qC W) (hq : qC < nC) : Abc lo hi gA cA gC cC gB cB nA nC qA qB (qC + 1) (W.setCell ⟨gC, qC, none⟩ (.int .u8 3)) := by
  have h1 := h.ac
  have h2 := h.cb
  have kS : Keeps (eqA gC) W (W.setCell ⟨gC, qC, none⟩ (.int .u8 3)) := (Keeps.refl (eqA gC) W).setA _ _
  exact ⟨h.a.keeps kS (by unfold eqA; omega), h.c.set hq, h.b.keeps kS (by unfold eqA; omega), h.la, h.ac, h.cb, h.bh⟩
theorem VarL.le {D : Nat} {v : CV} {r : Rec} {lo lo' : Nat} {W : World} (h : VarL D v r lo W) (hl : lo ≤ lo') : VarL D v r lo' W := ⟨h.b, h.c, fun x hx => Nat.lt_of_lt_of_le (h.l x hx) hl, Nat.lt_of_lt_of_le h.d hl⟩
theorem VarL.keepsN {D : Nat} {v : CV} {r : Rec} {lo : Nat} {W W' : World} (h : VarL D v r lo W) (hk : Keeps no W W') : VarL D v r lo W' := h.keeps hk (fun _ e => e.elim)
/-- bytes of the call's own, made behind w0 -/
structure Hf (w0 : World) (o : Option Addr) (c : Nat) (X : List Nat) (W : World) : Prop where
  own : Owns W o c X
  new : New w0 o
  kp : Keeps no w0 W
theorem Hf.app {w0 : World} {o : Option Addr} {c : Nat} {X : List Nat} {W W' : World} (h : Hf w0 o c X W) {Y : List Nat} {o' : Option Addr} {c' : Nat} (ho : Owns W' o' c' Y) (hf : Fresh W o o') (hk : Keeps (inO o) W W') : Hf w0 o' c' Y W' :=
  ⟨ho, (hf.new hk h.new h.kp).1, (hf.new hk h.new h.kp).2⟩
theorem own_some {α : Type} {E : El α} {w : World} {o : Option Addr} {c : Nat} {xs : List α} (h : Own E w o c xs) (hx : xs ≠ []) : ∃ g, o = some ⟨g, 0, none⟩ := by
  rcases h.shape with ⟨_, _, e⟩ | ⟨g, cur, e, _⟩
  · exact absurd e hx
  · exact ⟨g, e⟩
theorem len_two {α : Type} {l : List α} (h : l.length = 2) : ∃ a b, l = [a, b] := by
  match l, h with
  | [a, b], _ => exact ⟨a, b, rfl⟩
/-- two records told by Scan, read -/
theorem two_cells {w : World} {g c : Nat} {v0 v1 : CV} (h : Own CE w (some ⟨g, 0, none⟩) c [v0, v1]) : w.cell? ⟨g, 0, none⟩ = some (.int .i64 v0.k) ∧ w.cell? ⟨g, 1, none⟩ = some (.int .u64 (v0.i : Nat)) ∧ w.cell? ⟨g, 2, none⟩ = some (.slice v0.op v0.np v0.cp) ∧ w.cell? ⟨g, 3, none⟩ = some (.slice v0.ok v0.nk v0.ck) ∧ w.cell? ⟨g, 4, none⟩ = some (.int .i64 v1.k) ∧ w.cell? ⟨g, 5, none⟩ = some (.int .u64 (v1.i : Nat)) ∧ w.cell? ⟨g, 6, none⟩ = some (.slice v1.op v1.np v1.cp) ∧ w.cell? ⟨g, 7, none⟩ = some (.slice v1.ok v1.nk v1.ck) := by
  rcases h.row with e | ⟨b, off, e, hc⟩
  · cases e
  · cases e
    have hz : ∀ j u, (CE.cells [v0, v1])[j]? = some u → w.cell? ⟨g, j, none⟩ = some u := fun j u hj => by have := hc j u hj; rw [Nat.zero_add] at this; exact this
    exact ⟨hz 0 _ rfl, hz 1 _ rfl, hz 2 _ rfl, hz 3 _ rfl, hz 4 _ rfl, hz 5 _ rfl, hz 6 _ rfl, hz 7 _ rfl⟩
/-- a record in a block of its own -/
def CBlk (P : Nat) (v : CV) (W : World) : Prop := W.heap[P]? = some (.cells #[.int .i64 v.k, .int .u64 (v.i : Nat), .slice v.op v.np v.cp, .slice v.ok v.nk v.ck] 30 (0, 0))
theorem rowB_at {W : World} {g : Nat} {xs : List Nat} (h : Row BE W (some ⟨g, 0, none⟩) xs) {j : Nat} (hj : j < xs.length) : W.cell? ⟨g, j, none⟩ = some (.int .u8 (xs.getD j 0 : Nat)) := by
  rcases h with e | ⟨b, off, e, hc⟩
  · subst e; simp at hj
  · cases e
    have := hc j (.int .u8 (xs.getD j 0 : Nat)) (by rw [cells_BN]; simp [vals, hj])
    rw [Nat.zero_add] at this
    exact this
/-- a slice of bytes and what was made of it -/
theorem Lo.cellsB {W0 W : World} {g g' n1 v u c' : Nat} {xs : List Nat} (h : Lo BE W0 (some ⟨g, 0, none⟩) xs (some ⟨g', 0, none⟩) c' [u, u, u] W) (hn : xs.length = n1 + 1) (hv : ∀ j, j < n1 + 1 → xs.getD j 0 = v) :
    W.cell? ⟨g', n1 + 1, none⟩ = some (.int .u8 (u : Nat)) ∧ W.cell? ⟨g, 0, none⟩ = some (.int .u8 (v : Nat)) ∧ W.cell? ⟨g, n1, none⟩ = some (.int .u8 (v : Nat)) := by
  refine ⟨?_, ?_, ?_⟩
  · have := rowB_at h.own.row (j := n1 + 1) (by rw [List.length_append, hn]; simp)
    rw [this]
    have e : (xs ++ [u, u, u]).getD (n1 + 1) 0 = u := by rw [← hn]; simp [List.getD_eq_getElem?_getD]
    rw [e]
  · rw [rowB_at h.row (by omega), hv 0 (by omega)]
  · rw [rowB_at h.row (by omega), hv n1 (by omega)]
theorem Lo.setO {W0 W W' : World} {g g' c' : Nat} {xs ys : List Nat} {h' : Nat} {o'' : Option Addr} (h : Lo BE W0 (some ⟨g, 0, none⟩) xs (some ⟨g', 0, none⟩) c' ys W) (hap : Ap W (some ⟨h', 0, none⟩) o'' W') (hne : g ≠ h') (hlt : h' < W0.heap.size) : Lo BE W0 (some ⟨g, 0, none⟩) xs (some ⟨g', 0, none⟩) c' ys W' :=
  h.keeps hap.kO (fun x hx hs => by obtain ⟨y, ey, rfl⟩ := hx; cases ey; obtain ⟨z, ez, e⟩ := hs; cases ez; exact hne e.symm) (fun x hx => by obtain ⟨z, ez, rfl⟩ := hx; cases ez; exact hlt)
theorem row3 (w : World) (u : Nat) : Row BE (w.alloc (.cells #[.int .u8 (u : Nat), .int .u8 (u : Nat), .int .u8 (u : Nat)] 5)) (some ⟨w.heap.size, 0, none⟩) [u, u, u] := by
  refine .inr ⟨_, _, rfl, fun j x hj => ?_⟩
  rw [cell_of_blk (blk_new w _), Nat.zero_add]
  simpa [El.cells, BE] using hj
theorem sl_six (w : World) (a b c d e f : CV) : Sl CE (w.alloc (.cells #[.int .i64 a.k, .int .u64 (a.i : Nat), .slice a.op a.np a.cp, .slice a.ok a.nk a.ck, .int .i64 b.k, .int .u64 (b.i : Nat), .slice b.op b.np b.cp, .slice b.ok b.nk b.ck, .int .i64 c.k, .int .u64 (c.i : Nat), .slice c.op c.np c.cp, .slice c.ok c.nk c.ck, .int .i64 d.k, .int .u64 (d.i : Nat), .slice d.op d.np d.cp, .slice d.ok d.nk d.ck, .int .i64 e.k, .int .u64 (e.i : Nat), .slice e.op e.np e.cp, .slice e.ok e.nk e.ck, .int .i64 f.k, .int .u64 (f.i : Nat), .slice f.op f.np f.cp, .slice f.ok f.nk f.ck] 30)) (some ⟨w.heap.size, 0, none⟩) 6 [a, b, c, d, e, f] := by
  refine ⟨.inr ⟨_, _, rfl, fun j u hj => ?_⟩, by simp, fun e => by cases e⟩
  rw [cell_of_blk (blk_new w _), Nat.zero_add]
  simpa [El.cells, CE] using hj
theorem sl_nms (w : World) : Sl TE (w.alloc (.cells #[.string ⟨#[48]⟩, .string ⟨#[49]⟩, .string ⟨#[50]⟩, .string ⟨#[51]⟩, .string ⟨#[52]⟩, .string ⟨#[53]⟩] 9)) (some ⟨w.heap.size, 0, none⟩) 6 nmL := by
  refine ⟨.inr ⟨_, _, rfl, fun j u hj => ?_⟩, by simp [nmL], fun e => by cases e⟩
  rw [cell_of_blk (blk_new w _), Nat.zero_add]
  simpa [El.cells, TE, nmL] using hj
/-- what lies below n alone -/
def cutW (W : World) (n : Nat) : World := { W with heap := W.heap.extract 0 n }
theorem cutW_at (W : World) (n k : Nat) (hk : k < n) : (cutW W n).heap[k]? = W.heap[k]? := by
  unfold cutW
  simp only [Array.getElem?_extract]
  split
  · simp
  · rename_i h
    rw [Array.getElem?_eq_none (by omega)]
theorem cutW_size (W : World) (n : Nat) (h : n ≤ W.heap.size) : (cutW W n).heap.size = n := by
  unfold cutW
  simp only [Array.size_extract]
  omega
theorem cutW_keeps (W : World) (n : Nat) (h : n ≤ W.heap.size) : Keeps no (cutW W n) W :=
  ⟨rfl, rfl, rfl, by rw [cutW_size W n h]; exact h, fun k hk _ => by rw [cutW_size W n h] at hk; exact (cutW_at W n k hk).symm⟩
theorem keeps_cutW {w W : World} {n : Nat} (hk : Keeps no w W) (h : n ≤ W.heap.size) (hw : w.heap.size ≤ n) : Keeps no w (cutW W n) :=
  ⟨hk.os, hk.tape, hk.output, by rw [cutW_size W n h]; exact hw, fun k hk' hn => by rw [cutW_at W n k (by omega)]; exact hk.block k hk' hn⟩
theorem keeps_of_cutW {W W' : World} {n : Nat} (h : n ≤ W.heap.size) (hk : Keeps no (cutW W n) W') (hs : W.heap.size ≤ W'.heap.size) : Keeps (fun x => n ≤ x) W W' :=
  ⟨hk.os, hk.tape, hk.output, hs, fun k _ hn => by
    have hk' : k < n := by omega
    rw [hk.block k (by rw [cutW_size W n h]; exact hk') (fun h => h), cutW_at W n k hk']⟩
theorem Got.lotK {w0 W : World} {v : CV} {r : Rec} {s : Tx} (h : Got w0 W v r) : LotK W v 0 s := ⟨_, h.ks, h.nk, fun q hq => absurd hq (Nat.not_lt_zero _)⟩
theorem Got.lotP {w0 W : World} {v : CV} {r : Rec} {s : Tx} (h : Got w0 W v r) : LotP W v 0 s := ⟨_, h.ps, h.np, fun q hq => absurd hq (Nat.not_lt_zero _)⟩
theorem Got.apart {w0 W : World} {v : CV} {r : Rec} (h : Got w0 W v r) : ∀ x, inO v.ok x → ¬ inO v.op x := fun x h1 h2 => own_ne (by decide) h.ks h.ps x h1 h2
def vsix (L M : List CV) (vp vq : CV) : List CV := [L.getD 0 cv0, L.getD 1 cv0, M.getD 0 cv0, M.getD 1 cv0, vp, vq]
theorem All.ap {w : World} {lo hi : Nat} {R : Nat} {vr : CV} {r : Rec} {S : Nat} {vs : CV} {s : Rec} {gK cK : Nat} {X : List Nat} {wl : World} {ol : Option Addr} {cl : Nat} {L : List CV} {wm : World} {om : Option Addr} {cm : Nat} {M : List CV} {wp : World} {P : Nat} {vp : CV} {wq : World} {Q : Nat} {vq : CV} {W W' : World} {g : Nat} {o' : Option Addr} (h : All w lo hi R vr r S vs s gK cK X wl ol cl L wm om cm M wp P vp wq Q vq W) (hap : Ap W (some ⟨g, 0, none⟩) o' W') (h1 : lo ≤ g) (h2 : g < hi) : All w lo hi R vr r S vs s gK cK X wl ol cl L wm om cm M wp P vp wq Q vq W' :=
  h.keeps hap.kO (fun x hx => by obtain ⟨z, ez, rfl⟩ := hx; cases ez; exact ⟨h1, h2⟩)
theorem All.six {w : World} {lo hi : Nat} {R : Nat} {vr : CV} {r : Rec} {S : Nat} {vs : CV} {s : Rec} {gK cK : Nat} {X : List Nat} {wl : World} {ol : Option Addr} {cl : Nat} {L : List CV} {wm : World} {om : Option Addr} {cm : Nat} {M : List CV} {wp : World} {P : Nat} {vp : CV} {wq : World} {Q : Nat} {vq : CV} {W W' : World} (h : All w lo hi R vr r S vs s gK cK X wl ol cl L wm om cm M wp P vp wq Q vq W) (hwl : wl.heap.size ≤ W.heap.size) (hk : Keeps no W W') {gR gN : Nat} (hR : W.heap.size ≤ gR) (hN : gR < gN) (rs : Sl CE W' (some ⟨gR, 0, none⟩) 6 (vsix L M vp vq)) (nm : Sl TE W' (some ⟨gN, 0, none⟩) 6 nmL) :
    Six (cutW W wl.heap.size) gR gN (vsix L M vp vq) (fun _ => 0) (fun _ => 0) W' ∧ ∀ j, j < 6 → ((vsix L M vp vq).getD j cv0).nk ≤ 8796093022000 ∧ ((vsix L M vp vq).getD j cv0).np ≤ 4398046511000 := by
  have h1 := h.lh
  have h2 := h.ml
  have h3 := h.pl
  have h4 := h.ql
  have l0 := h.l.each 0 (by simp)
  have l1 := h.l.each 1 (by simp)
  have m0 := h.m.each 0 (by simp)
  have m1 := h.m.each 1 (by simp)
  have ls := h.l.sep 0 1 (by omega) (by simp)
  have ms := h.m.sep 0 1 (by omega) (by simp)
  have a0 : ∀ x, (L.getD 0 cv0).blk x → wl.heap.size ≤ x ∧ x < wm.heap.size ∧ x < W.heap.size := fun x hx => ⟨l0.ge x hx, h.mh x (.inl hx), l0.lt x hx⟩
  have a1 : ∀ x, (L.getD 1 cv0).blk x → wl.heap.size ≤ x ∧ x < wm.heap.size ∧ x < W.heap.size := fun x hx => ⟨l1.ge x hx, h.mh x (.inr hx), l1.lt x hx⟩
  have b0 : ∀ x, (M.getD 0 cv0).blk x → wm.heap.size ≤ x ∧ x < wp.heap.size ∧ x < W.heap.size := fun x hx => ⟨m0.ge x hx, h.ph x (.inl hx), m0.lt x hx⟩
  have b1 : ∀ x, (M.getD 1 cv0).blk x → wm.heap.size ≤ x ∧ x < wp.heap.size ∧ x < W.heap.size := fun x hx => ⟨m1.ge x hx, h.ph x (.inr hx), m1.lt x hx⟩
  have c0' : ∀ x, vp.blk x → wp.heap.size ≤ x ∧ x < wq.heap.size ∧ x < W.heap.size := fun x hx => ⟨h.p.ge x hx, h.qh x hx, h.p.lt x hx⟩
  have d0 : ∀ x, vq.blk x → wq.heap.size ≤ x ∧ x < W.heap.size := fun x hx => ⟨h.q.ge x hx, h.q.lt x hx⟩
  have six : ∀ j, j < 6 → j = 0 ∨ j = 1 ∨ j = 2 ∨ j = 3 ∨ j = 4 ∨ j = 5 := fun j hj => by omega
  refine ⟨⟨⟨rfl, ?_, ?_, ?_, ?_⟩, hN, ?_, rs, nm, ?_, ?_, (cutW_keeps W _ hwl).trans hk⟩, ?_⟩
  · intro i j hij hj x y hx hy
    rcases six j hj with rfl | rfl | rfl | rfl | rfl | rfl
    · omega
    · obtain rfl : i = 0 := by omega
      exact ls x y hx hy
    · have q := b0 y hy
      rcases (by omega : i = 0 ∨ i = 1) with rfl | rfl
      · have := a0 x hx; omega
      · have := a1 x hx; omega
    · have q := b1 y hy
      rcases (by omega : i = 0 ∨ i = 1 ∨ i = 2) with rfl | rfl | rfl
      · have := a0 x hx; omega
      · have := a1 x hx; omega
      · exact ms x y hx hy
    · have q := c0' y hy
      rcases (by omega : i = 0 ∨ i = 1 ∨ i = 2 ∨ i = 3) with rfl | rfl | rfl | rfl
      · have := a0 x hx; omega
      · have := a1 x hx; omega
      · have := b0 x hx; omega
      · have := b1 x hx; omega
    · have q := d0 y hy
      rcases (by omega : i = 0 ∨ i = 1 ∨ i = 2 ∨ i = 3 ∨ i = 4) with rfl | rfl | rfl | rfl | rfl
      · have := a0 x hx; omega
      · have := a1 x hx; omega
      · have := b0 x hx; omega
      · have := b1 x hx; omega
      · have := c0' x hx; omega
  · intro j hj
    rcases six j hj with rfl | rfl | rfl | rfl | rfl | rfl
    · exact l0.apart
    · exact l1.apart
    · exact m0.apart
    · exact m1.apart
    · exact h.p.apart
    · exact h.q.apart
  · rw [cutW_size W _ hwl]
    intro j hj x hx
    rcases six j hj with rfl | rfl | rfl | rfl | rfl | rfl
    · have := a0 x hx; omega
    · have := a1 x hx; omega
    · have := b0 x hx; omega
    · have := b1 x hx; omega
    · have := c0' x hx; omega
    · have := d0 x hx; omega
  · intro j hj x hx
    rcases six j hj with rfl | rfl | rfl | rfl | rfl | rfl
    · have := a0 x hx; omega
    · have := a1 x hx; omega
    · have := b0 x hx; omega
    · have := b1 x hx; omega
    · have := c0' x hx; omega
    · have := d0 x hx; omega
  · rw [cutW_size W _ hwl]; omega
  · intro j hj
    rcases six j hj with rfl | rfl | rfl | rfl | rfl | rfl
    · exact (l0.keepsN hk).lotK
    · exact (l1.keepsN hk).lotK
    · exact (m0.keepsN hk).lotK
    · exact (m1.keepsN hk).lotK
    · exact (h.p.keepsN hk).lotK
    · exact (h.q.keepsN hk).lotK
  · intro j hj
    rcases six j hj with rfl | rfl | rfl | rfl | rfl | rfl
    · exact (l0.keepsN hk).lotP
    · exact (l1.keepsN hk).lotP
    · exact (m0.keepsN hk).lotP
    · exact (m1.keepsN hk).lotP
    · exact (h.p.keepsN hk).lotP
    · exact (h.q.keepsN hk).lotP
  · intro j hj
    rcases six j hj with rfl | rfl | rfl | rfl | rfl | rfl
    · exact ⟨l0.nk ▸ l0.fit.klen, l0.np ▸ l0.fit.plen⟩
    · exact ⟨l1.nk ▸ l1.fit.klen, l1.np ▸ l1.fit.plen⟩
    · exact ⟨m0.nk ▸ m0.fit.klen, m0.np ▸ m0.fit.plen⟩
    · exact ⟨m1.nk ▸ m1.fit.klen, m1.np ▸ m1.fit.plen⟩
    · exact ⟨h.p.nk ▸ h.p.fit.klen, h.p.np ▸ h.p.fit.plen⟩
    · exact ⟨h.q.nk ▸ h.q.fit.klen, h.q.np ▸ h.q.fit.plen⟩
end Go.Proofs.YtdalheeifgampaaDoor
