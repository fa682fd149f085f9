import Derived.Test.YtoijeipoblnliaaGreatDoorYF
import Derived.Test.YtoijeipoblnliaaGreatDoorXI
import Derived.Test.YtoijeipoblnliaaGreatDoorXE
/- what the laws begin with; BootReads. -/
namespace Go.Proofs.YtoijeipoblnliaaGreatDoor
open Go.RowKit Go.Maps Go.Sort Orl Pk
set_option linter.unusedVariables false
set_option linter.unusedSimpArgs false

abbrev boxV (v : WV) : Obj := .cells #[.int .i64 v.gen, .slice v.so v.sn v.sc, .slice v.lo v.ln v.lc, .int .i64 v.tail, .int .i64 v.oth] 27 (0, 0)
theorem box_store {w w2 : World} {v : WV} (hb : w2.heap[w.heap.size]? = some (boxV v)) (hk : Keeps no w w2) (v' : WV) :
    (w2.setRow w.heap.size #[.int .i64 v'.gen, .slice v'.so v'.sn v'.sc, .slice v'.lo v'.ln v'.lc, .int .i64 v'.tail, .int .i64 v'.oth]).heap[w.heap.size]? = some (boxV v') ∧ Keeps no w (w2.setRow w.heap.size #[.int .i64 v'.gen, .slice v'.so v'.sn v'.sc, .slice v'.lo v'.ln v'.lc, .int .i64 v'.tail, .int .i64 v'.oth]) := by
  refine ⟨setRow_heap _ _ _ _ _ _ hb, ⟨hk.os, hk.tape, hk.output, by rw [setRow_size]; exact hk.size, fun k h _ => ?_⟩⟩
  rw [setRow_other _ _ _ _ (by omega)]
  exact hk.block k h id
theorem box_oth {w w2 : World} {v : WV} (hb : w2.heap[w.heap.size]? = some (boxV v)) (hk : Keeps no w w2) (o : Int) :
    (w2.setCell ⟨w.heap.size, 4, none⟩ (.int .i64 o)).heap[w.heap.size]? = some (boxV { v with oth := o }) ∧ Keeps no w (w2.setCell ⟨w.heap.size, 4, none⟩ (.int .i64 o)) := by
  refine ⟨?_, hk.setCell (p := ⟨w.heap.size, 4, none⟩) (.inr (Nat.le_refl _)) _⟩
  rw [blk_set hb]
  rfl

/-- the disk and the store that are to be had -/
structure Held (now : Int) (g : Nat) (rs : List Rec) (U W : World) (p q : Nat) (F : Nat → Prop) (bs : Option (List UInt8)) (N : Nat) (s : Dk.St) : Prop where
  dn : Dn U W p F s
  on : On s
  iv : IV g bs rs s
  bk : BsOk now g bs
  sz : Sz s
  st : Sto U.heap.size W q (redoS now (bst now bs) rs) N F
  n : N ≤ 500000000
  gd : Gds rs
theorem laid_held {now : Int} {g : Nat} {ll : List RW} {U W : World} {p q oth : Nat} {tail : Int} (h : ∃ F bs N, Dn U W p F (otS (tnS bs g (recL ll) (tornK tail)) oth) ∧ BsOk now g bs ∧ (∀ b, bs = some b → b.length ≤ 8000000000) ∧ Sto U.heap.size W q (redoS now (bst now bs) (recL ll)) N F ∧ N ≤ 500000000) (hl : ll.length ≤ 30) (h8 : oth ≤ 8) (h9 : g ≠ 999 ∨ oth = 0) : ∃ F bs N, Held now g (recL ll) U W p q F bs N (otS (tnS bs g (recL ll) (tornK tail)) oth) := by
  obtain ⟨F, bs, N, hd, hb, hz, hs, hn⟩ := h
  have hk : tornK tail ≤ 48 := rst_le tail 48
  have hr := recL_row ll
  have hlz := otS_lz (tnS_lz hz g (recL ll) (by rw [rb_len]; omega) (tornK tail)) oth h8
  have hiv := tnS_iv bs g (recL ll) (k := tornK tail) (by omega)
  refine ⟨F, bs, N, hd, hlz.on, ?_, hb, hlz.sz' (by omega), hs, hn, recL_gds ll⟩
  rcases h9 with h9 | h9
  · exact otS_iv hiv h9 oth h8
  · subst h9; exact hiv
section
variable {now : Int} {g : Nat} {rs : List Rec} {U W W' : World} {p q : Nat} {F : Nat → Prop} {bs : Option (List UInt8)} {N : Nat} {s s' : Dk.St}
theorem Held.boot (h : Held now g rs U W p q F bs N s) : ∃ s', Good now g bs rs s s' ∧ On s' ∧ Sz s' := by
  obtain ⟨s', h1, h2⟩ := boot_calm h.iv h.on h.bk h.gd
  exact ⟨s', h1, h2, h1.boot.sz h.sz⟩
theorem Held.after (h : Held now g rs U W p q F bs N s) (hG : Good now g bs rs s s' ∧ On s' ∧ Sz s') (hd : Dn U W' p F s') (hk : Keeps F W W') : Held now g rs U W' p q F bs N s' :=
  ⟨hd, hG.2.1, hG.1.iv, h.bk, hG.2.2, (h.st.other hk (fun b hb => .inr hb)).sub (fun b hb => .inl hb), h.n, h.gd⟩
theorem Held.beside (h : Held now g rs U W p q F bs N s) (hk : Keeps no W W') : Held now g rs U W' p q F bs N s :=
  ⟨h.dn.beside hk, h.on, h.iv, h.bk, h.sz, h.st.keepsN hk, h.n, h.gd⟩
theorem Held.cell (h : Held now g rs U W p q F bs N s) {b : Nat} (hb : b < U.heap.size) {o : Obj} (e : U.heap[b]? = some o) (hk : Keeps F W W') : W'.heap[b]? = some o :=
  hk.at (h.dn.kept.at e id) (fun hf => by have := h.dn.new b hf; omega)
end

structure Held1 (now : Int) (g : Nat) (rs : List Rec) (U W : World) (p q : Nat) (F : Nat → Prop) (bs : Option (List UInt8)) (N : Nat) (s : Dk.St) : Prop where
  dn : Dn U W p F s
  off : s.off = false
  iv : IV g bs rs s
  bk : BsOk now g bs
  sz : Sz s
  st : Sto U.heap.size W q (redoS now (bst now bs) rs) N F
  n : N ≤ 500000000
  gd : Gds rs
section
variable {now : Int} {g : Nat} {rs : List Rec} {U W W' : World} {p q : Nat} {F : Nat → Prop} {bs : Option (List UInt8)} {N : Nat} {s s' : Dk.St}
theorem Held.arm (h : Held now g rs U W p q F bs N s) (n k : Int) (hd : Dn U W' p F (Dk.arm n k s)) (hk : Keeps F W W') : Held1 now g rs U W' p q F bs N (Dk.arm n k s) :=
  ⟨hd, h.on.off, h.iv.of_fs rfl, h.bk, h.sz, (h.st.other hk (fun b hb => .inr hb)).sub (fun b hb => .inl hb), h.n, h.gd⟩
theorem Held1.calm (h : Held1 now g rs U W p q F bs N s) (k : Int) (hd : Dn U W' p F (Dk.arm (-1) k s)) (hk : Keeps F W W') : Held now g rs U W' p q F bs N (Dk.arm (-1) k s) :=
  ⟨hd, ⟨h.off, rfl⟩, h.iv.of_fs rfl, h.bk, h.sz, (h.st.other hk (fun b hb => .inr hb)).sub (fun b hb => .inl hb), h.n, h.gd⟩
theorem Held1.good (h : Held1 now g rs U W p q F bs N s) (hG : Good now g bs rs s s') (hd : Dn U W' p F s') (hk : Keeps F W W') : Held1 now g rs U W' p q F bs N s' :=
  ⟨hd, hG.calm.off, hG.iv, h.bk, hG.boot.sz h.sz, (h.st.other hk (fun b hb => .inr hb)).sub (fun b hb => .inl hb), h.n, h.gd⟩
theorem Held1.bad (h : Held1 now g rs U W p q F bs N s) (hG : Bad now g bs rs s s') (hd : Dn U W' p F (Dk.up s')) (hk : Keeps F W W') : Held1 now g rs U W' p q F bs N (Dk.up s') :=
  ⟨hd, rfl, hG.iv.of_fs rfl, h.bk, hG.boot.sz h.sz, (h.st.other hk (fun b hb => .inr hb)).sub (fun b hb => .inl hb), h.n, h.gd⟩
theorem Held1.beside (h : Held1 now g rs U W p q F bs N s) (hk : Keeps no W W') : Held1 now g rs U W' p q F bs N s :=
  ⟨h.dn.beside hk, h.off, h.iv, h.bk, h.sz, h.st.keepsN hk, h.n, h.gd⟩
theorem Held1.cell (h : Held1 now g rs U W p q F bs N s) {b : Nat} (hb : b < U.heap.size) {o : Obj} (e : U.heap[b]? = some o) (hk : Keeps F W W') : W'.heap[b]? = some o :=
  hk.at (h.dn.kept.at e id) (fun hf => by have := h.dn.new b hf; omega)
end
end Go.Proofs.YtoijeipoblnliaaGreatDoor
