import Derived.Test.YtagekdmkidbhpaaMX
/- RetainMemory. -/
namespace Go.Proofs.Ytagekdmkidbhpaa
open Go.RowKit Go.Maps Go.Sort Orl
set_option linter.unusedVariables false
set_option linter.unusedSimpArgs false

theorem due12 {s : St} {now : Int} (h : Till s now) {a b : List Mk} (ha : DueX s (now + 40) 1 a) (hb : DueX s (now + 40) 2 b) : b = a := by
  have e : gdB (now + 40) 2 = gdB (now + 40) 1 := by unfold gdB; rfl
  cases hg : gdB (now + 40) 1 with
  | true => exact (hb.good (by rw [e]; exact hg)).same ((ha.good hg).till h (by omega) (by omega))
  | false => rw [ha.bad hg, hb.bad (by rw [e]; exact hg)]
theorem coll_none {s : St} {nw kp : Int} {d : List Mk} (h : DueX (collX s nw kp) nw kp d) : d = [] := by
  cases hg : gdB nw kp with
  | true =>
    have h1 := h.good hg
    have e : collX s nw kp = collS s (nw - kp) := by unfold collX; rw [if_pos hg]
    rw [e] at h1
    exact h1.same due_none
  | false => exact h.bad hg
def Rp (x : List Mk) (i k : Nat) : Prop := ∀ q, q < k → x.getD q (e0, 0) = (nm3 i, 0)
theorem Rp.step {x : List Mk} {i k : Nat} (h : Rp x i k) (hk : k < x.length) : Rp (x.set k (nm3 i, 0)) i (k + 1) := fun q hq => by
  by_cases e : q = k
  · subst e; simp [List.getD, hk]
  · have := h q (by omega)
    rw [← this]
    simp [List.getD, List.getElem?_set, Ne.symm e]
/-- before they are lengthened -/
structure Ma (w w2 : World) (L M : Nat) (ob : Nat → Option Addr) (cb : Nat → Nat) (n : Nat) (X : Nat → List Mk) (ko : Option Addr) (kc : Nat) (ds : List Mk) : Prop where
  t : T3 w L M ob cb n X
  k : Own WE w ko kc ds
  nk : ∀ i, i < 3 → ∀ b, inO (ob i) b → ¬ inO ko b
  nw : ∀ i, i < 3 → New w2 (ob i)
  kp : Keeps no w2 w
  kw : New w2 ko ∧ w2.heap.size ≤ L ∧ w2.heap.size ≤ M
theorem Ma.keepsN {w w' w2 : World} {L M : Nat} {ob : Nat → Option Addr} {cb : Nat → Nat} {n : Nat} {X : Nat → List Mk} {ko : Option Addr} {kc : Nat} {ds : List Mk} (h : Ma w w2 L M ob cb n X ko kc ds) (hk : Keeps no w w') : Ma w' w2 L M ob cb n X ko kc ds :=
  ⟨h.t.keepsN hk, h.k.keepsN hk, h.nk, h.nw, h.kp.trans hk, h.kw⟩
theorem Ma.set {w w' w2 : World} {L M : Nat} {ob : Nat → Option Addr} {cb : Nat → Nat} {n : Nat} {X : Nat → List Mk} {ko : Option Addr} {kc : Nat} {ds : List Mk} (h : Ma w w2 L M ob cb n X ko kc ds) {i : Nat} (hi : i < 3) {x : List Mk} (hx : x.length = n) (hown : Own WE w' (ob i) (cb i) x) (hk : Keeps (inO (ob i)) w w') : Ma w' w2 L M ob cb n (updX X i x) ko kc ds :=
  ⟨h.t.set hi hx hown hk, h.k.keeps hk (fun b hb hc => h.nk i hi b hc hb), h.nk, h.nw, h.kp.then hk (fun b hb => .inr (h.nw i hi b hb)), h.kw⟩
/-- while they are lengthened: those of I and on are as long as they were -/
structure Mb (w w2 : World) (L M : Nat) (ob : Nat → Option Addr) (cb : Nat → Nat) (n : Nat) (X : Nat → List Mk) (ko : Option Addr) (kc : Nat) (ds : List Mk) (I : Nat) : Prop where
  own : ∀ j, I ≤ j → j < 3 → Own WE w (ob j) (cb j) (X j)
  row : ∀ j, j < 3 → Row WE w (ob j) (X j)
  lt : ∀ j, j < 3 → ∀ b, inO (ob j) b → b < w.heap.size
  len : ∀ i, i < 3 → (X i).length = n
  ap : ∀ i j, i < 3 → j < 3 → i ≠ j → ∀ b, inO (ob i) b → ¬ inO (ob j) b
  l : ∀ i, i < 3 → w.cell? ⟨L, i, none⟩ = some (.slice (ob i) n (cb i))
  m : ∀ i, i < 3 → w.cell? ⟨M, i, none⟩ = some (.string (nm3 i))
  lo : ∀ i, i < 3 → ∀ b, inO (ob i) b → b ≠ L ∧ b ≠ M
  k : Own WE w ko kc ds
  nk : ∀ i, i < 3 → ∀ b, inO (ob i) b → ¬ inO ko b
  nw : ∀ i, i < 3 → New w2 (ob i)
  kp : Keeps no w2 w
  kw : New w2 ko ∧ w2.heap.size ≤ L ∧ w2.heap.size ≤ M
theorem Ma.mb {w w2 : World} {L M : Nat} {ob : Nat → Option Addr} {cb : Nat → Nat} {n : Nat} {X : Nat → List Mk} {ko : Option Addr} {kc : Nat} {ds : List Mk} (h : Ma w w2 L M ob cb n X ko kc ds) : Mb w w2 L M ob cb n X ko kc ds 0 :=
  ⟨fun j _ hj => h.t.own j hj, fun j hj => (h.t.own j hj).row, fun j hj => (h.t.own j hj).lt, h.t.len, h.t.ap, h.t.l, h.t.m, h.t.lo, h.k, h.nk, h.nw, h.kp, h.kw⟩
section
variable {w w' w2 : World} {L M : Nat} {ob : Nat → Option Addr} {cb : Nat → Nat} {n : Nat} {X : Nat → List Mk} {ko : Option Addr} {kc : Nat} {ds : List Mk} {I : Nat}
theorem Mb.keeps (h : Mb w w2 L M ob cb n X ko kc ds I) {S : Nat → Prop} (hk : Keeps S w w') (hS : ∀ b, b < w.heap.size → ¬ S b) : Mb w' w2 L M ob cb n X ko kc ds I := by
  have hk0 : Keeps no w w' := ⟨hk.os, hk.tape, hk.output, hk.size, fun b hb _ => hk.block b hb (hS b hb)⟩
  exact ⟨fun j h1 h2 => (h.own j h1 h2).keepsN hk0, fun j hj => (h.row j hj).keepsN hk0, fun j hj b hb => Nat.lt_of_lt_of_le (h.lt j hj b hb) hk0.size, h.len, h.ap, fun i hi => hk0.cellN (h.l i hi), fun i hi => hk0.cellN (h.m i hi), h.lo, h.k.keepsN hk0, h.nk, h.nw, h.kp.trans hk0, h.kw⟩
theorem Mb.keepsN (h : Mb w w2 L M ob cb n X ko kc ds I) (hk : Keeps no w w') : Mb w' w2 L M ob cb n X ko kc ds I := h.keeps hk (fun _ _ => id)
theorem Mb.next (h : Mb w w2 L M ob cb n X ko kc ds I) : Mb w w2 L M ob cb n X ko kc ds (I + 1) := { h with own := fun j h1 h2 => h.own j (by omega) h2 }
/-- the list of I written behind its end -/
theorem Mb.behind (h : Mb w w2 L M ob cb n X ko kc ds (I + 1)) (hI : I < 3) (hk : Keeps (inO (ob I)) w w') (hr : Row WE w' (ob I) (X I)) : Mb w' w2 L M ob cb n X ko kc ds (I + 1) :=
  ⟨fun j h1 h2 => (h.own j h1 h2).keeps hk (h.ap j I h2 hI (by omega)), fun j hj => by
    by_cases e : j = I
    · rw [e]; exact hr
    · exact (h.row j hj).keeps hk (h.ap j I hj hI e), fun j hj b hb => Nat.lt_of_lt_of_le (h.lt j hj b hb) hk.size, h.len, h.ap, fun i hi => hk.cell (h.l i hi) (fun hc => (h.lo I hI L hc).1 rfl), fun i hi => hk.cell (h.m i hi) (fun hc => (h.lo I hI M hc).2 rfl), h.lo, h.k.keeps hk (fun b hb hc => h.nk I hI b hc hb), h.nk, h.nw, h.kp.then hk (fun b hb => .inr (h.nw I hI b hb)), h.kw⟩
def mo : Mk := (⟨#[109, 111, 114, 101]⟩, 0)
/-- one being lengthened: B0: what is older -/
structure Mc (w w2 : World) (L M : Nat) (ob : Nat → Option Addr) (cb : Nat → Nat) (n : Nat) (X : Nat → List Mk) (ko : Option Addr) (kc : Nat) (ds : List Mk) (I B0 : Nat) (om : Option Addr) (cm k : Nat) : Prop where
  b : Mb w w2 L M ob cb n X ko kc ds (I + 1)
  o : Own WE w om cm (X I ++ List.replicate k mo)
  old : om = ob I ∨ ∀ b, inO om b → B0 ≤ b
  bk : ∀ b, inO ko b → b < B0
  bo : ∀ j, j < 3 → ∀ b, inO (ob j) b → b < B0
  bl : L < B0 ∧ M < B0
  sz : B0 ≤ w.heap.size
theorem Mc.keepsN {B0 : Nat} {om : Option Addr} {cm k : Nat} (h : Mc w w2 L M ob cb n X ko kc ds I B0 om cm k) (hk : Keeps no w w') : Mc w' w2 L M ob cb n X ko kc ds I B0 om cm k :=
  ⟨h.b.keepsN hk, h.o.keepsN hk, h.old, h.bk, h.bo, h.bl, Nat.le_trans h.sz hk.size⟩
theorem Mb.keepsF (h : Mb w w2 L M ob cb n X ko kc ds I) {S : Nat → Prop} {B0 : Nat} (hk : Keeps S w w') (hS : ∀ b, S b → B0 ≤ b) (hw2 : w2.heap.size ≤ B0) (bk : ∀ b, inO ko b → b < B0) (bo : ∀ j, j < 3 → ∀ b, inO (ob j) b → b < B0) (bl : L < B0 ∧ M < B0) : Mb w' w2 L M ob cb n X ko kc ds I :=
  ⟨fun j h1 h2 => (h.own j h1 h2).keeps hk (fun b hb hc => by have := bo j h2 b hb; have := hS b hc; omega), fun j hj => (h.row j hj).keeps hk (fun b hb hc => by have := bo j hj b hb; have := hS b hc; omega), fun j hj b hb => Nat.lt_of_lt_of_le (h.lt j hj b hb) hk.size, h.len, h.ap, fun i hi => hk.cell (h.l i hi) (fun hc => by have := hS _ hc; simp only at this; omega), fun i hi => hk.cell (h.m i hi) (fun hc => by have := hS _ hc; simp only at this; omega), h.lo, h.k.keeps hk (fun b hb hc => by have := bk b hb; have := hS b hc; omega), h.nk, h.nw, h.kp.then hk (fun b hb => .inr (by have := hS b hb; omega)), h.kw⟩
theorem Mc.push {B0 : Nat} {om : Option Addr} {cm k : Nat} (h : Mc w w2 L M ob cb n X ko kc ds I B0 om cm k) (hI : I < 3) (hw2 : w2.heap.size ≤ B0) {o1 : Option Addr} {c1 : Nat} (ho : Own WE w' o1 c1 (X I ++ List.replicate k mo ++ [mo])) (ha : Ap w om o1 w') : Mc w' w2 L M ob cb n X ko kc ds I B0 o1 c1 (k + 1) := by
  have e : X I ++ List.replicate k mo ++ [mo] = X I ++ List.replicate (k + 1) mo := by rw [List.append_assoc, List.replicate_succ']
  rw [e] at ho
  rcases ha with ⟨rfl, hk⟩ | ⟨⟨g, rfl, hg⟩, hk⟩
  · rcases h.old with hold | hold
    · rw [hold] at hk ho
      refine ⟨h.b.behind hI hk ?_, by rw [hold]; exact ho, .inl hold, h.bk, h.bo, h.bl, Nat.le_trans h.sz hk.size⟩
      exact (ho.prefix okWa).row
    · exact ⟨h.b.keepsF hk hold hw2 h.bk h.bo h.bl, ho, .inr hold, h.bk, h.bo, h.bl, Nat.le_trans h.sz hk.size⟩
  · refine ⟨h.b.keepsN hk, ho, .inr fun b hb => ?_, h.bk, h.bo, h.bl, Nat.le_trans h.sz hk.size⟩
    obtain ⟨x, hx, rfl⟩ := hb
    cases hx
    have := h.sz
    show B0 ≤ g
    omega
end
/-- behind all that: what is read again -/
structure Md (w : World) (A B L M : Nat) (ob : Nat → Option Addr) (cb : Nat → Nat) (n : Nat) (X : Nat → List Mk) : Prop where
  row : ∀ j, j < 3 → Row WE w (ob j) (X j)
  len : ∀ i, i < 3 → (X i).length = n
  l : ∀ i, i < 3 → w.cell? ⟨L, i, none⟩ = some (.slice (ob i) n (cb i))
  m : ∀ i, i < 3 → w.cell? ⟨M, i, none⟩ = some (.string (nm3 i))
  rg : ∀ j, j < 3 → ∀ b, inO (ob j) b → A ≤ b ∧ b < B
  lg : A ≤ L ∧ L < B ∧ A ≤ M ∧ M < B
theorem Mb.md {w w2 : World} {L M : Nat} {ob : Nat → Option Addr} {cb : Nat → Nat} {n : Nat} {X : Nat → List Mk} {ko : Option Addr} {kc : Nat} {ds : List Mk} {I : Nat} (h : Mb w w2 L M ob cb n X ko kc ds I) : Md w w2.heap.size w.heap.size L M ob cb n X :=
  ⟨h.row, h.len, h.l, h.m, fun j hj b hb => ⟨h.nw j hj b hb, h.lt j hj b hb⟩, h.kw.2.1, World.block_lt_of_cell? w _ (h.l 0 (by omega)), h.kw.2.2, World.block_lt_of_cell? w _ (h.m 0 (by omega))⟩
theorem Md.keeps {w w' : World} {A B L M : Nat} {ob : Nat → Option Addr} {cb : Nat → Nat} {n : Nat} {X : Nat → List Mk} (h : Md w A B L M ob cb n X) {S : Nat → Prop} (hk : Keeps S w w') (hS : ∀ b, A ≤ b → b < B → ¬ S b) : Md w' A B L M ob cb n X :=
  ⟨fun j hj => (h.row j hj).keeps hk (fun b hb => hS b (h.rg j hj b hb).1 (h.rg j hj b hb).2), h.len, fun i hi => hk.cell (h.l i hi) (hS L h.lg.1 h.lg.2.1), fun i hi => hk.cell (h.m i hi) (hS M h.lg.2.2.1 h.lg.2.2.2), h.rg, h.lg⟩
theorem lt3 {i : Nat} (h : i < 3) : i = 0 ∨ i = 1 ∨ i = 2 := by omega
theorem ma_start {w2 w3 w4 w5 w6 w8 : World} {o0 o1 o2 ko : Option Addr} {c0 c1 c2 kc n0 : Nat} {ds : List Mk} (h0 : Own WE w3 o0 c0 ds ∧ New w2 o0 ∧ Keeps no w2 w3) (h1 : Own WE w4 o1 c1 ds ∧ New w3 o1 ∧ Keeps no w3 w4) (h2 : Own WE w5 o2 c2 ds ∧ New w4 o2 ∧ Keeps no w4 w5) (k6 : Keeps no w5 w6 ∧ New w5 ko ∧ Own WE w6 ko kc ds) (k8 : Keeps no w6 w8) (hn : n0 = ds.length) :
    Ma ((w8.alloc (.cells #[.slice o0 n0 c0, .slice o1 n0 c1, .slice o2 n0 c2] 27)).alloc (.cells #[.string ⟨#[48]⟩, .string ⟨#[49]⟩, .string ⟨#[50]⟩] 9)) w2 w8.heap.size (w8.heap.size + 1) (fun i => [o0, o1, o2].getD i none) (fun i => [c0, c1, c2].getD i 0) n0 (fun _ => ds) ko kc ds := by
  have hA : Keeps no w8 ((w8.alloc (.cells #[.slice o0 n0 c0, .slice o1 n0 c1, .slice o2 n0 c2] 27)).alloc (.cells #[.string ⟨#[48]⟩, .string ⟨#[49]⟩, .string ⟨#[50]⟩] 9)) := ((Keeps.refl no w8).alloc _).alloc _
  have a0 := h0.1.keepsN (h1.2.2.trans (h2.2.2.trans (k6.1.trans k8)))
  have a1 := h1.1.keepsN (h2.2.2.trans (k6.1.trans k8))
  have a2 := h2.1.keepsN (k6.1.trans k8)
  have ak := k6.2.2.keepsN k8
  have l0 := fun b hb => h0.1.lt b hb
  have l1 := fun b hb => h1.1.lt b hb
  have l2 := fun b hb => h2.1.lt b hb
  have s23 := h0.2.2.size
  have s34 := h1.2.2.size
  have s45 := h2.2.2.size
  have hL := blk_new w8 (.cells #[.slice o0 n0 c0, .slice o1 n0 c1, .slice o2 n0 c2] 27)
  have hL2 := blk_alloc hL (.cells #[.string ⟨#[48]⟩, .string ⟨#[49]⟩, .string ⟨#[50]⟩] 9)
  have hM := blk_new (w8.alloc (.cells #[.slice o0 n0 c0, .slice o1 n0 c1, .slice o2 n0 c2] 27)) (.cells #[.string ⟨#[48]⟩, .string ⟨#[49]⟩, .string ⟨#[50]⟩] 9)
  rw [show (w8.alloc (.cells #[.slice o0 n0 c0, .slice o1 n0 c1, .slice o2 n0 c2] 27)).heap.size = w8.heap.size + 1 by simp] at hM
  refine ⟨⟨fun i hi => ?_, fun i hi => hn.symm, fun i j hi hj hij b hb hc => ?_, fun i hi => ?_, fun i hi => ?_, fun i hi b hb => ?_⟩, ak.keepsN hA, fun i hi b hb hc => ?_, fun i hi b hb => ?_, (h0.2.2.trans (h1.2.2.trans (h2.2.2.trans (k6.1.trans k8)))).trans hA, (fun b hb => by have := k6.2.1 b hb; omega), by have := k6.1.size; have := k8.size; omega, by have := k6.1.size; have := k8.size; omega⟩
  · rcases lt3 hi with rfl | rfl | rfl
    · exact a0.keepsN hA
    · exact a1.keepsN hA
    · exact a2.keepsN hA
  · rcases lt3 hi with rfl | rfl | rfl <;> rcases lt3 hj with rfl | rfl | rfl
    · exact hij rfl
    · have := l0 b hb; have := h1.2.1 b hc; omega
    · have := l0 b hb; have := h2.2.1 b hc; omega
    · have := l0 b hc; have := h1.2.1 b hb; omega
    · exact hij rfl
    · have := l1 b hb; have := h2.2.1 b hc; omega
    · have := l0 b hc; have := h2.2.1 b hb; omega
    · have := l1 b hc; have := h2.2.1 b hb; omega
    · exact hij rfl
  · rw [cell_of_blk hL2]
    rcases lt3 hi with rfl | rfl | rfl <;> rfl
  · rw [cell_of_blk hM]
    rcases lt3 hi with rfl | rfl | rfl <;> rfl
  · rcases lt3 hi with rfl | rfl | rfl
    · have := a0.lt b hb; omega
    · have := a1.lt b hb; omega
    · have := a2.lt b hb; omega
  · have := k6.2.1 b hc
    rcases lt3 hi with rfl | rfl | rfl
    · have := l0 b hb; omega
    · have := l1 b hb; omega
    · have := l2 b hb; omega
  · rcases lt3 hi with rfl | rfl | rfl
    · exact h0.2.1 b hb
    · have := h1.2.1 b hb; omega
    · have := h2.2.1 b hb; omega
set_option maxRecDepth 10000 in
set_option maxHeartbeats 4000000 in
theorem memory_any (w : World) (o : Option Addr) (n c : Nat) (xs : List OV) (hn : n = xs.length) (hl : xs.length ≤ 7036874417766) (hs : Sl OE w o c xs) (hok : ∀ x ∈ xs, OkO x) :
    Calls Try.prog 3 #[.slice o n c] w fun e w' => e = .returned (.bool true) ∧ Keeps no w w' := by
  have hal := alive_any w
  have HA : Hid (n = xs.length ∧ xs.length ≤ 7036874417766 ∧ Sl OE w o c xs ∧ ∀ x ∈ xs, OkO x) := ⟨hn, hl, hs, hok⟩
  have hnb : (n : Int) ≤ 7036874417766 := by omega
  clear hn hl hs hok
  go_enter Try.func3, Try.ntmps3
  go_wp2_with (go_at_call 5; refine hal.mono ?_; rintro e w1 ⟨rfl, hk1⟩)
  refine (built_any w1 o n c xs HA.out.1 HA.out.2.1 (HA.out.2.2.1.keepsN hk1) HA.out.2.2.2).mono ?_
  rintro e w2 ⟨p, now, rfl, hw0, hw1, ha⟩
  obtain ⟨s, hs⟩ : ∃ s, s = (runS (xs.take n)).1 := ⟨_, rfl⟩
  have H2 : Hid (Ow w1 w2 p s 384 no ∧ Till s now ∧ Keeps no w w1) := ⟨by rw [hs]; exact ha.out.ow, by rw [hs]; exact ha.out.ti, hk1⟩
  clear hal hk1 ha hs HA
  go_wp2_with fail
  refine (H2.out.1.dueX (now + 40) 1).mono ?_
  rintro e w3 ⟨o0, n0, c0, ds, rfl, hn0, h0, hx0⟩
  go_wp2_with fail
  refine ((H2.out.1.go h0.out.2.2).dueX (now + 40) 2).mono ?_
  rintro e w4 ⟨o1, n1, c1, d1, rfl, hn1, h1, hx1⟩
  obtain rfl : d1 = ds := due12 H2.out.2.1 hx0.out hx1.out
  go_wp2_with fail
  refine ((H2.out.1.go (h0.out.2.2.trans h1.out.2.2)).dueX (now + 40) 1).mono ?_
  rintro e w5 ⟨o2, n2, c2, d2, rfl, hn2, h2, hx2⟩
  have e2 : d2 = d1 := hx2.out.same hx0.out
  subst d2
  have en1 : n1 = n0 := by rw [hn1.out.1, hn0.out.1]
  have en2 : n2 = n0 := by rw [hn2.out.1, hn0.out.1]
  subst n1
  subst n2
  have hnb0 : (n0 : Int) ≤ 384 := by have := hn0.out; omega
  have HB : Hid (([] : List Mk).length + d1.length ≤ 384) := (show _ ≤ _ by have := hn0.out.2; simpa using this)
  have HX : Hid (DueX s (now + 40) 1 d1 ∧ n0 = d1.length ∧ d1.length ≤ 384) := ⟨hx0.out, hn0.out.1, hn0.out.2⟩
  go_wp2_with (at_builtin; refine wpList_app okWa rfl _ _ rfl _ _ _ ([] : List Mk) rfl rfl (own_nil _) _ _ _ d1 rfl HX.out.2.1 h2.out.1.sl.nil h2.out.1.row (by have := HB.out; simp [WE]; simp at this; omega) (by have := HB.out; omega) ?_; intro ko kc w6 ho6 hap6)
  have K6 : Hid (Keeps no w5 w6 ∧ New w5 ko ∧ Own WE w6 ko kc d1) := ⟨(hap6.new (new_none w5) (Keeps.refl no w5)).2, (hap6.new (new_none w5) (Keeps.refl no w5)).1, ho6⟩
  have hs1 := fun (X : World) (hX : Keeps no w6 X) => sameW_any X o0 n0 c0 o2 n0 c2 d1 HX.out.2.1 HX.out.2.1 (by have := HX.out.2.2; omega) ((h0.out.1.sl.keepsN ((h1.out.2.2.trans h2.out.2.2).trans K6.out.1)).keepsN hX) ((h2.out.1.sl.keepsN K6.out.1).keepsN hX)
  have hs2 := fun (X : World) (hX : Keeps no w6 X) => sameW_any X o0 n0 c0 o1 n0 c1 d1 HX.out.2.1 HX.out.2.1 (by have := HX.out.2.2; omega) ((h0.out.1.sl.keepsN ((h1.out.2.2.trans h2.out.2.2).trans K6.out.1)).keepsN hX) ((h1.out.1.sl.keepsN (h2.out.2.2.trans K6.out.1)).keepsN hX)
  clear hn0 hn1 hn2 hx0 hx1 hx2 ho6 hap6 HB
  refine (hs1 w6 (Keeps.refl _ _)).mono ?_
  rintro e w7 ⟨rfl, hk7⟩
  go_wp2_with fail
  refine (hs2 w7 hk7).mono ?_
  rintro e w8 ⟨rfl, hk8⟩
  have K8 : Hid (Keeps no w6 w8) := hk7.trans hk8
  clear hs1 hs2 hk7 hk8
  go_wp2_with fail
  have hM9 := ma_start h0.out h1.out h2.out K6.out K8.out HX.out.2.1
  obtain ⟨W9, hW9⟩ : ∃ W9, W9 = ((w8.alloc (.cells #[.slice o0 n0 c0, .slice o1 n0 c1, .slice o2 n0 c2] 27)).alloc (.cells #[.string ⟨#[48]⟩, .string ⟨#[49]⟩, .string ⟨#[50]⟩] 9)) := ⟨_, rfl⟩
  rw [← hW9] at hM9 ⊢
  obtain ⟨L, hL⟩ : ∃ L, w8.heap.size = L := ⟨_, rfl⟩
  obtain ⟨M, hMM⟩ : ∃ M, w8.heap.size + 1 = M := ⟨_, rfl⟩
  rw [hMM, hL] at hM9 ⊢
  obtain ⟨ob, hob⟩ : ∃ ob : Nat → Option Addr, ob = fun i => [o0, o1, o2].getD i none := ⟨_, rfl⟩
  obtain ⟨cb, hcb⟩ : ∃ cb : Nat → Nat, cb = fun i => [c0, c1, c2].getD i 0 := ⟨_, rfl⟩
  rw [← hob, ← hcb] at hM9
  have HM : Hid (Ma W9 w2 L M ob cb n0 (fun _ => d1) ko kc d1) := hM9
  clear hM9 hW9 hL hMM hob hcb h0 h1 h2 K6 K8
  go_loopw [14, 15] (fun s14 _ wr => ∃ i : Nat, i ≤ 3 ∧ s14 = .int .i64 i ∧ Hid (∃ X, Ma wr w2 L M ob cb n0 X ko kc d1 ∧ ∀ j, j < i → Rp (X j) j n0)) (fun s14 _ _ => 3 - (intOf s14).toNat)
  case atStart => exact ⟨0, by omega, rfl, _, HM.out, fun j hj => by omega⟩
  case round =>
    obtain ⟨i, hi, rfl, HG⟩ := hrel
    by_cases hi3 : i < 3
    · have hi3' : (i : Int) < 3 := by omega
      go_wp2_with fail
      go_loopw [15] (fun s15 wq => ∃ k : Nat, k ≤ n0 ∧ s15 = .int .i64 k ∧ Hid (∃ X, Ma wq w2 L M ob cb n0 X ko kc d1 ∧ (∀ j, j < i → Rp (X j) j n0) ∧ Rp (X i) i k)) (fun s15 _ => n0 - (intOf s15).toNat)
      case atStart =>
        obtain ⟨X, h1, h2⟩ := HG.out
        exact ⟨0, by omega, rfl, X, h1, h2, fun q hq => by omega⟩
      case round =>
        obtain ⟨k, hk, rfl, HK⟩ := hrel
        rename World => wq
        obtain ⟨X, h1, h2, h3⟩ := HK.out
        have HK2 : Hid (Ma wq w2 L M ob cb n0 X ko kc d1 ∧ (∀ j, j < i → Rp (X j) j n0) ∧ Rp (X i) i k) := ⟨h1, h2, h3⟩
        have cl := h1.t.l i hi3
        have cm := h1.t.m i hi3
        by_cases hkn : k < n0
        · have hkn' : (k : Int) < n0 := by omega
          have hkx : k < (X i).length := by rw [h1.t.len i hi3]; exact hkn
          obtain ⟨g, hge, hfz, hst1, hst2⟩ := (h1.t.own i hi3).storeE okWa k hkx (nm3 i, 0)
          obtain ⟨b', f', hbe, z0, z1⟩ := atW (h1.t.own i hi3).sl hkx
          rw [hge] at hbe
          cases hbe
          simp only [Nat.zero_add] at z0 z1
          have HST : Hid (Own WE (wq.setCells g (k * 2) [.string (nm3 i), .int .u64 0]).drew (ob i) (cb i) ((X i).set k (nm3 i, 0)) ∧ Keeps (inO (ob i)) wq (wq.setCells g (k * 2) [.string (nm3 i), .int .u64 0]).drew) := ⟨hst1.keepsN (Keeps.refl no _).drew, hst2.drew⟩
          have HLM : Hid (∀ Y, Keeps (inO (ob i)) wq Y → Y.cell? ⟨L, i, none⟩ = some (.slice (some ⟨g, 0, none⟩) n0 (cb i)) ∧ Y.cell? ⟨M, i, none⟩ = some (.string (nm3 i))) := fun Y hY => ⟨by have := hY.cell cl (fun hc => (h1.t.lo i hi3 L hc).1 rfl); rw [hge] at this; exact this, hY.cell cm (fun hc => (h1.t.lo i hi3 M hc).2 rfl)⟩
          have q2 := hfz (k * 2)
          have q3 := hfz (k * 2 + 1)
          generalize ((X i).getD k (e0, 0)).1 = a0 at z0
          generalize ((X i).getD k (e0, 0)).2 = a1 at z1
          rw [hge] at cl
          clear hge hfz hst1 hst2 h1 h2 h3 HK
          have cbn : ((n0 : Int)) ≤ 384 := hnb0
          go_upto_region 21 with fail
          go_region_held3 (fun Y => Y.cell? ⟨L, i, none⟩ = some (.slice (some ⟨g, 0, none⟩) n0 (cb i)) ∧ Y.cell? ⟨M, i, none⟩ = some (.string (nm3 i))) (first | exact HLM.out _ ((Keeps.refl _ wq).drew) | exact HLM.out _ (Keeps.refl _ wq) | exact HLM.out _ HST.out.2) (fail)
          all_goals (try (rename _ ∧ _ => hh; clear hh))
          go_wp2_with fail
          go_roundw
          case rel =>
            refine ⟨k + 1, by omega, by go_num, updX X i ((X i).set k (nm3 i, 0)), HK2.out.1.set hi3 (by rw [List.length_set]; exact HK2.out.1.t.len i hi3) HST.out.1 HST.out.2, fun j hj => ?_, ?_⟩
            · unfold updX; rw [if_neg (by omega)]; exact HK2.out.2.1 j hj
            · unfold updX; rw [if_pos rfl]; exact HK2.out.2.2.step (by rw [HK2.out.1.t.len i hi3]; exact hkn)
          case measure => simp [intOf]; omega
        · have hkn' : ¬ (k : Int) < n0 := by omega
          have hke : k = n0 := by omega
          have HE : Hid (Ma wq w2 L M ob cb n0 X ko kc d1 ∧ ∀ j, j < i + 1 → Rp (X j) j n0) := ⟨HK2.out.1, fun j hj => by
            rcases Nat.lt_or_ge j i with h | h
            · exact HK2.out.2.1 j h
            · have : j = i := by omega
              rw [this, ← hke]; exact HK2.out.2.2⟩
          clear h1 h2 h3 HK hke
          go_wp2_with fail
          go_roundw
          case rel => exact ⟨i + 1, by omega, by go_num, X, HE.out.1, HE.out.2⟩
          case measure => simp [intOf]; omega
    · have hi3' : ¬ (i : Int) < 3 := by omega
      have hie : i = 3 := by omega
      obtain ⟨X, g1, g2⟩ := HG.out
      have HX1 : Hid (Ma wr w2 L M ob cb n0 X ko kc d1 ∧ ∀ j, j < 3 → Rp (X j) j n0) := ⟨g1, by rw [hie] at g2; exact g2⟩
      have HMB : Hid (Mb wr w2 L M ob cb n0 X ko kc d1 0) := HX1.out.1.mb
      clear HG g1 g2 hie
      go_wp2_with fail
      go_loopw [16, 17, 18] (fun s16 _ _ wr => ∃ i : Nat, i ≤ 3 ∧ s16 = .int .i64 i ∧ Hid (Mb wr w2 L M ob cb n0 X ko kc d1 i)) (fun s16 _ _ _ => 3 - (intOf s16).toNat)
      case atStart => exact ⟨0, by omega, rfl, HMB⟩
      case round =>
        obtain ⟨i2, hi2, rfl, HG2⟩ := hrel
        rename World => wt
        by_cases hj3 : i2 < 3
        · have hj3' : (i2 : Int) < 3 := by omega
          have cl := HG2.out.l i2 hj3
          go_wp2_with fail
          clear cl
          obtain ⟨B0, hB0⟩ : ∃ B0, B0 = wt.heap.size := ⟨_, rfl⟩
          have HC0 : Hid (Mc wt w2 L M ob cb n0 X ko kc d1 i2 B0 (ob i2) (cb i2) 0 ∧ w2.heap.size ≤ B0) := by
            refine ⟨⟨HG2.out.next, by simp; exact HG2.out.own i2 (Nat.le_refl _) hj3, .inl rfl, fun b hb => by rw [hB0]; exact HG2.out.k.lt b hb, fun j hj b hb => by rw [hB0]; exact HG2.out.lt j hj b hb, ⟨by rw [hB0]; exact World.block_lt_of_cell? wt _ (HG2.out.l 0 (by omega)), by rw [hB0]; exact World.block_lt_of_cell? wt _ (HG2.out.m 0 (by omega))⟩, by rw [hB0]; exact Nat.le_refl _⟩, by rw [hB0]; exact HG2.out.kp.size⟩
          clear hB0
          go_loopw [17, 18] (fun s17 s18 wq => ∃ (k : Nat) (om : Option Addr) (cm : Nat), k ≤ 40 ∧ s18 = .int .i64 k ∧ s17 = .slice om (n0 + k) cm ∧ Hid (Mc wq w2 L M ob cb n0 X ko kc d1 i2 B0 om cm k)) (fun _ s18 _ => 40 - (intOf s18).toNat)
          case atStart => exact ⟨0, ob i2, cb i2, by omega, rfl, rfl, HC0.out.1⟩
          case round =>
            obtain ⟨k, om, cm, hk, rfl, rfl, HK⟩ := hrel
            rename World => wq
            by_cases hk40 : k < 40
            · have hk40' : (k : Int) < 40 := by omega
              have hln : n0 + k = (X i2 ++ List.replicate k mo).length := by rw [List.length_append, HK.out.b.len i2 hj3, List.length_replicate]
              have HLN : Hid (n0 + k = (X i2 ++ List.replicate k mo).length ∧ n0 ≤ 384) := ⟨hln, HX.out.2.1 ▸ HX.out.2.2⟩
              have HBD : Hid (((X i2 ++ List.replicate k mo).length + [mo].length) * WE.nb ≤ 140737488355328 ∧ (X i2 ++ List.replicate k mo).length + [mo].length ≤ 140737488355328) := ⟨by rw [← hln]; have := HLN.out.2; simp [WE]; omega, by rw [← hln]; have := HLN.out.2; simp; omega⟩
              clear hln
              go_wp2_with (at_builtin; refine wpList_app okWa rfl _ _ rfl _ _ _ (X i2 ++ List.replicate k mo) rfl HLN.out.1 (HK.out.o.keepsN ((Keeps.refl _ _).alloc _)) _ _ _ [mo] rfl rfl (fun h => by cases h) ((own_oneW _ mo).row) HBD.out.1 HBD.out.2 ?_; intro o9 c9 w9 ho9 hap9)
              go_roundw
              case rel => exact ⟨k + 1, o9, c9, by omega, by go_num, by rfl, (HK.out.keepsN ((Keeps.refl no wq).alloc _)).push hj3 HC0.out.2 ho9 hap9⟩
              case measure => simp [intOf]; omega
            · have hk40' : ¬ (k : Int) < 40 := by omega
              have hke : k = 40 := by omega
              subst hke
              have cl := HK.out.b.l i2 hj3
              obtain ⟨g9, f9, hge, v0, v1⟩ := atW HK.out.o.sl (show n0 < (X i2 ++ List.replicate 40 mo).length by rw [List.length_append, HK.out.b.len i2 hj3, List.length_replicate]; omega)
              have hgd : (X i2 ++ List.replicate 40 mo).getD n0 (e0, 0) = mo := by
                have := HK.out.b.len i2 hj3
                simp [List.getD, List.getElem?_append, this]
              rw [hgd] at v0 v1
              have v0' : wq.cell? ⟨g9, f9 + n0 * 2, none⟩ = some (.string ⟨#[109, 111, 114, 101]⟩) := v0
              subst hge
              have HMN : Hid (Mb wq w2 L M ob cb n0 X ko kc d1 (i2 + 1)) := HK.out.b
              have hn40 : ((n0 : Int)) < ((n0 + 40 : Nat) : Int) := by omega
              clear hgd v0 v1
              go_wp2_with fail
              go_roundw
              case rel => exact ⟨i2 + 1, by omega, by go_num, HMN⟩
              case measure => simp [intOf]; omega
        · have hj3' : ¬ (i2 : Int) < 3 := by omega
          obtain ⟨P, hP⟩ : ∃ P : Nat → Prop, P = fun b => no b ∨ (w2.heap.size ≤ b ∧ b < wt.heap.size) := ⟨_, rfl⟩
          have hO := H2.out.1.grow HG2.out.kp
          rw [← hP] at hO
          have HPP : Hid (∀ b, w2.heap.size ≤ b → b < wt.heap.size → P b) := fun b h1 h2 => by rw [hP]; exact .inr ⟨h1, h2⟩
          have HMd : Hid (Md wt w2.heap.size wt.heap.size L M ob cb n0 X ∧ Own WE wt ko kc d1 ∧ ∀ b, inO ko b → P b) := ⟨HG2.out.md, HG2.out.k, fun b hb => HPP.out b (HG2.out.kw.1 b hb) (HG2.out.k.lt b hb)⟩
          have HOw : Hid (Ow w1 wt p s 384 P) := hO
          clear hO hP
          go_wp2_with fail
          refine (HOw.out.collectX (now + 40) 1).mono ?_
          rintro e w10 ⟨oc, nc, cc, dc, rfl, hnc, hc, hxc⟩
          have edc : dc = d1 := hxc.out.same HX.out.1
          subst dc
          obtain rfl : nc = n0 := by rw [hnc.out.1, HX.out.2.1]
          have H10 : Hid (Md w10 w2.heap.size wt.heap.size L M ob cb nc X ∧ Own WE w10 ko kc d1 ∧ Own WE w10 oc cc d1 ∧ (∀ b, inO oc b → wt.heap.size ≤ b) ∧ Ow w1 w10 p (collX s (now + 40) 1) 384 (fun b => P b ∨ inO oc b)) := ⟨HMd.out.1.keeps hc.out.2.2.2 (fun b h1 h2 hc => hc (HPP.out b h1 h2)), HMd.out.2.1.keeps hc.out.2.2.2 (fun b hb hn => hn (HMd.out.2.2 b hb)), hc.out.1, hc.out.2.1, hc.out.2.2.1⟩
          have hs1 := sameW_any w10 oc nc cc ko nc kc d1 HX.out.2.1 HX.out.2.1 (by have := HX.out.2.2; omega) H10.out.2.2.1.sl H10.out.2.1.sl
          clear hnc hc hxc HOw
          go_wp2_with fail
          refine hs1.mono ?_
          rintro e w11 ⟨rfl, hk11⟩
          have HK11 : Hid (Keeps no w10 w11) := hk11
          clear hs1 hk11
          go_wp2_with fail
          refine ((H10.out.2.2.2.2.go HK11.out).collectX (now + 40) 1).mono ?_
          rintro e w12 ⟨od, nd, cd, dd, rfl, hnd, hd, hxd⟩
          have edd : dd = [] := coll_none hxd.out
          subst edd
          obtain rfl : nd = 0 := hnd.out.1
          have H12 : Hid (Md w12 w2.heap.size wt.heap.size L M ob cb nc X ∧ Own WE w12 oc cc d1 ∧ Keeps no w1 w12) := ⟨(H10.out.1.keeps HK11.out (fun _ _ _ => id)).keeps hd.out.2.2.2 (fun b h1 h2 hc => hc (.inl (HPP.out b h1 h2))), (H10.out.2.2.1.keepsN HK11.out).keeps hd.out.2.2.2 (fun b hb hn => hn (.inr hb)), hd.out.2.2.1.keep⟩
          have HOC : Hid ((∀ b, inO oc b → wt.heap.size ≤ b) ∧ w1.heap.size ≤ wt.heap.size) := ⟨H10.out.2.2.2.1, Nat.le_trans H2.out.1.keep.size HG2.out.kp.size⟩
          clear hnd hd hxd H10 HK11 HMd
          go_wp2_with fail
          go_loopw [24] (fun s24 wr => ∃ i : Nat, i ≤ nc ∧ s24 = .int .i64 i ∧ Hid (∃ y, Own WE wr oc cc y ∧ y.length = nc ∧ Md wr w2.heap.size wt.heap.size L M ob cb nc X ∧ Keeps no w1 wr)) (fun s24 _ => nc - (intOf s24).toNat)
          case atStart => exact ⟨0, by omega, rfl, d1, H12.out.2.1, HX.out.2.1.symm, H12.out.1, H12.out.2.2⟩
          case round =>
            obtain ⟨i3, hi3b, rfl, HG3⟩ := hrel
            rename World => wv
            obtain ⟨y, y1, y2, y3, y4⟩ := HG3.out
            by_cases hi3n : i3 < nc
            · have hi3n' : (i3 : Int) < nc := by omega
              obtain ⟨g, hge, hfz, hst1, hst2⟩ := y1.storeE okWa i3 (by omega) (⟨#[111, 118, 101, 114]⟩, 0)
              obtain ⟨b', f', hbe, z0, z1⟩ := atW y1.sl (show i3 < y.length by omega)
              rw [hge] at hbe
              cases hbe
              simp only [Nat.zero_add] at z0 z1
              have q2 := hfz (i3 * 2)
              have q3 := hfz (i3 * 2 + 1)
              have HST : Hid (Own WE (wv.setCells g (i3 * 2) [.string ⟨#[111, 118, 101, 114]⟩, .int .u64 0]) oc cc (y.set i3 (⟨#[111, 118, 101, 114]⟩, 0)) ∧ Keeps (inO oc) wv (wv.setCells g (i3 * 2) [.string ⟨#[111, 118, 101, 114]⟩, .int .u64 0]) ∧ y.length = nc ∧ Md wv w2.heap.size wt.heap.size L M ob cb nc X ∧ Keeps no w1 wv) := ⟨hst1, hst2, y2, y3, y4⟩
              generalize (y.getD i3 (e0, 0)).1 = a0 at z0
              generalize (y.getD i3 (e0, 0)).2 = a1 at z1
              subst hge
              clear hfz hst1 hst2 y1 y2 y3 y4 HG3
              go_wp2_with fail
              go_roundw
              case rel => exact ⟨i3 + 1, by omega, by go_num, _, HST.out.1, by rw [List.length_set]; exact HST.out.2.2.1, HST.out.2.2.2.1.keeps HST.out.2.1 (fun b h1 h2 hc => by have := HOC.out.1 b hc; omega), HST.out.2.2.2.2.then HST.out.2.1 (fun b hb => .inr (by have := HOC.out.1 b hb; have := HOC.out.2; omega))⟩
              case measure => simp [intOf]; omega
            · have hi3n' : ¬ (i3 : Int) < nc := by omega
              have H13 : Hid (Md wv w2.heap.size wt.heap.size L M ob cb nc X ∧ Keeps no w1 wv) := ⟨y3, y4⟩
              clear HG3 y1 y2 y3 y4
              go_wp2_with fail
              go_loopw [25, 26] (fun s25 _ wr => ∃ i : Nat, i ≤ 3 ∧ s25 = .int .i64 i ∧ Hid (Keeps no wv wr)) (fun s25 _ _ => 3 - (intOf s25).toNat)
              case atStart => exact ⟨0, by omega, rfl, Keeps.refl _ _⟩
              case round =>
                obtain ⟨i4, hi4, rfl, HG4⟩ := hrel
                rename World => wx
                by_cases hi43 : i4 < 3
                · have hi43' : (i4 : Int) < 3 := by omega
                  go_wp2_with fail
                  go_loopw [26] (fun s26 wr => ∃ k : Nat, k ≤ nc ∧ s26 = .int .i64 k ∧ Hid (Keeps no wv wr)) (fun s26 _ => nc - (intOf s26).toNat)
                  case atStart => exact ⟨0, by omega, rfl, HG4⟩
                  case round =>
                    obtain ⟨k, hk, rfl, HK⟩ := hrel
                    rename World => wy
                    have hMd := H13.out.1.keeps HK.out (fun _ _ _ => id)
                    have cl := hMd.l i4 hi43
                    have cm := hMd.m i4 hi43
                    by_cases hkn : k < nc
                    · have hkn' : (k : Int) < nc := by omega
                      obtain ⟨b', f', hbe, z0, z1⟩ := atW (⟨hMd.row i4 hi43, Nat.le_refl _, fun e => by
                        rcases hMd.row i4 hi43 with h | ⟨b, off, h, _⟩
                        · rw [h]; rfl
                        · rw [e] at h; cases h⟩ : Sl WE wy (ob i4) (X i4).length (X i4)) (show k < (X i4).length by rw [hMd.len i4 hi43]; exact hkn)
                      have hrp := HX1.out.2 i4 hi43 k hkn
                      rw [hrp] at z0
                      simp only at z0
                      rw [hbe] at cl
                      clear z1 hbe hrp hMd
                      go_wp2_with fail
                      go_quiet (fail)
                      go_wp2_with fail
                      go_roundw
                      case rel => exact ⟨k + 1, by omega, by go_num, HK.out.trans (kqW rfl rfl rfl rfl)⟩
                      case measure => simp [intOf]; omega
                    · have hkn' : ¬ (k : Int) < nc := by omega
                      clear hMd
                      go_wp2_with fail
                      go_roundw
                      case rel => exact ⟨i4 + 1, by omega, by go_num, HK⟩
                      case measure => simp [intOf]; omega
                · have hi43' : ¬ (i4 : Int) < 3 := by omega
                  have HF : Hid (Keeps no w wx) := H2.out.2.2.trans (H13.out.2.trans HG4.out)
                  go_wp2_with fail
                  go_ret
                  exact ⟨rfl, HF.out⟩
end Go.Proofs.Ytagekdmkidbhpaa
