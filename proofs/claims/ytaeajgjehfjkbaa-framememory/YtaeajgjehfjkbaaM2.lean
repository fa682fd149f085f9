/- For FrameMemory: what is held behind its first half. -/
import Derived.Test.YtaeajgjehfjkbaaM1
namespace Go.Proofs.Ytaeajgjehfjkbaa
open Go.RowKit
set_option linter.unusedVariables false
set_option linter.unusedSimpArgs false

theorem build_k (w : World) (a : Option Addr) (n c : Nat) (xs : List UInt8) (hn : n = xs.length) (hs : Sl BE w a c xs) (h : (n : Int) ≤ 1048576) :
    Calls Try.prog 9 #[.slice a n c] w fun e w' => ∃ o c', e = .returned (.tuple #[.slice o (n + 4) c', .int .i64 0]) ∧ Own BE w' o c' (fr xs) ∧ New w o ∧ Keeps no w w' := by
  refine (build_any w a n c xs hn hs h).mono ?_
  rintro e w' ⟨o, m, c', rfl, hm, ho, hnw, hk⟩
  have hm' : m = n + 4 := by rw [hm.out, Nat.add_comm]
  rw [hm']
  exact ⟨o, c', rfl, ho, hnw, hk⟩
/-- the two frames and the start of a third -/
def raw0 (bs : Bs) : Bs := fr bs ++ fr bs ++ [0, 0, 0, 9, 5]
theorem raw_len (bs : Bs) : (raw0 bs).length = bs.length + 4 + (bs.length + 4) + 5 := by simp [raw0, fr_len]; omega
theorem raw_split (bs : Bs) (h : bs.length ≤ 1048576) : split (raw0 bs) = some ([bs, bs], [0, 0, 0, 9, 5]) := by
  unfold raw0
  rw [List.append_assoc, split_frame bs _ h, split_frame bs _ h]
  have : split [0, 0, 0, 9, 5] = some ([], [0, 0, 0, 9, 5]) := by kernel_rfl
  rw [this]
  rfl
theorem fr_drop (bs : Bs) : (fr bs).drop 4 = bs := by
  rw [fr, show (4 : Nat) = (hd bs.length).length from rfl, List.drop_left]
def Apt (o o' : Option Addr) : Prop := ∀ k, inO o k → ¬ inO o' k
def Iv (o : Option Addr) (lo hi : Nat) : Prop := ∀ k, inO o k → lo ≤ k ∧ k < hi
theorem Iv.apt {o o' : Option Addr} {a b c d : Nat} (h : Iv o a b) (h' : Iv o' c d) (hbc : b ≤ c ∨ d ≤ a) : Apt o o' := fun k h1 h2 => by
  have := h k h1
  have := h' k h2
  omega
/-- all that is held, ahead of the writing -/
structure Fin (w wz : World) (bs : Bs) (oa ob : Option Addr) (ca cb : Nat) (oL : Option Addr) (cL : Nat) (ls : List (LS UInt8)) (oK : Option Addr) (cK : Nat) (ks : List (LS UInt8)) (oX : Option Addr) (cX : Nat) (oY : Option Addr) (cY : Nat) (s : Nat → Nat) : Prop where
  kp : Keeps no w wz
  mono : w.heap.size ≤ s 0 ∧ s 0 ≤ s 1 ∧ s 1 ≤ s 2 ∧ s 2 ≤ s 3 ∧ s 3 ≤ s 4
  a : Own BE wz oa ca (fr bs)
  b : Own BE wz ob cb (fr bs)
  l : Own XE wz oL cL ls
  k : Own XE wz oK cK ks
  le : ∀ j, j < 2 → Own BE wz (ls.getD j ls0).o (ls.getD j ls0).c bs
  ke : ∀ j, j < 2 → Own BE wz (ks.getD j ls0).o (ks.getD j ls0).c bs
  x : Own BE wz oX cX [0, 0, 0, 9, 5]
  y : Own BE wz oY cY [0, 0, 0, 9, 5]
  ia : Iv oa (s 0) (s 1)
  ib : Iv ob (s 1) (s 2)
  il : ∀ j, j < 2 → Iv (ls.getD j ls0).o (s 2) (s 3)
  ik : ∀ j, j < 2 → Iv (ks.getD j ls0).o (s 3) (s 4)
  ix : Iv oX (s 2) (s 3)
  iy : Iv oY (s 3) (s 4)
  fl : Apt (ls.getD 0 ls0).o (ls.getD 1 ls0).o
  fk : Apt (ks.getD 0 ls0).o (ks.getD 1 ls0).o
  fx : ∀ j, j < 2 → Apt oX (ls.getD j ls0).o
  fy : ∀ j, j < 2 → Apt oY (ks.getD j ls0).o
  hl : bods ls = [bs, bs]
  hk : bods ks = [bs, bs]
variable {w wz : World} {bs : Bs} {oa ob : Option Addr} {ca cb : Nat} {oL : Option Addr} {cL : Nat} {ls : List (LS UInt8)} {oK : Option Addr} {cK : Nat} {ks : List (LS UInt8)} {oX : Option Addr} {cX : Nat} {oY : Option Addr} {cY : Nat} {s : Nat → Nat}
theorem Fin.keepsN (h : Fin w wz bs oa ob ca cb oL cL ls oK cK ks oX cX oY cY s) {w' : World} (k : Keeps no wz w') : Fin w w' bs oa ob ca cb oL cL ls oK cK ks oX cX oY cY s :=
  ⟨h.kp.trans k, h.mono, h.a.keepsN k, h.b.keepsN k, h.l.keepsN k, h.k.keepsN k, fun j hj => (h.le j hj).keepsN k, fun j hj => (h.ke j hj).keepsN k, h.x.keepsN k, h.y.keepsN k, h.ia, h.ib, h.il, h.ik, h.ix, h.iy, h.fl, h.fk, h.fx, h.fy, h.hl, h.hk⟩
def all8 (bs : Bs) (oa ob : Option Addr) (ca cb : Nat) (ls ks : List (LS UInt8)) (oX : Option Addr) (cX : Nat) (oY : Option Addr) (cY : Nat) : List (LS UInt8) :=
  [⟨oa, ca, fr bs⟩, ⟨ob, cb, fr bs⟩, ⟨(ls.getD 0 ls0).o, (ls.getD 0 ls0).c, bs⟩, ⟨(ls.getD 1 ls0).o, (ls.getD 1 ls0).c, bs⟩, ⟨(ks.getD 0 ls0).o, (ks.getD 0 ls0).c, bs⟩, ⟨(ks.getD 1 ls0).o, (ks.getD 1 ls0).c, bs⟩, ⟨oX, cX, [0, 0, 0, 9, 5]⟩, ⟨oY, cY, [0, 0, 0, 9, 5]⟩]
theorem eight {P : Nat → Prop} (h0 : P 0) (h1 : P 1) (h2 : P 2) (h3 : P 3) (h4 : P 4) (h5 : P 5) (h6 : P 6) (h7 : P 7) : ∀ j, j < 8 → P j
  | 0, _ => h0 | 1, _ => h1 | 2, _ => h2 | 3, _ => h3 | 4, _ => h4 | 5, _ => h5 | 6, _ => h6 | 7, _ => h7
  | (j + 8), h => absurd h (by omega)
theorem Apt.symm {o o' : Option Addr} (h : Apt o o') : Apt o' o := fun k h1 h2 => h k h2 h1
theorem Fin.pairs (h : Fin w wz bs oa ob ca cb oL cL ls oK cK ks oX cX oY cY s) : List.Pairwise (fun x y : LS UInt8 => Apt x.o y.o) (all8 bs oa ob ca cb ls ks oX cX oY cY) := by
  have m := h.mono
  have l0 := h.il 0 (by omega)
  have l1 := h.il 1 (by omega)
  have k0 := h.ik 0 (by omega)
  have k1 := h.ik 1 (by omega)
  unfold all8
  simp only [List.pairwise_cons, List.mem_cons, forall_eq_or_imp, List.not_mem_nil, false_implies, implies_true, and_true, List.Pairwise.nil]
  refine ⟨⟨?_, ?_, ?_, ?_, ?_, ?_, ?_⟩, ⟨?_, ?_, ?_, ?_, ?_, ?_⟩, ⟨?_, ?_, ?_, ?_, ?_⟩, ⟨?_, ?_, ?_, ?_⟩, ⟨?_, ?_, ?_⟩, ⟨?_, ?_⟩, ?_⟩
  · exact h.ia.apt h.ib (.inl (by omega))
  · exact h.ia.apt l0 (.inl (by omega))
  · exact h.ia.apt l1 (.inl (by omega))
  · exact h.ia.apt k0 (.inl (by omega))
  · exact h.ia.apt k1 (.inl (by omega))
  · exact h.ia.apt h.ix (.inl (by omega))
  · exact h.ia.apt h.iy (.inl (by omega))
  · exact h.ib.apt l0 (.inl (by omega))
  · exact h.ib.apt l1 (.inl (by omega))
  · exact h.ib.apt k0 (.inl (by omega))
  · exact h.ib.apt k1 (.inl (by omega))
  · exact h.ib.apt h.ix (.inl (by omega))
  · exact h.ib.apt h.iy (.inl (by omega))
  · exact h.fl
  · exact l0.apt k0 (.inl (by omega))
  · exact l0.apt k1 (.inl (by omega))
  · exact (h.fx 0 (by omega)).symm
  · exact l0.apt h.iy (.inl (by omega))
  · exact l1.apt k0 (.inl (by omega))
  · exact l1.apt k1 (.inl (by omega))
  · exact (h.fx 1 (by omega)).symm
  · exact l1.apt h.iy (.inl (by omega))
  · exact h.fk
  · exact k0.apt h.ix (.inr (by omega))
  · exact (h.fy 0 (by omega)).symm
  · exact k1.apt h.ix (.inr (by omega))
  · exact (h.fy 1 (by omega)).symm
  · exact h.ix.apt h.iy (.inl (by omega))
theorem far_of_pairs {L : List (LS UInt8)} (h : List.Pairwise (fun x y : LS UInt8 => Apt x.o y.o) L) : ∀ i j, i < L.length → j < L.length → i ≠ j → ∀ k, inO (L.getD i ls0).o k → ¬ inO (L.getD j ls0).o k := by
  intro i j hi hj hij
  have e1 : L.getD i ls0 = L[i] := by simp [List.getD_eq_getElem?_getD, hi]
  have e2 : L.getD j ls0 = L[j] := by simp [List.getD_eq_getElem?_getD, hj]
  rw [e1, e2]
  rcases Nat.lt_or_gt_of_ne hij with h1 | h1
  · exact List.pairwise_iff_getElem.1 h i j hi hj h1
  · exact fun k h2 h3 => List.pairwise_iff_getElem.1 h j i hj hi h1 k h3 h2
theorem Fin.start (h : Fin w wz bs oa ob ca cb oL cL ls oK cK ks oX cX oY cY s) (hb : bs.length ≤ 100000) (C : Array Value) (hC : C.toList = XE.cells (all8 bs oa ob ca cb ls ks oX cX oY cY)) :
    St w 8 (some ⟨wz.heap.size, 0, none⟩) 8 ((all8 bs oa ob ca cb ls ks oX cX oY cY).map (fun x => x.xs.length)) 0 none 0 (all8 bs oa ob ca cb ls ks oX cX oY cY) (wz.alloc (.cells C 24)) := by
  have hk : Keeps no wz (wz.alloc (.cells C 24)) := (Keeps.refl _ _).alloc _
  have m := h.mono
  have hnew : ∀ {o : Option Addr} {a b : Nat}, Iv o a b → w.heap.size ≤ a → New w o := fun hi ha k hk => by have := hi k hk; omega
  refine ⟨⟨lit_own okX wz _ 8 rfl (by unfold maxLen; omega) C hC, ?_, far_of_pairs h.pairs⟩, rfl, h.kp.trans hk, new_fresh w _ h.kp.size _, ?_, own_nil _, new_none _, rfl, ?_⟩
  · refine eight ?_ ?_ ?_ ?_ ?_ ?_ ?_ ?_
    · exact h.a.keepsN hk
    · exact h.b.keepsN hk
    · exact (h.le 0 (by omega)).keepsN hk
    · exact (h.le 1 (by omega)).keepsN hk
    · exact (h.ke 0 (by omega)).keepsN hk
    · exact (h.ke 1 (by omega)).keepsN hk
    · exact h.x.keepsN hk
    · exact h.y.keepsN hk
  · refine eight ?_ ?_ ?_ ?_ ?_ ?_ ?_ ?_
    · exact hnew h.ia (by omega)
    · exact hnew h.ib (by omega)
    · exact hnew (h.il 0 (by omega)) (by omega)
    · exact hnew (h.il 1 (by omega)) (by omega)
    · exact hnew (h.ik 0 (by omega)) (by omega)
    · exact hnew (h.ik 1 (by omega)) (by omega)
    · exact hnew h.ix (by omega)
    · exact hnew h.iy (by omega)
  · have hf := fr_len bs
    refine eight ?_ ?_ ?_ ?_ ?_ ?_ ?_ ?_
    · show (fr bs).length ≤ 200000; omega
    · show (fr bs).length ≤ 200000; omega
    · show bs.length ≤ 200000; omega
    · show bs.length ≤ 200000; omega
    · show bs.length ≤ 200000; omega
    · show bs.length ≤ 200000; omega
    · show 5 ≤ 200000; omega
    · show 5 ≤ 200000; omega
def nums (a b c d e : Nat) : Nat → Nat
  | 0 => a | 1 => b | 2 => c | 3 => d | _ => e
theorem two_each {ms : List (LS UInt8)} (h : bods ms = [bs, bs]) : ms.length = 2 ∧ ∀ j, j < 2 → (ms.getD j ls0).xs = bs := by
  have hl : ms.length = 2 := by rw [← bods_len, h]; rfl
  refine ⟨hl, fun j hj => ?_⟩
  rw [← bods_at, h]
  have : j = 0 ∨ j = 1 := by omega
  rcases this with rfl | rfl <;> rfl
theorem fin_of {w3 w4 w5 w6 w11 w12 w13 w14 w15 : World} {oF oW : Option Addr} {cW : Nat} {xw : Bs} (k3 : Keeps no w w3) (ha : Own BE w4 oa ca (fr bs)) (na : New w3 oa) (k4 : Keeps no w3 w4) (hb : Own BE w5 ob cb (fr bs)) (nb : New w4 ob) (k5 : Keeps no w4 w5)
    (hF : ∀ k, inO oF k → w.heap.size ≤ k ∧ k < w3.heap.size) (k6 : Keeps (inO oF) w5 w6) (k11 : Keeps no w6 w11) (hW : ∀ k, inO oW k → w6.heap.size ≤ k ∧ k < w11.heap.size)
    (S1 : Spl w11 w12 oL cL ls oX cX [0, 0, 0, 9, 5]) (hl : bods ls = [bs, bs]) (S2 : Spl w12 w13 oK cK ks oY cY [0, 0, 0, 9, 5]) (hk : bods ks = [bs, bs]) (k14 : Keeps no w13 w14) (oWn : Own BE w14 oW cW xw) (k15 : Keeps (inO oW) w14 w15) :
    Fin w w15 bs oa ob ca cb oL cL ls oK cK ks oX cX oY cY (nums w3.heap.size w4.heap.size w11.heap.size w12.heap.size w13.heap.size) := by
  have s3 := k3.size
  have s4 := k4.size
  have s5 := k5.size
  have s6 := k6.size
  have s11 := k11.size
  have s12 := S1.h.kp.size
  have s13 := S2.h.kp.size
  have K6 : Keeps no w w6 := ((k3.trans k4).trans k5).then k6 (fun i hi => .inr (hF i hi).1)
  have K14 : Keeps no w6 w14 := ((k11.trans S1.h.kp).trans S2.h.kp).trans k14
  have hlt : ∀ {o : Option Addr} {c : Nat} {xs : Bs} {v : World}, Own BE v o c xs → ∀ k, inO o k → k < v.heap.size := fun h => h.lt
  obtain ⟨tl, xl⟩ := two_each hl
  obtain ⟨tk, xk⟩ := two_each hk
  have L1 := S1.keepsN (S2.h.kp.trans k14)
  have L2 := S2.keepsN k14
  have apW : ∀ {o : Option Addr}, (∀ k, inO o k → k < w6.heap.size ∨ w11.heap.size ≤ k) → ∀ k, inO o k → ¬ inO oW k := fun h k h1 h2 => by
    have := h k h1
    have := hW k h2
    omega
  refine ⟨(K6.trans K14).then k15 (fun i hi => .inr (by have := (hW i hi).1; have := K6.size; omega)), ⟨s3, s4, by show w4.heap.size ≤ w11.heap.size; omega, s12, s13⟩, ?_, ?_, ?_, ?_, ?_, ?_, ?_, ?_, ?_, ?_, ?_, ?_, ?_, ?_, ?_, ?_, ?_, ?_, hl, hk⟩
  · refine ((((ha.keepsN k5).keeps k6 (fun k h1 h2 => by have := na k h1; have := (hF k h2).2; omega)).keepsN K14).keeps k15 (apW fun k h1 => ?_))
    have := ha.lt k h1
    omega
  · refine (((hb.keeps k6 (fun k h1 h2 => by have := nb k h1; have := (hF k h2).2; omega)).keepsN K14).keeps k15 (apW fun k h1 => ?_))
    have := hb.lt k h1
    omega
  · exact L1.h.own.keeps k15 (ne_own L1.h.own oWn (by decide))
  · exact L2.h.own.keeps k15 (ne_own L2.h.own oWn (by decide))
  · intro j hj
    have h1 := L1.h.each j (by omega)
    rw [xl j hj] at h1
    exact h1.keeps k15 (apW fun k h2 => .inr (S1.h.nE j (by omega) k h2))
  · intro j hj
    have h1 := L2.h.each j (by omega)
    rw [xk j hj] at h1
    exact h1.keeps k15 (apW fun k h2 => .inr (by have := S2.h.nE j (by omega) k h2; omega))
  · exact L1.rest.keeps k15 (apW fun k h2 => .inr (S1.nR k h2))
  · exact L2.rest.keeps k15 (apW fun k h2 => .inr (by have := S2.nR k h2; omega))
  · exact fun k h => ⟨na k h, ha.lt k h⟩
  · exact fun k h => ⟨nb k h, by have := hb.lt k h; show k < w11.heap.size; omega⟩
  · exact fun j hj k h => ⟨S1.h.nE j (by omega) k h, (S1.h.each j (by omega)).lt k h⟩
  · exact fun j hj k h => ⟨S2.h.nE j (by omega) k h, (S2.h.each j (by omega)).lt k h⟩
  · exact fun k h => ⟨S1.nR k h, S1.rest.lt k h⟩
  · exact fun k h => ⟨S2.nR k h, S2.rest.lt k h⟩
  · exact S1.h.far 0 1 (by omega) (by omega) (by omega)
  · exact S2.h.far 0 1 (by omega) (by omega) (by omega)
  · exact fun j hj => S1.farR j (by omega)
  · exact fun j hj => S2.farR j (by omega)
end Go.Proofs.Ytaeajgjehfjkbaa
