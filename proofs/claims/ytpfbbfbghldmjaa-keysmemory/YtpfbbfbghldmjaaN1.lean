import Derived.Test.YtpfbbfbghldmjaaM5
import Derived.Test.YtpfbbfbghldmjaaM3
namespace Go.Proofs.Ytpfbbfbghldmjaa
open Go.RowKit Go.Sort Orl
set_option linter.unusedVariables false
set_option linter.unusedSimpArgs false

abbrev tK : Tx := { data := #[107] }
abbrev tV : Tx := { data := #[118] }
abbrev tX : Tx := { data := #[120] }
abbrev tZ : Tx := { data := #[122] }
abbrev m1 : Tx := { data := #[126, 49] }
abbrev m2 : Tx := { data := #[126, 50] }
abbrev m3 : Tx := { data := #[126, 51] }
/-- the pairs that are handed in -/
def prs (A : List Tx) (v : Tx) : List Pr := A.reverse.map fun k => (k, v)
theorem prs_length (A : List Tx) (v : Tx) : (prs A v).length = A.length := by simp [prs]
theorem prs_take (A : List Tx) (v : Tx) (k : Nat) (h : k < A.length) : (prs A v).take (k + 1) = (prs A v).take k ++ [(A.getD (A.length - 1 - k) e0, v)] := by
  rw [take_succ_getD (prs A v) k p0 (by rw [prs_length]; exact h)]
  congr 2
  simp only [prs, List.getD_eq_getElem?_getD, List.getElem?_map, List.getElem?_reverse h]
  rw [List.getElem?_eq_getElem (show A.length - 1 - k < A.length by omega)]
  rfl

/-- what the law holds ahead of its great loop -/
structure Set0 (w wc : World) (A Bq : List Tx) (oA : Option Addr) (nA cA : Nat) (oB : Option Addr) (nB cB : Nat) : Prop where
  hnA : nA = A.length
  ownA : Own TE wc oA cA A
  incA : Inc lts A
  pos : 1 ≤ A.length
  leA : A.length ≤ 300
  fit : ∀ x ∈ A, x.size ≤ 140737488355328
  newA : New w oA
  hnB : nB = Bq.length
  ownB : Own TE wc oB cB Bq
  incB : Inc lts Bq
  leB : Bq.length ≤ 300
  newB : New w oB
  kp : Keeps no w wc

theorem Set0.fitM {w wc : World} {A Bq : List Tx} {oA : Option Addr} {nA cA : Nat} {oB : Option Addr} {nB cB : Nat} (h : Set0 w wc A Bq oA nA cA oB nB cB) : ∀ x ∈ A, x.size ≤ maxLen := fun x hx => by
  have := h.fit x hx
  unfold maxLen; omega

/-- what the great loop holds -/
structure MemSt (w8 : World) (TL : List (List Tx)) (NN : List Pr) (k : Nat) (oL : Option Addr) (mL cL : Nat) (LL : List SlT) (oN : Option Addr) (mN cN : Nat) (NL : List SlP) (wr : World) : Prop where
  lots : Lots wr oL cL LL
  hmL : mL = LL.length
  len : LL.length = 6 * k
  cont : ∀ j, j < LL.length → (LL.getD j s0).xs = TL.getD (j % 6) []
  born : ∀ j, j < LL.length → Born w8.heap.size wr.heap.size (LL.getD j s0).o
  newL : New w8 oL
  ownN : Own YE wr oN cN NL
  hmN : mN = NL.length
  lenN : NL.length = k
  eachN : ∀ j, j < NL.length → Own PE wr (NL.getD j sp0).o (NL.getD j sp0).c NN ∧ (NL.getD j sp0).xs = NN ∧ New w8 (NL.getD j sp0).o
  newN : New w8 oN
  kp : Keeps no w8 wr
def NSL (p1 : Option Addr) (d1 : Nat) (p2 : Option Addr) (d2 : Nat) (p3 : Option Addr) (d3 : Nat) (p4 : Option Addr) (d4 : Nat) (p5 : Option Addr) (d5 : Nat) (p7 : Option Addr) (d7 : Nat) (l1 l2 l3 l4 l5 l7 : List Tx) (j : Nat) : SlT :=
  [⟨p1, d1, l1⟩, ⟨p2, d2, l2⟩, ⟨p3, d3, l3⟩, ⟨p4, d4, l4⟩, ⟨p5, d5, l5⟩, (⟨p7, d7, l7⟩ : SlT)].getD j s0
theorem Ap.kp {w w' : World} {oa o' : Option Addr} (h : Ap w oa o' w') : Keeps (inO oa) w w' := by
  rcases h with ⟨_, hk⟩ | ⟨_, hk⟩
  · exact hk
  · exact hk.of_no
theorem Set0.keepsN {w wc wd : World} {A Bq : List Tx} {oA : Option Addr} {nA cA : Nat} {oB : Option Addr} {nB cB : Nat} (h : Set0 w wc A Bq oA nA cA oB nB cB) (k : Keeps no wc wd) : Set0 w wd A Bq oA nA cA oB nB cB :=
  ⟨h.hnA, h.ownA.keepsN k, h.incA, h.pos, h.leA, h.fit, h.newA, h.hnB, h.ownB.keepsN k, h.incB, h.leB, h.newB, h.kp.trans k⟩

def lo6 (a0 a1 a2 a3 a4 a5 a6 : Nat) : Nat → Nat
  | 0 => a0
  | 1 => a1
  | 2 => a2
  | 3 => a3
  | 4 => a4
  | 5 => a5
  | _ => a6
theorem lo6_mono (a0 a1 a2 a3 a4 a5 a6 : Nat) (h1 : a0 ≤ a1) (h2 : a1 ≤ a2) (h3 : a2 ≤ a3) (h4 : a3 ≤ a4) (h5 : a4 ≤ a5) (h6 : a5 ≤ a6) : ∀ i j, i ≤ j → lo6 a0 a1 a2 a3 a4 a5 a6 i ≤ lo6 a0 a1 a2 a3 a4 a5 a6 j := by
  intro i j hij
  rcases i with _ | _ | _ | _ | _ | _ | i <;> rcases j with _ | _ | _ | _ | _ | _ | j <;> simp only [lo6] <;> omega
/-- one round of the great loop: six lists and one of pairs more -/
theorem MemSt.push {w8 : World} {TL : List (List Tx)} {NN : List Pr} {k : Nat} {oL : Option Addr} {mL cL : Nat} {LL : List SlT} {oN : Option Addr} {mN cN : Nat} {NL : List SlP} {wr : World} (h : MemSt w8 TL NN k oL mL cL LL oN mN cN NL wr)
    (NS : List SlT) (v7 x1 x2 : World) (lo : Nat → Nat) (hlen : NS.length = 6) (W7 : Keeps no wr v7)
    (hE : ∀ j, j < 6 → Own TE v7 (NS.getD j s0).o (NS.getD j s0).c (NS.getD j s0).xs)
    (hB : ∀ j, j < 6 → Born (lo j) (lo (j + 1)) (NS.getD j s0).o) (hlo : ∀ i j, i ≤ j → lo i ≤ lo j) (hlo0 : wr.heap.size ≤ lo 0) (hlo6 : lo 6 ≤ v7.heap.size)
    (hC : ∀ j, j < 6 → (NS.getD j s0).xs = TL.getD j [])
    {oL' : Option Addr} {cL' : Nat} {ob1 ob2 : Obj} (hoL : Own XE x1 oL' cL' (LL ++ NS)) (hapL : Ap (v7.alloc ob1) oL oL' x1)
    {p6 : Option Addr} {d6 : Nat} (hp6 : Own PE v7 p6 d6 NN) (new6 : New w8 p6)
    {oN' : Option Addr} {cN' : Nat} (hoN : Own YE x2 oN' cN' (NL ++ [⟨p6, d6, NN⟩])) (hapN : Ap (x1.alloc ob2) oN oN' x2) :
    MemSt w8 TL NN (k + 1) oL' (mL + 6) cL' (LL ++ NS) oN' (mN + 1) cN' (NL ++ [⟨p6, d6, NN⟩]) x2 := by
  have k7a : Keeps no wr (v7.alloc ob1) := W7.alloc _
  have L7 : Lots (v7.alloc ob1) oL cL LL := h.lots.keepsN k7a
  have kva : Keeps no v7 (v7.alloc ob1) := (Keeps.refl _ _).alloc _
  have hE' : ∀ j, j < NS.length → Own TE (v7.alloc ob1) (NS.getD j s0).o (NS.getD j s0).c (NS.getD j s0).xs := fun j hj => (hE j (by omega)).keepsN kva
  have L1 : Lots x1 oL' cL' (LL ++ NS) := L7.push NS hE' (fun i j hij hj => (hB i (by omega)).apart (hB j (by omega)) (hlo _ _ (by omega))) (fun i j hi hj x hx hx2 => by
    have h1 := (h.born i hi x hx).2
    have h2 := (hB j (by omega) x hx2).1
    have h3 := hlo 0 j (Nat.zero_le _)
    omega) hoL hapL
  have hY1 : Own YE x1 oN cN NL := (h.ownN.keepsN k7a).keeps hapL.kp (fun b h1 h2 => tags_ne (by decide) h.ownN h.lots.own b h1 h2)
  have kx : Keeps no x1 (x1.alloc ob2) := (Keeps.refl _ _).alloc _
  have L2 : Lots x2 oL' cL' (LL ++ NS) := (L1.keepsN kx).keeps hapN.kp (fun b h1 h2 => tags_ne (by decide) L1.own hY1 b h1 h2) (fun j hj b h1 h2 => tags_ne (by decide) (L1.each j hj) hY1 b h1 h2)
  have n1 := hapL.new (w0 := w8) h.newL (h.kp.trans k7a)
  have n2 := hapN.new (w0 := w8) h.newN (n1.2.trans kx)
  have zx : v7.heap.size ≤ x2.heap.size := Nat.le_trans (Nat.le_trans kva.size hapL.kp.size) (Nat.le_trans kx.size hapN.kp.size)
  refine ⟨L2, by rw [List.length_append, hlen, h.hmL], by rw [List.length_append, hlen, h.len]; omega, ?_, ?_, n1.1, hoN, by rw [List.length_append, h.hmN]; rfl, by rw [List.length_append, h.lenN]; rfl, ?_, n2.1, n2.2⟩
  · intro j hj
    rw [List.length_append, hlen] at hj
    rw [getD_append]
    have hl := h.len
    by_cases e : j < LL.length
    · rw [if_pos e]; exact h.cont j e
    · rw [if_neg e, hC (j - LL.length) (by omega), show j % 6 = j - LL.length by omega]
  · intro j hj
    rw [List.length_append, hlen] at hj
    rw [getD_append]
    by_cases e : j < LL.length
    · rw [if_pos e]; exact (h.born j e).mono (Nat.le_refl _) (Nat.le_trans W7.size zx)
    · rw [if_neg e]
      have hb := hB (j - LL.length) (by omega)
      exact hb.mono (Nat.le_trans h.kp.size (Nat.le_trans hlo0 (hlo _ _ (Nat.zero_le _)))) (Nat.le_trans (hlo _ 6 (by omega)) (Nat.le_trans hlo6 zx))
  · have keepP : ∀ {o : Option Addr} {c : Nat}, Own PE v7 o c NN → Own PE x2 o c NN := fun {o c} hP => by
      have q1 : Own PE x1 o c NN := (hP.keepsN kva).keeps hapL.kp (fun b h1 h2 => tags_ne (by decide) (hP.keepsN kva) L7.own b h1 h2)
      exact (q1.keepsN kx).keeps hapN.kp (fun b h1 h2 => tags_ne (by decide) q1 hY1 b h1 h2)
    intro j hj
    rw [getD_append]
    by_cases e : j < NL.length
    · rw [if_pos e]
      have := h.eachN j e
      exact ⟨keepP (this.1.keepsN W7), this.2⟩
    · rw [if_neg e]
      rw [List.length_append] at hj
      have : j - NL.length = 0 := by simp at hj; omega
      rw [this]
      exact ⟨keepP hp6, rfl, new6⟩
end Go.Proofs.Ytpfbbfbghldmjaa
