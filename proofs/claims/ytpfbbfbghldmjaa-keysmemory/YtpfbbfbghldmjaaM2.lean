import Derived.Test.YtpfbbfbghldmjaaM1
namespace Go.Proofs.Ytpfbbfbghldmjaa
open Go.RowKit Go.Sort Orl
set_option linter.unusedVariables false
set_option linter.unusedSimpArgs false

def Z1 (j : Nat) : Int := IntKind.u8.wrap (j : Int)
def Z2 (j : Nat) : Int := IntKind.u8.wrap (100 + (j : Int))
/-- n marks of the one kind, then m of the other -/
def Good (n m j : Nat) (xs : List Tx) : Prop := xs.length = n + m ∧ (∀ t, t < n → xs.getD t e0 = mk (Z1 j)) ∧ (∀ t, n ≤ t → t < n + m → xs.getD t e0 = mk (Z2 j))

structure ApSt (B : Nat) (w : World) (N : Nat) (oA : Option Addr) (cA : Nat) (nsf : List Nat) (m : Nat) (on : Option Addr) (cn : Nat) (L : List SlT) (wr : World) : Prop where
  lots : Lots wr oA cA L
  len : L.length = N
  kp : Keeps (fun k => B ≤ k) w wr
  base : B ≤ w.heap.size
  bA : ∀ k, inO oA k → B ≤ k
  bL : ∀ j, j < N → ∀ k, inO (L.getD j s0).o k → B ≤ k
  ints : Own IE wr on cn (nsf.take m)
  bn : ∀ k, inO on k → B ≤ k
  nlen : nsf.length = N
  nle : ∀ j, j < N → nsf.getD j 0 ≤ 2000

theorem ApSt.keepsN {B : Nat} {w : World} {N : Nat} {oA : Option Addr} {cA : Nat} {nsf : List Nat} {m : Nat} {on : Option Addr} {cn : Nat} {L : List SlT} {wr w' : World} (h : ApSt B w N oA cA nsf m on cn L wr) (k : Keeps no wr w') : ApSt B w N oA cA nsf m on cn L w' :=
  ⟨h.lots.keepsN k, h.len, h.kp.trans k.of_no, h.base, h.bA, h.bL, h.ints.keepsN k, h.bn, h.nlen, h.nle⟩
theorem ApSt.ge {B : Nat} {w : World} {N : Nat} {oA : Option Addr} {cA : Nat} {nsf : List Nat} {m : Nat} {on : Option Addr} {cn : Nat} {L : List SlT} {wr : World} (h : ApSt B w N oA cA nsf m on cn L wr) : B ≤ wr.heap.size := Nat.le_trans h.base h.kp.size
/-- one number more -/
theorem ApSt.int {B : Nat} {w : World} {N : Nat} {oA : Option Addr} {cA : Nat} {nsf : List Nat} {m : Nat} {on : Option Addr} {cn : Nat} {L : List SlT} {wr w' : World} (h : ApSt B w N oA cA nsf m on cn L wr) {o' : Option Addr} {c' : Nat} (ho : Own IE w' o' c' (nsf.take (m + 1))) (hap : Ap wr on o' w') : ApSt B w N oA cA nsf (m + 1) o' c' L w' := by
  have hk : Keeps (inO on) wr w' := by
    rcases hap with ⟨_, hk⟩ | ⟨_, hk⟩
    · exact hk
    · exact hk.of_no
  refine ⟨h.lots.keepsI h.ints hk, h.len, h.kp.trans (hk.mono h.bn), h.base, h.bA, h.bL, ho, ?_, h.nlen, h.nle⟩
  rcases hap with ⟨e, _⟩ | ⟨⟨g, e, hg⟩, _⟩
  · subst e; exact h.bn
  · subst e
    rintro k ⟨x, ex, rfl⟩
    cases ex
    exact Nat.le_trans h.ge hg
/-- one text written over -/
theorem ApSt.setT {B : Nat} {w : World} {N : Nat} {oA : Option Addr} {cA : Nat} {nsf : List Nat} {m : Nat} {on : Option Addr} {cn : Nat} {L : List SlT} {wr : World} (h : ApSt B w N oA cA nsf m on cn L wr) (i k : Nat) (hi : i < N) (hk : k < (L.getD i s0).xs.length) (s : Tx) :
    ∃ g, (L.getD i s0).o = some ⟨g, 0, none⟩ ∧ wr.cell? ⟨g, k, none⟩ = some (.string ((L.getD i s0).xs.getD k e0)) ∧ wr.frozen? ⟨g, k, none⟩ = false ∧ g < wr.heap.size ∧ ApSt B w N oA cA nsf m on cn (L.set i ⟨(L.getD i s0).o, (L.getD i s0).c, (L.getD i s0).xs.set k s⟩) (wr.setCell ⟨g, k, none⟩ (.string s)) := by
  have hi' : i < L.length := by rw [h.len]; exact hi
  obtain ⟨g, e, h1, h2, h3, h4⟩ := h.lots.setT i k hi' hk s
  have hg : g < wr.heap.size := World.block_lt_of_cell? wr _ h1
  refine ⟨g, e, h1, h2, hg, h3, by rw [List.length_set]; exact h.len, h.kp.trans (h4.mono (h.bL i hi)), h.base, h.bA, ?_, h.ints.keeps h4 (fun b hb1 hb2 => tags_ne (by decide) h.ints (h.lots.each i hi') b hb1 hb2), h.bn, h.nlen, h.nle⟩
  intro j hj x hx
  rw [getD_set L i j _ s0 hi'] at hx
  by_cases e2 : j = i
  · rw [if_pos e2] at hx; exact h.bL i hi x hx
  · rw [if_neg e2] at hx; exact h.bL j hj x hx
/-- one list longer -/
theorem ApSt.app {B : Nat} {w : World} {N : Nat} {oA : Option Addr} {cA : Nat} {nsf : List Nat} {m : Nat} {on : Option Addr} {cn : Nat} {L : List SlT} {wr w' : World} (h : ApSt B w N oA cA nsf m on cn L wr) (i : Nat) (hi : i < N) {o' : Option Addr} {c' : Nat} {ys : List Tx} (ho : Own TE w' o' c' ys) (hap : Ap wr (L.getD i s0).o o' w') :
    ∃ b, oA = some ⟨b, 0, none⟩ ∧ w'.cell? ⟨b, i, none⟩ = some (.slice (L.getD i s0).o (L.getD i s0).xs.length (L.getD i s0).c) ∧ w'.frozen? ⟨b, i, none⟩ = false ∧ ApSt B w N oA cA nsf m on cn (L.set i ⟨o', c', ys⟩) (w'.setCell ⟨b, i, none⟩ (.slice o' ys.length c')) := by
  have hi' : i < L.length := by rw [h.len]; exact hi
  obtain ⟨b, e, h1, h2, h3, h4⟩ := h.lots.app i hi' ho hap
  have k1 : Keeps (fun k => B ≤ k) wr w' := h4.mono (h.bL i hi)
  have hbB : B ≤ b := h.bA b ⟨_, e, rfl⟩
  have k2 : Keeps (fun k => B ≤ k) wr (w'.setCell ⟨b, i, none⟩ (.slice o' ys.length c')) := k1.setCell (.inl hbB) _
  have hin : Own IE w' on cn (nsf.take m) := h.ints.keeps h4 (fun b hb1 hb2 => tags_ne (by decide) h.ints (h.lots.each i hi') b hb1 hb2)
  refine ⟨b, e, h1, h2, h3, by rw [List.length_set]; exact h.len, h.kp.trans k2, h.base, h.bA, ?_, ?_, h.bn, h.nlen, h.nle⟩
  · intro j hj x hx
    rw [getD_set L i j _ s0 hi'] at hx
    by_cases e2 : j = i
    · rw [if_pos e2] at hx
      rcases hap with ⟨e', _⟩ | ⟨⟨g, e', hg⟩, _⟩
      · subst e'; exact h.bL i hi x hx
      · subst e'
        obtain ⟨y, ey, rfl⟩ := hx
        cases ey
        exact Nat.le_trans h.ge hg
    · rw [if_neg e2] at hx; exact h.bL j hj x hx
  · refine hin.keeps (S := fun k => k = b) ((Keeps.refl (fun k => k = b) w').setCell (p := ⟨b, i, none⟩) (.inl rfl) _) (fun x hx e' => ?_)
    subst e'
    obtain ⟨cur, hc⟩ := hin.tag x hx
    have hX : Own XE w' oA cA L := h.lots.own.keeps h4 (fun b hb1 hb2 => tags_ne (by decide) (h.lots.each i hi') h.lots.own b hb2 hb1)
    exact tags_ne (by decide) hin hX x hx ⟨_, e, rfl⟩
end Go.Proofs.Ytpfbbfbghldmjaa
