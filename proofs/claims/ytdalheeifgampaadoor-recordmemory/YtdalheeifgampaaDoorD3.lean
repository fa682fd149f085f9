/- The law's made. -/
import Derived.Test.YtdalheeifgampaaDoorD2
import Derived.Deep.RegionLaw
import Derived.Deep.RegionHeldLaw
namespace Go.Proofs.YtdalheeifgampaaDoor
open Go.RowKit Go.Sort Orl Pk
set_option linter.unusedVariables false
set_option linter.unusedSimpArgs false

/-- what made's loop has put together -/
structure MkP (L : List Tx) (I : Nat) (P : List Pr) : Prop where
  sub : (kys P).Sublist (L.take I)
  siz : ∀ p ∈ P, p.2.size ≤ 300
  one : 1 ≤ I → 1 ≤ P.length
theorem MkP.skip {L : List Tx} {I : Nat} {P : List Pr} (h : MkP L I P) (hI : I < L.length) (h0 : 1 ≤ I) : MkP L (I + 1) P :=
  ⟨h.sub.trans (by rw [take_succ_getD L I e0 hI]; exact List.sublist_append_left _ _), h.siz, fun _ => h.one h0⟩
theorem MkP.push {L : List Tx} {I : Nat} {P : List Pr} (h : MkP L I P) (hI : I < L.length) (v : Tx) (hv : v.size ≤ 300) : MkP L (I + 1) (P ++ [(L.getD I e0, v)]) := by
  refine ⟨?_, ?_, fun _ => by simp⟩
  · rw [take_succ_getD L I e0 hI]
    show ((P ++ [(L.getD I e0, v)]).map Prod.fst).Sublist _
    rw [List.map_append]
    exact List.Sublist.append h.sub (List.Sublist.refl _)
  · intro p hp
    rcases List.mem_append.1 hp with hp | hp
    · exact h.siz p hp
    · rw [List.mem_singleton.1 hp]; exact hv
theorem made_may {L : List Tx} {P : List Pr} {J : Nat} (hL : Ks L) (h1 : 1 ≤ L.length) (hJ : 65536 ≤ J) (h : MkP L L.length P) : may ⟨1, J, P, L⟩ = true := by
  rw [may_1 rfl hJ]
  have hs := h.sub
  rw [List.take_length] at hs
  have hr : rising lts L = true := (rising_iff swoT L).2 hL.inc
  have hk : mayK L = true := by
    unfold mayK
    rw [hr]
    simp only [Bool.and_true, Bool.and_eq_true, decide_eq_true_eq, List.all_eq_true]
    exact ⟨⟨h1, by have := hL.few; omega⟩, fun s hs => by have := hL.siz s hs; omega⟩
  have hw : walkP P L = true := (walkP_iff P L hL.inc).2 ⟨fun p hp => by have := h.siz p hp; omega, hL.inc.sublist hs, fun k hk => hs.subset hk⟩
  have h0 := h.one h1
  show (mayK L && (decide (1 ≤ P.length) && walkP P L)) = true
  rw [hk, hw, decide_eq_true h0]; rfl
theorem layP_len {B : Nat} : ∀ (P : List Pr), (∀ p ∈ P, p.1.size + p.2.size ≤ B) → (layP P).length ≤ P.length * (8 + B)
  | [], _ => by simp [layP]
  | p :: P, h => by
    have ih := layP_len P (fun q hq => h q (List.mem_cons_of_mem _ hq))
    have h0 := h p List.mem_cons_self
    show (layP1 p ++ layP P).length ≤ _
    rw [List.length_append, List.length_cons, Nat.add_mul]
    unfold layP1
    rw [List.length_append, txt_length, txt_length, nats_length, nats_length]
    omega
theorem bodyLen_le2 {B : Nat} : ∀ (ss : List Tx), (∀ s ∈ ss, s.size ≤ B) → bodyLen (natss ss) ≤ ss.length * (4 + B)
  | [], _ => by simp [natss, bodyLen]
  | s :: l, h => by
    have ih := bodyLen_le2 l (fun x hx => h x (List.mem_cons_of_mem _ hx))
    have h0 := h s List.mem_cons_self
    show 4 + (nats s).length + bodyLen (natss l) ≤ _
    rw [nats_length, List.length_cons, Nat.add_mul]; omega
theorem made_len {L : List Tx} {P : List Pr} {J : Nat} (hL : Ks L) (h : MkP L L.length P) : (body ⟨1, J, P, L⟩).length ≤ 100000 := by
  have hs := h.sub
  rw [List.take_length] at hs
  have hpl : P.length ≤ 40 := by
    have := hs.length_le
    rw [kys_length] at this
    have := hL.few; omega
  have h1 := layP_len (B := 600) P (fun p hp => by
    have h2 := h.siz p hp
    have h3 := hL.siz p.1 (hs.subset (List.mem_map.2 ⟨p, hp, rfl⟩))
    omega)
  have h2 := bodyLen_le2 (B := 300) L hL.siz
  have h3 : P.length * (8 + 600) ≤ 40 * (8 + 600) := Nat.mul_le_mul_right _ hpl
  have h4 : L.length * (4 + 300) ≤ 40 * (4 + 300) := Nat.mul_le_mul_right _ hL.few
  unfold body layF
  simp only [if_true, List.length_append, num_length, txts_length]
  omega
theorem made_fit {L : List Tx} {P : List Pr} {J : Nat} (hL : Ks L) (h : MkP L L.length P) (hJ : J < 18446744073709551616) : FitR ⟨1, J, P, L⟩ := by
  have hs := h.sub
  rw [List.take_length] at hs
  have hpl : P.length ≤ 40 := by
    have := hs.length_le
    rw [kys_length] at this
    have := hL.few; omega
  exact ⟨by have := hL.few; simp only; omega, fun s hs => by have := hL.siz s hs; omega, by simp only; omega, fun p hp => ⟨by have h3 := hL.siz p.1 (hs.subset (List.mem_map.2 ⟨p, hp, rfl⟩)); omega, by have := h.siz p hp; omega⟩, by simp only; omega, by simp only; omega, hJ⟩
theorem or_id (n : Nat) (hn : n < 18446744073709551616) : ∃ J : Nat, bits .or .u64 (n : Int) 65536 = (J : Int) ∧ 65536 ≤ J ∧ J < 18446744073709551616 := by
  refine ⟨n ||| 65536, ?_, Nat.right_le_or, ?_⟩
  · exact u64_or_nat n 65536 hn (by decide)
  · exact Nat.or_lt_two_pow (n := 64) hn (by decide)
/-- what made tells -/
def MadeTo (w : World) (e : Ending) (w' : World) : Prop :=
  ∃ (k : Int) (i : Nat) (op : Option Addr) (np cp : Nat) (ok : Option Addr) (nk ck : Nat) (r : Rec), e = .returned (.agg #[.int .i64 k, .int .u64 (i : Nat), .slice op np cp, .slice ok nk ck]) ∧ Hid (Got w w' ⟨k, i, op, np, cp, ok, nk, ck⟩ r ∧ may r = true ∧ (body r).length ≤ 100000) ∧ Keeps no w w'
theorem made_cm (J : Nat) (hJ : 65536 ≤ J) (hJ2 : J < 18446744073709551616) : may ⟨2, J, [], []⟩ = true ∧ (body ⟨2, J, [], []⟩).length ≤ 100000 ∧ FitR ⟨2, J, [], []⟩ := by
  refine ⟨by rw [may_2 rfl hJ]; rfl, ?_, ⟨by simp, fun s hs => (by cases hs), by simp, fun s hs => (by cases hs), by simp, by simp, hJ2⟩⟩
  unfold body layF
  rw [if_neg (show ¬ (2 : Int) = 1 by decide)]
  simp [num_length]
/-- while made goes over its keys: the plain X, the result B, the record C -/
structure MdS (w : World) (X B C : Nat) (xs cs : Array Value) (wr : World) : Prop where
  kp : Keeps no w wr
  x : wr.heap[X]? = some (.cells xs 25 (0, 0))
  b : wr.heap[B]? = some (.cells #[.int .i64 0, .int .u64 0, .slice none 0 0, .slice none 0 0] 30 (0, 0))
  c : wr.heap[C]? = some (.cells cs 30 (0, 0))
  lt : X = w.heap.size ∧ B = X + 1 ∧ C = X + 2
theorem MdS.keepsN {w : World} {X B C : Nat} {xs cs : Array Value} {wr w' : World} (h : MdS w X B C xs cs wr) (k : Keeps no wr w') : MdS w X B C xs cs w' :=
  ⟨h.kp.trans k, k.at h.x id, k.at h.b id, k.at h.c id, h.lt⟩
theorem MdS.set {w : World} {X B C : Nat} {xs cs : Array Value} {wr : World} (h : MdS w X B C xs cs wr) (i : Nat) (v : Value) : MdS w X B C xs (cs.setIfInBounds i v) (wr.setCell ⟨C, i, none⟩ v) ∧ Keeps (eqA C) wr (wr.setCell ⟨C, i, none⟩ v) := by
  have hl := h.lt
  have kS : Keeps (eqA C) wr (wr.setCell ⟨C, i, none⟩ v) := (Keeps.refl (eqA C) wr).setA i v
  exact ⟨⟨h.kp.then kS (fun j hj => .inr (by unfold eqA at hj; omega)), kS.at h.x (by unfold eqA; omega), kS.at h.b (by unfold eqA; omega), blk_set h.c i v, h.lt⟩, kS⟩
/-- an append onto a list of the call's own -/
theorem MdS.ap {w : World} {X B C : Nat} {xs cs : Array Value} {wr w' : World} (h : MdS w X B C xs cs wr) {o o' : Option Addr} (hn : ∀ j, inO o j → C < j) (hap : Ap wr o o' w') : MdS w X B C xs cs w' ∧ ∀ j, inO o' j → C < j := by
  have hl := h.lt
  have hcl := lt_of_block h.c
  rcases hap with ⟨rfl, hh⟩ | ⟨⟨g, rfl, hg⟩, hh⟩
  · exact ⟨⟨h.kp.then hh (fun j hj => .inr (by have := hn j hj; omega)), hh.at h.x (fun hi => by have := hn _ hi; omega), hh.at h.b (fun hi => by have := hn _ hi; omega), hh.at h.c (fun hi => by have := hn _ hi; omega), h.lt⟩, hn⟩
  · refine ⟨h.keepsN hh, ?_⟩
    rintro j ⟨x, e, rfl⟩
    cases e
    show C < g
    omega
end Go.Proofs.YtdalheeifgampaaDoor
