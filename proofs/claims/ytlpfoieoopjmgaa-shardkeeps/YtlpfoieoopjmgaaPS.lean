import Derived.Test.YtlpfoieoopjmgaaDS
import Derived.Test.YtlpfoieoopjmgaaG2
namespace Go.Proofs.Ytlpfoieoopjmgaa
open Go.RowKit
set_option linter.unusedVariables false
set_option linter.unusedSimpArgs false

theorem eql38 (x1 x2 : Tx) (w : World) : (binOp .eql 38 (.agg #[.string x1, .string x2]) (.agg #[.string x1, .string x2])).run Try.prog w = .ok (.bool true) w := by
  have u9 := Try.underlying9
  have a9 := Try.isAgg9
  have z9 := Try.sizeOf9
  have hS : Try.prog.underlying 38 = some (.struct (Try.prog.fieldsOf 38)) := by kernel_rfl
  have hp : Try.prog.stoodInHeld 38 = false := by kernel_rfl
  rw [run_eql_struct, show (10000 : Nat) = 9999 + 1 from rfl, run_equalIn_agg w 9999 38 _ _ hS hp]
  simp only [Program.fieldsOf, Try.underlying38]
  go_simp

def kys (l : List Pr) : List Tx := l.map fstP
theorem kys_length (l : List Pr) : (kys l).length = l.length := by simp [kys]
theorem ownOf_kys (P : Nat) (l : List Pr) (j : Nat) : ownOf P idT (kys l) j = kys (ownOf P fstP l j) := by
  unfold ownOf kys
  rw [List.filter_map]
  rfl
theorem prt_kys (P : Nat) (l : List Pr) : ∀ k, prt P idT (kys l) k = (prt P fstP l k).map (fun q => (q.1, kys q.2))
  | 0 => rfl
  | k + 1 => by
    rw [prt, prt, prt_kys P l k, List.map_append, ownOf_kys]
    by_cases h : ownOf P fstP l k = []
    · rw [if_pos h, if_pos (by rw [h]; rfl)]; rfl
    · rw [if_neg h, if_neg (by intro e; exact h (List.map_eq_nil_iff.1 e))]; rfl
theorem kys_sides {w w2 : World} {P : Nat} {l : List Pr} {o o2 : Option Addr} {c c2 : Nat} {gs : List (GS Tx)} {gs2 : List (GS Pr)} {wa wb : World} (h : Told TE GE idT w P (kys l) o c gs wa) (h2 : Told PE HE fstP w2 P l o2 c2 gs2 wb) : gs.length = gs2.length ∧ ∀ j, (gs.getD j gs0).n = (gs2.getD j gs0).n := by
  have e := h.val
  rw [prt_kys, ← h2.val, List.map_map] at e
  have hl : gs.length = gs2.length := by have := congrArg List.length e; simpa using this
  refine ⟨hl, fun j => ?_⟩
  have ej := congrArg (fun m => m[j]?) e
  simp only [List.getElem?_map] at ej
  rw [List.getD_eq_getElem?_getD, List.getD_eq_getElem?_getD]
  by_cases hj : j < gs.length
  · rw [List.getElem?_eq_getElem hj, List.getElem?_eq_getElem (hl ▸ hj)] at ej ⊢
    simp only [Option.map_some, Option.some.injEq, Prod.mk.injEq, Function.comp] at ej
    exact ej.1
  · rw [List.getElem?_eq_none (by omega), List.getElem?_eq_none (by omega)]
    rfl
/-- told since an earlier moment -/
theorem Told.from {α : Type} {E : El α} {G : El (GS α)} {key : α → Tx} {w w1 : World} {P : Nat} {l : List α} {o : Option Addr} {c : Nat} {gs : List (GS α)} {w' : World} (h : Told E G key w1 P l o c gs w') (hk : Keeps no w w1) : Told E G key w P l o c gs w' :=
  ⟨h.own, h.each, h.far, h.val, h.rise, h.top, h.len, h.new.of_le hk.size, fun j hj => (h.news j hj).of_le hk.size, hk.trans h.kp⟩
/-- what ShardPairs holds: the pairs that are told, one row of numbers -/
structure PSt (w : World) (P : Nat) (ps : List Pr) (o : Option Addr) (c : Nat) (gs : List (GS Pr)) (bv : Nat) (V : List Nat) (wr : World) : Prop where
  told : Told PE HE fstP w P ps o c gs wr
  val : Own IE wr (some ⟨bv, 0, none⟩) 65 V
  nV : w.heap.size ≤ bv
  lV : V.length = 65
theorem PSt.keepsN {w : World} {P : Nat} {ps : List Pr} {o : Option Addr} {c : Nat} {gs : List (GS Pr)} {bv : Nat} {V : List Nat} {wr w' : World} (h : PSt w P ps o c gs bv V wr) (k : Keeps no wr w') : PSt w P ps o c gs bv V w' :=
  ⟨h.told.keepsN k, h.val.keepsN k, h.nV, h.lV⟩
theorem PSt.set {w : World} {P : Nat} {ps : List Pr} {o : Option Addr} {c : Nat} {gs : List (GS Pr)} {bv : Nat} {V : List Nat} {wr : World} (h : PSt w P ps o c gs bv V wr) (p v : Nat) (hp : p < 65) :
    wr.cell? ⟨bv, p, none⟩ = some (.int .i64 (V.getD p 0 : Nat)) ∧ wr.frozen? ⟨bv, p, none⟩ = false ∧ PSt w P ps o c gs bv (V.set p v) (wr.setCell ⟨bv, p, none⟩ (.int .i64 (v : Nat))) := by
  obtain ⟨g, e, h1, h2, h3, h4⟩ := h.val.store okI rfl (fun n => .int .i64 (n : Nat)) (fun _ => rfl) 0 p (by rw [h.lV]; exact hp) v
  cases e
  exact ⟨h1, h2, h.told.int (by decide) (by decide) h.val h.nV h4, h3, h.nV, by simp [h.lV]⟩
end Go.Proofs.Ytlpfoieoopjmgaa
