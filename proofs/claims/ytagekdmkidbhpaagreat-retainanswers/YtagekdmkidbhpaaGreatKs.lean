import Derived.Test.YtagekdmkidbhpaaGreatMp
import Derived.Test.YtagekdmkidbhpaaGreatHp
/- The kinds of keys: texts, names of writes, marks. -/
namespace Go.Proofs.YtagekdmkidbhpaaGreat
open Go.RowKit Go.Maps
set_option linter.unusedVariables false
set_option linter.unusedSimpArgs false

def KT : Kk Tx := ⟨9, .string, fun s => .string s.data.toList, fun s => s.size ≤ maxLen⟩
def KI : Kk Nat := ⟨42, fun n => .int .u64 ((n : Nat) : Int), fun n => .int .u64 ((n : Nat) : Int), fun n => n < 18446744073709551616⟩
abbrev Mk := Tx × Nat
def KM : Kk Mk := ⟨83, fun m => .agg #[.string m.1, .int .u64 ((m.2 : Nat) : Int)], fun m => .string (keyBytes [.string m.1.data.toList, .int .u64 ((m.2 : Nat) : Int)]), fun m => m.1.size ≤ maxLen ∧ m.2 < 18446744073709551616⟩
theorem lawT : KT.Law where
  keyed := string_keyed Tryz.underlying9
  key s h := by
    have h' : s.size ≤ maxLen := h
    show keyOf Tryz.prog 9 (.string s) = some (.string s.data.toList)
    simp [keyOf, Tryz.underlying9, mapKey, h']
  inv v l h := by
    change keyOf Tryz.prog 9 v = some l at h
    cases v <;> simp [keyOf, Tryz.underlying9, mapKey] at h
    exact ⟨_, rfl, h.2.symm, h.1⟩
  vinj a b h := by
    change Value.string a = Value.string b at h
    injection h
theorem wfI (n : Nat) : (Lit.int .u64 ((n : Nat) : Int)).wf = true ↔ n < 18446744073709551616 := by
  simp [Lit.wf, IntKind.min, IntKind.max, IntKind.signed, IntKind.bits]
  omega
theorem lawI : KI.Law where
  keyed := int_keyed Tryz.underlying42
  key n h := keyOf_int_mk Tryz.underlying42 ((wfI n).2 h)
  inv v l h := by
    obtain ⟨x, rfl, rfl, hw⟩ := keyOf_int_inv Tryz.underlying42 h
    have h0 : 0 ≤ x := by
      simp [Lit.wf, IntKind.min, IntKind.max, IntKind.signed, IntKind.bits] at hw
      omega
    obtain ⟨n, rfl⟩ := Int.eq_ofNat_of_zero_le h0
    exact ⟨n, rfl, rfl, (wfI n).1 hw⟩
  vinj a b h := by
    change Value.int .u64 (a : Int) = Value.int .u64 (b : Int) at h
    injection h with _ h
    omega
theorem laidOut : laidOutB Tryz.prog = true := by kernel_rfl
theorem keyTypeM : Tryz.prog.keyType 83 = true := by kernel_rfl
theorem cellsM : Tryz.prog.cellsOf 83 = 2 := by kernel_rfl
theorem cells9 : Tryz.prog.cellsOf 9 = 1 := by kernel_rfl
theorem cellsI : Tryz.prog.cellsOf 42 = 1 := by kernel_rfl
theorem rowM : (83 : TypeId) < Tryz.prog.types.size := of_decide_eq_true (by kernel_rfl)
theorem typesD : ∃ d, Tryz.prog.types.size = d + 1 := by
  have h : 1 ≤ Tryz.prog.types.size := of_decide_eq_true (by kernel_rfl)
  exact ⟨Tryz.prog.types.size - 1, by omega⟩
theorem wideM : (match Tryz.prog.underlying 83 with | some (.array _ _) | some (.struct _) => true | _ => false) = true := by kernel_rfl
theorem kta : Tryz.prog.keyTypeAt 2 83 = true := by kernel_rfl
set_option maxRecDepth 20000 in
theorem keyedM : Keyed Tryz.prog 83 := Keyed.of_law (deep_law_laid (P := Tryz.prog) laidOut (m := 2) (k := 83) (Nat.le_of_ble_eq_true rfl) rowM kta wideM)
theorem lits9 (d : Nat) (v : Value) : Tryz.prog.keyLits (d + 1) 9 [v] = match v with | .string s => if s.size ≤ maxLen then some [.string s.data.toList] else none | _ => none := by
  unfold Program.keyLits
  rw [Tryz.underlying9]
  cases v <;> rfl
theorem litsI (d : Nat) (v : Value) : Tryz.prog.keyLits (d + 1) 42 [v] = match v with | .int q' n => if q' = IntKind.u64 ∧ (Lit.int .u64 n).wf = true then some [.int .u64 n] else none | _ => none := by
  unfold Program.keyLits
  rw [Tryz.underlying42]
  cases v <;> rfl
theorem litsM (D : Nat) (a b : Value) : Tryz.prog.keyLits (D + 1) 83 [a, b] = (Tryz.prog.keyLits D 9 [a]).bind fun x => (Tryz.prog.keyLits D 42 [b]).map fun y => x ++ y := by
  generalize hA : Tryz.prog.keyLits D 9 [a] = A
  generalize hB : Tryz.prog.keyLits D 42 [b] = B
  unfold Program.keyLits
  rw [Tryz.underlying83]
  simp only [cellsM]
  rw [if_pos (by constructor; rfl; simp)]
  simp only [List.mapM_cons, List.mapM_nil, List.drop_zero, List.drop_succ_cons, cells9, cellsI, List.take_succ_cons, List.take_zero, hA, hB]
  cases A <;> cases B <;> simp
theorem keyM_mk (a b : Value) : keyOf Tryz.prog 83 (.agg #[a, b]) = (Tryz.prog.keyLits (Tryz.prog.types.size) 9 [a]).bind fun x => (Tryz.prog.keyLits (Tryz.prog.types.size) 42 [b]).map fun y => .string (keyBytes (x ++ y)) := by
  have hf : (Value.agg #[a, b]).formed Tryz.prog 83 = true := by simp [Value.formed, Tryz.underlying83, cellsM]
  unfold keyOf
  rw [Tryz.underlying83]
  simp only [keyTypeM, hf, Bool.true_and, if_true, Value.cells]
  generalize Tryz.prog.types.size = D
  rw [litsM]
  cases Tryz.prog.keyLits D 9 [a] with
  | none => rfl
  | some x => cases Tryz.prog.keyLits D 42 [b] <;> rfl
set_option maxRecDepth 20000 in
theorem keyM_shape (v : Value) (l : Lit) (h : keyOf Tryz.prog 83 v = some l) : ∃ a b, v = .agg #[a, b] := by
  simp only [keyOf, Tryz.underlying83, keyTypeM, Bool.true_and] at h
  have hf : v.formed Tryz.prog 83 = true := by
    cases e : v.formed Tryz.prog 83 with
    | true => rfl
    | false => rw [e] at h; simp at h
  cases v with
  | agg cs =>
    obtain ⟨l⟩ := cs
    simp [Value.formed, Tryz.underlying83, cellsM] at hf
    clear h
    cases l with
    | nil => simp at hf
    | cons a r => cases r with
      | nil => simp at hf
      | cons b q => cases q with
        | nil => exact ⟨a, b, rfl⟩
        | cons _ _ => simp at hf
  | _ => simp [Value.formed, Tryz.underlying83] at hf
theorem lawM : KM.Law where
  keyed := keyedM
  key m h := by
    obtain ⟨d, hd⟩ := typesD
    have h1 : m.1.size ≤ maxLen := h.1
    have h2 : m.2 < 18446744073709551616 := h.2
    show keyOf Tryz.prog 83 (.agg #[.string m.1, .int .u64 ((m.2 : Nat) : Int)]) = _
    rw [keyM_mk]
    simp only [hd, lits9, litsI, h1, (wfI m.2).2 h2]
    rfl
  inv v l h := by
    obtain ⟨d, hd⟩ := typesD
    change keyOf Tryz.prog 83 v = some l at h
    obtain ⟨a, b, rfl⟩ := keyM_shape v l h
    rw [keyM_mk, hd, lits9, litsI] at h
    cases a <;> simp at h
    rename_i s
    cases b <;> simp at h
    rename_i q n
    by_cases hs : s.size ≤ maxLen
    rotate_left
    · simp [hs] at h
    simp [hs] at h
    obtain ⟨⟨rfl, hw⟩, rfl⟩ := h
    have h0 : 0 ≤ n := by
      simp [Lit.wf, IntKind.min, IntKind.max, IntKind.signed, IntKind.bits] at hw
      omega
    obtain ⟨k, rfl⟩ := Int.eq_ofNat_of_zero_le h0
    exact ⟨(s, k), rfl, rfl, hs, (wfI k).1 hw⟩
  vinj a b h := by
    obtain ⟨a1, a2⟩ := a
    obtain ⟨b1, b2⟩ := b
    change Value.agg #[.string a1, .int .u64 (a2 : Int)] = Value.agg #[.string b1, .int .u64 (b2 : Int)] at h
    simp at h
    have h2 : a2 = b2 := by omega
    rw [h.1, h2]
end Go.Proofs.YtagekdmkidbhpaaGreat
