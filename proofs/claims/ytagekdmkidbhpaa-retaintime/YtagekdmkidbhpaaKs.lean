import Derived.Test.YtagekdmkidbhpaaMp
import Derived.Test.YtagekdmkidbhpaaHp
/- The kinds of keys: texts, names of writes, marks. -/
namespace Go.Proofs.Ytagekdmkidbhpaa
open Go.RowKit Go.Maps
set_option linter.unusedVariables false
set_option linter.unusedSimpArgs false

def KT : Kk Tx := ⟨9, .string, fun s => .string s.data.toList, fun s => s.size ≤ maxLen⟩
def KI : Kk Nat := ⟨35, fun n => .int .u64 ((n : Nat) : Int), fun n => .int .u64 ((n : Nat) : Int), fun n => n < 18446744073709551616⟩
abbrev Mk := Tx × Nat
def KM : Kk Mk := ⟨87, fun m => .agg #[.string m.1, .int .u64 ((m.2 : Nat) : Int)], fun m => .string (keyBytes [.string m.1.data.toList, .int .u64 ((m.2 : Nat) : Int)]), fun m => m.1.size ≤ maxLen ∧ m.2 < 18446744073709551616⟩
theorem lawT : KT.Law where
  keyed := string_keyed Try.underlying9
  key s h := by
    have h' : s.size ≤ maxLen := h
    show keyOf Try.prog 9 (.string s) = some (.string s.data.toList)
    simp [keyOf, Try.underlying9, mapKey, h']
  inv v l h := by
    change keyOf Try.prog 9 v = some l at h
    cases v <;> simp [keyOf, Try.underlying9, mapKey] at h
    exact ⟨_, rfl, h.2.symm, h.1⟩
  vinj a b h := by
    change Value.string a = Value.string b at h
    injection h
theorem wfI (n : Nat) : (Lit.int .u64 ((n : Nat) : Int)).wf = true ↔ n < 18446744073709551616 := by
  simp [Lit.wf, IntKind.min, IntKind.max, IntKind.signed, IntKind.bits]
  omega
theorem lawI : KI.Law where
  keyed := int_keyed Try.underlying35
  key n h := keyOf_int_mk Try.underlying35 ((wfI n).2 h)
  inv v l h := by
    obtain ⟨x, rfl, rfl, hw⟩ := keyOf_int_inv Try.underlying35 h
    have h0 : 0 ≤ x := by
      simp [Lit.wf, IntKind.min, IntKind.max, IntKind.signed, IntKind.bits] at hw
      omega
    obtain ⟨n, rfl⟩ := Int.eq_ofNat_of_zero_le h0
    exact ⟨n, rfl, rfl, (wfI n).1 hw⟩
  vinj a b h := by
    change Value.int .u64 (a : Int) = Value.int .u64 (b : Int) at h
    injection h with _ h
    omega
theorem laidOut : laidOutB Try.prog = true := by kernel_rfl
theorem keyTypeM : Try.prog.keyType 87 = true := by kernel_rfl
theorem cellsM : Try.prog.cellsOf 87 = 2 := by kernel_rfl
theorem cells9 : Try.prog.cellsOf 9 = 1 := by kernel_rfl
theorem cellsI : Try.prog.cellsOf 35 = 1 := by kernel_rfl
theorem rowM : (87 : TypeId) < Try.prog.types.size := of_decide_eq_true (by kernel_rfl)
theorem typesD : ∃ d, Try.prog.types.size = d + 1 := by
  have h : 1 ≤ Try.prog.types.size := of_decide_eq_true (by kernel_rfl)
  exact ⟨Try.prog.types.size - 1, by omega⟩
theorem wideM : (match Try.prog.underlying 87 with | some (.array _ _) | some (.struct _) => true | _ => false) = true := by kernel_rfl
theorem kta : Try.prog.keyTypeAt 2 87 = true := by kernel_rfl
set_option maxRecDepth 20000 in
theorem keyedM : Keyed Try.prog 87 := Keyed.of_law (deep_law_laid (P := Try.prog) laidOut (m := 2) (k := 87) (Nat.le_of_ble_eq_true rfl) rowM kta wideM)
theorem lits9 (d : Nat) (v : Value) : Try.prog.keyLits (d + 1) 9 [v] = match v with | .string s => if s.size ≤ maxLen then some [.string s.data.toList] else none | _ => none := by
  unfold Program.keyLits
  rw [Try.underlying9]
  cases v <;> rfl
theorem litsI (d : Nat) (v : Value) : Try.prog.keyLits (d + 1) 35 [v] = match v with | .int q' n => if q' = IntKind.u64 ∧ (Lit.int .u64 n).wf = true then some [.int .u64 n] else none | _ => none := by
  unfold Program.keyLits
  rw [Try.underlying35]
  cases v <;> rfl
theorem litsM (D : Nat) (a b : Value) : Try.prog.keyLits (D + 1) 87 [a, b] = (Try.prog.keyLits D 9 [a]).bind fun x => (Try.prog.keyLits D 35 [b]).map fun y => x ++ y := by
  generalize hA : Try.prog.keyLits D 9 [a] = A
  generalize hB : Try.prog.keyLits D 35 [b] = B
  unfold Program.keyLits
  rw [Try.underlying87]
  simp only [cellsM]
  rw [if_pos (by constructor; rfl; simp)]
  simp only [List.mapM_cons, List.mapM_nil, List.drop_zero, List.drop_succ_cons, cells9, cellsI, List.take_succ_cons, List.take_zero, hA, hB]
  cases A <;> cases B <;> simp
theorem keyM_mk (a b : Value) : keyOf Try.prog 87 (.agg #[a, b]) = (Try.prog.keyLits (Try.prog.types.size) 9 [a]).bind fun x => (Try.prog.keyLits (Try.prog.types.size) 35 [b]).map fun y => .string (keyBytes (x ++ y)) := by
  have hf : (Value.agg #[a, b]).formed Try.prog 87 = true := by simp [Value.formed, Try.underlying87, cellsM]
  unfold keyOf
  rw [Try.underlying87]
  simp only [keyTypeM, hf, Bool.true_and, if_true, Value.cells]
  generalize Try.prog.types.size = D
  rw [litsM]
  cases Try.prog.keyLits D 9 [a] with
  | none => rfl
  | some x => cases Try.prog.keyLits D 35 [b] <;> rfl
set_option maxRecDepth 20000 in
theorem keyM_shape (v : Value) (l : Lit) (h : keyOf Try.prog 87 v = some l) : ∃ a b, v = .agg #[a, b] := by
  simp only [keyOf, Try.underlying87, keyTypeM, Bool.true_and] at h
  have hf : v.formed Try.prog 87 = true := by
    cases e : v.formed Try.prog 87 with
    | true => rfl
    | false => rw [e] at h; simp at h
  cases v with
  | agg cs =>
    obtain ⟨l⟩ := cs
    simp [Value.formed, Try.underlying87, cellsM] at hf
    clear h
    cases l with
    | nil => simp at hf
    | cons a r => cases r with
      | nil => simp at hf
      | cons b q => cases q with
        | nil => exact ⟨a, b, rfl⟩
        | cons _ _ => simp at hf
  | _ => simp [Value.formed, Try.underlying87] at hf
theorem lawM : KM.Law where
  keyed := keyedM
  key m h := by
    obtain ⟨d, hd⟩ := typesD
    have h1 : m.1.size ≤ maxLen := h.1
    have h2 : m.2 < 18446744073709551616 := h.2
    show keyOf Try.prog 87 (.agg #[.string m.1, .int .u64 ((m.2 : Nat) : Int)]) = _
    rw [keyM_mk]
    simp only [hd, lits9, litsI, h1, (wfI m.2).2 h2]
    rfl
  inv v l h := by
    obtain ⟨d, hd⟩ := typesD
    change keyOf Try.prog 87 v = some l at h
    obtain ⟨a, b, rfl⟩ := keyM_shape v l h
    rw [keyM_mk, hd, lits9, litsI] at h
    cases a <;> simp at h
    rename_i s
    cases b <;> simp at h
    rename_i q n
    by_cases hs : s.size ≤ maxLen
    rotate_left
    · simp [hs] at h
    simp [hs] at h
    obtain ⟨⟨rfl, hw⟩, rfl⟩ := h
    have h0 : 0 ≤ n := by
      simp [Lit.wf, IntKind.min, IntKind.max, IntKind.signed, IntKind.bits] at hw
      omega
    obtain ⟨k, rfl⟩ := Int.eq_ofNat_of_zero_le h0
    exact ⟨(s, k), rfl, rfl, hs, (wfI k).1 hw⟩
  vinj a b h := by
    obtain ⟨a1, a2⟩ := a
    obtain ⟨b1, b2⟩ := b
    change Value.agg #[.string a1, .int .u64 (a2 : Int)] = Value.agg #[.string b1, .int .u64 (b2 : Int)] at h
    simp at h
    have h2 : a2 = b2 := by omega
    rw [h.1, h2]
end Go.Proofs.Ytagekdmkidbhpaa
