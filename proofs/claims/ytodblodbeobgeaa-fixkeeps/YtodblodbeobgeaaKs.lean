import Derived.Test.YtodblodbeobgeaaMp
/- The kinds of keys: texts, names of writes, wants. -/
namespace Go.Proofs.Ytodblodbeobgeaa
open Go.RowKit Go.Maps
set_option linter.unusedVariables false
set_option linter.unusedSimpArgs false

def KT : Kk Tx := ⟨9, .string, fun s => .string s.data.toList, fun s => s.size ≤ maxLen⟩
def KI : Kk Nat := ⟨29, fun n => .int .u64 ((n : Nat) : Int), fun n => .int .u64 ((n : Nat) : Int), fun n => n < 18446744073709551616⟩
def KW : Kk Wn := ⟨41, fun m => .agg #[.string m.1, .int .u64 ((m.2 : Nat) : Int)], fun m => .string (keyBytes [.string m.1.data.toList, .int .u64 ((m.2 : Nat) : Int)]), fun m => m.1.size ≤ maxLen ∧ m.2 < 18446744073709551616⟩
theorem lawT : KT.Law where
  keyed := string_keyed Try.underlying9
  key s h := by
    have h' : s.size ≤ maxLen := h
    show keyOf Try.prog 9 (.string s) = some (.string s.data.toList)
    simp [keyOf, Try.underlying9, mapKey, h']
  inv v l h := by
    change keyOf Try.prog 9 v = some l at h
    cases v <;> simp [keyOf, Try.underlying9, mapKey] at h
    exact ⟨_, rfl, h.2.symm, h.1⟩
  vinj a b h := by
    change Value.string a = Value.string b at h
    injection h
theorem wfI (n : Nat) : (Lit.int .u64 ((n : Nat) : Int)).wf = true ↔ n < 18446744073709551616 := by
  simp [Lit.wf, IntKind.min, IntKind.max, IntKind.signed, IntKind.bits]
  omega
theorem lawI : KI.Law where
  keyed := int_keyed Try.underlying29
  key n h := keyOf_int_mk Try.underlying29 ((wfI n).2 h)
  inv v l h := by
    obtain ⟨x, rfl, rfl, hw⟩ := keyOf_int_inv Try.underlying29 h
    have h0 : 0 ≤ x := by
      simp [Lit.wf, IntKind.min, IntKind.max, IntKind.signed, IntKind.bits] at hw
      omega
    obtain ⟨n, rfl⟩ := Int.eq_ofNat_of_zero_le h0
    exact ⟨n, rfl, rfl, (wfI n).1 hw⟩
  vinj a b h := by
    change Value.int .u64 (a : Int) = Value.int .u64 (b : Int) at h
    injection h with _ h
    omega
theorem laidOutK : laidOutB Try.prog = true := by kernel_rfl
theorem keyTypeWn : Try.prog.keyType 41 = true := by kernel_rfl
theorem cellsWn : Try.prog.cellsOf 41 = 2 := by kernel_rfl
theorem cells9 : Try.prog.cellsOf 9 = 1 := by kernel_rfl
theorem cellsI : Try.prog.cellsOf 29 = 1 := by kernel_rfl
theorem rowWn : (41 : TypeId) < Try.prog.types.size := of_decide_eq_true (by kernel_rfl)
theorem typesD : ∃ d, Try.prog.types.size = d + 1 := by
  have h : 1 ≤ Try.prog.types.size := of_decide_eq_true (by kernel_rfl)
  exact ⟨Try.prog.types.size - 1, by omega⟩
theorem wideWn : (match Try.prog.underlying 41 with | some (.array _ _) | some (.struct _) => true | _ => false) = true := by kernel_rfl
theorem kta : Try.prog.keyTypeAt 2 41 = true := by kernel_rfl
set_option maxRecDepth 20000 in
theorem keyedWn : Keyed Try.prog 41 := Keyed.of_law (deep_law_laid (P := Try.prog) laidOutK (m := 2) (k := 41) (Nat.le_of_ble_eq_true rfl) rowWn kta wideWn)
theorem lits9 (d : Nat) (v : Value) : Try.prog.keyLits (d + 1) 9 [v] = match v with | .string s => if s.size ≤ maxLen then some [.string s.data.toList] else none | _ => none := by
  unfold Program.keyLits
  rw [Try.underlying9]
  cases v <;> rfl
theorem litsI (d : Nat) (v : Value) : Try.prog.keyLits (d + 1) 29 [v] = match v with | .int q' n => if q' = IntKind.u64 ∧ (Lit.int .u64 n).wf = true then some [.int .u64 n] else none | _ => none := by
  unfold Program.keyLits
  rw [Try.underlying29]
  cases v <;> rfl
theorem litsWn (D : Nat) (a b : Value) : Try.prog.keyLits (D + 1) 41 [a, b] = (Try.prog.keyLits D 9 [a]).bind fun x => (Try.prog.keyLits D 29 [b]).map fun y => x ++ y := by
  generalize hA : Try.prog.keyLits D 9 [a] = A
  generalize hB : Try.prog.keyLits D 29 [b] = B
  unfold Program.keyLits
  rw [Try.underlying41]
  simp only [cellsWn]
  rw [if_pos (by constructor; rfl; simp)]
  simp only [List.mapM_cons, List.mapM_nil, List.drop_zero, List.drop_succ_cons, cells9, cellsI, List.take_succ_cons, List.take_zero, hA, hB]
  cases A <;> cases B <;> simp
theorem keyWn_mk (a b : Value) : keyOf Try.prog 41 (.agg #[a, b]) = (Try.prog.keyLits (Try.prog.types.size) 9 [a]).bind fun x => (Try.prog.keyLits (Try.prog.types.size) 29 [b]).map fun y => .string (keyBytes (x ++ y)) := by
  have hf : (Value.agg #[a, b]).formed Try.prog 41 = true := by simp [Value.formed, Try.underlying41, cellsWn]
  unfold keyOf
  rw [Try.underlying41]
  simp only [keyTypeWn, hf, Bool.true_and, if_true, Value.cells]
  generalize Try.prog.types.size = D
  rw [litsWn]
  cases Try.prog.keyLits D 9 [a] with
  | none => rfl
  | some x => cases Try.prog.keyLits D 29 [b] <;> rfl
set_option maxRecDepth 20000 in
theorem keyWn_shape (v : Value) (l : Lit) (h : keyOf Try.prog 41 v = some l) : ∃ a b, v = .agg #[a, b] := by
  simp only [keyOf, Try.underlying41, keyTypeWn, Bool.true_and] at h
  have hf : v.formed Try.prog 41 = true := by
    cases e : v.formed Try.prog 41 with
    | true => rfl
    | false => rw [e] at h; simp at h
  cases v with
  | agg cs =>
    obtain ⟨l⟩ := cs
    simp [Value.formed, Try.underlying41, cellsWn] at hf
    clear h
    cases l with
    | nil => simp at hf
    | cons a r => cases r with
      | nil => simp at hf
      | cons b q => cases q with
        | nil => exact ⟨a, b, rfl⟩
        | cons _ _ => simp at hf
  | _ => simp [Value.formed, Try.underlying41] at hf
theorem lawW : KW.Law where
  keyed := keyedWn
  key m h := by
    obtain ⟨d, hd⟩ := typesD
    have h1 : m.1.size ≤ maxLen := h.1
    have h2 : m.2 < 18446744073709551616 := h.2
    show keyOf Try.prog 41 (.agg #[.string m.1, .int .u64 ((m.2 : Nat) : Int)]) = _
    rw [keyWn_mk]
    simp only [hd, lits9, litsI, h1, (wfI m.2).2 h2]
    rfl
  inv v l h := by
    obtain ⟨d, hd⟩ := typesD
    change keyOf Try.prog 41 v = some l at h
    obtain ⟨a, b, rfl⟩ := keyWn_shape v l h
    rw [keyWn_mk, hd, lits9, litsI] at h
    cases a <;> simp at h
    rename_i s
    cases b <;> simp at h
    rename_i q n
    by_cases hs : s.size ≤ maxLen
    rotate_left
    · simp [hs] at h
    simp [hs] at h
    obtain ⟨⟨rfl, hw⟩, rfl⟩ := h
    have h0 : 0 ≤ n := by
      simp [Lit.wf, IntKind.min, IntKind.max, IntKind.signed, IntKind.bits] at hw
      omega
    obtain ⟨k, rfl⟩ := Int.eq_ofNat_of_zero_le h0
    exact ⟨(s, k), rfl, rfl, hs, (wfI k).1 hw⟩
  vinj a b h := by
    obtain ⟨a1, a2⟩ := a
    obtain ⟨b1, b2⟩ := b
    change Value.agg #[.string a1, .int .u64 (a2 : Int)] = Value.agg #[.string b1, .int .u64 (b2 : Int)] at h
    simp at h
    have h2 : a2 = b2 := by omega
    rw [h.1, h2]
theorem IsMp.upd {κ β : Type} [DecidableEq κ] {K : Kk κ} {V : β → Value} {w : World} {b : Nat} {L : List (κ × β)} (h : IsMp K V w b L) (hK : K.Law) {t e : TypeId} (ht : Try.prog.underlying t = some (.map K.t e)) (hl : L.length < maxLen) {k : κ} (hk : K.ok k) (y : β) :
    ∃ w1, (Instr.mapUpdate t (.map (some b)) (K.val k) (V y)).run Try.prog w = .ok () w1 ∧ IsMp K V w1 b (put k y L) ∧ Keeps (fun i => i = b) w w1 ∧ w1.heap.size = w.heap.size := by
  obtain ⟨w1, hr, h1, ht1⟩ := h.own.store hK.keyed ht hl (hK.key k hk) (d := .held (V y)) (ps := []) rfl
  rw [dat_put hK h.ko h.nk hk] at h1
  refine ⟨w1, hr, isMp_of (nk_put h.nk) (fun p hp => ?_) h1, keeps_of_grown ht1.grown, ?_⟩
  · rcases mem_put.1 hp with rfl | hp
    · exact hk
    · exact h.ko p hp.1
  · obtain ⟨_, _, _, _, _, rfl⟩ := ht1; simp [ChangeMaps.setBlock]
theorem IsMp.dele {κ β : Type} [DecidableEq κ] {K : Kk κ} {V : β → Value} {w : World} {b : Nat} {L : List (κ × β)} (h : IsMp K V w b L) (hK : K.Law) {t e : TypeId} (ht : Try.prog.underlying t = some (.map K.t e)) {k : κ} (hk : K.ok k) (ty : TypeId) :
    ∃ w1, (Builtin.delete_ #[t, K.t] ty #[.map (some b), K.val k]).run Try.prog w = .ok (.tuple #[]) w1 ∧ IsMp K V w1 b (del k L) ∧ Keeps (fun i => i = b) w w1 := by
  obtain ⟨w1, hr, h1, ht1⟩ := h.own.drop hK.keyed ht (hK.key k hk) ty
  rw [dat_del hK h.ko h.nk hk] at h1
  exact ⟨w1, hr, isMp_of (nk_del h.nk) (fun p hp => h.ko p (mem_del.1 hp).1) h1, keeps_of_grown ht1.grown⟩
/-- an index, a name as a map's value -/
def Vi : Nat → Value := fun i => .int .i64 ((i : Nat) : Int)
def Vd : Nat → Value := fun i => .int .u64 ((i : Nat) : Int)
theorem updTI {w : World} {b : Nat} {L : List (Tx × Nat)} (h : IsMp KT Vi w b L) (hl : L.length < maxLen) {k : Tx} (hk : k.size ≤ maxLen) (y : Nat) :
    ∃ w1, (Instr.mapUpdate 53 (.map (some b)) (.string k) (.int .i64 ((y : Nat) : Int))).run Try.prog w = .ok () w1 ∧ IsMp KT Vi w1 b (put k y L) ∧ Keeps (fun i => i = b) w w1 ∧ w1.heap.size = w.heap.size :=
  h.upd lawT (t := 53) (e := 3) Try.underlying53 hl (k := k) hk y
theorem updTD {w : World} {b : Nat} {L : List (Tx × Nat)} (h : IsMp KT Vd w b L) (hl : L.length < maxLen) {k : Tx} (hk : k.size ≤ maxLen) (y : Nat) :
    ∃ w1, (Instr.mapUpdate 55 (.map (some b)) (.string k) (.int .u64 ((y : Nat) : Int))).run Try.prog w = .ok () w1 ∧ IsMp KT Vd w1 b (put k y L) ∧ Keeps (fun i => i = b) w w1 ∧ w1.heap.size = w.heap.size :=
  h.upd lawT (t := 55) (e := 29) Try.underlying55 hl (k := k) hk y
theorem updII {w : World} {b : Nat} {L : List (Nat × Nat)} (h : IsMp KI Vi w b L) (hl : L.length < maxLen) {k : Nat} (hk : k < 18446744073709551616) (y : Nat) :
    ∃ w1, (Instr.mapUpdate 67 (.map (some b)) (.int .u64 ((k : Nat) : Int)) (.int .i64 ((y : Nat) : Int))).run Try.prog w = .ok () w1 ∧ IsMp KI Vi w1 b (put k y L) ∧ Keeps (fun i => i = b) w w1 ∧ w1.heap.size = w.heap.size :=
  h.upd lawI (t := 67) (e := 3) Try.underlying67 hl (k := k) hk y
theorem updWI {w : World} {b : Nat} {L : List (Wn × Nat)} (h : IsMp KW Vi w b L) (hl : L.length < maxLen) {k : Tx} {i : Nat} (hk : k.size ≤ maxLen) (hi : i < 18446744073709551616) (y : Nat) :
    ∃ w1, (Instr.mapUpdate 57 (.map (some b)) (.agg #[.string k, .int .u64 ((i : Nat) : Int)]) (.int .i64 ((y : Nat) : Int))).run Try.prog w = .ok () w1 ∧ IsMp KW Vi w1 b (put (k, i) y L) ∧ Keeps (fun i => i = b) w w1 ∧ w1.heap.size = w.heap.size :=
  h.upd lawW (t := 57) (e := 3) Try.underlying57 hl (k := (k, i)) ⟨hk, hi⟩ y
theorem remWI {w : World} {b : Nat} {L : List (Wn × Nat)} (h : IsMp KW Vi w b L) {k : Tx} {i : Nat} (hk : k.size ≤ maxLen) (hi : i < 18446744073709551616) :
    ∃ w1, (Builtin.delete_ #[57, 41] 0 #[.map (some b), .agg #[.string k, .int .u64 ((i : Nat) : Int)]]).run Try.prog w = .ok (.tuple #[]) w1 ∧ IsMp KW Vi w1 b (del (k, i) L) ∧ Keeps (fun i => i = b) w w1 :=
  h.dele lawW (t := 57) (e := 3) Try.underlying57 (k := (k, i)) ⟨hk, hi⟩ 0
theorem lookTI {w : World} {b : Nat} {L : List (Tx × Nat)} (h : IsMp KT Vi w b L) {k : Tx} (hk : k.size ≤ maxLen) {y : Nat} (hf : fnd k L = some y) : (Instr.lookup 53 (.map (some b)) (.string k) false).run Try.prog w = .ok (.int .i64 ((y : Nat) : Int)) w :=
  h.look_some lawT (t := 53) (e := 3) Try.underlying53 (z := .int .i64 0) (Try.zeroValue3 w) (k := k) hk hf
theorem lookTD {w : World} {b : Nat} {L : List (Tx × Nat)} (h : IsMp KT Vd w b L) {k : Tx} (hk : k.size ≤ maxLen) {y : Nat} (hf : fnd k L = some y) : (Instr.lookup 55 (.map (some b)) (.string k) false).run Try.prog w = .ok (.int .u64 ((y : Nat) : Int)) w :=
  h.look_some lawT (t := 55) (e := 29) Try.underlying55 (z := .int .u64 0) (Try.zeroValue29 w) (k := k) hk hf
theorem look2TD {w : World} {b : Nat} {L : List (Tx × Nat)} (h : IsMp KT Vd w b L) {k : Tx} (hk : k.size ≤ maxLen) {y : Nat} (hf : fnd k L = some y) : (Instr.lookup 55 (.map (some b)) (.string k) true).run Try.prog w = .ok (.tuple #[.int .u64 ((y : Nat) : Int), .bool true]) w :=
  h.look2_some lawT (t := 55) (e := 29) Try.underlying55 (z := .int .u64 0) (Try.zeroValue29 w) (k := k) hk hf
theorem look2TDn {w : World} {b : Nat} {L : List (Tx × Nat)} (h : IsMp KT Vd w b L) {k : Tx} (hk : k.size ≤ maxLen) (hf : fnd k L = none) : (Instr.lookup 55 (.map (some b)) (.string k) true).run Try.prog w = .ok (.tuple #[.int .u64 0, .bool false]) w :=
  h.look2_none lawT (t := 55) (e := 29) Try.underlying55 (z := .int .u64 0) (Try.zeroValue29 w) (k := k) hk hf
theorem look2II {w : World} {b : Nat} {L : List (Nat × Nat)} (h : IsMp KI Vi w b L) {k : Nat} (hk : k < 18446744073709551616) {y : Nat} (hf : fnd k L = some y) : (Instr.lookup 67 (.map (some b)) (.int .u64 ((k : Nat) : Int)) true).run Try.prog w = .ok (.tuple #[.int .i64 ((y : Nat) : Int), .bool true]) w :=
  h.look2_some lawI (t := 67) (e := 3) Try.underlying67 (z := .int .i64 0) (Try.zeroValue3 w) (k := k) hk hf
theorem look2IIn {w : World} {b : Nat} {L : List (Nat × Nat)} (h : IsMp KI Vi w b L) {k : Nat} (hk : k < 18446744073709551616) (hf : fnd k L = none) : (Instr.lookup 67 (.map (some b)) (.int .u64 ((k : Nat) : Int)) true).run Try.prog w = .ok (.tuple #[.int .i64 0, .bool false]) w :=
  h.look2_none lawI (t := 67) (e := 3) Try.underlying67 (z := .int .i64 0) (Try.zeroValue3 w) (k := k) hk hf
theorem look2WI {w : World} {b : Nat} {L : List (Wn × Nat)} (h : IsMp KW Vi w b L) {k : Tx} {i : Nat} (hk : k.size ≤ maxLen) (hi : i < 18446744073709551616) {y : Nat} (hf : fnd (k, i) L = some y) : (Instr.lookup 57 (.map (some b)) (.agg #[.string k, .int .u64 ((i : Nat) : Int)]) true).run Try.prog w = .ok (.tuple #[.int .i64 ((y : Nat) : Int), .bool true]) w :=
  h.look2_some lawW (t := 57) (e := 3) Try.underlying57 (z := .int .i64 0) (Try.zeroValue3 w) (k := (k, i)) ⟨hk, hi⟩ hf
theorem look2WIn {w : World} {b : Nat} {L : List (Wn × Nat)} (h : IsMp KW Vi w b L) {k : Tx} {i : Nat} (hk : k.size ≤ maxLen) (hi : i < 18446744073709551616) (hf : fnd (k, i) L = none) : (Instr.lookup 57 (.map (some b)) (.agg #[.string k, .int .u64 ((i : Nat) : Int)]) true).run Try.prog w = .ok (.tuple #[.int .i64 0, .bool false]) w :=
  h.look2_none lawW (t := 57) (e := 3) Try.underlying57 (z := .int .i64 0) (Try.zeroValue3 w) (k := (k, i)) ⟨hk, hi⟩ hf
theorem makeTI (w : World) (n : Int) : (Instr.makeMap 53 (some (.int .i64 n))).run Try.prog w = .ok (.map (some w.heap.size)) (w.alloc (.map #[] 0)) := by kernel_rfl
theorem makeII (w : World) (n : Int) : (Instr.makeMap 67 (some (.int .i64 n))).run Try.prog w = .ok (.map (some w.heap.size)) (w.alloc (.map #[] 0)) := by kernel_rfl
theorem makeTD (w : World) (n : Int) : (Instr.makeMap 55 (some (.int .i64 n))).run Try.prog w = .ok (.map (some w.heap.size)) (w.alloc (.map #[] 0)) := by kernel_rfl
theorem makeWI (w : World) (n : Int) : (Instr.makeMap 57 (some (.int .i64 n))).run Try.prog w = .ok (.map (some w.heap.size)) (w.alloc (.map #[] 0)) := by kernel_rfl
end Go.Proofs.Ytodblodbeobgeaa
