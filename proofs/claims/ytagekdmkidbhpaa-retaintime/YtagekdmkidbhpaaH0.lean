import Derived.Test.YtagekdmkidbhpaaOb
/- How the methods of a heap are reached. -/
namespace Go.Proofs.Ytagekdmkidbhpaa
open Go.RowKit
set_option linter.unusedVariables false
set_option linter.unusedSimpArgs false
theorem load_ids {w : World} {a : Addr} {o : Option Addr} {n c : Nat} (h : w.cell? a = some (.slice o n c)) : (loadVar 94 a).run Try.prog w = .ok (.slice o n c) w := by
  go_simp
theorem wrapNil (t : TypeId) (a : Addr) (x y : ByteArray) (w : World) : (Builtin.ssaWrapNilChk_ #[t] t #[.pointer (some a), .string x, .string y]).run Try.prog w = .ok (.pointer (some a)) w := by kernel_rfl
theorem fInfo {name : String} {f : FuncId} (h : (Try.t115.methods.find? fun x => x.name == name).map (fun m => (m.path, m.func)) = some (#[], some (f, false))) (q : Nat) (a : Addr) (w : World) :
    (method (q + 1) 115 (.pointer (some a)) name).run Try.prog w = ((loadVar 94 a).run Try.prog w).andThen fun v w' => .ok (f, v) w' := by
  cases hm : Try.t115.methods.find? fun x => x.name == name with
  | none => rw [hm] at h; cases h
  | some m =>
    rw [hm] at h
    simp only [Option.map_some, Option.some.injEq, Prod.mk.injEq] at h
    obtain ⟨hp, hf⟩ := h
    unfold method
    simp [hm, hp, hf, follow, receiverAt, Place.get, strVal, wrapNil, asAddr]
theorem reach0 (q : Nat) (a : Addr) (w : World) : (method (q + 1) 115 (.pointer (some a)) "Len").run Try.prog w = ((loadVar 94 a).run Try.prog w).andThen fun v w' => .ok (105, v) w' := fInfo (by kernel_rfl) q a w
theorem reach1 (q : Nat) (a : Addr) (w : World) : (method (q + 1) 115 (.pointer (some a)) "Less").run Try.prog w = ((loadVar 94 a).run Try.prog w).andThen fun v w' => .ok (106, v) w' := fInfo (by kernel_rfl) q a w
theorem reach2 (q : Nat) (a : Addr) (w : World) : (method (q + 1) 115 (.pointer (some a)) "Swap").run Try.prog w = ((loadVar 94 a).run Try.prog w).andThen fun v w' => .ok (107, v) w' := fInfo (by kernel_rfl) q a w
theorem reach3 (q : Nat) (v : Value) (w : World) : (method (q + 1) 115 v "Pop").run Try.prog w = .ok (108, v) w := by kernel_rfl
theorem reach4 (q : Nat) (v : Value) (w : World) : (method (q + 1) 115 v "Push").run Try.prog w = .ok (109, v) w := by kernel_rfl
theorem rLen {w : World} {a : Addr} {o : Option Addr} {n c : Nat} (h : w.cell? a = some (.slice o n c)) : (method 280 115 (.pointer (some a)) "Len").run Try.prog w = .ok (105, .slice o n c) w := by
  have := reach0 279 a w
  rw [load_ids h] at this
  exact this
theorem rLess {w : World} {a : Addr} {o : Option Addr} {n c : Nat} (h : w.cell? a = some (.slice o n c)) : (method 280 115 (.pointer (some a)) "Less").run Try.prog w = .ok (106, .slice o n c) w := by
  have := reach1 279 a w
  rw [load_ids h] at this
  exact this
theorem rSwap {w : World} {a : Addr} {o : Option Addr} {n c : Nat} (h : w.cell? a = some (.slice o n c)) : (method 280 115 (.pointer (some a)) "Swap").run Try.prog w = .ok (107, .slice o n c) w := by
  have := reach2 279 a w
  rw [load_ids h] at this
  exact this
theorem rPop (v : Value) (w : World) : (method 280 115 v "Pop").run Try.prog w = .ok (108, v) w := reach3 279 v w
theorem rPush (v : Value) (w : World) : (method 280 115 v "Push").run Try.prog w = .ok (109, v) w := reach4 279 v w
end Go.Proofs.Ytagekdmkidbhpaa
