/- Regions that draw and only read, their callees laying new blocks alone: one walk. -/
import Derived.Test.YtgamhblkgojapaaGreatDoorGB
import Derived.Lib.QuietBelow
import Derived.BigQuiet
namespace Go.Proofs.YtgamhblkgojapaaGreatDoor
open Go.RowKit Pk Dk
set_option linter.unusedVariables false
set_option linter.unusedSimpArgs false

theorem keeps_grown (W : World) (d : Nat) (os : Array Obj) : Keeps no W (Sort.grow (redrawn W d) os) := Keeps.of_below (below_regrown W d os)
theorem grown_keeps {W X : World} (h : Keeps no W X) : ∃ p : Regrown, X = Sort.grow (redrawn W p.d) p.os := regrown_of_below (h.below (Nat.le_refl _) (fun _ h => h.elim))
theorem call_grown {f : FuncId} {args : Array Value} {W : World} {v : Value} (h : ∀ X, Keeps no W X → Calls Tryz.prog f args X fun e w' => e = .returned v ∧ Keeps no X w') (d : Nat) (os : Array Obj) :
    Calls Tryz.prog f args (Sort.grow (redrawn W d) os) fun e w'' => e = .returned v ∧ ∃ p : Regrown, w'' = Sort.grow (redrawn W p.d) p.os :=
  (h _ (keeps_grown W d os)).mono fun e w' ⟨he, hk⟩ => ⟨he, grown_keeps ((keeps_grown W d os).trans hk)⟩
theorem same_grown {W : World} {v v' : CV} {r : Rec} (h : ∀ X, Keeps no W X → IsC X v r ∧ IsC X v' r) (d : Nat) (os : Array Obj) :
    Calls Tryz.prog 33 #[.agg #[.int .i64 v.k, .int .u64 (v.i : Nat), .slice v.op v.np v.cp, .slice v.ok v.nk v.ck], .agg #[.int .i64 v'.k, .int .u64 (v'.i : Nat), .slice v'.op v'.np v'.cp, .slice v'.ok v'.nk v'.ck]] (Sort.grow (redrawn W d) os) fun e w'' => e = .returned (.bool true) ∧ ∃ p : Regrown, w'' = Sort.grow (redrawn W p.d) p.os :=
  call_grown (fun X hX => (sameRecord_any X v.k v.i v.op v.np v.cp v.ok v.nk v.ck r (h X hX).1 v'.k v'.i v'.op v'.np v'.cp v'.ok v'.nk v'.ck r (h X hX).2).mono fun e w' ⟨⟨B, he, hB⟩, hk⟩ => ⟨by rw [he, hB.out.2 rfl], hk⟩) d os
theorem commit_grown {W : World} (q : Nat) (hq : (q : Int) ≤ 1000000) (d : Nat) (os : Array Obj) :
    Calls Tryz.prog 30 #[.int .i64 (q : Nat)] (Sort.grow (redrawn W d) os) fun e w'' => e = .returned (.agg #[.int .i64 2, .int .u64 ((q * 65536 : Nat) : Int), .slice none 0 0, .slice none 0 0]) ∧ ∃ p : Regrown, w'' = Sort.grow (redrawn W p.d) p.os :=
  call_grown (fun X hX => commit_any X q hq) d os
end Go.Proofs.YtgamhblkgojapaaGreatDoor
