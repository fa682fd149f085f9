import Derived.Test.YtdemoghlibnooaaGreatDoorG3
import Derived.Test.YtdemoghlibnooaaGreatDoorFz
import Derived.Test.YtdemoghlibnooaaGreatDoorGX
namespace Go.Proofs.YtdemoghlibnooaaGreatDoor
open Go.RowKit Orl Pk Go.Sort
set_option linter.unusedVariables false
set_option linter.unusedSimpArgs false
def tmpN : Tx := ⟨#[115, 110, 97, 112, 46, 116, 109, 112]⟩
def tmpB : Dk.Nm := tmpN.data.toList
theorem tmp_good : Dk.good tmpB = true := by decide
theorem tmp_log (g : Int) : tmpB ≠ logB g := by
  rw [logB_eq]
  intro h
  have := congrArg List.head? h
  simp [stemB, tmpB, tmpN] at this
def bnd (r : Dk.St × Int) (f : Dk.St → Dk.St × Int) : Dk.St × Int := if r.2 = 0 then f r.1 else r
theorem bnd_ok {r : Dk.St × Int} (h : r.2 = 0) (f : Dk.St → Dk.St × Int) : bnd r f = f r.1 := if_pos h
theorem bnd_pair (t : Dk.St) (f : Dk.St → Dk.St × Int) : bnd (t, 0) f = f t := rfl
theorem bnd_bad {t : Dk.St} {E : Int} (h : E ≠ 0) (f : Dk.St → Dk.St × Int) : bnd (t, E) f = (t, E) := if_neg h
theorem bnd_no {r : Dk.St × Int} (h : r.2 ≠ 0) (f : Dk.St → Dk.St × Int) : bnd r f = r := if_neg h
def sweepF (l : List Dk.Nm) : List Dk.Nm → Dk.St → Dk.St × Int
  | [], t => (t, 0)
  | n :: r, t => if n ∈ l then bnd (Dk.counted t (Dk.deleteOn n)) (sweepF l r) else sweepF l r t
def layS (b : List UInt8) (t : Dk.St) : Dk.St × Int := bnd (bnd (Dk.counted t (Dk.appendOn tmpB b)) (fun t => Dk.counted t (Dk.syncOn tmpB))) (fun t => Dk.counted t (Dk.renameOn tmpB snapB))
def begS (g : Nat) (s : Dk.St) : Dk.St × Int := if (Dk.tick s).off = true then (Dk.tick s, 62) else sweepF (Dk.names (Dk.tick s).fs) [tmpB, logB ((g + 1 : Nat) : Int)] (Dk.tick s)
def runS (b : List UInt8) (g : Nat) (s : Dk.St) : Dk.St × Int := bnd (bnd (begS g s) (layS b)) (sweepF (Dk.names (Dk.tick s).fs) [logB (g : Int)])
def runF (b : List UInt8) (g : Nat) (s : Dk.St) : Dk.St × Int := bnd (runS b g s) (fun t => (Dk.tick t, if (Dk.tick t).off = true then 62 else 0))
theorem cnt_off {s : Dk.St} {f : Dk.St → Dk.St × Int} (h : (Dk.tick s).off = true) : Dk.counted s f = (Dk.tick s, 62) := by unfold Dk.counted; rw [h]; rfl
theorem cnt_on {s : Dk.St} {f : Dk.St → Dk.St × Int} (h : (Dk.tick s).off = false) : Dk.counted s f = f (Dk.tick s) := by unfold Dk.counted; rw [h]; rfl
end Go.Proofs.YtdemoghlibnooaaGreatDoor
