import Derived.Test.YtdemoghlibnooaaGreatDoorXA
import Derived.Test.YtdemoghlibnooaaGreatDoorGX
/- Compaction in pure functions. -/
namespace Go.Proofs.YtdemoghlibnooaaGreatDoor
open Go.RowKit Orl Pk Go.Sort
set_option linter.unusedVariables false
set_option linter.unusedSimpArgs false

def tmpN : Tx := ⟨#[115, 110, 97, 112, 46, 116, 109, 112]⟩
def tmpB : Dk.Nm := tmpN.data.toList
theorem tmp_good : Dk.good tmpB = true := by decide
theorem tmp_snap : tmpB ≠ snapB := by decide
theorem tmp_log (g : Int) : tmpB ≠ logB g := by
  rw [logB_eq]
  intro h
  have := congrArg List.head? h
  simp [stemB, tmpB, tmpN] at this
def valD (l : List UInt8) : Nat := l.foldl (fun a c => a * 10 + (c.toNat - 48)) 0
theorem valD_dec : ∀ u : Nat, valD (Lib.decDigits u) = u := by
  intro u
  induction u using Nat.strongRecOn with
  | ind u ih =>
    rw [Lib.decDigits]
    split
    · rename_i h
      have e : (UInt8.ofNat (48 + u)).toNat = 48 + u := by rw [UInt8.toNat_ofNat']; omega
      have e2 : valD [UInt8.ofNat (48 + u)] = (UInt8.ofNat (48 + u)).toNat - 48 := by simp only [valD, List.foldl_cons, List.foldl_nil]; omega
      rw [e2, e]
      omega
    · rename_i h
      have e : (UInt8.ofNat (48 + u % 10)).toNat = 48 + u % 10 := by rw [UInt8.toNat_ofNat']; omega
      have := ih (u / 10) (by omega)
      unfold valD at this ⊢
      rw [List.foldl_append, this]
      simp only [List.foldl_cons, List.foldl_nil, e]
      omega
theorem log_inj {a b : Nat} (h : logB (a : Int) = logB (b : Int)) : a = b := by
  rw [logB_eq, logB_eq] at h
  have := List.append_cancel_left h
  rw [Lib.itoa_nonneg, Lib.itoa_nonneg] at this
  have := congrArg valD this
  rwa [valD_dec, valD_dec] at this
theorem log_next (g : Nat) : logB ((g + 1 : Nat) : Int) ≠ logB (g : Int) := fun h => by have := log_inj h; omega
/-- one call behind another, if that was not refused -/
def bnd (r : Dk.St × Int) (f : Dk.St → Dk.St × Int) : Dk.St × Int := if r.2 = 0 then f r.1 else r
theorem bnd_ok {r : Dk.St × Int} (h : r.2 = 0) (f : Dk.St → Dk.St × Int) : bnd r f = f r.1 := if_pos h
theorem bnd_pair (t : Dk.St) (f : Dk.St → Dk.St × Int) : bnd (t, 0) f = f t := rfl
theorem bnd_bad {t : Dk.St} {E : Int} (h : E ≠ 0) (f : Dk.St → Dk.St × Int) : bnd (t, E) f = (t, E) := if_neg h
theorem bnd_no {r : Dk.St × Int} (h : r.2 ≠ 0) (f : Dk.St → Dk.St × Int) : bnd r f = r := if_neg h
/-- those of these files that are listed are deleted -/
def sweepF (l : List Dk.Nm) : List Dk.Nm → Dk.St → Dk.St × Int
  | [], t => (t, 0)
  | n :: r, t => if n ∈ l then bnd (Dk.counted t (Dk.deleteOn n)) (sweepF l r) else sweepF l r t
def layS (b : List UInt8) (t : Dk.St) : Dk.St × Int := bnd (bnd (Dk.counted t (Dk.appendOn tmpB b)) (fun t => Dk.counted t (Dk.syncOn tmpB))) (fun t => Dk.counted t (Dk.renameOn tmpB snapB))
def begS (g : Nat) (s : Dk.St) : Dk.St × Int := if (Dk.tick s).off = true then (Dk.tick s, 62) else sweepF (Dk.names (Dk.tick s).fs) [tmpB, logB ((g + 1 : Nat) : Int)] (Dk.tick s)
def runS (b : List UInt8) (g : Nat) (s : Dk.St) : Dk.St × Int := bnd (bnd (begS g s) (layS b)) (sweepF (Dk.names (Dk.tick s).fs) [logB (g : Int)])
def runF (b : List UInt8) (g : Nat) (s : Dk.St) : Dk.St × Int := bnd (runS b g s) (fun t => (Dk.tick t, if (Dk.tick t).off = true then 62 else 0))

/-- a counted call that the power survives -/
theorem cnt_off {s : Dk.St} {f : Dk.St → Dk.St × Int} (h : (Dk.tick s).off = true) : Dk.counted s f = (Dk.tick s, 62) := by unfold Dk.counted; rw [h]; rfl
theorem cnt_on {s : Dk.St} {f : Dk.St → Dk.St × Int} (h : (Dk.tick s).off = false) : Dk.counted s f = f (Dk.tick s) := by unfold Dk.counted; rw [h]; rfl
end Go.Proofs.YtdemoghlibnooaaGreatDoor
