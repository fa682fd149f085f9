/- WalRefused: its states, in pure lists; Open of no disk. -/
import Derived.Test.YtoijeipoblnliaaGreatDoorG3
namespace Go.Proofs.YtoijeipoblnliaaGreatDoor
open Go.RowKit Pk Dk
set_option linter.unusedVariables false
set_option linter.unusedSimpArgs false

def na : Tx := ⟨#[97]⟩
def nb : Tx := ⟨#[98]⟩
def nlog : Tx := ⟨#[108, 111, 103]⟩
theorem nab : na.data.toList ≠ nb.data.toList := by decide
theorem na_good : good na.data.toList = true := by decide
theorem nb_good : good nb.data.toList = true := by decide
theorem nlog_good : good nlog.data.toList = true := by decide
theorem open_nil (w : World) (n : Tx) : Calls Tryz.prog 48 #[.pointer none, .string n] w fun e w' => e = .returned (.tuple #[.pointer none, .slice none 0 0, .int .i64 1]) ∧ w' = w := by
  go_enter Tryz.func48, Tryz.ntmps48
  go_wp2_with fail
  go_ret3
  exact ⟨rfl, rfl⟩
/-- a record appended, if it may be -/
def rfS (n : Nm) (r : Rec) (s : St) : St := if encE r = 0 then lay1 n (fl (bsOf n s ++ u8s (enc r))) s else s
/-- a disk that takes all -/
structure Easy (s : St) : Prop where
  on : On s
  ref : s.ref = 0
  inc : Inc s.fs
theorem easy_new : Easy Dk.new := ⟨⟨rfl, rfl⟩, rfl, List.Pairwise.nil⟩
theorem Easy.rfS {s : St} (h : Easy s) (n : Nm) (r : Rec) : Easy (rfS n r s) := by
  unfold Proofs.YtoijeipoblnliaaGreatDoor.rfS
  split
  · exact ⟨h.on.lay1 _ _, h.ref, inc_put h.inc⟩
  · exact h
theorem rfS_len {s : St} (h : Easy s) (n : Nm) (r : Rec) : (rfS n r s).fs.length ≤ s.fs.length + 1 := by
  unfold rfS
  split
  · show (put n _ s.fs).length ≤ _
    cases hf : find n s.fs with
    | none => rw [length_put_none hf]; exact Nat.le_refl _
    | some f => rw [length_put_some h.inc hf]; omega
  · omega
theorem rfS_same (n : Nm) (r : Rec) (s : St) : find n (rfS n r s).fs = if encE r = 0 then some (fl (bsOf n s ++ u8s (enc r))) else find n s.fs := by
  unfold rfS
  split
  · exact find_lay1 ..
  · rfl
theorem rfS_other {n m : Nm} (hne : m ≠ n) (r : Rec) (s : St) : find m (rfS n r s).fs = find m s.fs := by
  unfold rfS
  split
  · exact find_lay1_ne hne ..
  · rfl
theorem Easy.apd {s : St} (h : Easy s) {n : Nm} (hn : good n = true) (hl : s.fs.length < 16) (r : Rec) : apd n r s = (Proofs.YtoijeipoblnliaaGreatDoor.rfS n r s, ((encE r : Nat) : Int)) := by
  unfold Proofs.YtoijeipoblnliaaGreatDoor.rfS
  by_cases hr : encE r = 0
  · rw [if_pos hr, hr]
    exact apd_on h.inc h.on h.ref hn (fun _ => hl) hr
  · rw [if_neg hr]
    exact apd_bad hr
theorem Easy.refused {s : St} (h : Easy s) {n : Nm} (hn : good n = true) (hl : s.fs.length < 16) {r : Rec} (hr : encE r = 0) : Proofs.YtoijeipoblnliaaGreatDoor.apd n r (full 1 s) = (s, 60) := by
  have := apd_refused (s := full 1 s) (k := 0) (r := r) (n := n) ⟨h.on.off, h.on.calls⟩ rfl hn (fun _ => hl) hr
  rw [this]
  obtain ⟨_, _, _, _, _⟩ := s
  have := h.ref
  simp only at this
  subst this
  rfl
def lsR (r : Rec) : List Rec := if encE r = 0 then [r] else []
def kR (r : Rec) : Nat := if encE r = 0 then (enc r).length else 0
theorem opn_lsR {s : St} {n : Nm} {r : Rec} (h : On s) (hi : r.id < 18446744073709551616) (hf : find n s.fs = if encE r = 0 then some (fl (u8s (enc r))) else none) : Opn n s s 0 (kR r) (lsR r) := by
  unfold lsR kR
  by_cases hr : encE r = 0
  · rw [if_pos hr] at hf ⊢
    rw [if_pos hr]
    have := opn_whole h hf (gds1 (gd_of hr hi)) (by rw [rowb1]; exact nts_u8s (enc_byt r))
    rwa [rowb1] at this
  · rw [if_neg hr] at hf ⊢
    rw [if_neg hr]
    exact opn_gone h hf
theorem opn_down {s : St} (n : Nm) (h : On s) (k : Int) : Opn n (crash k s) (crash k s) 62 0 [] := by
  have ho : (crash k s).off = true := by unfold crash; rw [h.off]; rfl
  have ht : tick (crash k s) = crash k s := by
    have hc : (crash k s).calls = -1 := by unfold crash; rw [h.off]; rfl
    unfold tick
    rw [hc, if_neg (by decide), if_neg (by decide)]
  have he : readE n (tick (crash k s)) = 62 := by rw [ht]; unfold readE; rw [if_pos ho]
  have := Opn.err (n := n) (s := crash k s) (by rw [he]; decide) (by rw [he]; decide)
  rw [he, ht] at this
  exact this
theorem readB_down {s : St} (n : Nm) (h : On s) (k : Int) : (readB n (tick (crash k s))).length ≤ 1099511627776 := by
  have ho : (crash k s).off = true := by unfold crash; rw [h.off]; rfl
  have hc : (crash k s).calls = -1 := by unfold crash; rw [h.off]; rfl
  have ht : tick (crash k s) = crash k s := by unfold tick; rw [hc, if_neg (by decide), if_neg (by decide)]
  rw [ht]
  unfold readB
  rw [if_pos ho]
  decide
theorem bsOf_none {n : Nm} {s : St} (h : find n s.fs = none) : bsOf n s = [] := by unfold bsOf; rw [h]
/-- two files -/
structure Twin (r s : Rec) (S1 S2 : St) : Prop where
  e1 : S1 = rfS na.data.toList r Dk.new
  e2 : S2 = rfS nb.data.toList s S1
  y1 : Easy S1
  y2 : Easy S2
  l1 : S1.fs.length < 16
  fa : find na.data.toList S2.fs = if encE r = 0 then some (fl (u8s (enc r))) else none
  fb : find nb.data.toList S2.fs = if encE s = 0 then some (fl (u8s (enc s))) else none
  b1 : (bsOf na.data.toList S1).length ≤ 1048584
  b2 : bsOf nb.data.toList S1 = []
theorem encE_len {r : Rec} (h : encE r = 0) : (enc r).length ≤ 1048584 := by
  have := (encE_zero h).2.1
  rw [enc_length]; omega
theorem twin (r s : Rec) : Twin r s (rfS na.data.toList r Dk.new) (rfS nb.data.toList s (rfS na.data.toList r Dk.new)) := by
  have y1 := easy_new.rfS na.data.toList r
  have l1 := rfS_len easy_new na.data.toList r
  have f1 := rfS_same na.data.toList r Dk.new
  have fb : find nb.data.toList (rfS na.data.toList r Dk.new).fs = none := rfS_other (fun h => nab h.symm) r Dk.new
  have hbs : bsOf na.data.toList Dk.new = [] := rfl
  rw [hbs, List.nil_append] at f1
  refine ⟨rfl, rfl, y1, y1.rfS _ _, by simp only [Dk.new, List.length_nil] at l1 ⊢; omega, ?_, ?_, ?_, bsOf_none fb⟩
  · rw [rfS_other nab, f1]
    rfl
  · rw [rfS_same, bsOf_none fb, List.nil_append, fb]
  · unfold bsOf
    rw [f1]
    by_cases hr : encE r = 0
    · rw [if_pos hr]
      show (u8s (enc r)).length ≤ _
      rw [u8s_length]
      exact encE_len hr
    · rw [if_neg hr]
      show (bsOf na.data.toList Dk.new).length ≤ _
      rw [hbs]; simp
end Go.Proofs.YtoijeipoblnliaaGreatDoor
