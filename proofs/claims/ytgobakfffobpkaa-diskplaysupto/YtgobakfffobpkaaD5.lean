/- A file laid under a name: Append, Rename. -/
import Derived.Test.YtgobakfffobpkaaD4
namespace Go.Proofs.Ytgobakfffobpkaa
open Go.RowKit Dk
set_option linter.unusedVariables false
set_option linter.unusedSimpArgs false

theorem mx {n : Nat} (h : n ≤ 281474976710656) : n ≤ maxLen := by unfold maxLen; omega
set_option maxRecDepth 10000 in
theorem lay_any (w : World) (p bm : Nat) (L : LL) (n : Tx) (x : Lo) (hn : n.size ≤ 281474976710656) (c0 : w.cell? ⟨p, 0, none⟩ = some (.map (some bm))) (hm : IsM w bm L) (hl : L.length ≤ 16) :
    Calls Try.prog 38 #[.pointer (some ⟨p, 0, none⟩), .string n, .pointer (some ⟨x.p, 0, none⟩)] w fun e w' => e = .returned (.tuple #[]) ∧ IsM w' bm (put n.data.toList x L) ∧ Keeps (fun i => i = bm) w w' := by
  have HM : Hid (IsM w bm L) := hm
  have hkey := key9 n (mx hn)
  clear hm
  go_enter Try.func38, Try.ntmps38
  go_wp2
  go_region_with (go_at_call 56; go_must (refine (sclone_any _ n hn).mono ?_); rintro e w2 ⟨rfl, hk2'⟩; have hk2 : Keeps no w w2 := (Keeps.refl no w).drew.trans hk2'; clear hk2'; have c2 := hk2.cellN c0; obtain ⟨w3, hrun, hown3, hturn3⟩ := World.ownsMap.store (HM.out.keeps hk2 (fun h => h)) law9 Try.underlying66 (by unfold maxLen; omega) hkey (R70_mk x.p))
  all_goals go_wp2
  all_goals go_end0
  all_goals rw [dat_put] at hown3
  all_goals exact ⟨rfl, isM_of hown3, (hk2.of_no.trans (keeps_of_grown hturn3.grown))⟩
end Go.Proofs.Ytgobakfffobpkaa
