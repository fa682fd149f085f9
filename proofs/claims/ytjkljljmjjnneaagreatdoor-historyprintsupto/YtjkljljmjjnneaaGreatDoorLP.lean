/- HistoryPrints: the walk. -/
import Derived.Test.YtjkljljmjjnneaaGreatDoorE6
import Derived.Test.YtjkljljmjjnneaaGreatDoorS5
import Derived.Test.YtjkljljmjjnneaaGreatDoorFl
namespace Go.Proofs.YtjkljljmjjnneaaGreatDoor
open Go.RowKit Go.Sort Orl
set_option linter.unusedVariables false
set_option linter.unusedSimpArgs false

theorem raw_szl {es : List Ev} (h : RawOk es) (hl : es.length ≤ 1048576) : SzL es := ⟨h.sz, by omega, by have := h.wt; omega⟩
theorem printV_cases (es : List Ev) : ∃ (t : Tx) (k : Int), printV es = .tuple #[.string t, .int .i64 k] := by
  unfold printV
  split
  · exact ⟨_, _, rfl⟩
  · exact ⟨_, _, rfl⟩
set_option maxRecDepth 10000 in
set_option maxHeartbeats 4000000 in
theorem prints_any (w : World) (hv : Vs w) (o : Option Addr) (n c : Nat) (rs : List RE) (es : List Ev) (hn : n = es.length) (he : Evs w o c rs es) (hk : RawOk es) (hl : n ≤ 1048576) :
    Calls Tryz.prog 5 #[.slice o n c] w fun e w' => e = .returned (.bool true) ∧ Keeps no w w' := by
  have HV : Hid (Vs w) := hv
  obtain ⟨t, k, ht⟩ := printV_cases es
  have HP1 : Hid (Calls Tryz.prog 12 #[.slice o n c] w fun E w' => E = .returned (.tuple #[.string t, .int .i64 k]) ∧ Keeps no w w') := by
    have h := print_any w hv o n c rs es hn he (raw_szl hk (by omega))
    rw [ht] at h
    exact h
  have HP2 : Hid (∀ W, Keeps no w W → Calls Tryz.prog 17 #[.slice o n c] W fun E w' => E = .returned (.tuple #[.string t, .int .i64 k]) ∧ Keeps no W w') := fun W hW => by
    have h := rPrint_any W o n c rs es hn (he.keepsN hW) hk.sz hk.wt hl
    rw [ht] at h
    exact h
  clear hv hn he hk ht
  have hbs : (ByteArray.toList t == ByteArray.toList t) = true := beq_self_eq_true _
  have hbk : (k == k) = true := beq_self_eq_true _
  go_enter Tryz.func5, Tryz.ntmps5
  go_wp2_with fail
  refine HP1.out.mono ?_
  rintro e w1 ⟨rfl, hk1⟩
  have HK1 : Hid (Keeps no w w1) := hk1
  clear HP1 hk1
  go_wp2_with fail
  refine (HP2.out _ HK1.out).mono ?_
  rintro e w2 ⟨rfl, hk2⟩
  have HK2 : Hid (Keeps no w w2) := HK1.out.trans hk2
  have HN : Hid (Calls Tryz.prog 7 #[] w2 fun e w' => e = .returned (.bool true) ∧ Keeps no w2 w') := known_any w2 (HV.out.keepsN HK2.out)
  clear HP2 hk2 HK1
  go_wp2_with fail
  refine HN.out.mono ?_
  rintro e w3 ⟨rfl, hk3⟩
  have HK3 : Hid (Keeps no w w3) := HK2.out.trans hk3
  clear HN hk3 HK2
  go_wp2_with fail
  go_ret
  exact ⟨rfl, HK3.out⟩
end Go.Proofs.YtjkljljmjjnneaaGreatDoor
