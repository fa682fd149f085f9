import Derived.Test.YtbnohdgdadfjlaaGreatDoorDR
/- The document's last: the first of a list with a key. -/
namespace Go.Proofs.YtbnohdgdadfjlaaGreatDoor
open Go.RowKit Go.Sort Orl Pk Go.Maps
set_option linter.unusedVariables false
set_option linter.unusedSimpArgs false

set_option maxRecDepth 10000 in
theorem dLastIn_any (w : World) (a : Option Addr) (n c : Nat) (ls : List Mk) (k : Tx) (hn : n = ls.length) (hl : ls.length ≤ 4294967296) (hs : Sl LE w a c ls) :
    Calls Tryz.prog 123 #[.slice a n c, .string k] w fun e w' => e = .returned (.int .u64 ((lastIn ls k : Nat) : Int)) ∧ w' = w := by
  have HA : Hid (n = ls.length ∧ Sl LE w a c ls) := ⟨hn, hs⟩
  have hnb : (n : Int) ≤ 4294967296 := by omega
  clear hn hl hs
  go_enter Tryz.func123, Tryz.ntmps123
  go_wp2_with fail
  go_loop [5] (fun i => ∃ t : Nat, t ≤ n ∧ i = .int .i64 t ∧ Hid (∀ x ∈ ls.take t, x.1 ≠ k)) (fun i => n - (intOf i).toNat)
  case atStart => exact ⟨0, by omega, rfl, fun x hx => by simp at hx⟩
  case round =>
    obtain ⟨t, ht, rfl, HT⟩ := hrel
    by_cases hlt : t < n
    · have hlt' : (t : Int) < n := by omega
      have hta : t < ls.length := by have := HA.out.1; omega
      obtain ⟨b1, off1, e1, d0, d1⟩ := HA.out.2.atL hta
      obtain ⟨x, hx⟩ : ∃ x, x = ls.getD t (e0, 0) := ⟨_, rfl⟩
      rw [← hx] at d0 d1
      have HX : Hid (x = ls.getD t (e0, 0) ∧ t < ls.length) := ⟨hx, hta⟩
      obtain ⟨xk, xi⟩ := x
      simp only at d0 d1
      clear hx hta
      subst e1
      by_cases hk : xk = k
      · have hk' : (xk.toList == k.toList) = true := by rw [tx_eq]; simpa using hk
        have HE : Hid (lastIn ls k = xi) := (show _ = _ by
          unfold lastIn
          rw [fnd_first ls t HX.out.2 HT.out (by rw [← HX.out.1]; exact hk), ← HX.out.1]
          rfl)
        clear hk
        go_wp2_with fail
        go_ret
        exact ⟨by rw [HE.out]; rfl, rfl⟩
      · have hk' : (xk.toList == k.toList) = false := by rw [tx_eq]; simpa using hk
        have HE : Hid (∀ x ∈ ls.take (t + 1), x.1 ≠ k) := fun y hy => by
          rw [take_succ_getD ls t (e0, 0) HX.out.2, List.mem_append] at hy
          rcases hy with hy | hy
          · exact HT.out y hy
          · rw [List.mem_singleton.1 hy, ← HX.out.1]; exact hk
        clear hk
        go_wp2_with fail
        go_round
        case rel => exact ⟨t + 1, by omega, by go_num, HE⟩
        case measure => simp [intOf]; omega
    · have hlt' : ¬ (t : Int) < n := by omega
      have HE : Hid (lastIn ls k = 0) := (show _ = _ by
        have e : ls.take t = ls := List.take_of_length_le (by have := HA.out.1; omega)
        have h := HT.out
        rw [e] at h
        unfold lastIn
        rw [fnd_none.2 (fun y hy => h y hy)]
        rfl)
      go_wp2_with fail
      go_ret
      exact ⟨by rw [HE.out]; rfl, rfl⟩
end Go.Proofs.YtbnohdgdadfjlaaGreatDoor
