import Derived.Test.YtagekdmkidbhpaaRw
import Derived.Test.YtagekdmkidbhpaaOf
/- retain's list of the old ones: slices.IndexFunc, slices.DeleteFunc over versions told; old. -/
namespace Go.Proofs.Ytagekdmkidbhpaa
open Go.RowKit Go.Maps Go.Sort Orl
set_option linter.unusedVariables false
set_option linter.unusedSimpArgs false

theorem atK {w : World} {a : Option Addr} {c : Nat} {xs : List KV} (h : Sl KE w a c xs) {j : Nat} (hj : j < xs.length) : ∃ b off, a = some ⟨b, off, none⟩ ∧ w.cell? ⟨b, off + j * 5, none⟩ = some (.string (xs.getD j kv0).m.1) ∧ w.cell? ⟨b, off + j * 5 + 1, none⟩ = some (.int .u64 (((xs.getD j kv0).m.2 : Nat) : Int)) ∧ w.cell? ⟨b, off + j * 5 + 2, none⟩ = some (.string (xs.getD j kv0).val) ∧ w.cell? ⟨b, off + j * 5 + 3, none⟩ = some (.slice (xs.getD j kv0).o (xs.getD j kv0).keys.length (xs.getD j kv0).c) ∧ w.cell? ⟨b, off + j * 5 + 4, none⟩ = some (.int .i64 (xs.getD j kv0).stamp) := by
  rcases h.row with e | ⟨b, off, rfl, hc⟩
  · subst e; simp at hj
  · have key : ∀ i, i < 5 → w.cell? ⟨b, off + j * 5 + i, none⟩ = (KE.enc (xs.getD j kv0))[i]? := fun i hi => by
      have hx := cells_at okK kv0 xs j i hj hi
      have hlt : i < (KE.enc (xs.getD j kv0)).length := by simpa [KE] using hi
      rw [List.getElem?_eq_getElem hlt] at hx ⊢
      rw [Nat.add_assoc]
      exact hc _ _ hx
    exact ⟨b, off, rfl, key 0 (by omega), key 1 (by omega), key 2 (by omega), key 3 (by omega), key 4 (by omega)⟩
def isOld (x : KV) : Bool := decide (x.stamp ≠ -1)
def oldOf (ks : List KV) : List KV := ks.filter isOld
theorem old1_any (k : Tx) (i : Int) (v : Tx) (o : Option Addr) (n c : Nat) (st : Int) (w : World) : Calls Try.prog 39 #[.agg #[.string k, .int .u64 i, .string v, .slice o n c, .int .i64 st]] w fun e w' => e = .returned (.bool (st == -1)) ∧ w' = w.alloc (.cells #[.string k, .int .u64 i, .string v, .slice o n c, .int .i64 st] 71) := by
  go_enter Try.func39, Try.ntmps39
  go_wp2_with fail
  go_ret
  exact ⟨rfl, rfl⟩
set_option maxRecDepth 10000 in
set_option maxHeartbeats 1000000 in
theorem index_any (w : World) (o : Option Addr) (n c : Nat) (xs : List KV) (hn : n = xs.length) (hl : xs.length ≤ 1954687338211) (hs : Sl KE w o c xs) (k : Nat) (hk : k ≤ xs.length) (hall : ∀ j, j < k → (xs.getD j kv0).stamp ≠ -1) (hst : k < xs.length → (xs.getD k kv0).stamp = -1) (z : Int) (hz : k < xs.length → z = k) (hz2 : k = xs.length → z = -1) :
    Calls Try.prog 51 #[.slice o n c, .func (.func 39) #[] #[]] w fun e w' => e = .returned (.int .i64 z) ∧ Keeps no w w' := by
  have H : Hid (n = xs.length ∧ xs.length ≤ 1954687338211 ∧ Sl KE w o c xs ∧ k ≤ xs.length ∧ (∀ j, j < k → (xs.getD j kv0).stamp ≠ -1) ∧ (k < xs.length → (xs.getD k kv0).stamp = -1) ∧ (k < xs.length → z = k) ∧ (k = xs.length → z = -1)) := ⟨hn, hl, hs, hk, hall, hst, hz, hz2⟩
  have hnb : (n : Int) ≤ 1954687338211 := by omega
  clear hn hl hs hk hall hst hz hz2
  go_enter Try.func51, Try.ntmps51
  go_wp2_with fail
  go_loopw [5, 8] (fun _ i wr => ∃ j : Nat, j ≤ n ∧ i = .int .i64 j ∧ Hid (j ≤ k ∧ Keeps no w wr)) (fun _ i _ => n - (intOf i).toNat)
  case atStart => exact ⟨0, by omega, rfl, by omega, Keeps.refl _ _⟩
  case round =>
    obtain ⟨j, hj, rfl, HJ⟩ := hrel
    by_cases hlt : j < n
    · have hjl : j < xs.length := by rw [← H.out.1]; exact hlt
      obtain ⟨b, off, rfl, d0, d1, d2, d3, d4⟩ := atK (H.out.2.2.1.keepsN HJ.out.2) hjl
      obtain ⟨x, hx⟩ : ∃ x, x = xs.getD j kv0 := ⟨_, rfl⟩
      rw [← hx] at d0 d1 d2 d3 d4
      have HX : Hid (x = xs.getD j kv0) := hx
      clear hx hjl
      obtain ⟨xm, xv, xo, xc, xk, xst⟩ := x
      simp only at d0 d1 d2 d3 d4
      generalize xk.length = xn at d3
      have hc := fun X => old1_any xm.1 ((xm.2 : Nat) : Int) xv xo xn xc xst X
      by_cases es : xst = -1
      · subst es
        rw [show ((-1 : Int) == -1) = true from rfl] at hc
        go_wp2_with (go_at_call 39; refine (hc _).mono ?_; rintro e w' ⟨rfl, rfl⟩)
        go_ret
        have hjk : j = k := by
          rcases Nat.lt_or_ge j k with h | h
          · have := H.out.2.2.2.2.1 j h
            rw [← HX.out] at this
            exact absurd rfl this
          · have := HJ.out.1; omega
        have hzj : z = (j : Int) := by rw [H.out.2.2.2.2.2.2.1 (by rw [← hjk, ← H.out.1]; exact hlt), hjk]
        exact ⟨by rw [hzj]; rfl, HJ.out.2.alloc _⟩
      · have es' : (xst == -1) = false := by simp [es]
        rw [es'] at hc
        have hjk : Hid (j < k) := (show _ < _ by
          rcases Nat.lt_or_ge j k with h | h
          · exact h
          · have he : j = k := by have := HJ.out.1; omega
            have := H.out.2.2.2.2.2.1 (by rw [← he, ← H.out.1]; exact hlt)
            rw [← he, ← HX.out] at this
            exact absurd this es)
        go_wp2_with (go_at_call 39; refine (hc _).mono ?_; rintro e w' ⟨rfl, rfl⟩)
        go_roundw
        case rel => exact ⟨j + 1, by omega, by go_num, by have := hjk.out; omega, HJ.out.2.alloc _⟩
        case measure => simp [intOf]; omega
    · go_wp2_with fail
      go_ret
      exact ⟨by rw [H.out.2.2.2.2.2.2.2 (by have := HJ.out.1; have := H.out.2.2.2.1; have := H.out.1; omega)]; rfl, HJ.out.2⟩
end Go.Proofs.Ytagekdmkidbhpaa
