/- The program's Size. -/
import Derived.Test.YtjklpcamlppegaaGreatN4
namespace Go.Proofs.YtjklpcamlppegaaGreat
open Go.RowKit Go.Sort Orl Pk
set_option linter.unusedVariables false
set_option linter.unusedSimpArgs false

theorem textSize_any (s : Tx) (hs : s.size ≤ 140737488351232) (w : World) : Calls Tryz.prog 51 #[.string s] w fun e w' => e = .returned (.int .i64 ((4 + s.size : Nat) : Int)) ∧ w' = w := by
  go_enter Tryz.func51, Tryz.ntmps51
  go_wp2
  go_ret
  refine ⟨?_, rfl⟩
  show Ending.returned (.int .i64 _) = _
  congr 2

def Txs (l : List Tx) : Prop := l.length ≤ 1024 ∧ ∀ s ∈ l, s.size ≤ 65535
theorem Txs.at {l : List Tx} (h : Txs l) {k : Nat} (hk : k < l.length) : (l.getD k e0).size ≤ 65535 := h.2 _ (getD_mem_lt e0 hk)
theorem Txs.body {l : List Tx} (h : Txs l) : ∀ k, k ≤ l.length → bodyLen (natss (l.take k)) ≤ k * 65539
  | 0, _ => by simp [natss, bodyLen]
  | k + 1, hk => by
    have := h.body k (by omega)
    have h2 := body_snoc l k (by omega)
    have h3 := h.at (k := k) (by omega)
    have e : l.getD k ⟨#[]⟩ = l.getD k e0 := rfl
    rw [h2, e]; omega
theorem Txs.all {l : List Tx} (h : Txs l) : bodyLen (natss l) ≤ 67111936 := by
  have := h.body l.length (Nat.le_refl _)
  rw [List.take_length] at this
  have := h.1
  have : l.length * 65539 ≤ 1024 * 65539 := Nat.mul_le_mul_right _ h.1
  omega
theorem msgTextsSize_any (w : World) (a : Option Addr) (n c : Nat) (xs : List Tx) (hn : n = xs.length) (ht : Txs xs) (hs : Sl TE w a c xs) :
    Calls Tryz.prog 24 #[.slice a n c] w fun e w' => e = .returned (.int .i64 ((4 + bodyLen (natss xs) : Nat) : Int)) ∧ w' = w := by
  have HN : Hid (n = xs.length) := hn
  have HT : Hid (Txs xs) := ht
  have hn2 : n ≤ 1024 := by have := ht.1; omega
  clear hn ht
  go_enter Tryz.func24, Tryz.ntmps24
  go_wp2_with fail
  go_loop [3, 8] (fun z i => ∃ k y : Nat, k ≤ n ∧ i = .int .i64 k ∧ z = .int .i64 (y : Nat) ∧ Hid (y = 4 + bodyLen (natss (xs.take k))) ∧ y ≤ 70000000) (fun _ i => n - (intOf i).toNat)
  case atStart => exact ⟨0, 4, by omega, rfl, rfl, show _ = _ by simp [natss, bodyLen], by omega⟩
  case round =>
    obtain ⟨k, y, hk, rfl, rfl, HY, hy2⟩ := hrel
    by_cases h2 : k < n
    · have hks : k < xs.length := by have := HN.out; omega
      obtain ⟨b, off, rfl, c1⟩ := hs.at hks
      have hsz := HT.out.at hks
      have HS : Hid (bodyLen (natss (xs.take (k + 1))) = bodyLen (natss (xs.take k)) + (4 + (xs.getD k e0).size) ∧ bodyLen (natss (xs.take (k + 1))) ≤ 67111936) := by
        refine ⟨body_snoc xs k hks, ?_⟩
        have := body_le xs (k + 1)
        have := HT.out.all
        omega
      generalize xs.getD k e0 = s at c1 hsz HS
      go_wp2_with fail
      refine (textSize_any s (by omega) w).mono ?_
      rintro e wq ⟨rfl, hwq⟩
      subst wq
      go_wp2
      go_round
      case rel =>
        have h1 := HS.out
        have h2 := HY.out
        exact ⟨k + 1, y + (4 + s.size), by omega, by go_num, by go_num, (by show _ = _; omega), by omega⟩
      case measure => simp [intOf]; omega
    · have hkn : k = n := by omega
      go_wp2
      go_ret
      have e1 := HY.out
      rw [hkn, HN.out, List.take_length] at e1
      refine ⟨?_, rfl⟩
      show Ending.returned (.int .i64 ((y : Nat) : Int)) = _
      congr 2
      omega

theorem layP_snoc (l : List Pr) (k : Nat) (hk : k < l.length) : (layP (l.take (k + 1))).length = (layP (l.take k)).length + (4 + (l.getD k p0).1.size + (4 + (l.getD k p0).2.size)) := by
  rw [take_succ_getD l k p0 hk]
  unfold layP layP1
  rw [List.flatMap_append, List.length_append]
  simp [txt_length, nats_length]
theorem layP_le (l : List Pr) (h : ∀ p ∈ l, p.1.size ≤ 65535 ∧ p.2.size ≤ 65535) : ∀ k, k ≤ l.length → (layP (l.take k)).length ≤ k * 131078
  | 0, _ => by simp [layP]
  | k + 1, hk => by
    have := layP_le l h k (by omega)
    have h2 := layP_snoc l k (by omega)
    have h3 := h _ (getD_mem_lt p0 (show k < l.length by omega))
    rw [h2]; omega
set_option maxRecDepth 10000 in
theorem pairsSize_any (w : World) (a : Option Addr) (n c : Nat) (xs : List Pr) (hn : n = xs.length) (h1024 : xs.length ≤ 1024) (ht : ∀ p ∈ xs, p.1.size ≤ 65535 ∧ p.2.size ≤ 65535) (hs : Sl PE w a c xs) :
    Calls Tryz.prog 25 #[.slice a n c] w fun e w' => e = .returned (.int .i64 ((4 + (layP xs).length : Nat) : Int)) ∧ Keeps no w w' := by
  have HN : Hid (n = xs.length) := hn
  have HT : Hid (∀ p ∈ xs, p.1.size ≤ 65535 ∧ p.2.size ≤ 65535) := ht
  have hn2 : n ≤ 1024 := by omega
  clear hn ht
  go_enter Tryz.func25, Tryz.ntmps25
  go_wp2_with fail
  go_loopw [3, 8] (fun z i wr => ∃ k y : Nat, k ≤ n ∧ i = .int .i64 k ∧ z = .int .i64 (y : Nat) ∧ Hid (y = 4 + (layP (xs.take k)).length) ∧ y ≤ 140000000 ∧ Keeps no w wr) (fun _ i _ => n - (intOf i).toNat)
  case atStart => exact ⟨0, 4, by omega, rfl, rfl, show _ = _ by simp [layP], by omega, Keeps.refl _ _⟩
  case round =>
    obtain ⟨k, y, hk, rfl, rfl, HY, hy2, hkp⟩ := hrel
    by_cases h2 : k < n
    · have hks : k < xs.length := by have := HN.out; omega
      obtain ⟨b, off, rfl, c1, c2⟩ := (hs.keepsN hkp).atP hks
      have hsz := HT.out _ (getD_mem_lt p0 hks)
      have HS : Hid ((layP (xs.take (k + 1))).length = (layP (xs.take k)).length + (4 + (xs.getD k p0).1.size + (4 + (xs.getD k p0).2.size)) ∧ (layP (xs.take (k + 1))).length ≤ 134223872) := by
        refine ⟨layP_snoc xs k hks, ?_⟩
        have := layP_le xs HT.out (k + 1) (by omega)
        have : (k + 1) * 131078 ≤ 1024 * 131078 := Nat.mul_le_mul_right _ (by omega)
        omega
      generalize xs.getD k p0 = s at c1 c2 hsz HS
      obtain ⟨s1, s2⟩ := s
      simp only at c1 c2 hsz HS
      have hs1 := fun w => textSize_any s1 (by omega) w
      have hs2 := fun w => textSize_any s2 (by omega) w
      have HS1 : Hid (∀ w, Calls Tryz.prog 51 #[.string s1] w fun e w' => e = .returned (.int .i64 ((4 + s1.size : Nat) : Int)) ∧ w' = w) := hs1
      have HS2 : Hid (∀ w, Calls Tryz.prog 51 #[.string s2] w fun e w' => e = .returned (.int .i64 ((4 + s2.size : Nat) : Int)) ∧ w' = w) := hs2
      clear hs1 hs2
      go_wp2_with fail
      go_quiet (first | (go_at_call_of 51 (Value.string s1); exact Calls.quiet_of_same (HS1.out _)) | (go_at_call_of 51 (Value.string s2); exact Calls.quiet_of_same (HS2.out _)))
      go_wp2
      go_roundw
      case rel =>
        have h1 := HS.out
        have h2 := HY.out
        exact ⟨k + 1, y + (4 + s1.size + (4 + s2.size)), by omega, by go_num, by go_num, (by show _ = _; omega), by omega, (hkp.alloc _).drewN _⟩
      case measure => simp [intOf]; omega
    · have hkn : k = n := by omega
      go_wp2
      go_ret
      have e1 := HY.out
      rw [hkn, HN.out, List.take_length] at e1
      refine ⟨?_, hkp⟩
      show Ending.returned (.int .i64 ((y : Nat) : Int)) = _
      congr 2
      omega
end Go.Proofs.YtjklpcamlppegaaGreat
