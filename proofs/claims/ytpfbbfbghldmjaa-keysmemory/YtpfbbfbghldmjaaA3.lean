import Derived.Test.YtpfbbfbghldmjaaA2
namespace Go.Proofs.Ytpfbbfbghldmjaa
open Go.RowKit Go.Sort Orl
set_option linter.unusedVariables false
set_option linter.unusedSimpArgs false

theorem gtr_of (x s : Tx) (h : lts s x = true) : Op.bytesLess x.toList s.toList = false ∧ (x.toList == s.toList) = false := by
  refine ⟨asym swoT h, ?_⟩
  rw [tx_eq]
  by_cases e : x = s
  · subst e; rw [swoT.irrefl] at h; cases h
  · simp [e]
theorem gtr_not (x s : Tx) (h : lts s x = false) : (Op.bytesLess x.toList s.toList || x.toList == s.toList) = true := by
  rw [tx_eq]
  show (lts x s || decide (x = s)) = true
  cases e : lts x s
  · simp [triT x s e h]
  · rfl

theorem cutT_if {w : World} {b off c : Nat} {xs : List Tx} (I : Nat) (h : Sl TE w (some ⟨b, off, none⟩) c xs) : Sl TE w (if c = I then some ⟨b, off, none⟩ else some ⟨b, off + I, none⟩) (c - I) (xs.drop I) := by
  have hcap := h.cap
  refine ⟨h.row.drop okT I (fun hlt b off e => ?_), by rw [List.length_drop]; omega, ?_⟩
  · cases e
    rw [if_neg (by omega)]
    simp [TE]
  · split <;> intro e <;> cases e
theorem cutP_if {w : World} {b off c : Nat} {xs : List Pr} (I : Nat) (h : Sl PE w (some ⟨b, off, none⟩) c xs) : Sl PE w (if c = I then some ⟨b, off, none⟩ else some ⟨b, off + I * 2, none⟩) (c - I) (xs.drop I) := by
  have hcap := h.cap
  refine ⟨h.row.drop okP I (fun hlt b off e => ?_), by rw [List.length_drop]; omega, ?_⟩
  · cases e
    rw [if_neg (by omega)]
    simp [PE]
  · split <;> intro e <;> cases e
theorem own_one (w : World) (x : Tx) : Sl TE (w.alloc (.cells #[.string x] 9)) (some ⟨w.heap.size, 0, none⟩) 1 [x] := by
  refine ⟨.inr ⟨w.heap.size, 0, rfl, fun j u hj => ?_⟩, by simp, by simp⟩
  rw [cell_of_blk (blk_new w _)]
  simpa [El.cells, TE] using hj

set_option maxRecDepth 10000 in
theorem put_any (w : World) (a : Option Addr) (n c : Nat) (xs : List Tx) (s : Tx) (hn : n = xs.length) (hl : xs.length ≤ 50000) (hs : Sl TE w a c xs) :
    Calls Try.prog 45 #[.slice a n c, .string s] w fun e w' => ∃ v, e = .returned v ∧ Gives TE w (put lts e0 xs s) v w' := by
  have HA : Hid (n = xs.length) := hn
  have hA : (n : Int) ≤ 50000 := by omega
  have HL : Hid (xs.length ≤ 50000) := hl
  clear hn hl
  go_enter Try.func45, Try.ntmps45
  go_wp2_with fail
  go_loop [5] (fun i => ∃ k : Nat, k ≤ n ∧ i = .int .i64 k ∧ Hid (pos lts e0 xs s xs.length = pos lts e0 xs s k)) (fun i => (intOf i).toNat)
  case atStart => exact ⟨n, by omega, rfl, show _ = _ by rw [← HA.out]⟩
  case round =>
    obtain ⟨k, hk, rfl, HT⟩ := hrel
    by_cases h2 : 0 < k
    · obtain ⟨k, rfl⟩ : ∃ k', k = k' + 1 := ⟨k - 1, by omega⟩
      have hka : k < xs.length := by have := HA.out; omega
      obtain ⟨b1, off1, rfl, d1⟩ := hs.at hka
      obtain ⟨x, hx⟩ : ∃ x, x = xs.getD k e0 := ⟨_, rfl⟩
      rw [← hx] at d1
      have HX : Hid (x = xs.getD k e0) := hx
      clear hx hka
      have h3 : (0 : Int) < (k : Int) + 1 := by omega
      cases hxy : lts s x
      · have hg := gtr_not x s hxy
        obtain ⟨hr1, hs1⟩ := cutT_h w _ c xs n (k + 1) _ rfl HA.out hk hs
        have hs2 := cutT_if (k + 1) hs
        have hkc : (k : Int) + 1 ≤ c := by have := hs.cap; have := HA.out; omega
        have hpos : pos lts e0 xs s xs.length = k + 1 := by
          rw [HT.out, pos, ← HX.out, hxy]; rfl
        have Hp : Hid (pos lts e0 xs s xs.length = k + 1) := hpos
        clear hpos HT
        have hcase : (Op.bytesLess x.toList s.toList = true) ∨ (Op.bytesLess x.toList s.toList = false ∧ (x.toList == s.toList) = true) := by
          cases e : Op.bytesLess x.toList s.toList
          · rw [e] at hg; exact .inr ⟨rfl, by simpa using hg⟩
          · exact .inl rfl
        clear hg hxy
        rcases hcase with hc1 | ⟨hc1, hc2⟩
        all_goals
          (go_wp2_with (at_builtin; first
            | (refine wpList_app okT rfl _ _ rfl _ _ _ [] rfl rfl (own_nil _) _ _ _ (xs.take (k + 1)) rfl (by have := HA.out; rw [List.length_take]; omega) hs1.nil hs1.row (by have := HL.out; simp [TE]; omega) (by have := HL.out; simp; omega) ?_; intro o1 c1 w1 ho1 hap1)
            | (refine wpList_app okT rfl _ _ rfl _ _ _ ([] ++ xs.take (k + 1)) rfl (by have := HA.out; simp; omega) (ho1.keepsN ((Keeps.refl _ _).alloc _)) _ _ _ [s] rfl rfl (own_one _ s).nil (own_one _ s).row (by have := HL.out; simp [TE]; omega) (by have := HL.out; simp; omega) ?_; intro o2 c2 w2 ho2 hap2)
            | (refine wpList_app okT rfl _ _ rfl _ _ _ ([] ++ xs.take (k + 1) ++ [s]) rfl (by have := HA.out; simp; omega) ho2 _ _ _ (xs.drop (k + 1)) rfl (by have := HA.out; rw [List.length_drop]; omega) hs2.nil (by
                have k1 := hap1.new (w0 := w) (new_none _) (Keeps.refl _ _)
                have k2 := hap2.new (w0 := w) k1.1 (k1.2.alloc _)
                exact hs2.row.keepsN k2.2) (by have := HL.out; simp [TE]; omega) (by have := HL.out; simp; omega) ?_; intro o3 c3 w3 ho3 hap3))
           all_goals
             (go_ret
              have k1 := hap1.new (w0 := w) (new_none _) (Keeps.refl _ _)
              have k2 := hap2.new (w0 := w) k1.1 (k1.2.alloc _)
              have k3 := hap3.new (w0 := w) k2.1 k2.2
              have he : put lts e0 xs s = [] ++ xs.take (k + 1) ++ [s] ++ xs.drop (k + 1) := by unfold put; rw [Hp.out]; simp
              rw [he]
              refine ⟨_, rfl, o3, _, c3, rfl, ?_, ho3, k3.1, k3.2⟩
              have := HA.out
              show _ = _
              simp
              omega))
      · obtain ⟨hc1, hc2⟩ := gtr_of x s hxy
        have HXY : Hid (lts s x = true) := hxy
        clear hxy
        go_wp2
        go_round
        case rel =>
          refine ⟨k, by omega, by go_num, ?_⟩
          show pos lts e0 xs s xs.length = pos lts e0 xs s k
          rw [HT.out, pos, ← HX.out, HXY.out]; rfl
        case measure => simp [intOf] <;> omega
    · obtain rfl : k = 0 := by omega
      obtain ⟨hr1, hs1⟩ := cutT_h w _ c xs n 0 0 rfl HA.out (by omega) hs
      obtain ⟨A, d, hr2, hs2, hsub⟩ := cutT_l w _ c xs n 0 0 rfl HA.out (by omega) hs
      have Hp : Hid (pos lts e0 xs s xs.length = 0) := show _ = _ by rw [HT.out, pos]
      clear HT
      go_wp2_with (at_builtin; first
        | (refine wpList_app okT rfl _ _ rfl _ _ _ [] rfl rfl (own_nil _) _ _ _ (xs.take 0) rfl (by simp) hs1.nil hs1.row (by simp [TE]) (by simp) ?_; intro o1 c1 w1 ho1 hap1)
        | (refine wpList_app okT rfl _ _ rfl _ _ _ ([] ++ xs.take 0) rfl (by simp) (ho1.keepsN ((Keeps.refl _ _).alloc _)) _ _ _ [s] rfl rfl (own_one _ s).nil (own_one _ s).row (by simp [TE]) (by simp) ?_; intro o2 c2 w2 ho2 hap2)
        | (refine wpList_app okT rfl _ _ rfl _ _ _ ([] ++ xs.take 0 ++ [s]) rfl (by simp) ho2 _ _ _ (xs.drop 0) rfl (by have := HA.out; simp; omega) hs2.nil (by
            have k1 := hap1.new (w0 := w) (new_none _) (Keeps.refl _ _)
            have k2 := hap2.new (w0 := w) k1.1 (k1.2.alloc _)
            exact hs2.row.keepsN k2.2) (by have := HL.out; simp [TE]; omega) (by have := HL.out; simp; omega) ?_; intro o3 c3 w3 ho3 hap3))
      go_ret
      have k1 := hap1.new (w0 := w) (new_none _) (Keeps.refl _ _)
      have k2 := hap2.new (w0 := w) k1.1 (k1.2.alloc _)
      have k3 := hap3.new (w0 := w) k2.1 k2.2
      have he : put lts e0 xs s = [] ++ xs.take 0 ++ [s] ++ xs.drop 0 := by unfold put; rw [Hp.out]; simp
      rw [he]
      refine ⟨_, rfl, o3, _, c3, rfl, ?_, ho3, k3.1, k3.2⟩
      have := HA.out
      show _ = _
      simp
      omega
end Go.Proofs.Ytpfbbfbghldmjaa
