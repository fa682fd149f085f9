/- The document's get and piece. -/
import Derived.Test.YtdalheeifgampabDoorE5
namespace Go.Proofs.YtdalheeifgampabDoor
open Go.RowKit Go.Sort Orl Pk
set_option linter.unusedVariables false
set_option linter.unusedSimpArgs false

theorem cutLH (w0 : World) (o : Option Addr) (c : Nat) (bs : List Nat) (n I J : Nat) (hn : n = bs.length) (hI : I ≤ J) (hJ : J ≤ n) (h : BSl w0 o c bs) :
    ∃ A d, (∀ w, (Instr.slice 22 (.slice o n c) (some (.int .i64 ((I : Nat) : Int))) (some (.int .i64 ((J : Nat) : Int))) none).run Tryd.prog w = .ok (.slice A (J - I) d) w) ∧ BSl w0 A d ((bs.take J).drop I) := by
  subst hn
  have hcap := h.cap
  match o, h with
  | none, h =>
    obtain rfl : c = 0 := h.nil rfl
    obtain rfl : J = 0 := by omega
    obtain rfl : I = 0 := by omega
    have h0 : bs = [] := List.length_eq_zero_iff.mp (by omega)
    subst h0
    refine ⟨none, 0, fun w => ?_, ⟨⟨by simp, by simp, .inl (by simp)⟩, by simp, fun _ => rfl⟩⟩
    rw [run_slice_lh w 22 none _ 0 slB .i64 .i64 _ _ (by omega) (by omega) (by simp)]
    go_simp
  | some ad, h =>
    refine ⟨some (if c = I then ad else ad.add I), c - I, fun w => ?_, ⟨?_, by rw [List.length_drop, List.length_take]; omega, by simp⟩⟩
    · rw [run_slice_lh w 22 (some ad) _ c slB .i64 .i64 _ _ (by omega) (by omega) (by omega)]
      by_cases h : c = I
      · go_simp
        try (first | rfl | (congr 1; omega))
      · go_simp
        try (first | rfl | (congr 1; omega))
    · refine (h.row.take J).drop I (fun hlt b off e => ?_)
      rw [List.length_take] at hlt
      cases e
      rw [if_neg (by omega), addr_add]

set_option maxRecDepth 10000 in
theorem dGet_any (w : World) (o : Option Addr) (n c : Nat) (b : List Nat) (a K : Nat) (hn : n = b.length) (hr : BRow w o b) (ha : (a : Int) ≤ 1099511627776) (hnb : (n : Int) ≤ 1099511627776) (hK : (K : Int) ≤ 8) :
    Calls Tryd.prog 17 #[.slice o n c, .int .i64 (a : Nat), .int .i64 (K : Nat)] w fun e w' => e = .returned (.int .u64 (getP b a K : Nat)) ∧ w' = w := by
  obtain ⟨hby, hm, hcell⟩ := hr
  rw [← hn] at hm hcell
  have HN : Hid (n = b.length) := hn
  have HBY : Hid (∀ c ∈ b, c < 256) := hby
  clear hn hm hby
  go_enter Tryd.func17, Tryd.ntmps17
  go_wp2_with fail
  go_loop [7, 8] (fun v i => ∃ k : Nat, k ≤ K ∧ i = .int .i64 k ∧ v = .int .u64 (getP b a k : Nat)) (fun _ i => K - (intOf i).toNat)
  case atStart => exact ⟨0, by omega, rfl, rfl⟩
  case round =>
    obtain ⟨k, hk, rfl, rfl⟩ := hrel
    have HV : Hid (getP b a (k + 1) = getP b a k * 256 + b.getD (a + k) 0 ∧ b.getD (a + k) 0 < 256) := ⟨rfl, getD_byt HBY.out _⟩
    have hvl := getP_lt HBY.out a k
    by_cases h2 : k < K
    · have h2' : (k : Int) < K := by omega
      have hv7 : getP b a k < 72057594037927936 := Nat.lt_of_lt_of_le hvl (by have := Nat.pow_le_pow_right (n := 256) (by decide) (show k ≤ 7 by omega); simpa using this)
      generalize getP b a k = v at hvl hv7 HV ⊢
      have hvI : (v : Int) ≤ 72057594037927935 := by omega
      obtain ⟨X, hX⟩ : ∃ X, X = a + k := ⟨_, rfl⟩
      have hXI : (a : Int) + (k : Int) = (X : Int) := by omega
      rw [← hX] at HV
      clear hvl hv7
      by_cases h3 : X < n
      · have h3' : (X : Int) < n := by omega
        rcases hcell with h0 | ⟨q, off, rfl, hc⟩
        · have := HN.out; rw [h0] at this; simp at this; omega
        have hck := hc X h3
        have hxl := HV.out.2
        obtain ⟨x, hxx⟩ : ∃ x, x = b.getD X 0 := ⟨_, rfl⟩
        rw [← hxx] at hck hxl HV
        clear hxx hc hX
        go_wp2_with fail
        go_round
        case rel => exact ⟨k + 1, by omega, by go_num, by rw [HV.out.1]; go_num⟩
        case measure => simp [intOf]; omega
      · have h3' : ¬ (X : Int) < n := by omega
        have hz : b.getD X 0 = 0 := by rw [List.getD_eq_getElem?_getD, List.getElem?_eq_none (by have := HN.out; omega)]; rfl
        have HV2 : Hid (getP b a (k + 1) = v * 256) := by show _ = _; rw [HV.out.1, hz]; omega
        clear hz hX
        go_wp2_with fail
        go_round
        case rel => exact ⟨k + 1, by omega, by go_num, by rw [HV2.out]; go_num⟩
        case measure => simp [intOf]; omega
    · have h2' : ¬ (k : Int) < K := by omega
      obtain rfl : k = K := by omega
      generalize hvv : getP b a k = v
      have HVV : Hid (getP b a k = v) := hvv
      clear hvv
      go_wp2_with fail
      go_ret
      exact ⟨by rw [HVV.out]; rfl, rfl⟩

end Go.Proofs.YtdalheeifgampabDoor
