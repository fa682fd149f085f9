/- The program's Formed. -/
import Derived.Test.YtodblodbeobgeaaC3
namespace Go.Proofs.Ytodblodbeobgeaa
open Go.RowKit Go.Sort Orl
set_option linter.unusedVariables false
set_option linter.unusedSimpArgs false

theorem formed_eq {vs : List Ver} {L : List (Tx × Nat)} (hp : 0 < vs.length) (hm : vs.length ≤ 1024) (h1 : ∀ j, j < vs.length → oneB (vs.getD j v0) = true) (hL : Pl vs vs.length L) : formedB vs = (decide (L.length = vs.length) && agreeB vs) := by
  rw [Bool.eq_iff_iff, formedB_iff, Bool.and_eq_true, decide_eq_true_eq, agreeB_iff, hL.len]
  constructor
  · intro h
    exact ⟨fun i j hij hj => ((badB_iff _ _).1 (h.two j i hj hij)).1, fun i j hij hj => ((badB_iff _ _).1 (h.two j i hj hij)).2⟩
  · rintro ⟨ha, hb⟩
    exact ⟨hp, hm, h1, fun j k hj hk => (badB_iff _ _).2 ⟨ha k j hk hj, hb k j hk hj⟩⟩
set_option maxRecDepth 10000 in
set_option maxHeartbeats 1000000 in
theorem pFormed_any (w : World) (o : Option Addr) (n c : Nat) (rs : List RV) (vs : List Ver) (hn : n = vs.length) (hf : FitL vs) (hv : Vers w o c rs vs) :
    Calls Try.prog 11 #[.slice o n c] w fun e w' => e = .returned (.bool (formedB vs)) ∧ Keeps no w w' := by
  have HN : Hid (n = vs.length) := hn
  have hA : (n : Int) ≤ 2199023255500 := by have := hf.len; omega
  have HF : Hid (FitL vs) := hf
  have HV : Hid (Vers w o c rs vs) := hv
  clear hn hf hv
  by_cases h1 : n < 1
  · have HB : Hid (formedB vs = false) := formedB_no fun h => by have := h.pos; have := HN.out; omega
    obtain rfl : n = 0 := by omega
    go_enter Try.func11, Try.ntmps11
    go_wp2
    go_ret
    exact ⟨by rw [HB.out]; rfl, Keeps.refl _ _⟩
  by_cases h2 : 1024 < n
  · have HB : Hid (formedB vs = false) := formedB_no fun h => by have := h.most; have := HN.out; omega
    have h0 : ((n : Int) == 0) = false := by simp; omega
    have h1'' : ¬ (n : Int) = 0 := by omega
    have h2'' : (1024 : Int) < n := by omega
    go_enter Try.func11, Try.ntmps11
    go_wp2
    go_ret
    exact ⟨by rw [HB.out]; rfl, Keeps.refl _ _⟩
  have h0 : ((n : Int) == 0) = false := by simp; omega
  have h1'' : ¬ (n : Int) = 0 := by omega
  have h2'' : ¬ (1024 : Int) < n := by omega
  have HNN : Hid (0 < vs.length ∧ vs.length ≤ 1024) := ⟨by have := HN.out; omega, by have := HN.out; omega⟩
  go_enter Try.func11, Try.ntmps11
  go_wp2_with fail
  go_loopw [15] (fun s15 wr => ∃ i : Nat, i ≤ n ∧ s15 = .int .i64 i ∧ Hid (∀ j, j < i → oneB (vs.getD j v0) = true) ∧ Hid (Keeps no w wr)) (fun s15 _ => n - (intOf s15).toNat)
  case atStart => exact ⟨0, by omega, rfl, fun j hj => by omega, Keeps.refl _ _⟩
  case round =>
    rename World => wr
    obtain ⟨i, hi, rfl, HT, HK⟩ := hrel
    by_cases hlt : i < n
    · have hlt' : (i : Int) < n := by omega
      have hil : i < vs.length := by have := HN.out; omega
      obtain ⟨b, off, r, hob, d0, d1, d2, d3, hver⟩ := (HV.out.keepsN HK.out).agg hil
      subst hob
      obtain ⟨rk, ri, rv, ro, rn, rc⟩ := r
      simp only at d0 d1 d2 d3
      have HKA : Hid (Keeps no wr (wr.alloc (.cells #[.string rk, .int .u64 (ri : Nat), .string rv, .slice ro rn rc] 32))) := (Keeps.refl no wr).alloc _
      have HONE : Hid (Calls Try.prog 26 #[.agg #[.string rk, .int .u64 (ri : Nat), .string rv, .slice ro rn rc]] (wr.alloc (.cells #[.string rk, .int .u64 (ri : Nat), .string rv, .slice ro rn rc] 32)) fun e w' => e = .returned (.bool (oneB (vs.getD i v0))) ∧ Keeps no _ w') := mayBe_any _ ⟨rk, ri, rv, ro, rn, rc⟩ (vs.getD i v0) (HF.out.at hil) (hver.keepsN HKA.out)
      have HO : Hid (oneB (vs.getD i v0) = false → formedB vs = false) := fun h => formedB_no fun hf => by rw [hf.one i hil] at h; cases h
      have HS : Hid (oneB (vs.getD i v0) = true → ∀ j, j < i + 1 → oneB (vs.getD j v0) = true) := fun h j hj => by
        by_cases e : j = i
        · subst e; exact h
        · exact HT.out j (by omega)
      clear hver
      generalize oneB (vs.getD i v0) = B at HONE HO HS
      go_wp2_with fail
      refine Calls.mono HONE.out ?_
      rintro e w2 ⟨rfl, hk2⟩
      have HK2 : Hid (Keeps no w w2) := (HK.out.trans HKA.out).trans hk2
      clear hk2 HONE d0 d1 d2 d3
      cases B with
      | false =>
        have HB : Hid (formedB vs = false) := HO.out rfl
        clear HO HS
        go_wp2_with fail
        go_ret
        exact ⟨by rw [HB.out]; rfl, HK2.out⟩
      | true =>
        have HB : Hid (∀ j, j < i + 1 → oneB (vs.getD j v0) = true) := HS.out rfl
        clear HO HS
        go_wp2_with fail
        go_roundw
        case rel => exact ⟨i + 1, by omega, by go_num, HB, HK2⟩
        case measure => simp [intOf]; omega
    · have hlt' : ¬ (i : Int) < n := by omega
      have hin : i = vs.length := by have := HN.out; omega
      have HP := places_any wr o n c rs vs HN.out HF.out HNN.out.2 (HV.out.keepsN HK.out)
      have HPL : Hid (Calls Try.prog 27 #[.slice o n c] wr fun e w' => ∃ b, e = .returned (.map (some b)) ∧ PlTo wr vs b w') := HP
      have H1 : Hid (∀ j, j < vs.length → oneB (vs.getD j v0) = true) := by rw [← hin]; exact HT.out
      clear HP hin HT
      go_wp2_with fail
      refine Calls.mono HPL.out ?_
      rintro e w2 ⟨m, rfl, hm⟩
      obtain ⟨L, hL1, hL2, hL3, hL4⟩ := hm
      have HAG : Hid (Calls Try.prog 28 #[.slice o n c] w2 fun e w' => e = .returned (.bool (agreeB vs)) ∧ Keeps no w2 w') := agree_any w2 o n c rs vs HN.out HF.out HNN.out.2 (HV.out.keepsN (HK.out.trans hL4))
      have HK2 : Hid (Keeps no w w2) := HK.out.trans hL4
      have HE : Hid (formedB vs = (decide (L.length = vs.length) && agreeB vs)) := formed_eq HNN.out.1 HNN.out.2 H1.out hL3
      have hln := fun ty => hL2.len (t := 53) (e := 3) Try.underlying53 ty
      have HLL : Hid (L.length ≤ vs.length) := hL3.le
      clear hL1 hL2 hL3 hL4 HPL H1
      generalize agreeB vs = B at HAG HE
      generalize L.length = l at hln HE HLL
      by_cases he : l = n
      · have HE2 : Hid (formedB vs = B) := by show _ = _; rw [HE.out, decide_eq_true (by rw [he]; exact HN.out)]; rfl
        subst l
        clear HE HLL
        go_wp2_with fail
        refine Calls.mono HAG.out ?_
        rintro e w3 ⟨rfl, hk3⟩
        have HK3 : Hid (Keeps no w w3) := HK2.out.trans hk3
        clear hk3 HAG hln
        go_wp2_with fail
        go_ret
        exact ⟨by rw [HE2.out]; rfl, HK3.out⟩
      · have he1 : ((l : Int) == (n : Int)) = false := by simp; omega
        have he2 : ¬ (l : Int) = (n : Int) := by omega
        have HE2 : Hid (formedB vs = false) := by show _ = _; rw [HE.out, decide_eq_false (by rw [← HN.out]; exact he)]; rfl
        clear HE HLL he
        go_wp2_with fail
        go_ret
        exact ⟨by rw [HE2.out]; rfl, HK2.out⟩
end Go.Proofs.Ytodblodbeobgeaa
