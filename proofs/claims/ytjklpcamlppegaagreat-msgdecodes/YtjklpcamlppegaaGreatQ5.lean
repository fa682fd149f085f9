/- The program's Decode. -/
import Derived.Test.YtjklpcamlppegaaGreatQ4
namespace Go.Proofs.YtjklpcamlppegaaGreat
open Go.RowKit Go.Sort Orl Pk
set_option linter.unusedVariables false
set_option linter.unusedSimpArgs false

theorem cnt_short (bs : List Nat) (h : bs.length < 4) : rcount 1048576 (bs, 0) = (0, (bs, 4)) := by simp [rcount, ccount, h]
theorem cnt_long (bs : List Nat) (h : ¬ bs.length < 4) (hv : 1048576 < Pk.val (bs.take 4)) : rcount 1048576 (bs, 0) = (0, (bs, 3)) := by
  simp [rcount, ccount, h, hv]
theorem cnt_ok (bs : List Nat) (h : ¬ bs.length < 4) (hv : ¬ 1048576 < Pk.val (bs.take 4)) : rcount 1048576 (bs, 0) = (Pk.val (bs.take 4), (bs.drop 4, 0)) := by
  simp [rcount, ccount, h, hv]
/-- what bodyOf tells -/
def BodyTo (w : World) (bs : List Nat) (e : Ending) (w' : World) : Prop :=
  Keeps no w w' ∧ (
    (bs.length < 4 ∧ e = .returned (.tuple #[.slice none 0 0, .int .i64 4])) ∨
    (4 ≤ bs.length ∧ 1048576 < Pk.val (bs.take 4) ∧ e = .returned (.tuple #[.slice none 0 0, .int .i64 3])) ∨
    (4 ≤ bs.length ∧ Pk.val (bs.take 4) ≤ 1048576 ∧ bs.length - 4 < Pk.val (bs.take 4) ∧ e = .returned (.tuple #[.slice none 0 0, .int .i64 4])) ∨
    (4 ≤ bs.length ∧ Pk.val (bs.take 4) ≤ 1048576 ∧ Pk.val (bs.take 4) < bs.length - 4 ∧ e = .returned (.tuple #[.slice none 0 0, .int .i64 5])) ∨
    (4 ≤ bs.length ∧ Pk.val (bs.take 4) ≤ 1048576 ∧ Pk.val (bs.take 4) = bs.length - 4 ∧ ∃ A n d, e = .returned (.tuple #[.slice A n d, .int .i64 0]) ∧ Hid (n = (bs.drop 4).length) ∧ BSl w' A d (bs.drop 4)))

set_option maxRecDepth 10000 in
theorem bodyOf_any (w : World) (o : Option Addr) (n c : Nat) (bs : List Nat) (hn : n = bs.length) (hlid : bs.length ≤ 281474976710656) (hs : BSl w o c bs) :
    Calls Tryz.prog 32 #[.slice o n c] w (BodyTo w bs) := by
  have HN : Hid (n = bs.length) := hn
  have hnl : n ≤ 281474976710656 := by omega
  obtain ⟨A, d, hcut, hslA, _⟩ := cut_h w o c bs n (min 4 n) (min 4 (n : Int)) (by omega) hn (by omega) hs
  clear hn
  have HTK : Hid (BSl w A d (bs.take (min 4 n))) := hslA
  have HTL : Hid (min 4 n = (bs.take (min 4 n)).length) := by show _ = _; rw [List.length_take, ← HN.out]; omega
  clear hslA
  generalize hI : min 4 n = I at hcut HTK HTL
  have HI : Hid (min 4 n = I) := hI
  clear hI
  go_enter Tryz.func32, Tryz.ntmps32
  go_wp2_with fail
  refine (newReader_any w A I d (bs.take I) HTL.out HTK.out (by rw [← HTL.out]; have := HI.out; omega)).mono ?_
  rintro e w1 ⟨a, o1, c1, rfl, hR1, hnew1, hk1⟩
  go_wp2_with fail
  refine (rCount_any w1 a o1 c1 (bs.take I) 0 1048576 (by omega) (by omega) hR1).mono ?_
  rintro e w2 ⟨rfl, h2⟩
  have hk2 : Keeps no w w2 := (show Keeps no w w1 from hk1).then h2.keeps (fun i hi => .inr (by unfold eqA at hi; subst hi; exact hnew1 _ (.inl rfl)))
  obtain ⟨o2, c2, hR2, _, _⟩ := h2
  by_cases h4 : n < 4
  · have hIn : I = n := by have := HI.out; omega
    have e1 : bs.take I = bs := by rw [hIn, HN.out, List.take_length]
    have hc := cnt_short bs (by have := HN.out; omega)
    rw [e1, hc] at hR2 ⊢
    simp only at hR2 ⊢
    go_wp2_with fail
    refine (rErr_any w2 a o2 c2 _ _ hR2).mono ?_
    rintro e wq ⟨rfl, hq⟩
    subst wq
    go_wp2_with fail
    refine (rErr_any w2 a o2 c2 _ _ hR2).mono ?_
    rintro e wq ⟨rfl, hq⟩
    subst wq
    go_wp2
    go_ret2
    exact ⟨hk2, .inl ⟨by have := HN.out; omega, rfl⟩⟩
  · have hI4 : I = 4 := by have := HI.out; omega
    have hlen : ¬ (bs.take 4).length < 4 := by rw [List.length_take]; have := HN.out; omega
    have ett : (bs.take 4).take 4 = bs.take 4 := by rw [List.take_take]; rfl
    have h4b : 4 ≤ bs.length := by have := HN.out; omega
    have H4B : Hid (4 ≤ bs.length) := h4b
    rw [hI4] at hR2 ⊢
    by_cases hv : 1048576 < Pk.val (bs.take 4)
    · have hc := cnt_long (bs.take 4) hlen (by rw [ett]; exact hv)
      rw [hc] at hR2 ⊢
      simp only at hR2 ⊢
      have HV : Hid (1048576 < Pk.val (bs.take 4)) := hv
      clear hv hlen ett hc h4b
      go_wp2_with fail
      refine (rErr_any w2 a o2 c2 _ _ hR2).mono ?_
      rintro e wq ⟨rfl, hq⟩
      subst wq
      go_wp2_with fail
      refine (rErr_any w2 a o2 c2 _ _ hR2).mono ?_
      rintro e wq ⟨rfl, hq⟩
      subst wq
      go_wp2
      go_ret2
      exact ⟨hk2, .inr (.inl ⟨H4B.out, HV.out, rfl⟩)⟩
    · have hc := cnt_ok (bs.take 4) hlen (by rw [ett]; exact hv)
      rw [hc] at hR2 ⊢
      simp only at hR2 ⊢
      rw [ett]
      obtain ⟨V, hV⟩ : ∃ V, V = Pk.val (bs.take 4) := ⟨_, rfl⟩
      rw [← hV] at hv ⊢
      have HV : Hid (V = Pk.val (bs.take 4)) := hV
      have hV2 : V ≤ 1048576 := by omega
      have HV2 : Hid (V ≤ 1048576) := hV2
      obtain ⟨A2, d2, hcut2, hsl2, _⟩ := cut_l w o c bs n 4 4 rfl HN.out (by omega) hs
      have HS2 : Hid (BSl w A2 d2 (bs.drop 4)) := hsl2
      have HDL : Hid (n - 4 = (bs.drop 4).length) := by show _ = _; rw [List.length_drop, HN.out]
      clear hV hlen ett hc hv hsl2
      generalize hnn : n - 4 = n4 at hcut2 HDL
      have HNN : Hid (n - 4 = n4) := hnn
      have hn4 : n4 ≤ 281474976710656 := by omega
      clear hnn
      go_wp2_with fail
      refine (rErr_any w2 a o2 c2 _ _ hR2).mono ?_
      rintro e wq ⟨rfl, hq⟩
      subst wq
      rw [show ((0 : Nat) : Int) = (0 : Int) from rfl]
      rcases Nat.lt_trichotomy n4 V with hlt | heq | hgt
      · have h1 : (n4 : Int) < V := by omega
        go_wp2
        go_ret2
        exact ⟨hk2, .inr (.inr (.inl ⟨H4B.out, by rw [← HV.out]; exact HV2.out, by rw [← HV.out]; have := HNN.out; have := HN.out; omega, rfl⟩))⟩
      · subst heq
        go_wp2
        go_ret2
        exact ⟨hk2, .inr (.inr (.inr (.inr ⟨H4B.out, by rw [← HV.out]; exact HV2.out, by rw [← HV.out]; have := HNN.out; have := HN.out; omega, A2, _, d2, rfl, HDL, HS2.out.keeps hk2 (fun _ _ h => h)⟩)))⟩
      · have h1 : ¬ (n4 : Int) < V := by omega
        have h2 : (V : Int) < n4 := by omega
        go_wp2
        go_ret2
        exact ⟨hk2, .inr (.inr (.inr (.inl ⟨H4B.out, by rw [← HV.out]; exact HV2.out, by rw [← HV.out]; have := HNN.out; have := HN.out; omega, rfl⟩)))⟩
end Go.Proofs.YtjklpcamlppegaaGreat
