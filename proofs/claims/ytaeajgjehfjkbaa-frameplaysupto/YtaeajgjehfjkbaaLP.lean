/- FramePlays: the walk. -/
import Derived.Test.YtaeajgjehfjkbaaC7
namespace Go.Proofs.Ytaeajgjehfjkbaa
open Go.RowKit
set_option linter.unusedVariables false
set_option linter.unusedSimpArgs false

theorem refSplit_known (w : World) (a : Option Addr) (n c : Nat) (bs : Bs) (hn : n = bs.length) (hs : Sl BE w a c bs) (hb : (n : Int) ≤ 16777216) (l : List Bs) (r : Bs) (h : split bs = some (l, r)) (m k : Nat) (hm : m = l.length) (hk : k = r.length) :
    Calls Try.prog 16 #[.slice a n c] w fun e w' => ∃ oL cL ls oR cR, e = .returned (.tuple #[.slice oL m cL, .slice oR k cR, .int .i64 0]) ∧ bods ls = l ∧ Spl w w' oL cL ls oR cR r := by
  refine (refSplit_any w a n c bs hn hs hb).mono ?_
  rintro e w' (⟨h1, _⟩ | ⟨oL, m', cL, ls, oR, k', cR, r', rfl, h1, hm', hk', hS⟩)
  · rw [h] at h1; cases h1
  · rw [h] at h1
    injection h1 with h1
    injection h1 with h1 h2
    subst h1 h2
    rw [bods_len, ← hm'.out] at hm
    rw [← hk'.out] at hk
    subst hm hk
    exact ⟨oL, cL, ls, oR, cR, rfl, rfl, hS⟩
theorem refSplit_refused (w : World) (a : Option Addr) (n c : Nat) (bs : Bs) (hn : n = bs.length) (hs : Sl BE w a c bs) (hb : (n : Int) ≤ 16777216) (h : split bs = none) :
    Calls Try.prog 16 #[.slice a n c] w fun e w' => e = .returned (.tuple #[.slice none 0 0, .slice none 0 0, .int .i64 3]) ∧ Keeps no w w' := by
  refine (refSplit_any w a n c bs hn hs hb).mono ?_
  rintro e w' (⟨_, h1, h2⟩ | ⟨oL, m', cL, ls, oR, k', cR, r', rfl, h1, hm', hk', hS⟩)
  · exact ⟨h1, h2⟩
  · rw [h] at h1; cases h1
theorem lst_nil (w : World) : Lst w none [] := ⟨.inl rfl, fun j hj => by simp at hj⟩

set_option maxRecDepth 100000 in
theorem framePlays_any (w : World) (a0 : Option Addr) (n0 c0 : Nat) (bs : Bs) (a1 : Option Addr) (n1 c1 : Nat) (ss : Bs) (hn0 : n0 = bs.length) (hn1 : n1 = ss.length) (hs0 : Sl BE w a0 c0 bs) (hs1 : Sl BE w a1 c1 ss) (hz : bs.length + ss.length ≤ 1048576) :
    Calls Try.prog 7 #[.slice a0 n0 c0, .slice a1 n1 c1] w fun e w' => e = .returned (.bool true) ∧ Keeps no w w' := by
  have HZ : Hid (bs.length + ss.length ≤ 1048576) := hz
  have HN0 : Hid (n0 = bs.length) := hn0
  have HN1 : Hid (n1 = ss.length) := hn1
  have HS0 : Hid (Sl BE w a0 c0 bs) := hs0
  have HS1 : Hid (Sl BE w a1 c1 ss) := hs1
  have z0 : Hid ((n0 : Int) ≤ 1048576) := by show _ ≤ _; omega
  have z1 : Hid ((n1 : Int) ≤ 16777216) := by show _ ≤ _; omega
  clear hz hn0 hn1 hs0 hs1
  go_enter Try.func7, Try.ntmps7
  go_wp2_with fail
  refine (alive_any w).mono ?_
  rintro e w1 ⟨rfl, hk1⟩
  have HK1 : Hid (Keeps no w w1) := hk1
  clear hk1
  go_wp2_with fail
  refine (own_any w1 a0 n0 c0 bs HN0.out (HS0.out.keepsN HK1.out) (by have := HZ.out; omega)).mono ?_
  rintro e w2 ⟨v, rfl, o2, m2, c2, rfl, hm2, ho2, _, hk2⟩
  have HO2 : Hid (Own BE w2 o2 c2 bs) := ho2
  have HK2 : Hid (Keeps no w w2) := HK1.out.trans hk2
  obtain rfl : m2 = n0 := by rw [hm2.out, HN0.out]
  clear ho2 hk2 HK1 hm2
  go_wp2_with fail
  refine (build_any w2 o2 m2 c2 bs HN0.out HO2.out.sl z0.out).mono ?_
  rintro e w3 ⟨o3, m3, c3, rfl, hm3, ho3, _, hk3⟩
  have HK3 : Hid (Keeps no w w3) := HK2.out.trans hk3
  have HO3 : Hid (Own BE w3 o3 c3 (fr bs)) := ho3
  clear ho3 hk3 HK2 HO2
  go_wp2_with fail
  refine (refBuild_any w3 a0 m2 c0 bs HN0.out (HS0.out.keepsN HK3.out) z0.out).mono ?_
  rintro e w4 ⟨o4, m4, c4, rfl, hm4, ho4, _, hk4⟩
  have HK4 : Hid (Keeps no w w4) := HK3.out.trans hk4
  have HF4 : Hid (Own BE w4 o3 c3 (fr bs) ∧ Own BE w4 o4 c4 (fr bs)) := ⟨HO3.out.keepsN hk4, ho4⟩
  clear ho4 hk4 HK3 HO3
  go_wp2_with fail
  refine (own_any w4 a1 n1 c1 ss HN1.out (HS1.out.keepsN HK4.out) (by have := HZ.out; omega)).mono ?_
  rintro e w5 ⟨v, rfl, o5, m5, c5, rfl, hm5, ho5, _, hk5⟩
  have HO5 : Hid (Own BE w5 o5 c5 ss) := ho5
  have HK5 : Hid (Keeps no w w5) := HK4.out.trans hk5
  have HF5 : Hid (Own BE w5 o3 c3 (fr bs) ∧ Own BE w5 o4 c4 (fr bs)) := ⟨HF4.out.1.keepsN hk5, HF4.out.2.keepsN hk5⟩
  obtain rfl : m5 = n1 := by rw [hm5.out, HN1.out]
  clear ho5 hk5 HK4 HF4 hm5
  have hfl : Hid ((m3 : Int) = m4 ∧ m3 = (fr bs).length ∧ m4 = (fr bs).length) := by
    have := hm3.out
    have := hm4.out
    have := fr_len bs
    have := HN0.out
    exact ⟨by omega, by omega, by omega⟩
  clear hm3 hm4
  go_wp2_with fail
  cases hsp : split ss with
  | none =>
    have HSP : Hid (split ss = none) := hsp
    clear hsp
    refine (split_refused w5 o5 m5 c5 ss HN1.out HO5.out.sl z1.out HSP.out).mono ?_
    rintro e w6 ⟨rfl, hk6⟩
    have HK6 : Hid (Keeps no w w6) := HK5.out.trans hk6
    have HF6 : Hid (Own BE w6 o3 c3 (fr bs) ∧ Own BE w6 o4 c4 (fr bs)) := ⟨HF5.out.1.keepsN hk6, HF5.out.2.keepsN hk6⟩
    clear hk6 HK5 HF5 HO5
    go_wp2_with fail
    refine (refSplit_refused w6 a1 m5 c1 ss HN1.out (HS1.out.keepsN HK6.out) z1.out HSP.out).mono ?_
    rintro e w7 ⟨rfl, hk7⟩
    have HK7 : Hid (Keeps no w w7) := HK6.out.trans hk7
    have HF7 : Hid (Own BE w7 o3 c3 (fr bs) ∧ Own BE w7 o4 c4 (fr bs)) := ⟨HF6.out.1.keepsN hk7, HF6.out.2.keepsN hk7⟩
    clear hk7 HK6 HF6
    go_wp2_with fail
    refine (same_yes w7 o3 m3 c3 o4 m4 c4 (fr bs) hfl.out.2.1 hfl.out.2.2 HF7.out.1.row HF7.out.2.row).mono ?_
    rintro e w8 ⟨rfl, e8⟩
    subst w8
    go_wp2_with fail
    refine (sameLists_yes w7 none 0 0 none 0 0 [] [] rfl rfl (by omega) (lst_nil _) (lst_nil _) rfl).mono ?_
    rintro e w8 ⟨rfl, hk8⟩
    have HK8 : Hid (Keeps no w w8) := HK7.out.trans hk8
    clear hk8
    go_wp2_with fail
    refine (same_yes w8 none 0 0 none 0 0 [] rfl rfl (.inl rfl) (.inl rfl)).mono ?_
    rintro e w9 ⟨rfl, e9⟩
    subst w9
    go_wp2_with fail
    go_ret
    exact ⟨rfl, HK8.out⟩
  | some p =>
    obtain ⟨l, r⟩ := p
    have HSP : Hid (split ss = some (l, r)) := hsp
    have hlen := split_len hsp
    obtain ⟨M, hM⟩ : ∃ M, M = l.length := ⟨_, rfl⟩
    obtain ⟨K, hK⟩ : ∃ K, K = r.length := ⟨_, rfl⟩
    have hM5 : Hid ((M : Int) ≤ 16777216) := by show _ ≤ _; have := HZ.out; omega
    have HM : Hid (M = l.length ∧ K = r.length) := ⟨hM, hK⟩
    clear hsp hlen hM hK
    refine (split_known w5 o5 m5 c5 ss HN1.out HO5.out.sl z1.out l r HSP.out M K HM.out.1 HM.out.2).mono ?_
    rintro e w6 ⟨oL, cL, ls, oR, cR, rfl, hls, hS⟩
    have HK6 : Hid (Keeps no w w6) := HK5.out.trans hS.h.kp
    have HF6 : Hid (Own BE w6 o3 c3 (fr bs) ∧ Own BE w6 o4 c4 (fr bs)) := ⟨HF5.out.1.keepsN hS.h.kp, HF5.out.2.keepsN hS.h.kp⟩
    have HS6 : Hid (Lst w6 oL ls ∧ Own BE w6 oR cR r ∧ bods ls = l) := ⟨hS.h.lst, hS.rest, hls⟩
    clear hS HK5 HF5 HO5 hls
    go_wp2_with fail
    refine (refSplit_known w6 a1 m5 c1 ss HN1.out (HS1.out.keepsN HK6.out) z1.out l r HSP.out M K HM.out.1 HM.out.2).mono ?_
    rintro e w7 ⟨oL2, cL2, ms, oR2, cR2, rfl, hms, hT⟩
    have HK7 : Hid (Keeps no w w7) := HK6.out.trans hT.h.kp
    have HF7 : Hid (Own BE w7 o3 c3 (fr bs) ∧ Own BE w7 o4 c4 (fr bs)) := ⟨HF6.out.1.keepsN hT.h.kp, HF6.out.2.keepsN hT.h.kp⟩
    have HS7 : Hid (Lst w7 oL ls ∧ Own BE w7 oR cR r ∧ bods ls = l) := ⟨HS6.out.1.keepsN hT.h.kp, HS6.out.2.1.keepsN hT.h.kp, HS6.out.2.2⟩
    have HT7 : Hid (Lst w7 oL2 ms ∧ Own BE w7 oR2 cR2 r ∧ bods ms = l) := ⟨hT.h.lst, hT.rest, hms⟩
    clear hT HK6 HF6 HS6 hms
    go_wp2_with fail
    refine (same_yes w7 o3 m3 c3 o4 m4 c4 (fr bs) hfl.out.2.1 hfl.out.2.2 HF7.out.1.row HF7.out.2.row).mono ?_
    rintro e w8 ⟨rfl, e8⟩
    subst w8
    go_wp2_with fail
    refine (sameLists_yes w7 oL M cL oL2 M cL2 ls ms (by rw [HM.out.1, ← HS7.out.2.2, bods_len]) (by rw [HM.out.1, ← HT7.out.2.2, bods_len]) hM5.out HS7.out.1 HT7.out.1 (HS7.out.2.2.trans HT7.out.2.2.symm)).mono ?_
    rintro e w8 ⟨rfl, hk8⟩
    have HK8 : Hid (Keeps no w w8) := HK7.out.trans hk8
    have HR8 : Hid (Own BE w8 oR cR r ∧ Own BE w8 oR2 cR2 r) := ⟨HS7.out.2.1.keepsN hk8, HT7.out.2.1.keepsN hk8⟩
    clear hk8
    go_wp2_with fail
    refine (same_yes w8 oR K cR oR2 K cR2 r HM.out.2 HM.out.2 HR8.out.1.row HR8.out.2.row).mono ?_
    rintro e w9 ⟨rfl, e9⟩
    subst w9
    go_wp2_with fail
    go_ret
    exact ⟨rfl, HK8.out⟩
end Go.Proofs.Ytaeajgjehfjkbaa
