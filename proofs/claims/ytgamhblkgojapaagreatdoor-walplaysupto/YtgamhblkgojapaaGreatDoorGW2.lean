/- The log's calls: Open. -/
import Derived.Test.YtgamhblkgojapaaGreatDoorGW1
namespace Go.Proofs.YtgamhblkgojapaaGreatDoor
open Go.RowKit Pk Dk
set_option linter.unusedVariables false
set_option linter.unusedSimpArgs false

theorem readB_gone {n : Nm} {s : St} (h : readE n s = 61) : readB n s = [] := by
  unfold readE at h
  unfold readB
  split
  · rfl
  · rename_i ho
    rw [if_neg ho] at h
    split
    · rfl
    · rename_i f hf
      rw [hf] at h
      cases h
/-- no bytes: no records -/
theorem Sc.none {b : List Nat} {rs : List Rec} {k : Nat} (h : Sc b rs k) (hb : b = []) : rs = [] ∧ k = 0 := by
  subst hb
  have := h.1.le (by simp)
  simp only [List.length_nil] at this
  exact ⟨List.length_eq_zero_iff.1 (by omega), by omega⟩

set_option maxRecDepth 10000 in
set_option maxHeartbeats 1000000 in
theorem Open_any (w : World) (p : Nat) (F : Nat → Prop) (s : St) (n : Tx) (h : IsD w p F s) (hn : n.size ≤ 281474976710656) (ht : TabIn w) (h0 : ¬ F 0) (hb : (readB n.data.toList (tick s)).length ≤ 1099511627776) :
    Calls Tryz.prog 7 #[.pointer (some ⟨p, 0, none⟩), .string n] w (OpenTo w p F s n) := by
  have HLT : Hid (∀ k, F k → k < w.heap.size) := h.lt
  have HD : Hid (IsD w p F s) := h
  have HB : Hid ((readB n.data.toList (tick s)).length ≤ 1099511627776) := hb
  have HN : Hid (n.size ≤ maxLen) := by unfold maxLen; exact (by omega : n.size ≤ 9223372036854775807)
  have HN2 : Hid (n.size ≤ 281474976710656) := hn
  clear h hb hn
  go_enter Tryz.func7, Tryz.ntmps7
  go_wp2_with fail
  refine (dread_any w p F s n HD.out HN.out (by have := HB.out; omega)).mono ?_
  rintro e w1 ⟨o, c, m, rfl, hm, hown, hnew, hD1, hk1⟩
  have H1 : Hid (Owns w1 o c (nts (readB n.data.toList (tick s)))) := own_U.1 hown
  have HD1 : Hid (IsD w1 p F (tick s)) := hD1
  have HK1 : Hid (Keeps F w w1) := hk1
  have hmb : (m : Int) ≤ 1099511627776 := by have := HB.out; have := hm.out; omega
  have HNW : Hid (New w o) := hnew
  clear hown hD1 hk1 HD hnew
  obtain ⟨E, hE⟩ : ∃ E, E = readE n.data.toList (tick s) := ⟨_, rfl⟩
  have HE : Hid (E = readE n.data.toList (tick s)) := hE
  rw [← hE]
  clear hE
  by_cases h61 : E = 61
  · subst h61
    have HB0 : Hid (readB n.data.toList (tick s) = []) := readB_gone HE.out.symm
    have hm0 : (m : Int) = 0 := by have := hm.out; rw [HB0.out] at this; simp only [List.length_nil] at this; omega
    go_wp2_with fail
    refine (Scan_any w1 o m c (nts (readB n.data.toList (tick s))) (by rw [nts_length]; exact hm.out) hmb ⟨H1.out.row (nts_lt _) (by rw [nts_length]; have := HB.out; omega), H1.out.cap.1, H1.out.cap.2⟩ (ht.keeps HK1.out h0)).mono ?_
    rintro e w2 ⟨ol, nl, cl, t, vs, rs, rfl, HSC, hnl, htl, hk2⟩
    have HS : Hid (Sc (nts (readB n.data.toList (tick s))) rs t) := ⟨HSC.out.2.2.1, HSC.out.2.2.2⟩
    have HC : Hid (Scn w1 w2 ol cl vs rs ∧ nl = rs.length) := ⟨HSC.out.1, HSC.out.2.1⟩
    have HD2 : Hid (IsD w2 p F (tick s)) := HD1.out.keepsN hk2
    have HK2 : Hid (Keeps F w w2) := HK1.out.then hk2 (fun _ h => h.elim)
    have HZ : Hid (rs = [] ∧ t = 0) := HS.out.none (by rw [HB0.out]; rfl)
    have ht0 : (t : Int) = 0 := by have := HZ.out.2; omega
    have htm' : ¬ (t : Int) < m := by omega
    clear HSC hk2
    go_wp2_with fail
    refine (sclone_any _ n HN2.out).mono ?_
    rintro e w3 ⟨rfl, hk3⟩
    have HK3 : Hid (Keeps no w2 w3) := hk3
    clear hk3
    go_wp2_with fail
    go_ret3
    have hz := HZ.out
    have hc2 := HC.out
    obtain ⟨rfl, rfl⟩ := hz
    exact .inr ⟨tick s, w3.heap.size, ol, nl, cl, 0, vs, [], rfl, .gone HE.out.symm, hc2.2, ⟨⟨blk_new w3 _⟩, Nat.le_trans HK2.out.size HK3.out.size⟩, (hc2.1.of_le HK1.out.size).keepsN (HK3.out.alloc _), by omega, hnl, HD2.out.keepsN (HK3.out.alloc _), (HK2.out.then HK3.out (fun _ h => h.elim)).alloc _⟩
  · have h61' : (E == 61) = false := by simpa using h61
    by_cases hE0 : E = 0
    · subst hE0
      go_wp2_with fail
      refine (Scan_any w1 o m c (nts (readB n.data.toList (tick s))) (by rw [nts_length]; exact hm.out) hmb ⟨H1.out.row (nts_lt _) (by rw [nts_length]; have := HB.out; omega), H1.out.cap.1, H1.out.cap.2⟩ (ht.keeps HK1.out h0)).mono ?_
      rintro e w2 ⟨ol, nl, cl, t, vs, rs, rfl, HSC, hnl, htl, hk2⟩
      have HS : Hid (Sc (nts (readB n.data.toList (tick s))) rs t) := ⟨HSC.out.2.2.1, HSC.out.2.2.2⟩
      have HC : Hid (Scn w1 w2 ol cl vs rs ∧ nl = rs.length) := ⟨HSC.out.1, HSC.out.2.1⟩
      have HD2 : Hid (IsD w2 p F (tick s)) := HD1.out.keepsN hk2
      have HK2 : Hid (Keeps F w w2) := HK1.out.then hk2 (fun _ h => h.elim)
      have HK12 : Hid (w1.heap.size ≤ w2.heap.size) := hk2.size
      clear HSC hk2
      by_cases htm : t < m
      · have htm' : (t : Int) < m := by omega
        go_wp2_with fail
        refine (cut_any w2 p F (tick s) n t HD2.out HN.out ⟨by omega, by omega⟩).mono ?_
        rintro e w3 ⟨rfl, hD3, hk3⟩
        have HD3 : Hid (IsD w3 p F (counted (tick s) (cutOn n.data.toList t)).1) := hD3
        have HK3 : Hid (Keeps F w w3) := HK2.out.trans hk3
        have HK23 : Hid (Keeps F w2 w3) := hk3
        clear hD3 hk3
        obtain ⟨G, hG⟩ : ∃ G, G = (counted (tick s) (cutOn n.data.toList t)).2 := ⟨_, rfl⟩
        have HG : Hid (G = (counted (tick s) (cutOn n.data.toList t)).2) := hG
        rw [← hG]
        clear hG
        by_cases hG0 : G = 0
        · subst hG0
          go_wp2_with fail
          refine (sclone_any _ n HN2.out).mono ?_
          rintro e w4 ⟨rfl, hk4⟩
          have HK4 : Hid (Keeps no w3 w4) := hk4
          clear hk4
          go_wp2_with fail
          go_ret3
          exact .inr ⟨_, w4.heap.size, ol, nl, cl, t, vs, rs, rfl, .cut HE.out.symm HS.out (by have := hm.out; omega) HG.out.symm, HC.out.2, ⟨⟨blk_new w4 _⟩, Nat.le_trans HK3.out.size HK4.out.size⟩, ((HC.out.1.of_le HK1.out.size).keepsF HK23.out HLT.out).keepsN (HK4.out.alloc _), htl, hnl, HD3.out.keepsN (HK4.out.alloc _), (HK3.out.then HK4.out (fun _ h => h.elim)).alloc _⟩
        · have hG1 : (G == 0) = false := by simpa using hG0
          go_wp2_with fail
          go_ret3
          exact .inl ⟨_, G, rfl, HG.out ▸ .fail HE.out.symm HS.out (by have := hm.out; omega) (by rw [← HG.out]; exact hG0), hG0, HD3.out, HK3.out⟩
      · have htm' : ¬ (t : Int) < m := by omega
        go_wp2_with fail
        refine (sclone_any _ n HN2.out).mono ?_
        rintro e w3 ⟨rfl, hk3⟩
        have HK3 : Hid (Keeps no w2 w3) := hk3
        clear hk3
        go_wp2_with fail
        go_ret3
        exact .inr ⟨tick s, w3.heap.size, ol, nl, cl, t, vs, rs, rfl, .whole HE.out.symm HS.out (by have := hm.out; omega), HC.out.2, ⟨⟨blk_new w3 _⟩, Nat.le_trans HK2.out.size HK3.out.size⟩, (HC.out.1.of_le HK1.out.size).keepsN (HK3.out.alloc _), htl, hnl, HD2.out.keepsN (HK3.out.alloc _), (HK2.out.then HK3.out (fun _ h => h.elim)).alloc _⟩
    · have hE1 : (E == 0) = false := by simpa using hE0
      have hE2 : (E != 0) = true := by simpa using hE0
      have hE3 : (E != 61) = true := by simpa using h61
      go_wp2_with fail
      go_ret3
      exact .inl ⟨tick s, E, rfl, HE.out ▸ .err (by rw [← HE.out]; exact h61) (by rw [← HE.out]; exact hE0), hE0, HD1.out, HK1.out⟩
end Go.Proofs.YtgamhblkgojapaaGreatDoor
