/- DiskPlays' walk. -/
import Derived.Test.YtgobakfffobpkaaQ5
namespace Go.Proofs.Ytgobakfffobpkaa
open Go.RowKit Dk
set_option linter.unusedVariables false
set_option linter.unusedSimpArgs false

set_option maxRecDepth 100000 in
set_option maxHeartbeats 0 in
theorem diskPlays_any (w : World) (o1 : Option Addr) (c1 : Nat) (ps : List OpV) (h1 : Script w o1 ps) :
    Calls Try.prog 8 #[.slice o1 ps.length c1] w fun e w' => e = .returned (.bool true) ∧ Keeps no w w' := by
  obtain ⟨N1, hN1⟩ : ∃ N1, N1 = ps.length := ⟨_, rfl⟩
  rw [← hN1]
  have HN1 : Hid (N1 = ps.length) := hN1
  have l1 : N1 ≤ 1048576 := by have := h1.len; omega
  have H1 : Hid (Script w o1 ps) := h1
  clear hN1 h1
  go_enter Try.func8, Try.ntmps8
  go_wp2_with fail
  refine (alive_any w).mono ?_
  rintro e w1 ⟨rfl, hk1⟩
  go_wp2_with fail
  refine (new_any w1).mono ?_
  rintro e w2 ⟨p0, rfl, h2, hk2⟩
  go_wp2_with fail
  refine (new_any w2).mono ?_
  rintro e w3 ⟨p1, rfl, h3, hk3⟩
  go_wp2_with fail
  refine (rnew_any _).mono ?_
  rintro e w4 ⟨r0, rfl, h4, hk4⟩
  go_wp2_with fail
  refine (rnew_any w4).mono ?_
  rintro e w5 ⟨r1, rfl, h5, hk5⟩
  obtain ⟨F0, G0, D0⟩ := quad_new hk1 h2 hk2 h3 hk3 h4 hk4 h5 hk5
  obtain ⟨P, hP⟩ : ∃ P, P = sel2 p0 p1 := ⟨_, rfl⟩
  obtain ⟨R, hR⟩ : ∃ R, R = sel2 r0 r1 := ⟨_, rfl⟩
  obtain ⟨W, hW⟩ : ∃ W, W = w5.alloc (.cells #[.pointer (some ⟨r0, 0, none⟩), .pointer (some ⟨r1, 0, none⟩)] 62) := ⟨_, rfl⟩
  obtain ⟨A, hA⟩ : ∃ A, A = w3.heap.size := ⟨_, rfl⟩
  obtain ⟨C, hC⟩ : ∃ C, C = w5.heap.size := ⟨_, rfl⟩
  rw [← hP, ← hR, ← hW, ← hA, ← hC] at D0
  have D1 : Hid (Quad w W P R (fun _ => Dk.new) F0 G0 A C) := D0
  have a0 : W.cell? ⟨A, 0, none⟩ = some (.pointer (some ⟨P 0, 0, none⟩)) := D0.ca 0 (by omega)
  have a1 : W.cell? ⟨A, 1, none⟩ = some (.pointer (some ⟨P 1, 0, none⟩)) := D0.ca 1 (by omega)
  have HW : Hid (W = w5.alloc (.cells #[.pointer (some ⟨r0, 0, none⟩), .pointer (some ⟨r1, 0, none⟩)] 62)) := hW
  have HAA : Hid (A = w3.heap.size) := hA
  have HCC : Hid (C = w5.heap.size) := hC
  have b0 : (w5.alloc (.cells #[.pointer (some ⟨r0, 0, none⟩), .pointer (some ⟨r1, 0, none⟩)] 62)).cell? ⟨w3.heap.size, 0, none⟩ = some (.pointer (some ⟨P 0, 0, none⟩)) := by rw [← hW, ← hA]; exact a0
  have b1 : (w5.alloc (.cells #[.pointer (some ⟨r0, 0, none⟩), .pointer (some ⟨r1, 0, none⟩)] 62)).cell? ⟨w3.heap.size, 1, none⟩ = some (.pointer (some ⟨P 1, 0, none⟩)) := by rw [← hW, ← hA]; exact a1
  clear hk1 h2 hk2 h3 hk3 h4 hk4 h5 hk5 D0 hP hR hW hA hC
  go_wp2_with fail
  rw [← HW.out, ← HAA.out, ← HCC.out]
  clear HW HAA HCC b0 b1
  go_loopw [5] (fun i wr => ∃ (k : Nat) (S : Nat → St) (F G : Nat → Nat → Prop), k ≤ N1 ∧ i = .int .i64 k ∧ Hid (Quad w wr P R S F G A C ∧ ∀ j, j < 2 → Room (k * 4194304) (S j))) (fun i _ => N1 - (intOf i).toNat)
  case atStart => exact ⟨0, _, F0, G0, by omega, rfl, ⟨D1.out, fun j _ => room_new _⟩⟩
  case round =>
    clear D1 a0 a1
    obtain ⟨k, S, F, G, hk, rfl, HD⟩ := hrel
    by_cases hlt : k < N1
    · have hks : k < ps.length := by have := HN1.out; omega
      obtain ⟨b, off, rfl, hC⟩ := H1.out.at hks
      have hok := H1.out.ok _ (getD_mem ps k op0 hks)
      obtain ⟨o, ho⟩ : ∃ o, o = ps.getD k op0 := ⟨_, rfl⟩
      rw [← ho] at hC hok
      obtain ⟨nb, hnb⟩ : ∃ nb, nb = o.bs.length := ⟨_, rfl⟩
      rw [← hnb] at hC
      have HOC : Hid (o.cells = #[.int .i64 o.kind, .int .i64 o.who, .string o.nm, .string o.tn, .slice o.ob nb o.cb, .int .i64 o.N, .int .i64 o.K]) := (show _ = _ by rw [OpV.cells, hnb])
      have HOK : Hid (o.ok w) := hok
      have HC0 : Hid (C7 w b (off + k * 7) o nb) := hC
      have HM : Hid (k * 4194304 ≤ 70368744177664) := (show _ ≤ _ by omega)
      have and1 := i64_and1 o.who
      obtain ⟨q, hq⟩ : ∃ q : Nat, ((q : Nat) : Int) = o.who % 2 := ⟨(o.who % 2).toNat, by omega⟩
      rw [← hq] at and1
      have hq2 : q < 2 := by omega
      have hq4 : (q : Int) < 2 := by omega
      have hq5 : decide ((q : Int) < 2) = true := by simpa using hq4
      have aq := HD.out.1.ca q hq2
      have cq := HD.out.1.cc q hq2
      have HFAR : Hid (∀ x, inO o.ob x → 0 < o.cb → ¬ F q x ∧ ¬ G q x) := (show ∀ x, inO o.ob x → 0 < o.cb → ¬ F q x ∧ ¬ G q x from fun x h1 h2 => ⟨fun h3 => by have := HOK.out.live x h1 h2; have := HD.out.1.nw q hq2 x (.inl h3); omega, fun h3 => by have := HOK.out.live x h1 h2; have := HD.out.1.nw q hq2 x (.inr h3); omega⟩)
      obtain ⟨e0, e1, e2, e3, e4, e5, e6⟩ := hC.keepsN HD.out.1.kept
      clear hC hok ho hnb hks hq
      go_wp2_with fail
      go_region_held3 (fun w' => w'.cell? ⟨A, q, none⟩ = some (.pointer (some ⟨P q, 0, none⟩)) ∧ w'.cell? ⟨C, q, none⟩ = some (.pointer (some ⟨R q, 0, none⟩)) ∧ w'.cell? ⟨b, off + k * 7, none⟩ = some (.int .i64 o.kind) ∧ w'.cell? ⟨b, off + k * 7 + 1, none⟩ = some (.int .i64 o.who) ∧ w'.cell? ⟨b, off + k * 7 + 2, none⟩ = some (.string o.nm) ∧ w'.cell? ⟨b, off + k * 7 + 3, none⟩ = some (.string o.tn) ∧ w'.cell? ⟨b, off + k * 7 + 4, none⟩ = some (.slice o.ob nb o.cb) ∧ w'.cell? ⟨b, off + k * 7 + 5, none⟩ = some (.int .i64 o.N) ∧ w'.cell? ⟨b, off + k * 7 + 6, none⟩ = some (.int .i64 o.K)) (go_keep) ((go_at_call 33; rw [← HOC.out]; refine (plays_any _ (P q) (R q) (F q) (G q) (S q) o ((HD.out.1.a q hq2).keepsN (Keeps.refl no wr).drew) ((HD.out.1.b q hq2).keepsN (Keeps.refl no wr).drew) (HD.out.1.ap q hq2) (HOK.out.keepsN (HD.out.1.kept.trans (Keeps.refl no wr).drew)) HFAR.out _ (HD.out.2 q hq2) HM.out).mono ?_; rintro e w6 ⟨rfl, F2, G2, h6⟩; have D6 : Hid (Quad w w6 P R (upd S q (doesOn o (S q)).1) (upd F q F2) (upd G q G2) A C) := (HD.out.1.beside (Keeps.refl no wr).drew).step hq2 h6; have x7 := D6.out.ca q hq2; have x8 := D6.out.cc q hq2; obtain ⟨x0, x1, x2, x3, x4, x5, x6⟩ := HC0.out.keepsN D6.out.kept; clear h6))
      clear x0 x1 x2 x3 x4 x5 x6 e0 e1 e2 e3 e4 e5 e6 aq cq HFAR
      go_wp2_with fail
      go_region_held3 (fun w' => w'.cell? ⟨A, q, none⟩ = some (.pointer (some ⟨P q, 0, none⟩)) ∧ w'.cell? ⟨C, q, none⟩ = some (.pointer (some ⟨R q, 0, none⟩))) (go_keep) ((first | (go_at_call 26; refine (down_any _ (P q) _ _ ((D6.out.a q hq2).keepsN (Keeps.refl no w6).drew)).mono ?_; rintro e w' ⟨rfl, hw⟩; subst w') | (go_at_call 34; refine (rdown_any _ (R q) _ _ ((D6.out.b q hq2).keepsN (Keeps.refl no w6).drew)).mono ?_; rintro e w' ⟨rfl, hw⟩; subst w')))
      go_wp2_with fail
      go_roundw
      case rel => exact ⟨k + 1, _, _, _, by omega, by go_num, ⟨D6.out.beside (Keeps.refl no w6).drew, fun j hj => (upd_room HD.out.2 ((doesOn_room (HD.out.2 q hq2)).mono (by have := HOK.out.len; omega)) j hj).mono (by omega)⟩⟩
      case measure => simp [intOf]; omega
    · have hkn : k = N1 := by omega
      subst hkn
      have u0 := HD.out.1.ca 0 (by omega)
      have u1 := HD.out.1.cc 0 (by omega)
      have HM : Hid (k * 4194304 ≤ 70368744177664) := (show _ ≤ _ by omega)
      go_wp2_with fail
      refine (alike_any wr (P 0) (R 0) (F 0) (G 0) (S 0) (HD.out.1.a 0 (by omega)) (HD.out.1.b 0 (by omega)) (HD.out.1.ap 0 (by omega)) _ (HD.out.2 0 (by omega)) HM.out).mono ?_
      rintro e w7 ⟨rfl, hk7⟩
      have v0 := hk7.cell (HD.out.1.ca 1 (by omega)) (HD.out.1.na 0 (by omega)).1
      have v1 := hk7.cell (HD.out.1.cc 1 (by omega)) (HD.out.1.na 0 (by omega)).2
      have HK7 : Hid (Keeps (fun k => F 0 k ∨ G 0 k) wr w7) := hk7
      clear hk7
      go_wp2_with fail
      refine (alike_any w7 (P 1) (R 1) (F 1) (G 1) (S 1) ((HD.out.1.a 1 (by omega)).keeps HK7.out (fun x h1 h2 => HD.out.1.cr 0 1 (by omega) (by omega) (by omega) x h2 (.inl h1))) ((HD.out.1.b 1 (by omega)).keeps HK7.out (fun x h1 h2 => HD.out.1.cr 0 1 (by omega) (by omega) (by omega) x h2 (.inr h1))) (HD.out.1.ap 1 (by omega)) _ (HD.out.2 1 (by omega)) HM.out).mono ?_
      rintro e w8 ⟨rfl, hk8⟩
      go_wp2_with fail
      go_ret
      have hs := HD.out.1.kept.size
      have hs7 := HK7.out.size
      exact ⟨rfl, (HD.out.1.kept.then HK7.out (fun x h => .inr (HD.out.1.nw 0 (by omega) x h))).then hk8 (fun x h => .inr (HD.out.1.nw 1 (by omega) x h))⟩
end Go.Proofs.Ytgobakfffobpkaa
