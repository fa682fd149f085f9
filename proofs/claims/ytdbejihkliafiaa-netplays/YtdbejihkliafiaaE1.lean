/- NetPlays: two frames, two flights are one. -/
import Derived.Test.YtdbejihkliafiaaD5
import Derived.Test.YtdbejihkliafiaaK1
namespace Go.Proofs.Ytdbejihkliafiaa
open Go.RowKit Go.Sort
set_option linter.unusedVariables false
set_option linter.unusedSimpArgs false

set_option maxRecDepth 10000 in
set_option maxHeartbeats 4000000 in
theorem sameF_yes (w : World) (r r' : RF) (f : Fr) (h : FOf w r f) (h' : FOf w r' f) :
    Calls Try.prog 30 #[aggF r, aggF r'] w fun e w' => e = .returned (.bool true) ∧ Keeps no w w' := by
  obtain ⟨a0, a1, a2, ao, an, ac⟩ := r
  obtain ⟨b0, b1, b2, bo, bn, bc⟩ := r'
  obtain ⟨p0, p1, p2, p3, p4⟩ := h
  obtain ⟨q0, q1, q2, q3, q4⟩ := h'
  simp only at p0 p1 p2 p3 p4 q0 q1 q2 q3 q4
  have HS : Hid (∀ X, Keeps no w X → Calls Try.prog 15 #[.slice ao an ac, .slice bo bn bc] X fun e w' => e = .returned (.bool true) ∧ w' = X) := fun X hX => same_yes X ao an ac bo bn bc f.bs p3 q3 (p4.row.keepsN hX) (q4.row.keepsN hX)
  obtain rfl : a0 = b0 := by rw [p0, q0]
  obtain rfl : a1 = b1 := by rw [p1, q1]
  obtain rfl : a2 = b2 := by rw [p2, q2]
  unfold aggF
  simp only
  clear p0 p1 p2 p3 p4 q0 q1 q2 q3 q4
  go_enter Try.func30, Try.ntmps30
  go_wp2_with fail
  refine (HS.out _ (((Keeps.refl _ _).alloc _).alloc _)).mono ?_
  rintro e w2 ⟨rfl, hw2⟩
  have HK : Hid (Keeps no w w2) := by rw [hw2]; exact ((Keeps.refl _ _).alloc _).alloc _
  clear hw2
  go_wp2_with fail
  go_ret
  exact ⟨rfl, HK.out⟩
/-- frames, as they are read -/
structure Fv (E : El RF) (w : World) (o : Option Addr) (rs : List RF) (fs : List Fr) : Prop where
  row : Row E w o rs
  len : rs.length = fs.length
  each : ∀ j, j < fs.length → FOf w (rs.getD j rf0) (fs.getD j fr0)
theorem Fv.keepsN {E : El RF} {w w' : World} {o : Option Addr} {rs : List RF} {fs : List Fr} (h : Fv E w o rs fs) (k : Keeps no w w') : Fv E w' o rs fs := ⟨h.row.keepsN k, h.len, fun j hj => (h.each j hj).keepsN k⟩
theorem fv_of {E : El RF} {w : World} {o : Option Addr} {c : Nat} {rs : List RF} {fs : List Fr} (h : (c = 0 ∧ fs = [] ∧ rs = []) ∨ Fs E w o c rs fs) : Fv E w o rs fs := by
  rcases h with ⟨_, rfl, rfl⟩ | h
  · exact ⟨.inl rfl, rfl, fun j hj => by simp at hj⟩
  · exact ⟨h.own.row, h.len, h.each⟩
set_option maxRecDepth 10000 in
set_option maxHeartbeats 4000000 in
theorem sameFlight_yes (w : World) (o : Option Addr) (n c : Nat) (rs : List RF) (o' : Option Addr) (n' c' : Nat) (rs' : List RF) (fs : List Fr) (hn : n = fs.length) (hn' : n' = fs.length) (hl : fs.length ≤ 2600000000000) (h : Fv FE w o rs fs) (h' : Fv DE w o' rs' fs) :
    Calls Try.prog 21 #[.slice o n c, .slice o' n' c'] w fun e w' => e = .returned (.bool true) ∧ Keeps no w w' := by
  obtain rfl : n = n' := by rw [hn, hn']
  have HN : Hid (n = fs.length ∧ Fv FE w o rs fs ∧ Fv DE w o' rs' fs) := ⟨hn, h, h'⟩
  have hnb : (n : Int) ≤ 2600000000000 := by omega
  clear hn hn' hl h h'
  go_enter Try.func21, Try.ntmps21
  go_wp2_with fail
  go_loopw [5] (fun s5 wr => ∃ k : Nat, k ≤ n ∧ s5 = .int .i64 k ∧ Hid (Keeps no w wr)) (fun s5 _ => n - (intOf s5).toNat)
  case atStart => exact ⟨0, by omega, rfl, Keeps.refl _ _⟩
  case round =>
    rename World => wr
    obtain ⟨k, hk, rfl, HK⟩ := hrel
    have hkB : (k : Int) ≤ 2600000000000 := by omega
    by_cases hlt : k < n
    · have hlt' : (k : Int) < n := by omega
      have hkf : k < fs.length := by rw [← HN.out.1]; exact hlt
      have v1 := HN.out.2.1.keepsN HK.out
      have v2 := HN.out.2.2.keepsN HK.out
      obtain ⟨b1, f1, e1, A1⟩ := row_at4 okF v1.row (j := k) (by rw [v1.len]; exact hkf)
      obtain ⟨b2, f2, e2, A2⟩ := row_at4 okD v2.row (j := k) (by rw [v2.len]; exact hkf)
      have hs := fun X hX => sameF_yes X _ _ _ ((v1.each k hkf).keepsN hX) ((v2.each k hkf).keepsN hX)
      generalize rs.getD k rf0 = r at A1 hs
      generalize rs'.getD k rf0 = r' at A2 hs
      subst e1 e2
      obtain ⟨x0, x1, x2, xo, xn, xc⟩ := r
      obtain ⟨y0, y1, y2, yo, yn, yc⟩ := r'
      unfold aggF at hs
      simp only at hs
      have HC : Hid (∀ d os, Calls Try.prog 30 #[.agg #[.int .i64 (x0 : Nat), .int .i64 x1, .int .i64 x2, .slice xo xn xc], .agg #[.int .i64 (y0 : Nat), .int .i64 y1, .int .i64 y2, .slice yo yn yc]] (Sort.grow (redrawn wr d) os) fun e w'' => e = .returned (.bool true) ∧ ∃ p : Regrown, w'' = Sort.grow (redrawn wr p.d) p.os) := call_grown hs
      obtain ⟨s0, s1, s2, s3⟩ := A1
      obtain ⟨t0, t1, t2, t3⟩ := A2
      simp only at s0 s1 s2 s3 t0 t1 t2 t3
      have a0 := cell_regrown s0
      have a1 := cell_regrown s1
      have a2 := cell_regrown s2
      have a3 := cell_regrown s3
      have c0 := cell_regrown t0
      have c1 := cell_regrown t1
      have c2 := cell_regrown t2
      have c3 := cell_regrown t3
      clear v1 v2 hs s0 s1 s2 s3 t0 t1 t2 t3
      go_wp2_with fail
      refine wp_region_quiet_below (by kernel_rfl) (by kernel_rfl) ?_
      repeat (go_big_quiet_step (exact HC.out _ _))
      refine wpQuiet_nil ?_
      intro _ hw'
      obtain ⟨⟨dq, osq⟩, rfl⟩ := hw'
      have K1 : Hid (Keeps no w (Sort.grow (redrawn wr dq) osq)) := HK.out.trans (keeps_grown ..)
      generalize Sort.grow (redrawn wr dq) osq = u1 at K1 ⊢
      clear a0 a1 a2 a3 c0 c1 c2 c3 HC
      go_wp2_with fail
      go_roundw
      case rel => exact ⟨k + 1, by omega, by go_num, K1⟩
      case measure => simp [intOf]; omega
    · have hlt' : ¬ (k : Int) < n := by omega
      go_wp2_with fail
      go_ret
      exact ⟨rfl, HK.out⟩
end Go.Proofs.Ytdbejihkliafiaa
