/- A net of the law's own; alive. -/
import Derived.Test.YtdbejihkliafiaaNC
import Derived.Deep.CutBlock
import Derived.Deep.CutRange
import Derived.Lib.SlBytesConst
namespace Go.Proofs.Ytdbejihkliafiaa
open Go.RowKit Go.Sort
set_option linter.unusedVariables false
set_option linter.unusedSimpArgs false

/-- a net that is newer than w0; M: blocks that are not its own -/
def Nx (Is : World → Nat → (Nat → Prop) → NS → Prop) (w0 w : World) (p : Nat) (s : NS) (M : Nat → Prop) : Prop := ∃ F, Is w p F s ∧ (∀ i, F i → w0.heap.size ≤ i) ∧ Keeps no w0 w ∧ ∀ i, M i → ¬ F i ∧ i < w.heap.size
def Mo (M : Nat → Prop) (i : Nat) : Prop := ¬ M i
theorem Nx.kp {Is : World → Nat → (Nat → Prop) → NS → Prop} {w0 w : World} {p : Nat} {s : NS} {M : Nat → Prop} (h : Nx Is w0 w p s M) : Keeps no w0 w := by
  obtain ⟨F, _, _, k, _⟩ := h
  exact k
theorem nx_of {Is : World → Nat → (Nat → Prop) → NS → Prop} {w0 w w' : World} {p : Nat} {F G M : Nat → Prop} {s : NS} (hG : Is w' p G s) (hf : ∀ i, G i → F i ∨ w.heap.size ≤ i) (k : Keeps F w w') (hF : ∀ i, F i → w0.heap.size ≤ i) (k0 : Keeps no w0 w) (hM : ∀ i, M i → ¬ F i ∧ i < w.heap.size) : Nx Is w0 w' p s M ∧ Keeps (Mo M) w w' :=
  ⟨⟨G, hG, fun i hi => (hf i hi).elim (hF i) (fun h => Nat.le_trans k0.size h), k0.then k (fun i hi => .inr (hF i hi)), fun i hi => ⟨fun hg => (hf i hg).elim (hM i hi).1 (fun h => by have := (hM i hi).2; omega), Nat.lt_of_lt_of_le (hM i hi).2 k.size⟩⟩, k.mono (fun i hi h => (hM i h).1 hi)⟩
section
variable {w0 w w1 : World} {p : Nat} {s : NS} {K : Nat} {M : Nat → Prop}
theorem Nx.keepsN (h : Nx IsN w0 w p s M) (k : Keeps no w w1) : Nx IsN w0 w1 p s M := by
  obtain ⟨F, h1, h2, h3, h4⟩ := h
  exact ⟨F, h1.keepsN k, h2, h3.trans k, fun i hi => ⟨(h4 i hi).1, Nat.lt_of_lt_of_le (h4 i hi).2 k.size⟩⟩
/-- what marked blocks' writing leaves -/
theorem Nx.over (h : Nx IsN w0 w p s M) (k : Keeps M w w1) (hm : ∀ i, M i → w0.heap.size ≤ i) : Nx IsN w0 w1 p s M := by
  obtain ⟨F, h1, h2, h3, h4⟩ := h
  exact ⟨F, h1.keeps k (fun i hi hm => (h4 i hm).1 hi), h2, h3.then k (fun i hi => .inr (hm i hi)), fun i hi => ⟨(h4 i hi).1, Nat.lt_of_lt_of_le (h4 i hi).2 k.size⟩⟩
/-- new blocks marked -/
theorem Nx.mark (h : Nx IsN w0 w p s M) (k : Keeps no w w1) : Nx IsN w0 w1 p s (fun i => M i ∨ (w.heap.size ≤ i ∧ i < w1.heap.size)) := by
  obtain ⟨F, h1, h2, h3, h4⟩ := h
  refine ⟨F, h1.keepsN k, h2, h3.trans k, fun i hi => ?_⟩
  rcases hi with hi | hi
  · exact ⟨(h4 i hi).1, Nat.lt_of_lt_of_le (h4 i hi).2 k.size⟩
  · exact ⟨fun hF => by have := h1.lt i hF; omega, hi.2⟩
theorem Nx.fewer (h : Nx IsN w0 w p s M) {N : Nat → Prop} (hn : ∀ i, N i → M i) : Nx IsN w0 w p s N := by
  obtain ⟨F, h1, h2, h3, h4⟩ := h
  exact ⟨F, h1, h2, h3, fun i hi => h4 i (hn i hi)⟩
theorem Nx.send (h : Nx IsN w0 w p s M) (hw : NWf s K) (hK : K ≤ 2600000000000) {o : Option Addr} {n c : Nat} {bs : List UInt8} (k : Keeps no w w1) (hs : Sl BE w1 o c bs) (hn : n = bs.length) (hl : bs.length ≤ 140737488355328) (hnew : New w o) (a b : Int) :
    Calls Try.prog 9 #[.pointer (some ⟨p, 0, none⟩), .int .i64 a, .int .i64 b, .slice o n c] w1 fun e w' => e = .returned (.tuple #[.int .i64 ((sendN s a b : Nat) : Int), .int .i64 (sendE s a b)]) ∧ Nx IsN w0 w' p (sendS s a b bs) M ∧ Keeps (Mo M) w1 w' := by
  obtain ⟨F, h1, h2, h3, h4⟩ := h
  refine (nSend_any w1 p F s K a b o n c bs (h1.keepsN k) hw hK hn hl hs (fun i hi hF => ?_)).mono ?_
  · have := hnew i hi; have := h1.lt i hF; omega
  · rintro e w' ⟨rfl, G, g1, g2, g3⟩
    exact ⟨rfl, nx_of g1 g2 g3 h2 (h3.trans k) (fun i hi => ⟨(h4 i hi).1, Nat.lt_of_lt_of_le (h4 i hi).2 k.size⟩)⟩
theorem Nx.del (h : Nx IsN w0 w p s M) (hw : NWf s K) (hK : K ≤ 2600000000000) (pl : Int) :
    Calls Try.prog 12 #[.pointer (some ⟨p, 0, none⟩), .int .i64 pl] w fun e w' => ∃ r : RF, e = .returned (.tuple #[aggF r, .int .i64 (errS s pl)]) ∧ FOf w' r (delF s pl) ∧ Nx IsN w0 w' p (delS s pl) (fun i => M i ∨ zO r.o r.c i) ∧ Keeps (Mo M) w w' ∧ ∀ i, zO r.o r.c i → w0.heap.size ≤ i ∧ ¬ M i := by
  obtain ⟨F, h1, h2, h3, h4⟩ := h
  refine (nDeliver_any w p F s K pl h1 hw hK).mono ?_
  rintro e w' ⟨r, G, rfl, hr, hz, g1, g2, g3⟩
  have hh := nx_of g1 g2 g3 h2 h3 h4
  obtain ⟨⟨G', k1, k2, k3, k4⟩, k5⟩ := hh
  refine ⟨r, rfl, hr, ⟨G, g1, fun i hi => (g2 i hi).elim (h2 i) (fun h => Nat.le_trans h3.size h), k3, fun i hi => ?_⟩, k5, fun i hi => ⟨(hz i hi).1.elim (h2 i) (fun h => Nat.le_trans h3.size h), fun hm => (hz i hi).1.elim (h4 i hm).1 (fun h => by have := (h4 i hm).2; omega)⟩⟩
  rcases hi with hi | hi
  · exact ⟨fun hg => (g2 i hg).elim (h4 i hi).1 (fun h => by have := (h4 i hi).2; omega), (k4 i hi).2⟩
  · exact ⟨(hz i hi).2, hr.bz.lt i hi⟩
theorem Nx.lose (h : Nx IsN w0 w p s M) (hw : NWf s K) (hK : K ≤ 2600000000000) (pl : Int) :
    Calls Try.prog 13 #[.pointer (some ⟨p, 0, none⟩), .int .i64 pl] w fun e w' => e = .returned (.int .i64 (errS s pl)) ∧ Nx IsN w0 w' p (delS s pl) M ∧ Keeps (Mo M) w w' := by
  obtain ⟨F, h1, h2, h3, h4⟩ := h
  refine (nLose_any w p F s K pl h1 hw hK).mono ?_
  rintro e w' ⟨rfl, G, g1, g2, g3⟩
  exact ⟨rfl, nx_of g1 g2 g3 h2 h3 h4⟩
theorem Nx.twin (h : Nx IsN w0 w p s M) (hw : NWf s K) (hK : K ≤ 2600000000000) (pl : Int) :
    Calls Try.prog 14 #[.pointer (some ⟨p, 0, none⟩), .int .i64 pl] w fun e w' => e = .returned (.tuple #[.int .i64 ((twinN s pl : Nat) : Int), .int .i64 (errS s pl)]) ∧ Nx IsN w0 w' p (twinS s pl) M ∧ Keeps (Mo M) w w' := by
  obtain ⟨F, h1, h2, h3, h4⟩ := h
  refine (nTwin_any w p F s K pl h1 hw hK).mono ?_
  rintro e w' ⟨rfl, G, g1, g2, g3⟩
  exact ⟨rfl, nx_of g1 g2 g3 h2 h3 h4⟩
theorem Nx.leng (h : Nx IsN w0 w p s M) :
    Calls Try.prog 11 #[.pointer (some ⟨p, 0, none⟩)] w fun e w' => e = .returned (.int .i64 ((s.fl.length : Nat) : Int)) ∧ Nx IsN w0 w' p s M ∧ Keeps no w w' := by
  have h' := h
  obtain ⟨F, h1, h2, h3, h4⟩ := h
  refine (nLen_any w p F s h1).mono ?_
  rintro e w' ⟨rfl, k⟩
  exact ⟨rfl, h'.keepsN k, k⟩
theorem Nx.flight (h : Nx IsN w0 w p s M) (hw : NWf s K) (hK : K ≤ 2600000000000) :
    Calls Try.prog 16 #[.pointer (some ⟨p, 0, none⟩)] w (FTo FE w s.fl) := by
  obtain ⟨F, h1, h2, h3, h4⟩ := h
  exact nFlight_any w p F s K h1 hw hK
theorem new_ok (w : World) (P C : Int) (h : 1 ≤ P ∧ P ≤ 64 ∧ 1 ≤ C ∧ C ≤ 16) :
    Calls Try.prog 8 #[.int .i64 P, .int .i64 C] w fun e w' => ∃ p, e = .returned (.tuple #[.pointer (some ⟨p, 0, none⟩), .int .i64 0]) ∧ Nx IsN w w' p (newS P C) no := by
  refine (nNew_any w P C (by omega) (by omega)).mono ?_
  intro e w' hh
  obtain ⟨p, F, rfl, h1, h2, h3⟩ := hh.2 h
  exact ⟨p, rfl, F, h1, h2, h3, fun i hi => hi.elim⟩
end
theorem litB (w : World) (x : UInt8) : Sl BE (w.alloc (.cells #[bv x] 5 (1, 2))) (some ⟨w.heap.size, 0, none⟩) 1 [x] :=
  ⟨lit_row okB w [x] #[bv x] (1, 2) (by simp [cells_B]), by simp, fun h => by cases h⟩
def a0S : NS := newS 2 1
def a1S : NS := sendS a0S (-1) 0 [97]
def a2S : NS := sendS a1S (-1) 1 [98]
def a3S : NS := twinS a2S 0
def a4S : NS := delS a3S 1
set_option maxRecDepth 10000 in
set_option maxHeartbeats 2000000 in
theorem alive_any (w : World) : Calls Try.prog 7 #[] w fun e w' => e = .returned (.bool true) ∧ Keeps no w w' := by
  have kc := fun (w : World) (C : Array Value) (n c : Nat) => Lib.run_convert_bytes_const (P := Try.prog) w 22 5 C n c Try.underlying22 Try.underlying5
  go_enter Try.func7, Try.ntmps7
  go_wp2_with fail
  refine (new_ok w 2 1 (by decide)).mono ?_
  rintro e w1 ⟨p, rfl, hx⟩
  have H1 : Hid (Nx IsN w w1 p a0S no ∧ NWf a0S 0) := ⟨hx, newS_wf (by decide) (by decide) (by decide) (by decide)⟩
  clear hx
  go_wp2_with fail
  refine (Nx.send H1.out.1 H1.out.2 (by decide) ((Keeps.refl _ _).alloc _) (litB w1 97) rfl (by decide) (new_fresh w1 _ (Nat.le_refl _) _) (-1) 0).mono ?_
  rintro e w2 ⟨rfl, hx, -⟩
  have H2 : Hid (Nx IsN w w2 p a1S no ∧ NWf a1S 1) := ⟨hx, H1.out.2.send _ _ (by decide)⟩
  have e1 : ((sendN a0S (-1) 0 : Nat) : Int) = 1 := rfl
  rw [e1]
  clear hx
  go_wp2_with fail
  refine (Nx.send H2.out.1 H2.out.2 (by decide) ((Keeps.refl _ _).alloc _) (litB w2 98) rfl (by decide) (new_fresh w2 _ (Nat.le_refl _) _) (-1) 1).mono ?_
  rintro e w3 ⟨rfl, hx, -⟩
  have H3 : Hid (Nx IsN w w3 p a2S no ∧ NWf a2S 2) := ⟨hx, H2.out.2.send _ _ (by decide)⟩
  have e2 : ((sendN a1S (-1) 1 : Nat) : Int) = 2 := rfl
  rw [e2]
  clear hx
  go_wp2_with fail
  refine (Nx.twin H3.out.1 H3.out.2 (by decide) 0).mono ?_
  rintro e w4 ⟨rfl, hx, -⟩
  have H4 : Hid (Nx IsN w w4 p a3S no ∧ NWf a3S 3) := ⟨hx, H3.out.2.twin _⟩
  have e3 : ((twinN a2S 0 : Nat) : Int) = 3 := rfl
  rw [e3]
  clear hx
  go_wp2_with fail
  refine (Nx.del H4.out.1 H4.out.2 (by decide) 1).mono ?_
  rintro e w5 ⟨r, rfl, hr, hx, -, -⟩
  obtain ⟨r0, r1, r2, ro, rn, rc⟩ := r
  have e4 : errS a3S 1 = 0 := rfl
  have e5 : delF a3S 1 = ⟨2, -1, 1, [98]⟩ := rfl
  rw [e5] at hr
  obtain ⟨q0, q1, q2, q3, q4⟩ := hr
  simp only [List.length_cons, List.length_nil] at q0 q1 q2 q3 q4
  subst q0 q1 q2 q3
  have H5 : Hid (Nx IsN w w5 p a4S no) := hx.fewer (fun i hi => hi.elim)
  have HZ : Hid (Oz BE w5 ro rc [98]) := q4
  unfold aggF
  simp only
  rw [e4]
  clear hx q4
  go_upto_region 8 with fail
  have hcv2 : ∀ ob, (convert 22 9 (.slice ro 1 rc)).run Try.prog (w5.alloc ob) = .ok (.string ⟨#[98]⟩) (w5.alloc ob) := fun ob => run_text _ ro [98] 1 rc rfl (HZ.out.keepsN ((Keeps.refl _ _).alloc _)).row
  go_wp2_with fail
  refine (Nx.leng (H5.out.keepsN ((Keeps.refl _ _).alloc _))).mono ?_
  rintro e w6 ⟨rfl, hx, -⟩
  have e7 : ((a4S.fl.length : Nat) : Int) = 2 := rfl
  rw [e7]
  have HK : Hid (Keeps no w w6) := hx.kp
  clear hx hcv2
  go_wp2_with fail
  go_ret
  exact ⟨rfl, HK.out⟩
end Go.Proofs.Ytdbejihkliafiaa
