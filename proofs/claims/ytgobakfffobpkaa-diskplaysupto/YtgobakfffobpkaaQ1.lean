/- One call on a disk and on the document's. -/
import Derived.Test.YtgobakfffobpkaaR8
import Derived.Deep.RegionHeld3
namespace Go.Proofs.Ytgobakfffobpkaa
open Go.RowKit Dk
set_option linter.unusedVariables false
set_option linter.unusedSimpArgs false

/-- a disk and one of the document's, beside one another; what they were at w0 lay in F0 and G0 -/
structure Pair (F0 G0 : Nat → Prop) (w0 w : World) (p : Nat) (s : St) (r : Nat) (t : St) (F G : Nat → Prop) : Prop where
  a : IsD w p F s
  b : IsR w r G t
  ap : ∀ k, F k → ¬ G k
  nf : ∀ k, F k → F0 k ∨ w0.heap.size ≤ k
  ng : ∀ k, G k → G0 k ∨ w0.heap.size ≤ k
  kept : Keeps (fun k => F0 k ∨ G0 k) w0 w
theorem Pair.start {w w' : World} {p r : Nat} {s t : St} {F G : Nat → Prop} (ha : IsD w p F s) (hb : IsR w r G t) (ap : ∀ k, F k → ¬ G k) (hk : Keeps no w w') : Pair F G w' w' p s r t F G :=
  ⟨ha.keepsN hk, hb.keepsN hk, ap, fun k h => .inl h, fun k h => .inl h, Keeps.refl _ _⟩
theorem Pair.stepF {F0 G0 F G F' : Nat → Prop} {w0 w w' : World} {p r : Nat} {s s' t : St} (h : Pair F0 G0 w0 w p s r t F G) (hi : IsD w' p F' s') (hF : ∀ k, F' k → F k ∨ w.heap.size ≤ k) (hk : Keeps F w w') : Pair F0 G0 w0 w' p s' r t F' G := by
  have h0 := h.kept.size
  refine ⟨hi, h.b.keeps hk (fun k h1 h2 => h.ap k h2 h1), fun k h1 h2 => ?_, fun k h1 => ?_, h.ng, h.kept.then hk (fun k h1 => ?_)⟩
  · rcases hF k h1 with h3 | h3
    · exact h.ap k h3 h2
    · have := h.b.lt k h2; omega
  · rcases hF k h1 with h3 | h3
    · exact h.nf k h3
    · exact .inr (by omega)
  · rcases h.nf k h1 with h3 | h3
    · exact .inl (.inl h3)
    · exact .inr h3
theorem Pair.stepG {F0 G0 F G G' : Nat → Prop} {w0 w w' : World} {p r : Nat} {s t t' : St} (h : Pair F0 G0 w0 w p s r t F G) (hi : IsR w' r G' t') (hG : ∀ k, G' k → G k ∨ w.heap.size ≤ k) (hk : Keeps G w w') : Pair F0 G0 w0 w' p s r t' F G' := by
  have h0 := h.kept.size
  refine ⟨h.a.keeps hk (fun k h1 h2 => h.ap k h1 h2), hi, fun k h1 h2 => ?_, h.nf, fun k h1 => ?_, h.kept.then hk (fun k h1 => ?_)⟩
  · rcases hG k h2 with h3 | h3
    · exact h.ap k h1 h3
    · have := h.a.lt k h1; omega
  · rcases hG k h1 with h3 | h3
    · exact h.ng k h3
    · exact .inr (by omega)
  · rcases h.ng k h1 with h3 | h3
    · exact .inl (.inr h3)
    · exact .inr h3
section
variable {F0 G0 F G : Nat → Prop} {w0 w w' : World} {p r : Nat} {s s' t t' : St}
theorem Pair.sameA (h : Pair F0 G0 w0 w p s r t F G) (hi : IsD w' p F s') (hk : Keeps F w w') : Pair F0 G0 w0 w' p s' r t F G := h.stepF hi (fun k h => .inl h) hk
theorem Pair.stepA (h : Pair F0 G0 w0 w p s r t F G) (hi : IsD w' p (grow F w w') s') (hk : Keeps F w w') : Pair F0 G0 w0 w' p s' r t (grow F w w') G := h.stepF hi (fun k h => by rcases h with h | h; exact .inl h; exact .inr h.1) hk
theorem Pair.sameB (h : Pair F0 G0 w0 w p s r t F G) (hi : IsR w' r G t') (hk : Keeps G w w') : Pair F0 G0 w0 w' p s r t' F G := h.stepG hi (fun k h => .inl h) hk
theorem Pair.stepB (h : Pair F0 G0 w0 w p s r t F G) (hi : IsR w' r (grow G w w') t') (hk : Keeps G w w') : Pair F0 G0 w0 w' p s r t' F (grow G w w') := h.stepG hi (fun k h => by rcases h with h | h; exact .inl h; exact .inr h.1) hk
theorem Pair.beside (h : Pair F0 G0 w0 w p s r t F G) (hk : Keeps no w w') : Pair F0 G0 w0 w' p s r t F G := ⟨h.a.keepsN hk, h.b.keepsN hk, h.ap, h.nf, h.ng, h.kept.trans hk.of_no⟩
theorem Pair.cell (h : Pair F0 G0 w0 w p s r t F G) {B i : Nat} {v : Value} (hB : ¬ F0 B ∧ ¬ G0 B) (c : w0.cell? ⟨B, i, none⟩ = some v) : w.cell? ⟨B, i, none⟩ = some v := h.kept.cell c (fun h1 => by rcases h1 with h1 | h1; exact hB.1 h1; exact hB.2 h1)
end
/-- both to one state -/
def PTo (F0 G0 : Nat → Prop) (w0 w : World) (p r : Nat) (u : St) : Prop := ∃ F G, Pair F0 G0 w0 w p u r u F G
def PlaysTo (F G : Nat → Prop) (w : World) (p r : Nat) (s : St) (o : OpV) (e : Ending) (w' : World) : Prop := e = .returned (.bool true) ∧ PTo F G w w' p r (doesOn o s).1
theorem plays_end {F0 G0 F G : Nat → Prop} {w W w' : World} {p r : Nat} {s : St} {o : OpV} {b : Bool} {u : St × Int} (he : doesOn o s = u) (hk : Keeps no w W) (h : Pair F0 G0 W w' p u.1 r u.1 F G) (hb : b = true) : PlaysTo F0 G0 w p r s o (.returned (.bool b)) w' := by
  subst hb
  have hs := hk.size
  refine ⟨rfl, F, G, ?_⟩
  rw [he]
  exact ⟨h.a, h.b, h.ap, fun k hk1 => by rcases h.nf k hk1 with h1 | h1; exact .inl h1; exact .inr (by omega), fun k hk1 => by rcases h.ng k hk1 with h1 | h1; exact .inl h1; exact .inr (by omega), hk.of_no.trans h.kept⟩
set_option maxRecDepth 100000 in
set_option maxHeartbeats 0 in
theorem plays_9 (w : World) (p r : Nat) (F G : Nat → Prop) (s : St) (o : OpV) (h : IsD w p F s) (hr : IsR w r G s) (ap : ∀ k, F k → ¬ G k) (ho : o.ok w) (hof : ∀ k, inO o.ob k → 0 < o.cb → ¬ F k ∧ ¬ G k) (M : Nat) (hR : Room M s) (hM : M ≤ 70368744177664) (hk : o.kind = 9) :
    Calls Try.prog 33 #[.pointer (some ⟨p, 0, none⟩), .pointer (some ⟨r, 0, none⟩), .agg o.cells] w (PlaysTo F G w p r s o) := by
  have he := doesOn_9 (s := s) hk
  obtain ⟨kind, who, nm, tn, ob, cb, bs, N, K⟩ := o
  simp only at hk
  subst hk
  obtain ⟨nb, hnb⟩ : ∃ nb, nb = bs.length := ⟨_, rfl⟩
  have HNB : Hid (nb = bs.length) := hnb
  have HO : Hid (OpV.ok ⟨(9), who, nm, tn, ob, cb, bs, N, K⟩ w) := ho
  have HR : Hid (Room M s) := hR
  have HE := he
  simp only [OpV.cells]
  rw [← hnb]
  obtain ⟨W, hW⟩ : ∃ W, W = w.alloc (.cells #[.int .i64 (9), .int .i64 who, .string nm, .string tn, .slice ob nb cb, .int .i64 N, .int .i64 K] 45) := ⟨_, rfl⟩
  have HA : Hid (Keeps no w W) := (show Keeps no w W by rw [hW]; exact keeps_alloc w _)
  have hbW : W.heap[w.heap.size]? = some (.cells #[.int .i64 (9), .int .i64 who, .string nm, .string tn, .slice ob nb cb, .int .i64 N, .int .i64 K] 45 (0, 0)) := by rw [hW]; exact blk_new w _
  have HP : Hid (Pair F G W W p s r s F G) := Pair.start h hr ap HA.out
  have HF : Hid (∀ k, inO ob k → 0 < cb → ¬ F k ∧ ¬ G k) := hof
  have HB : Hid (¬ F w.heap.size ∧ ¬ G w.heap.size) := ⟨fun h1 => by have := h.lt _ h1; omega, fun h1 => by have := hr.lt _ h1; omega⟩
  obtain ⟨B, hB⟩ : ∃ B, B = w.heap.size := ⟨_, rfl⟩
  rw [← hB] at hbW HB
  have q0 : W.cell? ⟨B, 0, none⟩ = some (.int .i64 (9)) := cell_of_blk hbW 0
  have q2 : W.cell? ⟨B, 2, none⟩ = some (.string nm) := cell_of_blk hbW 2
  have q3 : W.cell? ⟨B, 3, none⟩ = some (.string tn) := cell_of_blk hbW 3
  have q4 : W.cell? ⟨B, 4, none⟩ = some (.slice ob nb cb) := cell_of_blk hbW 4
  have q5 : W.cell? ⟨B, 5, none⟩ = some (.int .i64 N) := cell_of_blk hbW 5
  have q6 : W.cell? ⟨B, 6, none⟩ = some (.int .i64 K) := cell_of_blk hbW 6
  clear hnb ho hR h hr he ap hof hbW
  go_enter Try.func33, Try.ntmps33
  go_wp2_with fail
  rw [← hW, ← hB]
  clear hW hB
  refine (crash_any W p F s N HP.out.a HO.out.n).mono ?_
  rintro e w2 ⟨rfl, h2, hk2⟩
  have D2 : Hid (Pair F G W w2 p _ r s F G) := HP.out.sameA h2 hk2
  have x5 := D2.out.cell HB.out q5
  clear h2 hk2
  go_wp2_with fail
  refine (rcrash_any w2 r G s N D2.out.b HO.out.n).mono ?_
  rintro e w3 ⟨rfl, h3, hk3⟩
  have D3 : Hid (Pair F G W w3 p _ r _ F G) := D2.out.sameB h3 hk3
  go_wp2_with fail
  refine (down_any _ p F _ D3.out.a).mono ?_
  rintro e w' ⟨rfl, e4⟩
  subst w'
  go_wp2_with fail
  refine (rdown_any _ r G _ D3.out.b).mono ?_
  rintro e w' ⟨rfl, e5⟩
  subst w'
  go_wp2_with fail
  go_ret
  exact plays_end HE HA.out D3.out (by simp)
set_option maxRecDepth 100000 in
set_option maxHeartbeats 0 in
theorem plays_10 (w : World) (p r : Nat) (F G : Nat → Prop) (s : St) (o : OpV) (h : IsD w p F s) (hr : IsR w r G s) (ap : ∀ k, F k → ¬ G k) (ho : o.ok w) (hof : ∀ k, inO o.ob k → 0 < o.cb → ¬ F k ∧ ¬ G k) (M : Nat) (hR : Room M s) (hM : M ≤ 70368744177664) (hk : o.kind = 10) :
    Calls Try.prog 33 #[.pointer (some ⟨p, 0, none⟩), .pointer (some ⟨r, 0, none⟩), .agg o.cells] w (PlaysTo F G w p r s o) := by
  have he := doesOn_10 (s := s) hk
  obtain ⟨kind, who, nm, tn, ob, cb, bs, N, K⟩ := o
  simp only at hk
  subst hk
  obtain ⟨nb, hnb⟩ : ∃ nb, nb = bs.length := ⟨_, rfl⟩
  have HNB : Hid (nb = bs.length) := hnb
  have HO : Hid (OpV.ok ⟨(10), who, nm, tn, ob, cb, bs, N, K⟩ w) := ho
  have HR : Hid (Room M s) := hR
  have HE := he
  simp only [OpV.cells]
  rw [← hnb]
  obtain ⟨W, hW⟩ : ∃ W, W = w.alloc (.cells #[.int .i64 (10), .int .i64 who, .string nm, .string tn, .slice ob nb cb, .int .i64 N, .int .i64 K] 45) := ⟨_, rfl⟩
  have HA : Hid (Keeps no w W) := (show Keeps no w W by rw [hW]; exact keeps_alloc w _)
  have hbW : W.heap[w.heap.size]? = some (.cells #[.int .i64 (10), .int .i64 who, .string nm, .string tn, .slice ob nb cb, .int .i64 N, .int .i64 K] 45 (0, 0)) := by rw [hW]; exact blk_new w _
  have HP : Hid (Pair F G W W p s r s F G) := Pair.start h hr ap HA.out
  have HF : Hid (∀ k, inO ob k → 0 < cb → ¬ F k ∧ ¬ G k) := hof
  have HB : Hid (¬ F w.heap.size ∧ ¬ G w.heap.size) := ⟨fun h1 => by have := h.lt _ h1; omega, fun h1 => by have := hr.lt _ h1; omega⟩
  obtain ⟨B, hB⟩ : ∃ B, B = w.heap.size := ⟨_, rfl⟩
  rw [← hB] at hbW HB
  have q0 : W.cell? ⟨B, 0, none⟩ = some (.int .i64 (10)) := cell_of_blk hbW 0
  have q2 : W.cell? ⟨B, 2, none⟩ = some (.string nm) := cell_of_blk hbW 2
  have q3 : W.cell? ⟨B, 3, none⟩ = some (.string tn) := cell_of_blk hbW 3
  have q4 : W.cell? ⟨B, 4, none⟩ = some (.slice ob nb cb) := cell_of_blk hbW 4
  have q5 : W.cell? ⟨B, 5, none⟩ = some (.int .i64 N) := cell_of_blk hbW 5
  have q6 : W.cell? ⟨B, 6, none⟩ = some (.int .i64 K) := cell_of_blk hbW 6
  clear hnb ho hR h hr he ap hof hbW
  go_enter Try.func33, Try.ntmps33
  go_wp2_with fail
  rw [← hW, ← hB]
  clear hW hB
  refine (up_any W p F s HP.out.a).mono ?_
  rintro e w2 ⟨rfl, h2, hk2⟩
  have D2 : Hid (Pair F G W w2 p _ r s F G) := HP.out.sameA h2 hk2
  clear h2 hk2
  go_wp2_with fail
  refine (rup_any w2 r G s D2.out.b).mono ?_
  rintro e w3 ⟨rfl, h3, hk3⟩
  have D3 : Hid (Pair F G W w3 p _ r _ F G) := D2.out.sameB h3 hk3
  go_wp2_with fail
  refine (down_any _ p F _ D3.out.a).mono ?_
  rintro e w' ⟨rfl, e4⟩
  subst w'
  go_wp2_with fail
  refine (rdown_any _ r G _ D3.out.b).mono ?_
  rintro e w' ⟨rfl, e5⟩
  subst w'
  go_wp2_with fail
  go_ret
  exact plays_end HE HA.out D3.out (by simp)
set_option maxRecDepth 100000 in
set_option maxHeartbeats 0 in
theorem plays_11 (w : World) (p r : Nat) (F G : Nat → Prop) (s : St) (o : OpV) (h : IsD w p F s) (hr : IsR w r G s) (ap : ∀ k, F k → ¬ G k) (ho : o.ok w) (hof : ∀ k, inO o.ob k → 0 < o.cb → ¬ F k ∧ ¬ G k) (M : Nat) (hR : Room M s) (hM : M ≤ 70368744177664) (hk : o.kind = 11) :
    Calls Try.prog 33 #[.pointer (some ⟨p, 0, none⟩), .pointer (some ⟨r, 0, none⟩), .agg o.cells] w (PlaysTo F G w p r s o) := by
  have he := doesOn_11 (s := s) hk
  obtain ⟨kind, who, nm, tn, ob, cb, bs, N, K⟩ := o
  simp only at hk
  subst hk
  obtain ⟨nb, hnb⟩ : ∃ nb, nb = bs.length := ⟨_, rfl⟩
  have HNB : Hid (nb = bs.length) := hnb
  have HO : Hid (OpV.ok ⟨(11), who, nm, tn, ob, cb, bs, N, K⟩ w) := ho
  have HR : Hid (Room M s) := hR
  have HE := he
  simp only [OpV.cells]
  rw [← hnb]
  obtain ⟨W, hW⟩ : ∃ W, W = w.alloc (.cells #[.int .i64 (11), .int .i64 who, .string nm, .string tn, .slice ob nb cb, .int .i64 N, .int .i64 K] 45) := ⟨_, rfl⟩
  have HA : Hid (Keeps no w W) := (show Keeps no w W by rw [hW]; exact keeps_alloc w _)
  have hbW : W.heap[w.heap.size]? = some (.cells #[.int .i64 (11), .int .i64 who, .string nm, .string tn, .slice ob nb cb, .int .i64 N, .int .i64 K] 45 (0, 0)) := by rw [hW]; exact blk_new w _
  have HP : Hid (Pair F G W W p s r s F G) := Pair.start h hr ap HA.out
  have HF : Hid (∀ k, inO ob k → 0 < cb → ¬ F k ∧ ¬ G k) := hof
  have HB : Hid (¬ F w.heap.size ∧ ¬ G w.heap.size) := ⟨fun h1 => by have := h.lt _ h1; omega, fun h1 => by have := hr.lt _ h1; omega⟩
  obtain ⟨B, hB⟩ : ∃ B, B = w.heap.size := ⟨_, rfl⟩
  rw [← hB] at hbW HB
  have q0 : W.cell? ⟨B, 0, none⟩ = some (.int .i64 (11)) := cell_of_blk hbW 0
  have q2 : W.cell? ⟨B, 2, none⟩ = some (.string nm) := cell_of_blk hbW 2
  have q3 : W.cell? ⟨B, 3, none⟩ = some (.string tn) := cell_of_blk hbW 3
  have q4 : W.cell? ⟨B, 4, none⟩ = some (.slice ob nb cb) := cell_of_blk hbW 4
  have q5 : W.cell? ⟨B, 5, none⟩ = some (.int .i64 N) := cell_of_blk hbW 5
  have q6 : W.cell? ⟨B, 6, none⟩ = some (.int .i64 K) := cell_of_blk hbW 6
  clear hnb ho hR h hr he ap hof hbW
  go_enter Try.func33, Try.ntmps33
  go_wp2_with fail
  rw [← hW, ← hB]
  clear hW hB
  refine (full_any W p F s HP.out.a N HO.out.n).mono ?_
  rintro e w2 ⟨rfl, h2, hk2⟩
  have D2 : Hid (Pair F G W w2 p _ r s F G) := HP.out.sameA h2 hk2
  have x5 := D2.out.cell HB.out q5
  clear h2 hk2
  go_wp2_with fail
  refine (rfull_any w2 r G s D2.out.b N HO.out.n).mono ?_
  rintro e w3 ⟨rfl, h3, hk3⟩
  have D3 : Hid (Pair F G W w3 p _ r _ F G) := D2.out.sameB h3 hk3
  go_wp2_with fail
  refine (down_any _ p F _ D3.out.a).mono ?_
  rintro e w' ⟨rfl, e4⟩
  subst w'
  go_wp2_with fail
  refine (rdown_any _ r G _ D3.out.b).mono ?_
  rintro e w' ⟨rfl, e5⟩
  subst w'
  go_wp2_with fail
  go_ret
  exact plays_end HE HA.out D3.out (by simp)
set_option maxRecDepth 100000 in
set_option maxHeartbeats 0 in
theorem plays_12 (w : World) (p r : Nat) (F G : Nat → Prop) (s : St) (o : OpV) (h : IsD w p F s) (hr : IsR w r G s) (ap : ∀ k, F k → ¬ G k) (ho : o.ok w) (hof : ∀ k, inO o.ob k → 0 < o.cb → ¬ F k ∧ ¬ G k) (M : Nat) (hR : Room M s) (hM : M ≤ 70368744177664) (hk : o.kind = 12) :
    Calls Try.prog 33 #[.pointer (some ⟨p, 0, none⟩), .pointer (some ⟨r, 0, none⟩), .agg o.cells] w (PlaysTo F G w p r s o) := by
  have he := doesOn_12 (s := s) hk
  obtain ⟨kind, who, nm, tn, ob, cb, bs, N, K⟩ := o
  simp only at hk
  subst hk
  obtain ⟨nb, hnb⟩ : ∃ nb, nb = bs.length := ⟨_, rfl⟩
  have HNB : Hid (nb = bs.length) := hnb
  have HO : Hid (OpV.ok ⟨(12), who, nm, tn, ob, cb, bs, N, K⟩ w) := ho
  have HR : Hid (Room M s) := hR
  have HE := he
  simp only [OpV.cells]
  rw [← hnb]
  obtain ⟨W, hW⟩ : ∃ W, W = w.alloc (.cells #[.int .i64 (12), .int .i64 who, .string nm, .string tn, .slice ob nb cb, .int .i64 N, .int .i64 K] 45) := ⟨_, rfl⟩
  have HA : Hid (Keeps no w W) := (show Keeps no w W by rw [hW]; exact keeps_alloc w _)
  have hbW : W.heap[w.heap.size]? = some (.cells #[.int .i64 (12), .int .i64 who, .string nm, .string tn, .slice ob nb cb, .int .i64 N, .int .i64 K] 45 (0, 0)) := by rw [hW]; exact blk_new w _
  have HP : Hid (Pair F G W W p s r s F G) := Pair.start h hr ap HA.out
  have HF : Hid (∀ k, inO ob k → 0 < cb → ¬ F k ∧ ¬ G k) := hof
  have HB : Hid (¬ F w.heap.size ∧ ¬ G w.heap.size) := ⟨fun h1 => by have := h.lt _ h1; omega, fun h1 => by have := hr.lt _ h1; omega⟩
  obtain ⟨B, hB⟩ : ∃ B, B = w.heap.size := ⟨_, rfl⟩
  rw [← hB] at hbW HB
  have q0 : W.cell? ⟨B, 0, none⟩ = some (.int .i64 (12)) := cell_of_blk hbW 0
  have q2 : W.cell? ⟨B, 2, none⟩ = some (.string nm) := cell_of_blk hbW 2
  have q3 : W.cell? ⟨B, 3, none⟩ = some (.string tn) := cell_of_blk hbW 3
  have q4 : W.cell? ⟨B, 4, none⟩ = some (.slice ob nb cb) := cell_of_blk hbW 4
  have q5 : W.cell? ⟨B, 5, none⟩ = some (.int .i64 N) := cell_of_blk hbW 5
  have q6 : W.cell? ⟨B, 6, none⟩ = some (.int .i64 K) := cell_of_blk hbW 6
  clear hnb ho hR h hr he ap hof hbW
  go_enter Try.func33, Try.ntmps33
  go_wp2_with fail
  rw [← hW, ← hB]
  clear hW hB
  refine (arm_any W p F s HP.out.a N K HO.out.n HO.out.kk).mono ?_
  rintro e w2 ⟨rfl, h2, hk2⟩
  have D2 : Hid (Pair F G W w2 p _ r s F G) := HP.out.sameA h2 hk2
  have x5 := D2.out.cell HB.out q5
  have x6 := D2.out.cell HB.out q6
  clear h2 hk2
  go_wp2_with fail
  refine (rarm_any w2 r G s D2.out.b N K HO.out.n HO.out.kk).mono ?_
  rintro e w3 ⟨rfl, h3, hk3⟩
  have D3 : Hid (Pair F G W w3 p _ r _ F G) := D2.out.sameB h3 hk3
  go_wp2_with fail
  refine (down_any _ p F _ D3.out.a).mono ?_
  rintro e w' ⟨rfl, e4⟩
  subst w'
  go_wp2_with fail
  refine (rdown_any _ r G _ D3.out.b).mono ?_
  rintro e w' ⟨rfl, e5⟩
  subst w'
  go_wp2_with fail
  go_ret
  exact plays_end HE HA.out D3.out (by simp)
set_option maxRecDepth 100000 in
set_option maxHeartbeats 0 in
theorem plays_0 (w : World) (p r : Nat) (F G : Nat → Prop) (s : St) (o : OpV) (h : IsD w p F s) (hr : IsR w r G s) (ap : ∀ k, F k → ¬ G k) (ho : o.ok w) (hof : ∀ k, inO o.ob k → 0 < o.cb → ¬ F k ∧ ¬ G k) (M : Nat) (hR : Room M s) (hM : M ≤ 70368744177664) (c1 : ¬ o.kind = 1) (c2 : ¬ o.kind = 2) (c3 : ¬ o.kind = 3) (c4 : ¬ o.kind = 4) (c5 : ¬ o.kind = 5) (c6 : ¬ o.kind = 6) (c7 : ¬ o.kind = 7) (c8 : ¬ o.kind = 8) (c9 : ¬ o.kind = 9) (c10 : ¬ o.kind = 10) (c11 : ¬ o.kind = 11) (c12 : ¬ o.kind = 12) :
    Calls Try.prog 33 #[.pointer (some ⟨p, 0, none⟩), .pointer (some ⟨r, 0, none⟩), .agg o.cells] w (PlaysTo F G w p r s o) := by
  have he := doesOn_0 (s := s) c1 c2 c3 c4 c5 c6 c7 c8 c9 c10 c11 c12
  obtain ⟨kind, who, nm, tn, ob, cb, bs, N, K⟩ := o
  simp only at c1 c2 c3 c4 c5 c6 c7 c8 c9 c10 c11 c12
  obtain ⟨nb, hnb⟩ : ∃ nb, nb = bs.length := ⟨_, rfl⟩
  have HNB : Hid (nb = bs.length) := hnb
  have HO : Hid (OpV.ok ⟨kind, who, nm, tn, ob, cb, bs, N, K⟩ w) := ho
  have HR : Hid (Room M s) := hR
  have HE := he
  have k1 := ho.k.1
  have k2 := ho.k.2
  simp only at k1 k2
  simp only [OpV.cells]
  rw [← hnb]
  obtain ⟨W, hW⟩ : ∃ W, W = w.alloc (.cells #[.int .i64 kind, .int .i64 who, .string nm, .string tn, .slice ob nb cb, .int .i64 N, .int .i64 K] 45) := ⟨_, rfl⟩
  have HA : Hid (Keeps no w W) := (show Keeps no w W by rw [hW]; exact keeps_alloc w _)
  have hbW : W.heap[w.heap.size]? = some (.cells #[.int .i64 kind, .int .i64 who, .string nm, .string tn, .slice ob nb cb, .int .i64 N, .int .i64 K] 45 (0, 0)) := by rw [hW]; exact blk_new w _
  have HP : Hid (Pair F G W W p s r s F G) := Pair.start h hr ap HA.out
  have HF : Hid (∀ k, inO ob k → 0 < cb → ¬ F k ∧ ¬ G k) := hof
  have HB : Hid (¬ F w.heap.size ∧ ¬ G w.heap.size) := ⟨fun h1 => by have := h.lt _ h1; omega, fun h1 => by have := hr.lt _ h1; omega⟩
  obtain ⟨B, hB⟩ : ∃ B, B = w.heap.size := ⟨_, rfl⟩
  rw [← hB] at hbW HB
  have q0 : W.cell? ⟨B, 0, none⟩ = some (.int .i64 kind) := cell_of_blk hbW 0
  have q2 : W.cell? ⟨B, 2, none⟩ = some (.string nm) := cell_of_blk hbW 2
  have q3 : W.cell? ⟨B, 3, none⟩ = some (.string tn) := cell_of_blk hbW 3
  have q4 : W.cell? ⟨B, 4, none⟩ = some (.slice ob nb cb) := cell_of_blk hbW 4
  have q5 : W.cell? ⟨B, 5, none⟩ = some (.int .i64 N) := cell_of_blk hbW 5
  have q6 : W.cell? ⟨B, 6, none⟩ = some (.int .i64 K) := cell_of_blk hbW 6
  clear hnb ho hR h hr he ap hof hbW
  go_enter Try.func33, Try.ntmps33
  go_wp2_with fail
  rw [← hW, ← hB]
  clear hW hB
  have D3 : Hid (Pair F G W W p s r s F G) := HP.out
  refine (down_any _ p F _ D3.out.a).mono ?_
  rintro e w' ⟨rfl, e4⟩
  subst w'
  go_wp2_with fail
  refine (rdown_any _ r G _ D3.out.b).mono ?_
  rintro e w' ⟨rfl, e5⟩
  subst w'
  go_wp2_with fail
  go_ret
  exact plays_end HE HA.out D3.out (by simp)
end Go.Proofs.Ytgobakfffobpkaa
