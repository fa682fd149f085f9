/- One call of a script on a disk: the walk. -/
import Derived.Test.YtgobakfffobpkaaT2
namespace Go.Proofs.Ytgobakfffobpkaa
open Go.RowKit Dk
set_option linter.unusedVariables false
set_option linter.unusedSimpArgs false

def DoesTo (w : World) (p : Nat) (F : Nat → Prop) (s : St) (o : OpV) (e : Ending) (w' : World) : Prop := e = .returned (.int .i64 (doesOn o s).2) ∧ IsD w' p (grow F w w') (doesOn o s).1 ∧ Keeps F w w'
theorem does_end {w w1 w2 : World} {p : Nat} {F : Nat → Prop} {s : St} {o : OpV} {r : St × Int} (hr : doesOn o s = r) (h : IsD w2 p F r.1) (hk1 : Keeps no w w1) (hk : Keeps F w1 w2) : DoesTo w p F s o (.returned (.int .i64 r.2)) w2 := by
  refine ⟨by rw [hr], ?_, (hk1.of_no (T := F)).trans hk⟩
  rw [hr]
  exact h.grow

set_option maxRecDepth 10000 in
theorem does_2 (w : World) (p : Nat) (F : Nat → Prop) (s : St) (o : OpV) (h : IsD w p F s) (ho : o.ok w) (M : Nat) (hr : Room M s) (hM : M ≤ 70368744177664) (hk : o.kind = 2) :
    Calls Try.prog 24 #[.pointer (some ⟨p, 0, none⟩), .agg o.cells] w (DoesTo w p F s o) := by
  have he := doesOn_2 (s := s) hk
  obtain ⟨kind, who, nm, tn, ob, cb, bs, N, K⟩ := o
  simp only at hk
  subst hk
  obtain ⟨nb, hnb⟩ : ∃ nb, nb = bs.length := ⟨_, rfl⟩
  have HNB : Hid (nb = bs.length) := hnb
  have HO : Hid (OpV.ok ⟨(2), who, nm, tn, ob, cb, bs, N, K⟩ w) := ho
  have HR : Hid (Room M s) := hr
  have HI : Hid (IsD w p F s) := h
  have HE := he
  simp only [OpV.cells]
  rw [← hnb]
  have HA := keeps_alloc w (.cells #[.int .i64 (2), .int .i64 who, .string nm, .string tn, .slice ob nb cb, .int .i64 N, .int .i64 K] 45)
  clear hnb ho hr h he
  go_enter Try.func24, Try.ntmps24
  go_wp2_with (go_at_call 13; refine (sync_any _ p F s nm (HI.out.keepsN HA) HO.out.nm).mono ?_; rintro e w2 ⟨rfl, h2, hk2⟩)
  go_ret
  exact does_end HE h2 HA hk2

set_option maxRecDepth 10000 in
theorem does_3 (w : World) (p : Nat) (F : Nat → Prop) (s : St) (o : OpV) (h : IsD w p F s) (ho : o.ok w) (M : Nat) (hr : Room M s) (hM : M ≤ 70368744177664) (hk : o.kind = 3) :
    Calls Try.prog 24 #[.pointer (some ⟨p, 0, none⟩), .agg o.cells] w (DoesTo w p F s o) := by
  have he := doesOn_3 (s := s) hk
  obtain ⟨kind, who, nm, tn, ob, cb, bs, N, K⟩ := o
  simp only at hk
  subst hk
  obtain ⟨nb, hnb⟩ : ∃ nb, nb = bs.length := ⟨_, rfl⟩
  have HNB : Hid (nb = bs.length) := hnb
  have HO : Hid (OpV.ok ⟨(3), who, nm, tn, ob, cb, bs, N, K⟩ w) := ho
  have HR : Hid (Room M s) := hr
  have HI : Hid (IsD w p F s) := h
  have HE := he
  simp only [OpV.cells]
  rw [← hnb]
  have HA := keeps_alloc w (.cells #[.int .i64 (3), .int .i64 who, .string nm, .string tn, .slice ob nb cb, .int .i64 N, .int .i64 K] 45)
  clear hnb ho hr h he
  go_enter Try.func24, Try.ntmps24
  go_wp2_with (go_at_call 18; refine (read_any _ p F s nm (HI.out.keepsN HA) HO.out.nm (by have := (HR.out.tick).readB (n := nm.data.toList); omega)).mono ?_; rintro e w2 ⟨o2, c2, m2, rfl, _, _, _, h2, hk2⟩)
  go_ret
  exact does_end HE h2 HA hk2

set_option maxRecDepth 10000 in
theorem does_4 (w : World) (p : Nat) (F : Nat → Prop) (s : St) (o : OpV) (h : IsD w p F s) (ho : o.ok w) (M : Nat) (hr : Room M s) (hM : M ≤ 70368744177664) (hk : o.kind = 4) :
    Calls Try.prog 24 #[.pointer (some ⟨p, 0, none⟩), .agg o.cells] w (DoesTo w p F s o) := by
  have he := doesOn_4 (s := s) hk
  obtain ⟨kind, who, nm, tn, ob, cb, bs, N, K⟩ := o
  simp only at hk
  subst hk
  obtain ⟨nb, hnb⟩ : ∃ nb, nb = bs.length := ⟨_, rfl⟩
  have HNB : Hid (nb = bs.length) := hnb
  have HO : Hid (OpV.ok ⟨(4), who, nm, tn, ob, cb, bs, N, K⟩ w) := ho
  have HR : Hid (Room M s) := hr
  have HI : Hid (IsD w p F s) := h
  have HE := he
  simp only [OpV.cells]
  rw [← hnb]
  have HA := keeps_alloc w (.cells #[.int .i64 (4), .int .i64 who, .string nm, .string tn, .slice ob nb cb, .int .i64 N, .int .i64 K] 45)
  clear hnb ho hr h he
  go_enter Try.func24, Try.ntmps24
  go_wp2_with (go_at_call 30; refine (size_any _ p F s nm (HI.out.keepsN HA) HO.out.nm).mono ?_; rintro e w2 ⟨rfl, h2, hk2⟩)
  go_ret
  exact does_end HE h2 HA hk2

set_option maxRecDepth 10000 in
theorem does_5 (w : World) (p : Nat) (F : Nat → Prop) (s : St) (o : OpV) (h : IsD w p F s) (ho : o.ok w) (M : Nat) (hr : Room M s) (hM : M ≤ 70368744177664) (hk : o.kind = 5) :
    Calls Try.prog 24 #[.pointer (some ⟨p, 0, none⟩), .agg o.cells] w (DoesTo w p F s o) := by
  have he := doesOn_5 (s := s) hk
  obtain ⟨kind, who, nm, tn, ob, cb, bs, N, K⟩ := o
  simp only at hk
  subst hk
  obtain ⟨nb, hnb⟩ : ∃ nb, nb = bs.length := ⟨_, rfl⟩
  have HNB : Hid (nb = bs.length) := hnb
  have HO : Hid (OpV.ok ⟨(5), who, nm, tn, ob, cb, bs, N, K⟩ w) := ho
  have HR : Hid (Room M s) := hr
  have HI : Hid (IsD w p F s) := h
  have HE := he
  simp only [OpV.cells]
  rw [← hnb]
  have HA := keeps_alloc w (.cells #[.int .i64 (5), .int .i64 who, .string nm, .string tn, .slice ob nb cb, .int .i64 N, .int .i64 K] 45)
  clear hnb ho hr h he
  go_enter Try.func24, Try.ntmps24
  go_wp2_with (go_at_call 31; refine (cut_any _ p F s nm N (HI.out.keepsN HA) HO.out.nm HO.out.n).mono ?_; rintro e w2 ⟨rfl, h2, hk2⟩)
  go_ret
  exact does_end HE h2 HA hk2

set_option maxRecDepth 10000 in
theorem does_6 (w : World) (p : Nat) (F : Nat → Prop) (s : St) (o : OpV) (h : IsD w p F s) (ho : o.ok w) (M : Nat) (hr : Room M s) (hM : M ≤ 70368744177664) (hk : o.kind = 6) :
    Calls Try.prog 24 #[.pointer (some ⟨p, 0, none⟩), .agg o.cells] w (DoesTo w p F s o) := by
  have he := doesOn_6 (s := s) hk
  obtain ⟨kind, who, nm, tn, ob, cb, bs, N, K⟩ := o
  simp only at hk
  subst hk
  obtain ⟨nb, hnb⟩ : ∃ nb, nb = bs.length := ⟨_, rfl⟩
  have HNB : Hid (nb = bs.length) := hnb
  have HO : Hid (OpV.ok ⟨(6), who, nm, tn, ob, cb, bs, N, K⟩ w) := ho
  have HR : Hid (Room M s) := hr
  have HI : Hid (IsD w p F s) := h
  have HE := he
  simp only [OpV.cells]
  rw [← hnb]
  have HA := keeps_alloc w (.cells #[.int .i64 (6), .int .i64 who, .string nm, .string tn, .slice ob nb cb, .int .i64 N, .int .i64 K] 45)
  clear hnb ho hr h he
  go_enter Try.func24, Try.ntmps24
  go_wp2_with (go_at_call 16; refine (delete_any _ p F s nm (HI.out.keepsN HA) HO.out.nm).mono ?_; rintro e w2 ⟨rfl, h2, hk2⟩)
  go_ret
  exact does_end HE h2 HA hk2

set_option maxRecDepth 10000 in
theorem does_7 (w : World) (p : Nat) (F : Nat → Prop) (s : St) (o : OpV) (h : IsD w p F s) (ho : o.ok w) (M : Nat) (hr : Room M s) (hM : M ≤ 70368744177664) (hk : o.kind = 7) :
    Calls Try.prog 24 #[.pointer (some ⟨p, 0, none⟩), .agg o.cells] w (DoesTo w p F s o) := by
  have he := doesOn_7 (s := s) hk
  obtain ⟨kind, who, nm, tn, ob, cb, bs, N, K⟩ := o
  simp only at hk
  subst hk
  obtain ⟨nb, hnb⟩ : ∃ nb, nb = bs.length := ⟨_, rfl⟩
  have HNB : Hid (nb = bs.length) := hnb
  have HO : Hid (OpV.ok ⟨(7), who, nm, tn, ob, cb, bs, N, K⟩ w) := ho
  have HR : Hid (Room M s) := hr
  have HI : Hid (IsD w p F s) := h
  have HE := he
  simp only [OpV.cells]
  rw [← hnb]
  have HA := keeps_alloc w (.cells #[.int .i64 (7), .int .i64 who, .string nm, .string tn, .slice ob nb cb, .int .i64 N, .int .i64 K] 45)
  clear hnb ho hr h he
  go_enter Try.func24, Try.ntmps24
  go_wp2_with (go_at_call 15; refine (rename_any _ p F s nm tn (HI.out.keepsN HA) HO.out.nm).mono ?_; rintro e w2 ⟨rfl, h2, hk2⟩)
  go_ret
  exact does_end HE h2 HA hk2

set_option maxRecDepth 10000 in
theorem does_8 (w : World) (p : Nat) (F : Nat → Prop) (s : St) (o : OpV) (h : IsD w p F s) (ho : o.ok w) (M : Nat) (hr : Room M s) (hM : M ≤ 70368744177664) (hk : o.kind = 8) :
    Calls Try.prog 24 #[.pointer (some ⟨p, 0, none⟩), .agg o.cells] w (DoesTo w p F s o) := by
  have he := doesOn_8 (s := s) hk
  obtain ⟨kind, who, nm, tn, ob, cb, bs, N, K⟩ := o
  simp only at hk
  subst hk
  obtain ⟨nb, hnb⟩ : ∃ nb, nb = bs.length := ⟨_, rfl⟩
  have HNB : Hid (nb = bs.length) := hnb
  have HO : Hid (OpV.ok ⟨(8), who, nm, tn, ob, cb, bs, N, K⟩ w) := ho
  have HR : Hid (Room M s) := hr
  have HI : Hid (IsD w p F s) := h
  have HE := he
  simp only [OpV.cells]
  rw [← hnb]
  have HA := keeps_alloc w (.cells #[.int .i64 (8), .int .i64 who, .string nm, .string tn, .slice ob nb cb, .int .i64 N, .int .i64 K] 45)
  clear hnb ho hr h he
  go_enter Try.func24, Try.ntmps24
  go_wp2_with (go_at_call 21; refine (list_any _ p F s (HI.out.keepsN HA)).mono ?_; rintro e w2 ⟨o2, c2, m2, rfl, _, _, _, h2, hk2⟩)
  go_ret
  exact does_end HE h2 HA hk2

set_option maxRecDepth 10000 in
theorem does_9 (w : World) (p : Nat) (F : Nat → Prop) (s : St) (o : OpV) (h : IsD w p F s) (ho : o.ok w) (M : Nat) (hr : Room M s) (hM : M ≤ 70368744177664) (hk : o.kind = 9) :
    Calls Try.prog 24 #[.pointer (some ⟨p, 0, none⟩), .agg o.cells] w (DoesTo w p F s o) := by
  have he := doesOn_9 (s := s) hk
  obtain ⟨kind, who, nm, tn, ob, cb, bs, N, K⟩ := o
  simp only at hk
  subst hk
  obtain ⟨nb, hnb⟩ : ∃ nb, nb = bs.length := ⟨_, rfl⟩
  have HNB : Hid (nb = bs.length) := hnb
  have HO : Hid (OpV.ok ⟨(9), who, nm, tn, ob, cb, bs, N, K⟩ w) := ho
  have HR : Hid (Room M s) := hr
  have HI : Hid (IsD w p F s) := h
  have HE := he
  simp only [OpV.cells]
  rw [← hnb]
  have HA := keeps_alloc w (.cells #[.int .i64 (9), .int .i64 who, .string nm, .string tn, .slice ob nb cb, .int .i64 N, .int .i64 K] 45)
  clear hnb ho hr h he
  go_enter Try.func24, Try.ntmps24
  go_wp2_with (go_at_call 25; refine (crash_any _ p F s N (HI.out.keepsN HA) HO.out.n).mono ?_; rintro e w2 ⟨rfl, h2, hk2⟩)
  go_ret
  exact does_end HE h2 HA hk2

set_option maxRecDepth 10000 in
theorem does_10 (w : World) (p : Nat) (F : Nat → Prop) (s : St) (o : OpV) (h : IsD w p F s) (ho : o.ok w) (M : Nat) (hr : Room M s) (hM : M ≤ 70368744177664) (hk : o.kind = 10) :
    Calls Try.prog 24 #[.pointer (some ⟨p, 0, none⟩), .agg o.cells] w (DoesTo w p F s o) := by
  have he := doesOn_10 (s := s) hk
  obtain ⟨kind, who, nm, tn, ob, cb, bs, N, K⟩ := o
  simp only at hk
  subst hk
  obtain ⟨nb, hnb⟩ : ∃ nb, nb = bs.length := ⟨_, rfl⟩
  have HNB : Hid (nb = bs.length) := hnb
  have HO : Hid (OpV.ok ⟨(10), who, nm, tn, ob, cb, bs, N, K⟩ w) := ho
  have HR : Hid (Room M s) := hr
  have HI : Hid (IsD w p F s) := h
  have HE := he
  simp only [OpV.cells]
  rw [← hnb]
  have HA := keeps_alloc w (.cells #[.int .i64 (10), .int .i64 who, .string nm, .string tn, .slice ob nb cb, .int .i64 N, .int .i64 K] 45)
  clear hnb ho hr h he
  go_enter Try.func24, Try.ntmps24
  go_wp2_with (go_at_call 17; refine (up_any _ p F s (HI.out.keepsN HA)).mono ?_; rintro e w2 ⟨rfl, h2, hk2⟩)
  go_ret
  exact does_end HE h2 HA hk2

set_option maxRecDepth 10000 in
theorem does_11 (w : World) (p : Nat) (F : Nat → Prop) (s : St) (o : OpV) (h : IsD w p F s) (ho : o.ok w) (M : Nat) (hr : Room M s) (hM : M ≤ 70368744177664) (hk : o.kind = 11) :
    Calls Try.prog 24 #[.pointer (some ⟨p, 0, none⟩), .agg o.cells] w (DoesTo w p F s o) := by
  have he := doesOn_11 (s := s) hk
  obtain ⟨kind, who, nm, tn, ob, cb, bs, N, K⟩ := o
  simp only at hk
  subst hk
  obtain ⟨nb, hnb⟩ : ∃ nb, nb = bs.length := ⟨_, rfl⟩
  have HNB : Hid (nb = bs.length) := hnb
  have HO : Hid (OpV.ok ⟨(11), who, nm, tn, ob, cb, bs, N, K⟩ w) := ho
  have HR : Hid (Room M s) := hr
  have HI : Hid (IsD w p F s) := h
  have HE := he
  simp only [OpV.cells]
  rw [← hnb]
  have HA := keeps_alloc w (.cells #[.int .i64 (11), .int .i64 who, .string nm, .string tn, .slice ob nb cb, .int .i64 N, .int .i64 K] 45)
  clear hnb ho hr h he
  go_enter Try.func24, Try.ntmps24
  go_wp2_with (go_at_call 29; refine (full_any _ p F s (HI.out.keepsN HA) N HO.out.n).mono ?_; rintro e w2 ⟨rfl, h2, hk2⟩)
  go_ret
  exact does_end HE h2 HA hk2

set_option maxRecDepth 10000 in
theorem does_12 (w : World) (p : Nat) (F : Nat → Prop) (s : St) (o : OpV) (h : IsD w p F s) (ho : o.ok w) (M : Nat) (hr : Room M s) (hM : M ≤ 70368744177664) (hk : o.kind = 12) :
    Calls Try.prog 24 #[.pointer (some ⟨p, 0, none⟩), .agg o.cells] w (DoesTo w p F s o) := by
  have he := doesOn_12 (s := s) hk
  obtain ⟨kind, who, nm, tn, ob, cb, bs, N, K⟩ := o
  simp only at hk
  subst hk
  obtain ⟨nb, hnb⟩ : ∃ nb, nb = bs.length := ⟨_, rfl⟩
  have HNB : Hid (nb = bs.length) := hnb
  have HO : Hid (OpV.ok ⟨(12), who, nm, tn, ob, cb, bs, N, K⟩ w) := ho
  have HR : Hid (Room M s) := hr
  have HI : Hid (IsD w p F s) := h
  have HE := he
  simp only [OpV.cells]
  rw [← hnb]
  have HA := keeps_alloc w (.cells #[.int .i64 (12), .int .i64 who, .string nm, .string tn, .slice ob nb cb, .int .i64 N, .int .i64 K] 45)
  clear hnb ho hr h he
  go_enter Try.func24, Try.ntmps24
  go_wp2_with (go_at_call 14; refine (arm_any _ p F s (HI.out.keepsN HA) N K HO.out.n HO.out.kk).mono ?_; rintro e w2 ⟨rfl, h2, hk2⟩)
  go_ret
  exact does_end HE h2 HA hk2

theorem does_end1 {w w2 w3 : World} {p : Nat} {F : Nat → Prop} {s : St} {o : OpV} {r : St × Int} (hr : doesOn o s = r) (h : IsD w3 p (grow F w2 w3) r.1) (hk1 : Keeps no w w2) (hk : Keeps F w2 w3) : DoesTo w p F s o (.returned (.int .i64 r.2)) w3 := by
  refine ⟨by rw [hr], ?_, (hk1.of_no (T := F)).trans hk⟩
  rw [hr]
  obtain ⟨bm, c, L, hd⟩ := h
  exact ⟨bm, c, L, hd.regrow hk1.size⟩
set_option maxRecDepth 10000 in
theorem does_1 (w : World) (p : Nat) (F : Nat → Prop) (s : St) (o : OpV) (h : IsD w p F s) (ho : o.ok w) (M : Nat) (hr : Room M s) (hM : M ≤ 70368744177664) (hk : o.kind = 1) :
    Calls Try.prog 24 #[.pointer (some ⟨p, 0, none⟩), .agg o.cells] w (DoesTo w p F s o) := by
  have he := doesOn_1 (s := s) hk
  obtain ⟨kind, who, nm, tn, ob, cb, bs, N, K⟩ := o
  simp only at hk
  subst hk
  obtain ⟨nb, hnb⟩ : ∃ nb, nb = bs.length := ⟨_, rfl⟩
  have HNB : Hid (nb = bs.length) := hnb
  have HO : Hid (OpV.ok ⟨1, who, nm, tn, ob, cb, bs, N, K⟩ w) := ho
  have HR : Hid (Room M s) := hr
  have HI : Hid (IsD w p F s) := h
  have HE := he
  simp only [OpV.cells]
  rw [← hnb]
  obtain ⟨W, hW⟩ : ∃ W, W = w.alloc (.cells #[.int .i64 1, .int .i64 who, .string nm, .string tn, .slice ob nb cb, .int .i64 N, .int .i64 K] 45) := ⟨_, rfl⟩
  have HA : Hid (Keeps no w W) := (show _ by rw [hW]; exact keeps_alloc w _)
  have hbW : W.heap[w.heap.size]? = some (.cells #[.int .i64 1, .int .i64 who, .string nm, .string tn, .slice ob nb cb, .int .i64 N, .int .i64 K] 45 (0, 0)) := by rw [hW]; exact blk_new w _
  have q0 : W.cell? ⟨w.heap.size, 0, none⟩ = some (.int .i64 1) := cell_of_blk hbW 0
  have q2 : W.cell? ⟨w.heap.size, 2, none⟩ = some (.string nm) := cell_of_blk hbW 2
  have q4 : W.cell? ⟨w.heap.size, 4, none⟩ = some (.slice ob nb cb) := cell_of_blk hbW 4
  clear hnb ho hr h he
  go_enter Try.func24, Try.ntmps24
  go_wp2
  rw [← hW]
  clear hW
  go_wp2
  go_region_with (first | (go_at_call 12; go_must (refine (own_any _ ob nb cb bs HNB.out (HO.out.sl.keepsN (HA.out.drew)) (by have := HO.out.len; simp only at this; omega)).mono ?_); rintro e w2 ⟨v, rfl, o2, n2, c2, rfl, hn2, ho2, hw2, hk2'⟩; have hk2 : Keeps no W w2 := ((Keeps.refl no W).drew).trans hk2'; have r2 := hk2.cellN q2; clear hk2') | (go_at_call 11; go_must (refine (append_any _ p F s nm o2 n2 c2 bs (HI.out.keepsN (HA.out.trans hk2)) HO.out.nm hn2.out ho2.sl (fun k hk hf => by have := HI.out.lt k hf; have h8 : W.heap.size ≤ k := hw2 k hk; have := HA.out.size; omega) (by have := HO.out.len; simp only at this; omega) (fun f hf => by have := HR.out.tick.find hf; have := HO.out.len; simp only at this; omega)).mono ?_); rintro e w3 ⟨rfl, h3, hk3⟩))
  all_goals go_wp2
  all_goals go_ret
  all_goals exact does_end1 HE h3 (HA.out.trans hk2) hk3

set_option maxRecDepth 10000 in
theorem does_0 (w : World) (p : Nat) (F : Nat → Prop) (s : St) (o : OpV) (h : IsD w p F s) (ho : o.ok w) (c1 : ¬ o.kind = 1) (c2 : ¬ o.kind = 2) (c3 : ¬ o.kind = 3) (c4 : ¬ o.kind = 4) (c5 : ¬ o.kind = 5) (c6 : ¬ o.kind = 6) (c7 : ¬ o.kind = 7) (c8 : ¬ o.kind = 8) (c9 : ¬ o.kind = 9) (c10 : ¬ o.kind = 10) (c11 : ¬ o.kind = 11) (c12 : ¬ o.kind = 12) :
    Calls Try.prog 24 #[.pointer (some ⟨p, 0, none⟩), .agg o.cells] w (DoesTo w p F s o) := by
  have he := doesOn_0 (s := s) c1 c2 c3 c4 c5 c6 c7 c8 c9 c10 c11 c12
  obtain ⟨kind, who, nm, tn, ob, cb, bs, N, K⟩ := o
  simp only at c1 c2 c3 c4 c5 c6 c7 c8 c9 c10 c11 c12
  obtain ⟨nb, hnb⟩ : ∃ nb, nb = bs.length := ⟨_, rfl⟩
  have HI : Hid (IsD w p F s) := h
  have HE := he
  have k1 := ho.k.1
  have k2 := ho.k.2
  simp only at k1 k2
  simp only [OpV.cells]
  rw [← hnb]
  have HA := keeps_alloc w (.cells #[.int .i64 kind, .int .i64 who, .string nm, .string tn, .slice ob nb cb, .int .i64 N, .int .i64 K] 45)
  clear hnb ho h he
  go_enter Try.func24, Try.ntmps24
  go_wp2
  go_ret
  exact does_end HE (HI.out.keepsN HA) HA (Keeps.refl _ _)
theorem does_any (w : World) (p : Nat) (F : Nat → Prop) (s : St) (o : OpV) (h : IsD w p F s) (ho : o.ok w) (M : Nat) (hr : Room M s) (hM : M ≤ 70368744177664) :
    Calls Try.prog 24 #[.pointer (some ⟨p, 0, none⟩), .agg o.cells] w (DoesTo w p F s o) := by
  by_cases c1 : o.kind = 1
  · exact does_1 w p F s o h ho M hr hM c1
  by_cases c2 : o.kind = 2
  · exact does_2 w p F s o h ho M hr hM c2
  by_cases c3 : o.kind = 3
  · exact does_3 w p F s o h ho M hr hM c3
  by_cases c4 : o.kind = 4
  · exact does_4 w p F s o h ho M hr hM c4
  by_cases c5 : o.kind = 5
  · exact does_5 w p F s o h ho M hr hM c5
  by_cases c6 : o.kind = 6
  · exact does_6 w p F s o h ho M hr hM c6
  by_cases c7 : o.kind = 7
  · exact does_7 w p F s o h ho M hr hM c7
  by_cases c8 : o.kind = 8
  · exact does_8 w p F s o h ho M hr hM c8
  by_cases c9 : o.kind = 9
  · exact does_9 w p F s o h ho M hr hM c9
  by_cases c10 : o.kind = 10
  · exact does_10 w p F s o h ho M hr hM c10
  by_cases c11 : o.kind = 11
  · exact does_11 w p F s o h ho M hr hM c11
  by_cases c12 : o.kind = 12
  · exact does_12 w p F s o h ho M hr hM c12
  exact does_0 w p F s o h ho c1 c2 c3 c4 c5 c6 c7 c8 c9 c10 c11 c12
end Go.Proofs.Ytgobakfffobpkaa
