/- One call on a disk and on the document's. -/
import Derived.Test.YtgobakfffobpkaaQ1
namespace Go.Proofs.Ytgobakfffobpkaa
open Go.RowKit Dk
set_option linter.unusedVariables false
set_option linter.unusedSimpArgs false
theorem listN_le {s : St} (h : Ok s) : (listN s).length ≤ 16 := by
  unfold listN
  split
  · simp
  · simpa [names] using h.len
set_option maxRecDepth 100000 in
set_option maxHeartbeats 0 in
theorem plays_3 (w : World) (p r : Nat) (F G : Nat → Prop) (s : St) (o : OpV) (h : IsD w p F s) (hr : IsR w r G s) (ap : ∀ k, F k → ¬ G k) (ho : o.ok w) (hof : ∀ k, inO o.ob k → 0 < o.cb → ¬ F k ∧ ¬ G k) (M : Nat) (hR : Room M s) (hM : M ≤ 70368744177664) (hk : o.kind = 3) :
    Calls Try.prog 33 #[.pointer (some ⟨p, 0, none⟩), .pointer (some ⟨r, 0, none⟩), .agg o.cells] w (PlaysTo F G w p r s o) := by
  have he := doesOn_3 (s := s) hk
  obtain ⟨kind, who, nm, tn, ob, cb, bs, N, K⟩ := o
  simp only at hk
  subst hk
  obtain ⟨nb, hnb⟩ : ∃ nb, nb = bs.length := ⟨_, rfl⟩
  have HNB : Hid (nb = bs.length) := hnb
  have HO : Hid (OpV.ok ⟨(3), who, nm, tn, ob, cb, bs, N, K⟩ w) := ho
  have HR : Hid (Room M s) := hR
  have HE := he
  simp only [OpV.cells]
  rw [← hnb]
  obtain ⟨W, hW⟩ : ∃ W, W = w.alloc (.cells #[.int .i64 (3), .int .i64 who, .string nm, .string tn, .slice ob nb cb, .int .i64 N, .int .i64 K] 45) := ⟨_, rfl⟩
  have HA : Hid (Keeps no w W) := (show Keeps no w W by rw [hW]; exact keeps_alloc w _)
  have hbW : W.heap[w.heap.size]? = some (.cells #[.int .i64 (3), .int .i64 who, .string nm, .string tn, .slice ob nb cb, .int .i64 N, .int .i64 K] 45 (0, 0)) := by rw [hW]; exact blk_new w _
  have HP : Hid (Pair F G W W p s r s F G) := Pair.start h hr ap HA.out
  have HF : Hid (∀ k, inO ob k → 0 < cb → ¬ F k ∧ ¬ G k) := hof
  have HB : Hid (¬ F w.heap.size ∧ ¬ G w.heap.size) := ⟨fun h1 => by have := h.lt _ h1; omega, fun h1 => by have := hr.lt _ h1; omega⟩
  obtain ⟨B, hB⟩ : ∃ B, B = w.heap.size := ⟨_, rfl⟩
  rw [← hB] at hbW HB
  have q0 : W.cell? ⟨B, 0, none⟩ = some (.int .i64 (3)) := cell_of_blk hbW 0
  have q2 : W.cell? ⟨B, 2, none⟩ = some (.string nm) := cell_of_blk hbW 2
  have q3 : W.cell? ⟨B, 3, none⟩ = some (.string tn) := cell_of_blk hbW 3
  have q4 : W.cell? ⟨B, 4, none⟩ = some (.slice ob nb cb) := cell_of_blk hbW 4
  have q5 : W.cell? ⟨B, 5, none⟩ = some (.int .i64 N) := cell_of_blk hbW 5
  have q6 : W.cell? ⟨B, 6, none⟩ = some (.int .i64 K) := cell_of_blk hbW 6
  clear hnb ho hR h hr he ap hof hbW
  go_enter Try.func33, Try.ntmps33
  go_wp2_with fail
  rw [← hW, ← hB]
  clear hW hB
  refine (read_any W p F s nm HP.out.a HO.out.nm (by have := (HR.out.tick).readB (n := nm.data.toList); omega)).mono ?_
  rintro e w2 ⟨o2, c2, m2, rfl, hm2, ho2, hn2, h2, hk2⟩
  have D2 : Hid (Pair F G W w2 p _ r s F G) := HP.out.sameA h2 hk2
  have x2 := D2.out.cell HB.out q2
  clear h2
  go_wp2_with fail
  refine (rread_any w2 r G s nm D2.out.b (by have := (HR.out.tick).readB (n := nm.data.toList); omega)).mono ?_
  rintro e w3 ⟨o3, c3, m3, rfl, hm3, ho3, hn3, h3, hk3⟩
  have D3 : Hid (Pair F G W w3 p _ r _ F G) := D2.out.sameB h3 hk3
  have HO2 : Hid (Row BE w3 o2 (readB nm.data.toList (tick s))) := (ho2.keeps hk3 (fun k h1 h4 => by have := hn2 k h1; have := HP.out.b.lt k h4; omega)).row
  have HO3 : Hid (Row BE w3 o3 (readB nm.data.toList (tick s))) := ho3.row
  clear h3 ho2 ho3 hn2 hn3 hk2 hk3
  go_wp2_with fail
  refine (same_yes w3 o2 m2 c2 o3 m3 c3 _ hm2.out hm3.out HO2.out HO3.out).mono ?_
  rintro e w' ⟨rfl, e4⟩
  subst w'
  go_wp2_with fail
  go_ret
  exact plays_end HE HA.out D3.out (by simp)
set_option maxRecDepth 100000 in
set_option maxHeartbeats 0 in
theorem plays_4 (w : World) (p r : Nat) (F G : Nat → Prop) (s : St) (o : OpV) (h : IsD w p F s) (hr : IsR w r G s) (ap : ∀ k, F k → ¬ G k) (ho : o.ok w) (hof : ∀ k, inO o.ob k → 0 < o.cb → ¬ F k ∧ ¬ G k) (M : Nat) (hR : Room M s) (hM : M ≤ 70368744177664) (hk : o.kind = 4) :
    Calls Try.prog 33 #[.pointer (some ⟨p, 0, none⟩), .pointer (some ⟨r, 0, none⟩), .agg o.cells] w (PlaysTo F G w p r s o) := by
  have he := doesOn_4 (s := s) hk
  obtain ⟨kind, who, nm, tn, ob, cb, bs, N, K⟩ := o
  simp only at hk
  subst hk
  obtain ⟨nb, hnb⟩ : ∃ nb, nb = bs.length := ⟨_, rfl⟩
  have HNB : Hid (nb = bs.length) := hnb
  have HO : Hid (OpV.ok ⟨(4), who, nm, tn, ob, cb, bs, N, K⟩ w) := ho
  have HR : Hid (Room M s) := hR
  have HE := he
  simp only [OpV.cells]
  rw [← hnb]
  obtain ⟨W, hW⟩ : ∃ W, W = w.alloc (.cells #[.int .i64 (4), .int .i64 who, .string nm, .string tn, .slice ob nb cb, .int .i64 N, .int .i64 K] 45) := ⟨_, rfl⟩
  have HA : Hid (Keeps no w W) := (show Keeps no w W by rw [hW]; exact keeps_alloc w _)
  have hbW : W.heap[w.heap.size]? = some (.cells #[.int .i64 (4), .int .i64 who, .string nm, .string tn, .slice ob nb cb, .int .i64 N, .int .i64 K] 45 (0, 0)) := by rw [hW]; exact blk_new w _
  have HP : Hid (Pair F G W W p s r s F G) := Pair.start h hr ap HA.out
  have HF : Hid (∀ k, inO ob k → 0 < cb → ¬ F k ∧ ¬ G k) := hof
  have HB : Hid (¬ F w.heap.size ∧ ¬ G w.heap.size) := ⟨fun h1 => by have := h.lt _ h1; omega, fun h1 => by have := hr.lt _ h1; omega⟩
  obtain ⟨B, hB⟩ : ∃ B, B = w.heap.size := ⟨_, rfl⟩
  rw [← hB] at hbW HB
  have q0 : W.cell? ⟨B, 0, none⟩ = some (.int .i64 (4)) := cell_of_blk hbW 0
  have q2 : W.cell? ⟨B, 2, none⟩ = some (.string nm) := cell_of_blk hbW 2
  have q3 : W.cell? ⟨B, 3, none⟩ = some (.string tn) := cell_of_blk hbW 3
  have q4 : W.cell? ⟨B, 4, none⟩ = some (.slice ob nb cb) := cell_of_blk hbW 4
  have q5 : W.cell? ⟨B, 5, none⟩ = some (.int .i64 N) := cell_of_blk hbW 5
  have q6 : W.cell? ⟨B, 6, none⟩ = some (.int .i64 K) := cell_of_blk hbW 6
  clear hnb ho hR h hr he ap hof hbW
  go_enter Try.func33, Try.ntmps33
  go_wp2_with fail
  rw [← hW, ← hB]
  clear hW hB
  refine (size_any W p F s nm HP.out.a HO.out.nm).mono ?_
  rintro e w2 ⟨rfl, h2, hk2⟩
  have D2 : Hid (Pair F G W w2 p _ r s F G) := HP.out.sameA h2 hk2
  have x2 := D2.out.cell HB.out q2
  clear h2 hk2
  go_wp2_with fail
  refine (rsize_any w2 r G s nm D2.out.b (by have := (HR.out.tick).readB (n := nm.data.toList); omega)).mono ?_
  rintro e w3 ⟨rfl, h3, hk3⟩
  have D3 : Hid (Pair F G W w3 p _ r _ F G) := D2.out.sameB h3 hk3
  go_wp2_with fail
  go_ret
  exact plays_end HE HA.out D3.out (by simp)
set_option maxRecDepth 100000 in
set_option maxHeartbeats 0 in
theorem plays_8 (w : World) (p r : Nat) (F G : Nat → Prop) (s : St) (o : OpV) (h : IsD w p F s) (hr : IsR w r G s) (ap : ∀ k, F k → ¬ G k) (ho : o.ok w) (hof : ∀ k, inO o.ob k → 0 < o.cb → ¬ F k ∧ ¬ G k) (M : Nat) (hR : Room M s) (hM : M ≤ 70368744177664) (hk : o.kind = 8) :
    Calls Try.prog 33 #[.pointer (some ⟨p, 0, none⟩), .pointer (some ⟨r, 0, none⟩), .agg o.cells] w (PlaysTo F G w p r s o) := by
  have he := doesOn_8 (s := s) hk
  obtain ⟨kind, who, nm, tn, ob, cb, bs, N, K⟩ := o
  simp only at hk
  subst hk
  obtain ⟨nb, hnb⟩ : ∃ nb, nb = bs.length := ⟨_, rfl⟩
  have HNB : Hid (nb = bs.length) := hnb
  have HO : Hid (OpV.ok ⟨(8), who, nm, tn, ob, cb, bs, N, K⟩ w) := ho
  have HR : Hid (Room M s) := hR
  have HE := he
  simp only [OpV.cells]
  rw [← hnb]
  obtain ⟨W, hW⟩ : ∃ W, W = w.alloc (.cells #[.int .i64 (8), .int .i64 who, .string nm, .string tn, .slice ob nb cb, .int .i64 N, .int .i64 K] 45) := ⟨_, rfl⟩
  have HA : Hid (Keeps no w W) := (show Keeps no w W by rw [hW]; exact keeps_alloc w _)
  have hbW : W.heap[w.heap.size]? = some (.cells #[.int .i64 (8), .int .i64 who, .string nm, .string tn, .slice ob nb cb, .int .i64 N, .int .i64 K] 45 (0, 0)) := by rw [hW]; exact blk_new w _
  have HP : Hid (Pair F G W W p s r s F G) := Pair.start h hr ap HA.out
  have HF : Hid (∀ k, inO ob k → 0 < cb → ¬ F k ∧ ¬ G k) := hof
  have HB : Hid (¬ F w.heap.size ∧ ¬ G w.heap.size) := ⟨fun h1 => by have := h.lt _ h1; omega, fun h1 => by have := hr.lt _ h1; omega⟩
  obtain ⟨B, hB⟩ : ∃ B, B = w.heap.size := ⟨_, rfl⟩
  rw [← hB] at hbW HB
  have q0 : W.cell? ⟨B, 0, none⟩ = some (.int .i64 (8)) := cell_of_blk hbW 0
  have q2 : W.cell? ⟨B, 2, none⟩ = some (.string nm) := cell_of_blk hbW 2
  have q3 : W.cell? ⟨B, 3, none⟩ = some (.string tn) := cell_of_blk hbW 3
  have q4 : W.cell? ⟨B, 4, none⟩ = some (.slice ob nb cb) := cell_of_blk hbW 4
  have q5 : W.cell? ⟨B, 5, none⟩ = some (.int .i64 N) := cell_of_blk hbW 5
  have q6 : W.cell? ⟨B, 6, none⟩ = some (.int .i64 K) := cell_of_blk hbW 6
  clear hnb ho hR h hr he ap hof hbW
  go_enter Try.func33, Try.ntmps33
  go_wp2_with fail
  rw [← hW, ← hB]
  clear hW hB
  refine (list_any W p F s HP.out.a).mono ?_
  rintro e w2 ⟨o2, c2, m2, rfl, hm2, ho2, hn2, h2, hk2⟩
  have D2 : Hid (Pair F G W w2 p _ r s F G) := HP.out.sameA h2 hk2
  clear h2
  go_wp2_with fail
  refine (rlist_any w2 r G s D2.out.b).mono ?_
  rintro e w3 ⟨o3, c3, m3, rfl, hm3, ho3, hn3, h3, hk3⟩
  have D3 : Hid (Pair F G W w3 p _ r _ F G) := D2.out.sameB h3 hk3
  have HO2 : Hid (Sl TE w3 o2 c2 ((listN (tick s)).map mkT)) := (ho2.keeps hk3 (fun k h1 h4 => by have := hn2 k h1; have := HP.out.b.lt k h4; omega)).sl
  have HO3 : Hid (Sl TE w3 o3 c3 ((listN (tick s)).map mkT)) := ho3.sl
  have HL : Hid (((listN (tick s)).map mkT).length ≤ 100000) := (show ((listN (tick s)).map mkT).length ≤ 100000 by rw [List.length_map]; have := listN_le D3.out.b.ok; omega)
  clear h3 ho2 ho3 hn2 hn3 hk2 hk3
  go_wp2_with fail
  refine (sameS_any w3 o2 m2 c2 o3 m3 c3 _ _ (by rw [hm2.out, List.length_map]) (by rw [hm3.out, List.length_map]) HL.out HL.out HO2.out HO3.out).mono ?_
  rintro e w4 ⟨⟨b4, rfl, hb4⟩, hk4⟩
  obtain rfl : b4 = true := hb4.out.2 rfl
  have D4 : Hid (Pair F G W w4 p _ r _ F G) := D3.out.beside hk4
  clear hb4 hk4
  go_wp2_with fail
  go_ret
  exact plays_end HE HA.out D4.out (by simp)
set_option maxRecDepth 100000 in
set_option maxHeartbeats 0 in
theorem plays_2 (w : World) (p r : Nat) (F G : Nat → Prop) (s : St) (o : OpV) (h : IsD w p F s) (hr : IsR w r G s) (ap : ∀ k, F k → ¬ G k) (ho : o.ok w) (hof : ∀ k, inO o.ob k → 0 < o.cb → ¬ F k ∧ ¬ G k) (M : Nat) (hR : Room M s) (hM : M ≤ 70368744177664) (hk : o.kind = 2) :
    Calls Try.prog 33 #[.pointer (some ⟨p, 0, none⟩), .pointer (some ⟨r, 0, none⟩), .agg o.cells] w (PlaysTo F G w p r s o) := by
  have he := doesOn_2 (s := s) hk
  obtain ⟨kind, who, nm, tn, ob, cb, bs, N, K⟩ := o
  simp only at hk
  subst hk
  obtain ⟨nb, hnb⟩ : ∃ nb, nb = bs.length := ⟨_, rfl⟩
  have HNB : Hid (nb = bs.length) := hnb
  have HO : Hid (OpV.ok ⟨(2), who, nm, tn, ob, cb, bs, N, K⟩ w) := ho
  have HR : Hid (Room M s) := hR
  have HE := he
  simp only [OpV.cells]
  rw [← hnb]
  obtain ⟨W, hW⟩ : ∃ W, W = w.alloc (.cells #[.int .i64 (2), .int .i64 who, .string nm, .string tn, .slice ob nb cb, .int .i64 N, .int .i64 K] 45) := ⟨_, rfl⟩
  have HA : Hid (Keeps no w W) := (show Keeps no w W by rw [hW]; exact keeps_alloc w _)
  have hbW : W.heap[w.heap.size]? = some (.cells #[.int .i64 (2), .int .i64 who, .string nm, .string tn, .slice ob nb cb, .int .i64 N, .int .i64 K] 45 (0, 0)) := by rw [hW]; exact blk_new w _
  have HP : Hid (Pair F G W W p s r s F G) := Pair.start h hr ap HA.out
  have HF : Hid (∀ k, inO ob k → 0 < cb → ¬ F k ∧ ¬ G k) := hof
  have HB : Hid (¬ F w.heap.size ∧ ¬ G w.heap.size) := ⟨fun h1 => by have := h.lt _ h1; omega, fun h1 => by have := hr.lt _ h1; omega⟩
  obtain ⟨B, hB⟩ : ∃ B, B = w.heap.size := ⟨_, rfl⟩
  rw [← hB] at hbW HB
  have q0 : W.cell? ⟨B, 0, none⟩ = some (.int .i64 (2)) := cell_of_blk hbW 0
  have q2 : W.cell? ⟨B, 2, none⟩ = some (.string nm) := cell_of_blk hbW 2
  have q3 : W.cell? ⟨B, 3, none⟩ = some (.string tn) := cell_of_blk hbW 3
  have q4 : W.cell? ⟨B, 4, none⟩ = some (.slice ob nb cb) := cell_of_blk hbW 4
  have q5 : W.cell? ⟨B, 5, none⟩ = some (.int .i64 N) := cell_of_blk hbW 5
  have q6 : W.cell? ⟨B, 6, none⟩ = some (.int .i64 K) := cell_of_blk hbW 6
  clear hnb ho hR h hr he ap hof hbW
  go_enter Try.func33, Try.ntmps33
  go_wp2
  rw [← hW, ← hB]
  clear hW hB
  go_wp2
  go_region_held3 (fun w' => w'.cell? ⟨B, 2, none⟩ = some (.string nm)) (go_keep) ((first | (go_at_call 13; refine (sync_any _ p F s nm (HP.out.a.keepsN (Keeps.refl no W).drew) HO.out.nm).mono ?_; rintro e w5 ⟨rfl, h5, hk5⟩; have D5 : Hid (Pair F G W w5 p _ r s F G) := (HP.out.beside (Keeps.refl no W).drew).sameA h5 hk5; have x2 := D5.out.cell HB.out q2; clear h5 hk5) | (go_at_call 45; refine (rsync_any _ r G s nm D5.out.b).mono ?_; rintro e w6 ⟨rfl, h6, hk6⟩; have D6 : Hid (Pair F G W w6 p _ r _ F G) := D5.out.sameB h6 hk6; have y2 := D6.out.cell HB.out q2; clear h6 hk6)))
  all_goals go_wp2_with fail
  all_goals go_ret
  all_goals exact plays_end HE HA.out D6.out (by simp)
set_option maxRecDepth 100000 in
set_option maxHeartbeats 0 in
theorem plays_5 (w : World) (p r : Nat) (F G : Nat → Prop) (s : St) (o : OpV) (h : IsD w p F s) (hr : IsR w r G s) (ap : ∀ k, F k → ¬ G k) (ho : o.ok w) (hof : ∀ k, inO o.ob k → 0 < o.cb → ¬ F k ∧ ¬ G k) (M : Nat) (hR : Room M s) (hM : M ≤ 70368744177664) (hk : o.kind = 5) :
    Calls Try.prog 33 #[.pointer (some ⟨p, 0, none⟩), .pointer (some ⟨r, 0, none⟩), .agg o.cells] w (PlaysTo F G w p r s o) := by
  have he := doesOn_5 (s := s) hk
  obtain ⟨kind, who, nm, tn, ob, cb, bs, N, K⟩ := o
  simp only at hk
  subst hk
  obtain ⟨nb, hnb⟩ : ∃ nb, nb = bs.length := ⟨_, rfl⟩
  have HNB : Hid (nb = bs.length) := hnb
  have HO : Hid (OpV.ok ⟨(5), who, nm, tn, ob, cb, bs, N, K⟩ w) := ho
  have HR : Hid (Room M s) := hR
  have HE := he
  simp only [OpV.cells]
  rw [← hnb]
  obtain ⟨W, hW⟩ : ∃ W, W = w.alloc (.cells #[.int .i64 (5), .int .i64 who, .string nm, .string tn, .slice ob nb cb, .int .i64 N, .int .i64 K] 45) := ⟨_, rfl⟩
  have HA : Hid (Keeps no w W) := (show Keeps no w W by rw [hW]; exact keeps_alloc w _)
  have hbW : W.heap[w.heap.size]? = some (.cells #[.int .i64 (5), .int .i64 who, .string nm, .string tn, .slice ob nb cb, .int .i64 N, .int .i64 K] 45 (0, 0)) := by rw [hW]; exact blk_new w _
  have HP : Hid (Pair F G W W p s r s F G) := Pair.start h hr ap HA.out
  have HF : Hid (∀ k, inO ob k → 0 < cb → ¬ F k ∧ ¬ G k) := hof
  have HB : Hid (¬ F w.heap.size ∧ ¬ G w.heap.size) := ⟨fun h1 => by have := h.lt _ h1; omega, fun h1 => by have := hr.lt _ h1; omega⟩
  obtain ⟨B, hB⟩ : ∃ B, B = w.heap.size := ⟨_, rfl⟩
  rw [← hB] at hbW HB
  have q0 : W.cell? ⟨B, 0, none⟩ = some (.int .i64 (5)) := cell_of_blk hbW 0
  have q2 : W.cell? ⟨B, 2, none⟩ = some (.string nm) := cell_of_blk hbW 2
  have q3 : W.cell? ⟨B, 3, none⟩ = some (.string tn) := cell_of_blk hbW 3
  have q4 : W.cell? ⟨B, 4, none⟩ = some (.slice ob nb cb) := cell_of_blk hbW 4
  have q5 : W.cell? ⟨B, 5, none⟩ = some (.int .i64 N) := cell_of_blk hbW 5
  have q6 : W.cell? ⟨B, 6, none⟩ = some (.int .i64 K) := cell_of_blk hbW 6
  clear hnb ho hR h hr he ap hof hbW
  go_enter Try.func33, Try.ntmps33
  go_wp2
  rw [← hW, ← hB]
  clear hW hB
  go_wp2
  go_region_held3 (fun w' => w'.cell? ⟨B, 2, none⟩ = some (.string nm) ∧ w'.cell? ⟨B, 5, none⟩ = some (.int .i64 N)) (go_keep) ((first | (go_at_call 31; refine (cut_any _ p F s nm N (HP.out.a.keepsN (Keeps.refl no W).drew) HO.out.nm HO.out.n).mono ?_; rintro e w5 ⟨rfl, h5, hk5⟩; have D5 : Hid (Pair F G W w5 p _ r s F G) := (HP.out.beside (Keeps.refl no W).drew).sameA h5 hk5; have x2 := D5.out.cell HB.out q2; have x5 := D5.out.cell HB.out q5; clear h5 hk5) | (go_at_call 48; refine (rcut_any _ r G s nm N D5.out.b HO.out.n).mono ?_; rintro e w6 ⟨rfl, h6, hk6⟩; have D6 : Hid (Pair F G W w6 p _ r _ F G) := D5.out.sameB h6 hk6; have y2 := D6.out.cell HB.out q2; have y5 := D6.out.cell HB.out q5; clear h6 hk6)))
  all_goals go_wp2_with fail
  all_goals go_ret
  all_goals exact plays_end HE HA.out D6.out (by simp)
set_option maxRecDepth 100000 in
set_option maxHeartbeats 0 in
theorem plays_6 (w : World) (p r : Nat) (F G : Nat → Prop) (s : St) (o : OpV) (h : IsD w p F s) (hr : IsR w r G s) (ap : ∀ k, F k → ¬ G k) (ho : o.ok w) (hof : ∀ k, inO o.ob k → 0 < o.cb → ¬ F k ∧ ¬ G k) (M : Nat) (hR : Room M s) (hM : M ≤ 70368744177664) (hk : o.kind = 6) :
    Calls Try.prog 33 #[.pointer (some ⟨p, 0, none⟩), .pointer (some ⟨r, 0, none⟩), .agg o.cells] w (PlaysTo F G w p r s o) := by
  have he := doesOn_6 (s := s) hk
  obtain ⟨kind, who, nm, tn, ob, cb, bs, N, K⟩ := o
  simp only at hk
  subst hk
  obtain ⟨nb, hnb⟩ : ∃ nb, nb = bs.length := ⟨_, rfl⟩
  have HNB : Hid (nb = bs.length) := hnb
  have HO : Hid (OpV.ok ⟨(6), who, nm, tn, ob, cb, bs, N, K⟩ w) := ho
  have HR : Hid (Room M s) := hR
  have HE := he
  simp only [OpV.cells]
  rw [← hnb]
  obtain ⟨W, hW⟩ : ∃ W, W = w.alloc (.cells #[.int .i64 (6), .int .i64 who, .string nm, .string tn, .slice ob nb cb, .int .i64 N, .int .i64 K] 45) := ⟨_, rfl⟩
  have HA : Hid (Keeps no w W) := (show Keeps no w W by rw [hW]; exact keeps_alloc w _)
  have hbW : W.heap[w.heap.size]? = some (.cells #[.int .i64 (6), .int .i64 who, .string nm, .string tn, .slice ob nb cb, .int .i64 N, .int .i64 K] 45 (0, 0)) := by rw [hW]; exact blk_new w _
  have HP : Hid (Pair F G W W p s r s F G) := Pair.start h hr ap HA.out
  have HF : Hid (∀ k, inO ob k → 0 < cb → ¬ F k ∧ ¬ G k) := hof
  have HB : Hid (¬ F w.heap.size ∧ ¬ G w.heap.size) := ⟨fun h1 => by have := h.lt _ h1; omega, fun h1 => by have := hr.lt _ h1; omega⟩
  obtain ⟨B, hB⟩ : ∃ B, B = w.heap.size := ⟨_, rfl⟩
  rw [← hB] at hbW HB
  have q0 : W.cell? ⟨B, 0, none⟩ = some (.int .i64 (6)) := cell_of_blk hbW 0
  have q2 : W.cell? ⟨B, 2, none⟩ = some (.string nm) := cell_of_blk hbW 2
  have q3 : W.cell? ⟨B, 3, none⟩ = some (.string tn) := cell_of_blk hbW 3
  have q4 : W.cell? ⟨B, 4, none⟩ = some (.slice ob nb cb) := cell_of_blk hbW 4
  have q5 : W.cell? ⟨B, 5, none⟩ = some (.int .i64 N) := cell_of_blk hbW 5
  have q6 : W.cell? ⟨B, 6, none⟩ = some (.int .i64 K) := cell_of_blk hbW 6
  clear hnb ho hR h hr he ap hof hbW
  go_enter Try.func33, Try.ntmps33
  go_wp2
  rw [← hW, ← hB]
  clear hW hB
  go_wp2
  go_region_held3 (fun w' => w'.cell? ⟨B, 2, none⟩ = some (.string nm)) (go_keep) ((first | (go_at_call 16; refine (delete_any _ p F s nm (HP.out.a.keepsN (Keeps.refl no W).drew) HO.out.nm).mono ?_; rintro e w5 ⟨rfl, h5, hk5⟩; have D5 : Hid (Pair F G W w5 p _ r s F G) := (HP.out.beside (Keeps.refl no W).drew).sameA h5 hk5; have x2 := D5.out.cell HB.out q2; clear h5 hk5) | (go_at_call 49; refine (rdelete_any _ r G s nm D5.out.b).mono ?_; rintro e w6 ⟨rfl, h6, hk6⟩; have D6 : Hid (Pair F G W w6 p _ r _ F (grow G w5 w6)) := D5.out.stepB h6 hk6; have y2 := D6.out.cell HB.out q2; clear h6 hk6)))
  all_goals go_wp2_with fail
  all_goals go_ret
  all_goals exact plays_end HE HA.out D6.out (by simp)
set_option maxRecDepth 100000 in
set_option maxHeartbeats 0 in
theorem plays_7 (w : World) (p r : Nat) (F G : Nat → Prop) (s : St) (o : OpV) (h : IsD w p F s) (hr : IsR w r G s) (ap : ∀ k, F k → ¬ G k) (ho : o.ok w) (hof : ∀ k, inO o.ob k → 0 < o.cb → ¬ F k ∧ ¬ G k) (M : Nat) (hR : Room M s) (hM : M ≤ 70368744177664) (hk : o.kind = 7) :
    Calls Try.prog 33 #[.pointer (some ⟨p, 0, none⟩), .pointer (some ⟨r, 0, none⟩), .agg o.cells] w (PlaysTo F G w p r s o) := by
  have he := doesOn_7 (s := s) hk
  obtain ⟨kind, who, nm, tn, ob, cb, bs, N, K⟩ := o
  simp only at hk
  subst hk
  obtain ⟨nb, hnb⟩ : ∃ nb, nb = bs.length := ⟨_, rfl⟩
  have HNB : Hid (nb = bs.length) := hnb
  have HO : Hid (OpV.ok ⟨(7), who, nm, tn, ob, cb, bs, N, K⟩ w) := ho
  have HR : Hid (Room M s) := hR
  have HE := he
  simp only [OpV.cells]
  rw [← hnb]
  obtain ⟨W, hW⟩ : ∃ W, W = w.alloc (.cells #[.int .i64 (7), .int .i64 who, .string nm, .string tn, .slice ob nb cb, .int .i64 N, .int .i64 K] 45) := ⟨_, rfl⟩
  have HA : Hid (Keeps no w W) := (show Keeps no w W by rw [hW]; exact keeps_alloc w _)
  have hbW : W.heap[w.heap.size]? = some (.cells #[.int .i64 (7), .int .i64 who, .string nm, .string tn, .slice ob nb cb, .int .i64 N, .int .i64 K] 45 (0, 0)) := by rw [hW]; exact blk_new w _
  have HP : Hid (Pair F G W W p s r s F G) := Pair.start h hr ap HA.out
  have HF : Hid (∀ k, inO ob k → 0 < cb → ¬ F k ∧ ¬ G k) := hof
  have HB : Hid (¬ F w.heap.size ∧ ¬ G w.heap.size) := ⟨fun h1 => by have := h.lt _ h1; omega, fun h1 => by have := hr.lt _ h1; omega⟩
  obtain ⟨B, hB⟩ : ∃ B, B = w.heap.size := ⟨_, rfl⟩
  rw [← hB] at hbW HB
  have q0 : W.cell? ⟨B, 0, none⟩ = some (.int .i64 (7)) := cell_of_blk hbW 0
  have q2 : W.cell? ⟨B, 2, none⟩ = some (.string nm) := cell_of_blk hbW 2
  have q3 : W.cell? ⟨B, 3, none⟩ = some (.string tn) := cell_of_blk hbW 3
  have q4 : W.cell? ⟨B, 4, none⟩ = some (.slice ob nb cb) := cell_of_blk hbW 4
  have q5 : W.cell? ⟨B, 5, none⟩ = some (.int .i64 N) := cell_of_blk hbW 5
  have q6 : W.cell? ⟨B, 6, none⟩ = some (.int .i64 K) := cell_of_blk hbW 6
  clear hnb ho hR h hr he ap hof hbW
  go_enter Try.func33, Try.ntmps33
  go_wp2
  rw [← hW, ← hB]
  clear hW hB
  go_wp2
  go_region_held3 (fun w' => w'.cell? ⟨B, 2, none⟩ = some (.string nm) ∧ w'.cell? ⟨B, 3, none⟩ = some (.string tn)) (go_keep) ((first | (go_at_call 15; refine (rename_any _ p F s nm tn (HP.out.a.keepsN (Keeps.refl no W).drew) HO.out.nm).mono ?_; rintro e w5 ⟨rfl, h5, hk5⟩; have D5 : Hid (Pair F G W w5 p _ r s F G) := (HP.out.beside (Keeps.refl no W).drew).sameA h5 hk5; have x2 := D5.out.cell HB.out q2; have x3 := D5.out.cell HB.out q3; clear h5 hk5) | (go_at_call 50; refine (rrename_any _ r G s nm tn D5.out.b).mono ?_; rintro e w6 ⟨rfl, h6, hk6⟩; have D6 : Hid (Pair F G W w6 p _ r _ F (grow G w5 w6)) := D5.out.stepB h6 hk6; have y2 := D6.out.cell HB.out q2; have y3 := D6.out.cell HB.out q3; clear h6 hk6)))
  all_goals go_wp2_with fail
  all_goals go_ret
  all_goals exact plays_end HE HA.out D6.out (by simp)
end Go.Proofs.Ytgobakfffobpkaa
