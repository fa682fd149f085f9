import Derived.Test.YtclheacjhkoocaaB1
namespace Go.Proofs.Ytclheacjhkoocaa
open Go.RowKit
open Pk
set_option linter.unusedVariables false
set_option linter.unusedSimpArgs false

theorem texts_len2 {n : Nat} {l : List (List Nat)} (h : n = l.length) : n = (l.map text).length := by rw [List.length_map]; exact h
theorem texts_le2 {n : Nat} (h : n ≤ 4294967296) : n ≤ 140737488355328 := by omega
theorem texts_le3 {n : Nat} (h : n * 16 ≤ 140737488351232) : n ≤ 140737488355328 := by omega

theorem row_ap {wa w1 : World} {a : Nat} {ol : Option Addr} {ss : List ByteArray} (h : RowS wa ol ss) (hk : Keeps (fun k => k = a) wa w1) (hap : ∀ k, inO ol k → ss ≠ [] → k ≠ a) : RowS w1 ol ss :=
  h.keeps2 hk (fun h0 x hx e => hap x.block ⟨x, hx, rfl⟩ h0 e)
theorem rstep_then {w w1 w2 : World} {t a : Nat} {o : Option Addr} {st : RS} (h : RStep t w a o st w1) (hk : Keeps (fun _ => False) w1 w2) : RStep t w a o st w2 := by
  obtain ⟨o', c', h1, h2, h3⟩ := h
  exact ⟨o', c', h1.keeps hk (fun _ _ h => h), h2, h3.trans (hk.mono (fun _ h => h.elim))⟩
theorem HST {w w1 : World} {a : Nat} {o : Option Addr} {bs : List Nat} {e0 n m : Nat} {ss : List ByteArray} (h : RStep 68 w a o (rtexts (n : Nat) (m : Nat) (bs, e0)).2 w1) (hn : n = ss.length) : RStep 68 w a o (rtexts (ss.length : Nat) (m : Nat) (bs, e0)).2 w1 := by rw [← hn]; exact h

set_option maxRecDepth 10000 in
set_option maxHeartbeats 4000000 in
theorem reads_text (w : World) (a : Nat) (o : Option Addr) (c : Nat) (bs : List Nat) (e0 : Nat) (p : OpV) (hp : p.ok w) (hq : p.kind = 4) (h : IsR 68 w a o c bs e0) :
    Calls Try.prog 26 #[.pointer (some ⟨a, 0, none⟩), .agg p.cells] w fun e w' => (∃ B : Bool, e = .returned (.bool B) ∧ (∀ t, bs = p.news ++ t → e0 = 0 → p.s.size < 4294967296 → B = true)) ∧ RStep 68 w a o (p.bst (bs, e0)) w' := by
  obtain ⟨kind, v, s, ol, cl, ss, N, M⟩ := p
  simp only [OpV.cells] at *
  subst hq
  have hs1 := hp.s1
  simp only at hs1
  have hkb : Keeps (fun _ => False) w (w.alloc (.cells #[.int .i64 4, .int .u64 (v : Nat), .string s, .slice ol ss.length cl, .int .i64 N, .int .i64 M] 34)) := (Keeps.refl _ _).alloc _
  have hR := h.keeps hkb (fun _ _ h => h)
  have hne1 : w.heap.size ≠ a := fun e => by have := lt_of_block h.blk; omega
  generalize hwa : (w.alloc (.cells #[.int .i64 4, .int .u64 (v : Nat), .string s, .slice ol ss.length cl, .int .i64 N, .int .i64 M] 34)) = wa at hkb hR
  have hblk : wa.heap[w.heap.size]? = some (.cells #[.int .i64 4, .int .u64 (v : Nat), .string s, .slice ol ss.length cl, .int .i64 N, .int .i64 M] 34 (0, 0)) := by rw [← hwa]; exact blk_new _ _
  have d0 : wa.cell? ⟨w.heap.size, 0, none⟩ = some (.int .i64 4) := cell_of_blk hblk 0
  have d2 : wa.cell? ⟨w.heap.size, 2, none⟩ = some (.string s) := cell_of_blk hblk 2
  have HE : Hid (∀ t, bs = txt (nats s) ++ t → e0 = 0 → s.size < 4294967296 → text (rtext (s.size : Nat) (bs, e0)).1 = s) := by
    intro t h1 h2 h3
    subst h1 h2
    rw [rtext_full _ _ _ (by rw [nats_length]; exact h3) (by rw [nats_length]; simp)]
    exact text_nats s
  have hz1 : -9223372036854775808 ≤ (s.size : Int) := by omega
  have hz2 : (s.size : Int) ≤ 9223372036854775807 := by omega
  go_enter Try.func26, Try.ntmps26
  go_wp2_with fail
  clear hwa d0 hblk
  go_region_with (go_at_call 23; go_must (refine (rText_any _ a o c bs e0 (s.size : Nat) hz1 hz2 ?_).mono ?_); exact hR.drewN 1; rintro e w1 ⟨rfl, hst1⟩; have hk1 : Keeps (fun k => k = a) wa w1 := (by obtain ⟨_, _, _, _, hk⟩ := hst1; exact (keeps_drewN _ wa 1).trans hk); have d2' : w1.cell? ⟨w.heap.size, 2, none⟩ = some (.string s) := hk1.cell d2 hne1)
  all_goals go_wp2
  all_goals go_ret
  all_goals refine ⟨⟨((text (rtext (s.size : Nat) (bs, e0)).1).toList == s.toList), rfl, fun t h1 h2 h3 => ?_⟩, rstep_after hkb (rstep_after (keeps_drewN _ wa 1) hst1)⟩
  all_goals exact beq_iff_eq.mpr (by rw [HE.out t h1 h2 h3])

set_option maxRecDepth 10000 in
set_option maxHeartbeats 4000000 in
theorem reads_texts (w : World) (a : Nat) (o : Option Addr) (c : Nat) (bs : List Nat) (e0 : Nat) (p : OpV) (hp : p.ok w) (hq : p.kind = 5) (hap : ∀ k, inO p.ol k → p.ss ≠ [] → k ≠ a) (h : IsR 68 w a o c bs e0) :
    Calls Try.prog 26 #[.pointer (some ⟨a, 0, none⟩), .agg p.cells] w fun e w' => (∃ B : Bool, e = .returned (.bool B) ∧ (∀ t, bs = p.news ++ t → e0 = 0 → p.small → B = true)) ∧ RStep 68 w a o (p.bst (bs, e0)) w' := by
  obtain ⟨kind, v, s, ol, cl, ss, N, M⟩ := p
  simp only [OpV.cells] at *
  subst hq
  have hl1 := hp.l1
  have hl2 := hp.l2
  have hrow := hp.row
  simp only at hl1 hl2 hrow
  have hkb : Keeps (fun _ => False) w (w.alloc (.cells #[.int .i64 5, .int .u64 (v : Nat), .string s, .slice ol ss.length cl, .int .i64 N, .int .i64 M] 34)) := (Keeps.refl _ _).alloc _
  have hR := h.keeps hkb (fun _ _ h => h)
  have hrw := hrow.keeps hkb (fun _ _ h => h)
  have hne1 : w.heap.size ≠ a := fun e => by have := lt_of_block h.blk; omega
  generalize hwa : (w.alloc (.cells #[.int .i64 5, .int .u64 (v : Nat), .string s, .slice ol ss.length cl, .int .i64 N, .int .i64 M] 34)) = wa at hkb hR hrw
  have hblk : wa.heap[w.heap.size]? = some (.cells #[.int .i64 5, .int .u64 (v : Nat), .string s, .slice ol ss.length cl, .int .i64 N, .int .i64 M] 34 (0, 0)) := by rw [← hwa]; exact blk_new _ _
  have d0 : wa.cell? ⟨w.heap.size, 0, none⟩ = some (.int .i64 5) := cell_of_blk hblk 0
  have d3 : wa.cell? ⟨w.heap.size, 3, none⟩ = some (.slice ol ss.length cl) := cell_of_blk hblk 3
  have HE : Hid (∀ t, bs = txts (natss ss) ++ t → e0 = 0 → OpV.small ⟨5, v, s, ol, cl, ss, N, M⟩ → (rtexts (ss.length : Nat) (maxL (natss ss) : Nat) (bs, e0)).1.map text = ss) := by
    intro t h1 h2 h3
    subst h1 h2
    rw [rtexts_full _ _ _ _ (by rw [natss_length]; simp) (by rw [natss_length]; exact h3.l) (fun x hx => by
      have hm := maxL_mem _ _ hx
      simp only [natss, List.mem_map] at hx
      obtain ⟨y, hy, rfl⟩ := hx
      have := h3.ss y hy
      rw [nats_length] at *
      exact ⟨this, by simpa using hm⟩)]
    show (natss ss).map text = ss
    unfold natss
    rw [List.map_map]
    conv => rhs; rw [← List.map_id ss]
    apply List.map_congr_left
    intro x _
    exact text_nats x
  obtain ⟨n, hn⟩ : ∃ n, n = ss.length := ⟨_, rfl⟩
  rw [← hn] at d3 hwa HE ⊢
  have HN : Hid (n = ss.length) := hn
  have hn5 : n ≤ 140737488355328 := by omega
  have HAP : Hid (∀ k, inO ol k → ss ≠ [] → k ≠ a) := hap
  have HROW : Hid (RowS wa ol ss) := hrw
  clear hn hrw hrow hap
  go_enter Try.func26, Try.ntmps26
  go_wp2_with fail
  clear d0 hblk
  go_loop [5, 6] (fun m i => ∃ k y : Nat, k ≤ n ∧ i = .int .i64 k ∧ m = .int .i64 (y : Nat) ∧ y = maxL (natss (ss.take k)) ∧ y ≤ 140737488355328) (fun _ i => n - (intOf i).toNat)
  case atStart => exact ⟨0, 0, by omega, rfl, rfl, by simp [natss, maxL], by omega⟩
  case round =>
    obtain ⟨k, y, hk, rfl, rfl, hy, hy2⟩ := hrel
    have HY : Hid (y = maxL (natss (ss.take k))) := hy
    clear hy
    by_cases h2 : k < n
    · have hks : k < ss.length := by have := HN.out; omega
      rcases HROW.out with h0 | ⟨b, off, rfl, hc⟩
      · rw [h0] at hks; simp at hks
      obtain ⟨x, hss⟩ : ∃ s, s = ss.getD k ⟨#[]⟩ := ⟨_, rfl⟩
      have hck := hc k hks
      have hsz := getD_size ss hl2 k hks
      rw [← hss] at hck hsz
      have HS : Hid (x = ss.getD k ⟨#[]⟩) := hss
      clear hss hc
      go_wp2_with fail
      go_round
      case rel =>
        refine ⟨k + 1, max y x.size, by omega, by go_num, by go_num, ?_, by omega⟩
        rw [natss_snoc ss k hks, maxL_snoc, ← HY.out, nats_length, ← HS.out]
      case measure => simp [intOf]; omega
    · have hkn : n = k := by omega
      subst hkn
      have hym : y = maxL (natss ss) := by rw [HY.out, HN.out, List.take_length]
      subst hym
      have hz1 : -9223372036854775808 ≤ (n : Int) := by omega
      have hz2 : (n : Int) ≤ 9223372036854775807 := by omega
      have hz3 : -9223372036854775808 ≤ ((maxL (natss ss) : Nat) : Int) := by omega
      have hz4 : ((maxL (natss ss) : Nat) : Int) ≤ 9223372036854775807 := by omega
      go_wp2_with fail
      clear hwa
      go_region_with (first
        | (go_at_call 24; go_must (refine (rTexts_any _ a o c bs e0 (n : Nat) (maxL (natss ss) : Nat) hz1 hz2 hz3 hz4 ?_).mono ?_); exact hR.drewN 1; rintro e w1 ⟨⟨oS, cS, nS, rfl, hnS, hnS5, hownS, hnewS, HBS⟩, hst1⟩; have hk1 : Keeps (fun k => k = a) wa w1 := (by obtain ⟨_, _, _, _, hk⟩ := hst1; exact (keeps_drewN _ wa 1).trans hk); have d3' : w1.cell? ⟨w.heap.size, 3, none⟩ = some (.slice ol n cl) := hk1.cell d3 hne1)
        | (go_at_call 13; go_must (refine (sameTexts_any _ oS nS cS ol n cl ((rtexts (n : Nat) (maxL (natss ss) : Nat) (bs, e0)).1.map text) ss ?_ ?_ ?_ ?_ ?_ ?_).mono ?_; exact (texts_len2 hnS.out); exact HN.out; exact (texts_le2 hnS5); exact hn5; exact hownS.row; exact (row_ap HROW.out hk1 HAP.out); rintro e w3 ⟨⟨B, rfl, hB⟩, hk3⟩)))
      all_goals go_wp2
      all_goals go_ret
      all_goals exact ⟨⟨B, rfl, fun t h1 h2 h3 => hB.out (HE.out t h1 h2 h3)⟩, rstep_then (rstep_after hkb (rstep_after (keeps_drewN _ wa 1) (HST hst1 HN.out))) hk3⟩

set_option maxRecDepth 10000 in
set_option maxHeartbeats 4000000 in
theorem reads_any (w : World) (a : Nat) (o : Option Addr) (c : Nat) (bs : List Nat) (e0 : Nat) (p : OpV) (hp : p.ok w) (hap : ∀ k, inO p.ol k → p.ss ≠ [] → k ≠ a) (h : IsR 68 w a o c bs e0) :
    Calls Try.prog 26 #[.pointer (some ⟨a, 0, none⟩), .agg p.cells] w fun e w' => (∃ B : Bool, e = .returned (.bool B) ∧ (∀ t, bs = p.news ++ t → e0 = 0 → p.small → B = true)) ∧ RStep 68 w a o (p.bst (bs, e0)) w' := by
  by_cases q1 : p.kind = 1 ∨ p.kind = 2 ∨ p.kind = 3
  · exact (reads_num w a o c bs e0 p hp q1 h).mono fun e w' ⟨⟨B, h1, h2⟩, h3⟩ => ⟨⟨B, h1, fun t ha hb _ => h2 t ha hb⟩, h3⟩
  by_cases q4 : p.kind = 4
  · exact (reads_text w a o c bs e0 p hp q4 h).mono fun e w' ⟨⟨B, h1, h2⟩, h3⟩ => ⟨⟨B, h1, fun t ha hb hc => h2 t ha hb hc.s⟩, h3⟩
  by_cases q5 : p.kind = 5
  · exact reads_texts w a o c bs e0 p hp q5 hap h
  · have e : p.bst (bs, e0) = (bs, e0) := by
      have : ¬ p.kind = 1 ∧ ¬ p.kind = 2 ∧ ¬ p.kind = 3 := by omega
      simp [OpV.bst, this, q4, q5]
    rw [e]
    obtain ⟨kind, v, s, ol, cl, ss, N, M⟩ := p
    simp only [OpV.cells] at *
    have n1 : ¬ kind = 1 := by omega
    have n2 : ¬ kind = 2 := by omega
    have n3 : ¬ kind = 3 := by omega
    have hkb : Keeps (fun _ => False) w (w.alloc (.cells #[.int .i64 kind, .int .u64 (v : Nat), .string s, .slice ol ss.length cl, .int .i64 N, .int .i64 M] 34)) := (Keeps.refl _ _).alloc _
    have hR := h.keeps hkb (fun _ _ h => h)
    clear q1 e hp
    go_enter Try.func26, Try.ntmps26
    go_wp2
    go_ret
    exact ⟨⟨true, rfl, fun _ _ _ _ => rfl⟩, o, c, hR, SubO.refl _, hkb.mono (fun _ h => h.elim)⟩

theorem bst_err (p : OpV) (bs : List Nat) (e : Nat) (h : e ≠ 0) : p.bst (bs, e) = (bs, e) := by
  unfold OpV.bst
  simp [rnum, rtext, rtexts, h]
theorem small_ss {p : OpV} (hs : p.small) : ∀ s ∈ natss p.ss, s.length < 4294967296 ∧ s.length ≤ ((maxL (natss p.ss) : Nat) : Int).toNat := by
  intro x hx
  have hm := maxL_mem _ _ hx
  simp only [natss, List.mem_map] at hx
  obtain ⟨y, hy, rfl⟩ := hx
  have := hs.ss y hy
  rw [nats_length] at *
  exact ⟨this, by simpa using hm⟩
theorem bst_full (p : OpV) (hs : p.small) (t : List Nat) : p.bst (p.news ++ t, 0) = (t, 0) := by
  unfold OpV.bst OpV.news
  split
  · rw [rnum_full]
  · split
    · rw [rnum_full]
    · split
      · rw [rnum_full]
      · split
        · rw [rtext_full _ _ _ (by rw [nats_length]; exact hs.s) (by rw [nats_length]; simp)]
        · split
          · rw [rtexts_full _ _ _ _ (by rw [natss_length]; simp) (by rw [natss_length]; exact hs.l) (small_ss hs)]
          · simp
theorem bst_short (p : OpV) (hs : p.small) (t : List Nat) (j : Nat) (hj : j < p.news.length) : (p.bst ((p.news ++ t).take j, 0)).2 = 4 := by
  have hl : ((p.news ++ t).take j).length = j := by rw [List.length_take, List.length_append]; omega
  unfold OpV.bst
  unfold OpV.news at hj hl ⊢
  split at hj
  · rename_i h1
    simp only [h1, if_true] at hl ⊢
    rw [num_length] at hj
    rw [rnum_short _ _ (by omega)]
  · rename_i h1
    simp only [h1, if_false] at hl ⊢
    split at hj
    · rename_i h2
      simp only [h2, if_true] at hl ⊢
      rw [num_length] at hj
      rw [rnum_short _ _ (by omega)]
    · rename_i h2
      simp only [h2, if_false] at hl ⊢
      split at hj
      · rename_i h3
        simp only [h3, if_true] at hl ⊢
        rw [num_length] at hj
        rw [rnum_short _ _ (by omega)]
      · rename_i h3
        simp only [h3, if_false] at hl ⊢
        split at hj
        · rename_i h4
          simp only [h4, if_true] at hl ⊢
          exact rtext_short _ _ _ (by rw [nats_length]; exact hs.s) (by rw [nats_length]; simp) j hj
        · rename_i h4
          simp only [h4, if_false] at hl ⊢
          split at hj
          · rename_i h5
            simp only [h5, if_true] at hl ⊢
            exact rtexts_short _ _ _ _ (by rw [natss_length]; simp) (by rw [natss_length]; exact hs.l) (small_ss hs) j hj
          · simp at hj
end Go.Proofs.Ytclheacjhkoocaa
