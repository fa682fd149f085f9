import Derived.Test.YtkoaiibjahlnmabGreatSQ
/- StorePlays: Put. -/
namespace Go.Proofs.YtkoaiibjahlnmabGreat
open Go.RowKit Go.Maps Go.Sort Orl
set_option linter.unusedVariables false
set_option linter.unusedSimpArgs false

set_option maxRecDepth 10000 in
set_option maxHeartbeats 1000000 in
theorem plays_put {w0 : World} {X p r : Nat} {P B : Nat → Prop} {oK : Option Addr} {nK cK : Nat} {oL : Option Addr} {nL cL : Nat} {ks : List KV} {ls : List Mk} {s : St} {N : Nat} {w : World} (h : Sd w0 X p r P B oK nK cK oL nL cL ks ls s N w) (hN : N ≤ 800000000) (i : Nat) (y : Tx) (ap : Option Addr) (np cp : Nat) (ak : Option Addr) (nk ck : Nat) (now : Int) (ps : List Pr) (keys : List Tx) (hnp : np = ps.length) (hnk : nk = keys.length) (hi : i < 18446744073709551616) (sp : Sl PE w0 ap cp ps) (sk : Sl TE w0 ak ck keys) (zp : ∀ x ∈ ps, x.2.size ≤ 140737488351232) (zk : ∀ x ∈ keys, x.size ≤ 140737488351232) (hok : okPut i ps keys now = true) :
    Calls Tryz.prog 7 #[.pointer (some ⟨X, 0, none⟩), .agg #[.int .i64 1, .int .u64 ((i : Nat) : Int), .string y, .slice ap np cp, .slice ak nk ck, .int .i64 now]] w fun e w' => e = .returned (.bool true) ∧ Hid (Sx w0 X (putAll i keys now s (miss s i ps)) (N + (miss s i ps).length) w') := by
  have hfew := pairs_few hok
  have hne : ∀ b, inO ap b ∨ inO ak b → b < w0.heap.size := fun b hb => by
    rcases hb with hb | hb
    · exact sp.lt okP (fun e => by have := ((okPairs_iff.1 (okPut_iff.1 hok).2.2.1).2.1); rw [e] at this; simp at this) b hb
    · exact sk.lt okT (fun e => by have := (okKeys_iff.1 (okPut_iff.1 hok).2.1).1.1; rw [e] at this; simp at this) b hb
  have HA : Hid (np = ps.length ∧ nk = keys.length ∧ i < 18446744073709551616 ∧ Sl PE w0 ap cp ps ∧ Sl TE w0 ak ck keys ∧ (∀ x ∈ ps, x.2.size ≤ 140737488351232) ∧ (∀ x ∈ keys, x.size ≤ 140737488351232) ∧ okPut i ps keys now = true ∧ (∀ b, inO ap b ∨ inO ak b → b < w0.heap.size) ∧ ps.length ≤ 100000 ∧ N ≤ 900000000) := ⟨hnp, hnk, hi, sp, sk, zp, zk, hok, hne, by omega, by omega⟩
  obtain ⟨F, hF⟩ : ∃ F, decide (0 < (miss s i ps).length) = F := ⟨_, rfl⟩
  have HF : Hid (decide (0 < (miss s i ps).length) = F) := hF
  clear hnp hnk hi sp sk zp zk hok hfew hne hF
  obtain ⟨P', hSd, hob, hpo, hbo⟩ := h.arg (.cells #[.int .i64 1, .int .u64 ((i : Nat) : Int), .string y, .slice ap np cp, .slice ak nk ck, .int .i64 now] 37)
  have HD : Hid (Sd w0 X p r P' B oK nK cK oL nL cL ks ls s N (w.alloc (.cells #[.int .i64 1, .int .u64 ((i : Nat) : Int), .string y, .slice ap np cp, .slice ak nk ck, .int .i64 now] 37)) ∧ (w.alloc (.cells #[.int .i64 1, .int .u64 ((i : Nat) : Int), .string y, .slice ap np cp, .slice ak nk ck, .int .i64 now] 37)).heap[w.heap.size]? = some (.cells #[.int .i64 1, .int .u64 ((i : Nat) : Int), .string y, .slice ap np cp, .slice ak nk ck, .int .i64 now] 37 (0, 0)) ∧ P' w.heap.size ∧ ¬ B w.heap.size) := ⟨hSd, hob, hpo, hbo⟩
  have HNN : Hid (N ≤ 800000000) := hN
  clear h hSd hob hpo hbo hN
  go_enter Tryz.func7, Tryz.ntmps7
  go_wp2_with fail
  generalize w.alloc (.cells #[.int .i64 1, .int .u64 ((i : Nat) : Int), .string y, .slice ap np cp, .slice ak nk ck, .int .i64 now] 37) = W at HD ⊢
  generalize w.heap.size = O at HD ⊢
  have HDd : Hid (Sd w0 X p r P' B oK nK cK oL nL cL ks ls s N W.drew ∧ W.drew.heap[O]? = some (.cells #[.int .i64 1, .int .u64 ((i : Nat) : Int), .string y, .slice ap np cp, .slice ak nk ck, .int .i64 now] 37 (0, 0))) := ⟨HD.out.1.go ((Keeps.refl no W).drew), ((Keeps.refl no W).drew).at HD.out.2.1 id⟩
  have HSX : Hid (∀ Y : World, Y.heap[X]? = some (.cells #[.pointer (some ⟨p, 0, none⟩), .pointer (some ⟨r, 0, none⟩)] 30 (0, 0)) → Y.heap[O]? = some (.cells #[.int .i64 1, .int .u64 ((i : Nat) : Int), .string y, .slice ap np cp, .slice ak nk ck, .int .i64 now] 37 (0, 0)) → Y.cell? ⟨X, 0, none⟩ = some (.pointer (some ⟨p, 0, none⟩)) ∧ Y.cell? ⟨X, 1, none⟩ = some (.pointer (some ⟨r, 0, none⟩)) ∧ Y.cell? ⟨O, 1, none⟩ = some (.int .u64 ((i : Nat) : Int)) ∧ Y.cell? ⟨O, 2, none⟩ = some (.string y) ∧ Y.cell? ⟨O, 3, none⟩ = some (.slice ap np cp) ∧ Y.cell? ⟨O, 4, none⟩ = some (.slice ak nk ck) ∧ Y.cell? ⟨O, 5, none⟩ = some (.int .i64 now)) := fun Y h1 h2 => ⟨cell_of_blk h1 0, cell_of_blk h1 1, cell_of_blk h2 1, cell_of_blk h2 2, cell_of_blk h2 3, cell_of_blk h2 4, cell_of_blk h2 5⟩
  refine wp_region_held_drew (S := (fun Y => Y.cell? ⟨X, 0, none⟩ = some (.pointer (some ⟨p, 0, none⟩)) ∧ Y.cell? ⟨X, 1, none⟩ = some (.pointer (some ⟨r, 0, none⟩)) ∧ Y.cell? ⟨O, 1, none⟩ = some (.int .u64 ((i : Nat) : Int)) ∧ Y.cell? ⟨O, 2, none⟩ = some (.string y) ∧ Y.cell? ⟨O, 3, none⟩ = some (.slice ap np cp) ∧ Y.cell? ⟨O, 4, none⟩ = some (.slice ak nk ck) ∧ Y.cell? ⟨O, 5, none⟩ = some (.int .i64 now))) (by kernel_rfl) ?_ (fun hHeld => ?_)
  · first | exact HSX.out _ HD.out.1.x HD.out.2.1 | exact HSX.out _ HDd.out.1.x HDd.out.2
  refine wpAnyH_take (i := 0) (v := ?_) (by simp only [List.getElem?_toArray, List.getElem?_cons_succ, List.getElem?_cons_zero]; rfl) (by kernel_rfl) (by kernel_rfl) (by kernel_rfl) (by exact fun _ _ _ h => h) (Or.inl ⟨by rfl, ?_⟩) (by assumption) ?_
  rotate_left
  · (intro _ hSw; (try dsimp only at hSw); go_simp; (try with_reducible rfl))
  try simp only [Act.put, List.setIfInBounds_toArray, List.set_cons_zero, List.set_cons_succ]
  refine wpAnyH_take (i := 1) (v := ?_) (by simp only [List.getElem?_toArray, List.getElem?_cons_succ, List.getElem?_cons_zero]; rfl) (by kernel_rfl) (by kernel_rfl) (by kernel_rfl) (by exact fun _ _ _ h => h) (Or.inl ⟨by rfl, ?_⟩) (by assumption) ?_
  rotate_left
  · (intro _ hSw; (try dsimp only at hSw); go_simp; (try with_reducible rfl))
  try simp only [Act.put, List.setIfInBounds_toArray, List.set_cons_zero, List.set_cons_succ]
  refine wpAnyH_take (i := 2) (v := ?_) (by simp only [List.getElem?_toArray, List.getElem?_cons_succ, List.getElem?_cons_zero]; rfl) (by kernel_rfl) (by kernel_rfl) (by kernel_rfl) (by exact fun _ _ _ h => h) (Or.inl ⟨by rfl, ?_⟩) (by assumption) ?_
  rotate_left
  · (intro _ hSw; (try dsimp only at hSw); go_simp; (try with_reducible rfl))
  try simp only [Act.put, List.setIfInBounds_toArray, List.set_cons_zero, List.set_cons_succ]
  refine wpAnyH_take (i := 3) (v := ?_) (by simp only [List.getElem?_toArray, List.getElem?_cons_succ, List.getElem?_cons_zero]; rfl) (by kernel_rfl) (by kernel_rfl) (by kernel_rfl) (by exact fun _ _ _ h => h) (Or.inl ⟨by rfl, ?_⟩) (by assumption) ?_
  rotate_left
  · (intro _ hSw; (try dsimp only at hSw); go_simp; (try with_reducible rfl))
  try simp only [Act.put, List.setIfInBounds_toArray, List.set_cons_zero, List.set_cons_succ]
  refine wpAnyH_take (i := 4) (v := ?_) (by simp only [List.getElem?_toArray, List.getElem?_cons_succ, List.getElem?_cons_zero]; rfl) (by kernel_rfl) (by kernel_rfl) (by kernel_rfl) (by exact fun _ _ _ h => h) (Or.inl ⟨by rfl, ?_⟩) (by assumption) ?_
  rotate_left
  · (intro _ hSw; (try dsimp only at hSw); go_simp; (try with_reducible rfl))
  try simp only [Act.put, List.setIfInBounds_toArray, List.set_cons_zero, List.set_cons_succ]
  refine wpAnyH_take (i := 5) (v := ?_) (by simp only [List.getElem?_toArray, List.getElem?_cons_succ, List.getElem?_cons_zero]; rfl) (by kernel_rfl) (by kernel_rfl) (by kernel_rfl) (by exact fun _ _ _ h => h) (Or.inl ⟨by rfl, ?_⟩) (by assumption) ?_
  rotate_left
  · (intro _ hSw; (try dsimp only at hSw); go_simp; (try with_reducible rfl))
  try simp only [Act.put, List.setIfInBounds_toArray, List.set_cons_zero, List.set_cons_succ]
  refine wpAnyH_take (i := 6) (v := ?_) (by simp only [List.getElem?_toArray, List.getElem?_cons_succ, List.getElem?_cons_zero]; rfl) (by kernel_rfl) (by kernel_rfl) (by kernel_rfl) (by exact fun _ _ _ h => h) (Or.inl ⟨by rfl, ?_⟩) (by assumption) ?_
  rotate_left
  · (intro _ hSw; (try dsimp only at hSw); go_simp; (try with_reducible rfl))
  try simp only [Act.put, List.setIfInBounds_toArray, List.set_cons_zero, List.set_cons_succ]
  refine wpAnyH_take (i := 7) (v := ?_) (by simp only [List.getElem?_toArray, List.getElem?_cons_succ, List.getElem?_cons_zero]; rfl) (by kernel_rfl) (by kernel_rfl) (by kernel_rfl) (by exact fun _ _ _ h => h) (Or.inl ⟨by rfl, ?_⟩) (by assumption) ?_
  rotate_left
  · (intro _ hSw; (try dsimp only at hSw); go_simp; (try with_reducible rfl))
  try simp only [Act.put, List.setIfInBounds_toArray, List.set_cons_zero, List.set_cons_succ]
  refine wpAnyH_take (i := 8) (v := ?_) (by simp only [List.getElem?_toArray, List.getElem?_cons_succ, List.getElem?_cons_zero]; rfl) (by kernel_rfl) (by kernel_rfl) (by kernel_rfl) (by exact fun _ _ _ h => h) (Or.inl ⟨by rfl, ?_⟩) (by assumption) ?_
  rotate_left
  · (intro _ hSw; (try dsimp only at hSw); go_simp; (try with_reducible rfl))
  try simp only [Act.put, List.setIfInBounds_toArray, List.set_cons_zero, List.set_cons_succ]
  refine wpAnyH_take (i := 9) (v := ?_) (by simp only [List.getElem?_toArray, List.getElem?_cons_succ, List.getElem?_cons_zero]; rfl) (by kernel_rfl) (by kernel_rfl) (by kernel_rfl) (by exact fun _ _ _ h => h) (Or.inl ⟨by rfl, ?_⟩) (by assumption) ?_
  rotate_left
  · (intro _ hSw; (try dsimp only at hSw); go_simp; (try with_reducible rfl))
  try simp only [Act.put, List.setIfInBounds_toArray, List.set_cons_zero, List.set_cons_succ]
  refine wpAnyH_take (i := 10) (v := ?_) (by simp only [List.getElem?_toArray, List.getElem?_cons_succ, List.getElem?_cons_zero]; rfl) (by kernel_rfl) (by kernel_rfl) (by kernel_rfl) (by exact fun _ _ _ h => h) (Or.inl ⟨by rfl, ?_⟩) (by assumption) ?_
  rotate_left
  · (intro _ hSw; (try dsimp only at hSw); go_simp; (try with_reducible rfl))
  try simp only [Act.put, List.setIfInBounds_toArray, List.set_cons_zero, List.set_cons_succ]
  refine wpAnyH_take (i := 11) (v := ?_) (by simp only [List.getElem?_toArray, List.getElem?_cons_succ, List.getElem?_cons_zero]; rfl) (by kernel_rfl) (by kernel_rfl) (by kernel_rfl) (by exact fun _ _ _ h => h) (Or.inl ⟨by rfl, ?_⟩) (by assumption) ?_
  rotate_left
  · (intro _ hSw; (try dsimp only at hSw); go_simp; (try with_reducible rfl))
  try simp only [Act.put, List.setIfInBounds_toArray, List.set_cons_zero, List.set_cons_succ]
  refine wpAnyH_ready (rs := [12]) (by kernel_rfl) (by simp) ?_
  refine AllReadyH.cons (by simp only [List.getElem?_toArray, List.getElem?_cons_succ, List.getElem?_cons_zero]; rfl) (fun Kq hKq => ?_) AllReadyH.nil
  (go_simp; refine (HDd.out.1.ow.put i ps keys now ap np cp ak nk ck HA.out.2.2.1 HA.out.1 HA.out.2.1 (HA.out.2.2.2.1.keepsN HDd.out.1.ow.keep) (HA.out.2.2.2.2.1.keepsN HDd.out.1.ow.keep) HA.out.2.2.2.2.2.2.2.2.2.1 HA.out.2.2.2.2.2.2.2.1 HA.out.2.2.2.2.2.2.2.2.2.2).mono ?_; rintro e z1 ⟨rfl, h1⟩; rw [HF.out]; have HP1 : Hid (Sp w0 X p r P' B oK nK cK oL nL cL ks ls (putAll i keys now s (miss s i ps)) (N + (miss s i ps).length) z1) := HDd.out.1.prog h1.out.1 h1.out.2; have HO1 : Hid (z1.heap[O]? = some (.cells #[.int .i64 1, .int .u64 ((i : Nat) : Int), .string y, .slice ap np cp, .slice ak nk ck, .int .i64 now] 37 (0, 0))) := h1.out.2.at HDd.out.2 (fun hn => hn HD.out.2.2.1); clear h1)
  refine hKq.out _ _ ?_ (fun hHeldN => ?_)
  · exact HSX.out _ HP1.out.x HO1.out
  clear hKq Kq hHeld
  have hHeld := hHeldN
  clear hHeldN
  refine wpAnyH_take (i := 13) (v := ?_) (by simp only [List.getElem?_toArray, List.getElem?_cons_succ, List.getElem?_cons_zero]; rfl) (by kernel_rfl) (by kernel_rfl) (by kernel_rfl) (by exact fun _ _ _ h => h) (Or.inl ⟨by rfl, ?_⟩) (by assumption) ?_
  rotate_left
  · (intro _ hSw; (try dsimp only at hSw); go_simp; (try with_reducible rfl))
  try simp only [Act.put, List.setIfInBounds_toArray, List.set_cons_zero, List.set_cons_succ]
  refine wpAnyH_take (i := 14) (v := ?_) (by simp only [List.getElem?_toArray, List.getElem?_cons_succ, List.getElem?_cons_zero]; rfl) (by kernel_rfl) (by kernel_rfl) (by kernel_rfl) (by exact fun _ _ _ h => h) (Or.inl ⟨by rfl, ?_⟩) (by assumption) ?_
  rotate_left
  · (intro _ hSw; (try dsimp only at hSw); go_simp; (try with_reducible rfl))
  try simp only [Act.put, List.setIfInBounds_toArray, List.set_cons_zero, List.set_cons_succ]
  refine wpAnyH_take (i := 15) (v := ?_) (by simp only [List.getElem?_toArray, List.getElem?_cons_succ, List.getElem?_cons_zero]; rfl) (by kernel_rfl) (by kernel_rfl) (by kernel_rfl) (by exact fun _ _ _ h => h) (Or.inl ⟨by rfl, ?_⟩) (by assumption) ?_
  rotate_left
  · (intro _ hSw; (try dsimp only at hSw); go_simp; (try with_reducible rfl))
  try simp only [Act.put, List.setIfInBounds_toArray, List.set_cons_zero, List.set_cons_succ]
  refine wpAnyH_take (i := 16) (v := ?_) (by simp only [List.getElem?_toArray, List.getElem?_cons_succ, List.getElem?_cons_zero]; rfl) (by kernel_rfl) (by kernel_rfl) (by kernel_rfl) (by exact fun _ _ _ h => h) (Or.inl ⟨by rfl, ?_⟩) (by assumption) ?_
  rotate_left
  · (intro _ hSw; (try dsimp only at hSw); go_simp; (try with_reducible rfl))
  try simp only [Act.put, List.setIfInBounds_toArray, List.set_cons_zero, List.set_cons_succ]
  refine wpAnyH_take (i := 17) (v := ?_) (by simp only [List.getElem?_toArray, List.getElem?_cons_succ, List.getElem?_cons_zero]; rfl) (by kernel_rfl) (by kernel_rfl) (by kernel_rfl) (by exact fun _ _ _ h => h) (Or.inl ⟨by rfl, ?_⟩) (by assumption) ?_
  rotate_left
  · (intro _ hSw; (try dsimp only at hSw); go_simp; (try with_reducible rfl))
  try simp only [Act.put, List.setIfInBounds_toArray, List.set_cons_zero, List.set_cons_succ]
  refine wpAnyH_done (by kernel_rfl) ?_ _
  clear hHeld
  have HP1d : Hid (Sp w0 X p r P' B oK nK cK oL nL cL ks ls (putAll i keys now s (miss s i ps)) (N + (miss s i ps).length) z1.drew) := HP1.out.go ((Keeps.refl no z1).drew)
  have HO1d : Hid (z1.drew.heap[O]? = some (.cells #[.int .i64 1, .int .u64 ((i : Nat) : Int), .string y, .slice ap np cp, .slice ak nk ck, .int .i64 now] 37 (0, 0))) := ((Keeps.refl no z1).drew).at HO1.out id
  go_wp2_with fail
  refine wp_region_held_drew (S := (fun Y => Y.cell? ⟨X, 0, none⟩ = some (.pointer (some ⟨p, 0, none⟩)) ∧ Y.cell? ⟨X, 1, none⟩ = some (.pointer (some ⟨r, 0, none⟩)) ∧ Y.cell? ⟨O, 1, none⟩ = some (.int .u64 ((i : Nat) : Int)) ∧ Y.cell? ⟨O, 2, none⟩ = some (.string y) ∧ Y.cell? ⟨O, 3, none⟩ = some (.slice ap np cp) ∧ Y.cell? ⟨O, 4, none⟩ = some (.slice ak nk ck) ∧ Y.cell? ⟨O, 5, none⟩ = some (.int .i64 now))) (by kernel_rfl) ?_ (fun hHeld => ?_)
  · first | exact HSX.out _ HP1.out.x HO1.out | exact HSX.out _ HP1d.out.x HO1d.out
  refine wpAnyH_take (i := 0) (v := ?_) (by simp only [List.getElem?_toArray, List.getElem?_cons_succ, List.getElem?_cons_zero]; rfl) (by kernel_rfl) (by kernel_rfl) (by kernel_rfl) (by exact fun _ _ _ h => h) (Or.inl ⟨by rfl, ?_⟩) (by assumption) ?_
  rotate_left
  · (intro _ hSw; (try dsimp only at hSw); go_simp; (try with_reducible rfl))
  try simp only [Act.put, List.setIfInBounds_toArray, List.set_cons_zero, List.set_cons_succ]
  refine wpAnyH_take (i := 1) (v := ?_) (by simp only [List.getElem?_toArray, List.getElem?_cons_succ, List.getElem?_cons_zero]; rfl) (by kernel_rfl) (by kernel_rfl) (by kernel_rfl) (by exact fun _ _ _ h => h) (Or.inl ⟨by rfl, ?_⟩) (by assumption) ?_
  rotate_left
  · (intro _ hSw; (try dsimp only at hSw); go_simp; (try with_reducible rfl))
  try simp only [Act.put, List.setIfInBounds_toArray, List.set_cons_zero, List.set_cons_succ]
  refine wpAnyH_take (i := 2) (v := ?_) (by simp only [List.getElem?_toArray, List.getElem?_cons_succ, List.getElem?_cons_zero]; rfl) (by kernel_rfl) (by kernel_rfl) (by kernel_rfl) (by exact fun _ _ _ h => h) (Or.inl ⟨by rfl, ?_⟩) (by assumption) ?_
  rotate_left
  · (intro _ hSw; (try dsimp only at hSw); go_simp; (try with_reducible rfl))
  try simp only [Act.put, List.setIfInBounds_toArray, List.set_cons_zero, List.set_cons_succ]
  refine wpAnyH_take (i := 3) (v := ?_) (by simp only [List.getElem?_toArray, List.getElem?_cons_succ, List.getElem?_cons_zero]; rfl) (by kernel_rfl) (by kernel_rfl) (by kernel_rfl) (by exact fun _ _ _ h => h) (Or.inl ⟨by rfl, ?_⟩) (by assumption) ?_
  rotate_left
  · (intro _ hSw; (try dsimp only at hSw); go_simp; (try with_reducible rfl))
  try simp only [Act.put, List.setIfInBounds_toArray, List.set_cons_zero, List.set_cons_succ]
  refine wpAnyH_take (i := 4) (v := ?_) (by simp only [List.getElem?_toArray, List.getElem?_cons_succ, List.getElem?_cons_zero]; rfl) (by kernel_rfl) (by kernel_rfl) (by kernel_rfl) (by exact fun _ _ _ h => h) (Or.inl ⟨by rfl, ?_⟩) (by assumption) ?_
  rotate_left
  · (intro _ hSw; (try dsimp only at hSw); go_simp; (try with_reducible rfl))
  try simp only [Act.put, List.setIfInBounds_toArray, List.set_cons_zero, List.set_cons_succ]
  refine wpAnyH_take (i := 5) (v := ?_) (by simp only [List.getElem?_toArray, List.getElem?_cons_succ, List.getElem?_cons_zero]; rfl) (by kernel_rfl) (by kernel_rfl) (by kernel_rfl) (by exact fun _ _ _ h => h) (Or.inl ⟨by rfl, ?_⟩) (by assumption) ?_
  rotate_left
  · (intro _ hSw; (try dsimp only at hSw); go_simp; (try with_reducible rfl))
  try simp only [Act.put, List.setIfInBounds_toArray, List.set_cons_zero, List.set_cons_succ]
  refine wpAnyH_take (i := 6) (v := ?_) (by simp only [List.getElem?_toArray, List.getElem?_cons_succ, List.getElem?_cons_zero]; rfl) (by kernel_rfl) (by kernel_rfl) (by kernel_rfl) (by exact fun _ _ _ h => h) (Or.inl ⟨by rfl, ?_⟩) (by assumption) ?_
  rotate_left
  · (intro _ hSw; (try dsimp only at hSw); go_simp; (try with_reducible rfl))
  try simp only [Act.put, List.setIfInBounds_toArray, List.set_cons_zero, List.set_cons_succ]
  refine wpAnyH_take (i := 7) (v := ?_) (by simp only [List.getElem?_toArray, List.getElem?_cons_succ, List.getElem?_cons_zero]; rfl) (by kernel_rfl) (by kernel_rfl) (by kernel_rfl) (by exact fun _ _ _ h => h) (Or.inl ⟨by rfl, ?_⟩) (by assumption) ?_
  rotate_left
  · (intro _ hSw; (try dsimp only at hSw); go_simp; (try with_reducible rfl))
  try simp only [Act.put, List.setIfInBounds_toArray, List.set_cons_zero, List.set_cons_succ]
  refine wpAnyH_take (i := 8) (v := ?_) (by simp only [List.getElem?_toArray, List.getElem?_cons_succ, List.getElem?_cons_zero]; rfl) (by kernel_rfl) (by kernel_rfl) (by kernel_rfl) (by exact fun _ _ _ h => h) (Or.inl ⟨by rfl, ?_⟩) (by assumption) ?_
  rotate_left
  · (intro _ hSw; (try dsimp only at hSw); go_simp; (try with_reducible rfl))
  try simp only [Act.put, List.setIfInBounds_toArray, List.set_cons_zero, List.set_cons_succ]
  refine wpAnyH_take (i := 9) (v := ?_) (by simp only [List.getElem?_toArray, List.getElem?_cons_succ, List.getElem?_cons_zero]; rfl) (by kernel_rfl) (by kernel_rfl) (by kernel_rfl) (by exact fun _ _ _ h => h) (Or.inl ⟨by rfl, ?_⟩) (by assumption) ?_
  rotate_left
  · (intro _ hSw; (try dsimp only at hSw); go_simp; (try with_reducible rfl))
  try simp only [Act.put, List.setIfInBounds_toArray, List.set_cons_zero, List.set_cons_succ]
  refine wpAnyH_take (i := 10) (v := ?_) (by simp only [List.getElem?_toArray, List.getElem?_cons_succ, List.getElem?_cons_zero]; rfl) (by kernel_rfl) (by kernel_rfl) (by kernel_rfl) (by exact fun _ _ _ h => h) (Or.inl ⟨by rfl, ?_⟩) (by assumption) ?_
  rotate_left
  · (intro _ hSw; (try dsimp only at hSw); go_simp; (try with_reducible rfl))
  try simp only [Act.put, List.setIfInBounds_toArray, List.set_cons_zero, List.set_cons_succ]
  refine wpAnyH_take (i := 11) (v := ?_) (by simp only [List.getElem?_toArray, List.getElem?_cons_succ, List.getElem?_cons_zero]; rfl) (by kernel_rfl) (by kernel_rfl) (by kernel_rfl) (by exact fun _ _ _ h => h) (Or.inl ⟨by rfl, ?_⟩) (by assumption) ?_
  rotate_left
  · (intro _ hSw; (try dsimp only at hSw); go_simp; (try with_reducible rfl))
  try simp only [Act.put, List.setIfInBounds_toArray, List.set_cons_zero, List.set_cons_succ]
  refine wpAnyH_ready (rs := [12]) (by kernel_rfl) (by simp) ?_
  refine AllReadyH.cons (by simp only [List.getElem?_toArray, List.getElem?_cons_succ, List.getElem?_cons_zero]; rfl) (fun Kq hKq => ?_) AllReadyH.nil
  (go_simp; refine (rPut_good B z1.drew r oK nK cK oL nL cL ks ls HP1d.out.ro s HD.out.1.rl i ps keys now ap np cp ak nk ck HA.out.1 HA.out.2.1 (HA.out.2.2.2.1.keepsN HP1d.out.ow.keep) (HA.out.2.2.2.2.1.keepsN HP1d.out.ow.keep) HA.out.2.2.2.2.2.2.1 HA.out.2.2.2.2.2.1 (fun b hb => HD.out.1.far (HA.out.2.2.2.2.2.2.2.2.1 b (.inl hb))) (fun b hb => HD.out.1.far (HA.out.2.2.2.2.2.2.2.2.1 b (.inr hb))) (fun b hb => Nat.lt_of_lt_of_le (HA.out.2.2.2.2.2.2.2.2.1 b hb) HP1d.out.ow.keep.size) HA.out.2.2.2.2.2.2.2.1 (by have q1 := HD.out.1.nk; have q2 := HNN.out; omega)).mono ?_; rintro e z2 ⟨rfl, h2⟩; rw [HF.out]; obtain ⟨ks2, g1, g2, g3⟩ := h2.out; have HZ : Hid (Sx w0 X (putAll i keys now s (miss s i ps)) (N + (miss s i ps).length) z2) := (by obtain ⟨P3, B3, a1, a2, a3, a4, a5, a6, hh⟩ := HP1d.out.doc g1 g2 (by have q1 := HD.out.1.nk; omega); exact hh.sx); have HX2 : Hid (z2.heap[X]? = some (.cells #[.pointer (some ⟨p, 0, none⟩), .pointer (some ⟨r, 0, none⟩)] 30 (0, 0))) := g1.2.at HP1d.out.x HP1d.out.bx; have HO2 : Hid (z2.heap[O]? = some (.cells #[.int .i64 1, .int .u64 ((i : Nat) : Int), .string y, .slice ap np cp, .slice ak nk ck, .int .i64 now] 37 (0, 0))) := g1.2.at HO1d.out HD.out.2.2.2; clear h2 g1 g2 g3)
  refine hKq.out _ _ ?_ (fun hHeldN => ?_)
  · exact HSX.out _ HX2.out HO2.out
  clear hKq Kq hHeld
  have hHeld := hHeldN
  clear hHeldN
  refine wpAnyH_take (i := 13) (v := ?_) (by simp only [List.getElem?_toArray, List.getElem?_cons_succ, List.getElem?_cons_zero]; rfl) (by kernel_rfl) (by kernel_rfl) (by kernel_rfl) (by exact fun _ _ _ h => h) (Or.inl ⟨by rfl, ?_⟩) (by assumption) ?_
  rotate_left
  · (intro _ hSw; (try dsimp only at hSw); go_simp; (try with_reducible rfl))
  try simp only [Act.put, List.setIfInBounds_toArray, List.set_cons_zero, List.set_cons_succ]
  refine wpAnyH_take (i := 14) (v := ?_) (by simp only [List.getElem?_toArray, List.getElem?_cons_succ, List.getElem?_cons_zero]; rfl) (by kernel_rfl) (by kernel_rfl) (by kernel_rfl) (by exact fun _ _ _ h => h) (Or.inl ⟨by rfl, ?_⟩) (by assumption) ?_
  rotate_left
  · (intro _ hSw; (try dsimp only at hSw); go_simp; (try with_reducible rfl))
  try simp only [Act.put, List.setIfInBounds_toArray, List.set_cons_zero, List.set_cons_succ]
  refine wpAnyH_take (i := 15) (v := ?_) (by simp only [List.getElem?_toArray, List.getElem?_cons_succ, List.getElem?_cons_zero]; rfl) (by kernel_rfl) (by kernel_rfl) (by kernel_rfl) (by exact fun _ _ _ h => h) (Or.inl ⟨by rfl, ?_⟩) (by assumption) ?_
  rotate_left
  · (intro _ hSw; (try dsimp only at hSw); go_simp; (try with_reducible rfl))
  try simp only [Act.put, List.setIfInBounds_toArray, List.set_cons_zero, List.set_cons_succ]
  refine wpAnyH_take (i := 16) (v := ?_) (by simp only [List.getElem?_toArray, List.getElem?_cons_succ, List.getElem?_cons_zero]; rfl) (by kernel_rfl) (by kernel_rfl) (by kernel_rfl) (by exact fun _ _ _ h => h) (Or.inl ⟨by rfl, ?_⟩) (by assumption) ?_
  rotate_left
  · (intro _ hSw; (try dsimp only at hSw); go_simp; (try with_reducible rfl))
  try simp only [Act.put, List.setIfInBounds_toArray, List.set_cons_zero, List.set_cons_succ]
  refine wpAnyH_take (i := 17) (v := ?_) (by simp only [List.getElem?_toArray, List.getElem?_cons_succ, List.getElem?_cons_zero]; rfl) (by kernel_rfl) (by kernel_rfl) (by kernel_rfl) (by exact fun _ _ _ h => h) (Or.inl ⟨by rfl, ?_⟩) (by assumption) ?_
  rotate_left
  · (intro _ hSw; (try dsimp only at hSw); go_simp; (try with_reducible rfl))
  try simp only [Act.put, List.setIfInBounds_toArray, List.set_cons_zero, List.set_cons_succ]
  refine wpAnyH_done (by kernel_rfl) ?_ _
  clear hHeld
  cases F <;> (go_wp2_with fail; go_ret; exact ⟨rfl, HZ.out⟩)
set_option maxRecDepth 10000 in
set_option maxHeartbeats 1000000 in
theorem plays_putb {w0 : World} {X p r : Nat} {P B : Nat → Prop} {oK : Option Addr} {nK cK : Nat} {oL : Option Addr} {nL cL : Nat} {ks : List KV} {ls : List Mk} {s : St} {N : Nat} {w : World} (h : Sd w0 X p r P B oK nK cK oL nL cL ks ls s N w) (hN : N ≤ 800000000) (i : Nat) (y : Tx) (ap : Option Addr) (np cp : Nat) (ak : Option Addr) (nk ck : Nat) (now : Int) (ps : List Pr) (keys : List Tx) (hnp : np = ps.length) (hnk : nk = keys.length) (hi : i < 18446744073709551616) (sp : Sl PE w0 ap cp ps) (sk : Sl TE w0 ak ck keys) (zp : ∀ x ∈ ps, x.2.size ≤ 140737488351232) (zk : ∀ x ∈ keys, x.size ≤ 140737488351232) (lp : ps.length ≤ 1048576) (lk : keys.length ≤ 1048576) (hok : okPut i ps keys now = false) :
    Calls Tryz.prog 7 #[.pointer (some ⟨X, 0, none⟩), .agg #[.int .i64 1, .int .u64 ((i : Nat) : Int), .string y, .slice ap np cp, .slice ak nk ck, .int .i64 now]] w fun e w' => e = .returned (.bool true) ∧ Hid (Sx w0 X s N w') := by
  have HA : Hid (np = ps.length ∧ nk = keys.length ∧ i < 18446744073709551616 ∧ Sl PE w0 ap cp ps ∧ Sl TE w0 ak ck keys ∧ (∀ x ∈ ps, x.2.size ≤ 140737488351232) ∧ (∀ x ∈ keys, x.size ≤ 140737488351232) ∧ okPut i ps keys now = false ∧ ps.length ≤ 1048576 ∧ keys.length ≤ 1048576) := ⟨hnp, hnk, hi, sp, sk, zp, zk, hok, lp, lk⟩
  clear hnp hnk hi sp sk zp zk hok lp lk
  obtain ⟨P', hSd, hob, hpo, hbo⟩ := h.arg (.cells #[.int .i64 1, .int .u64 ((i : Nat) : Int), .string y, .slice ap np cp, .slice ak nk ck, .int .i64 now] 37)
  have HD : Hid (Sd w0 X p r P' B oK nK cK oL nL cL ks ls s N (w.alloc (.cells #[.int .i64 1, .int .u64 ((i : Nat) : Int), .string y, .slice ap np cp, .slice ak nk ck, .int .i64 now] 37)) ∧ (w.alloc (.cells #[.int .i64 1, .int .u64 ((i : Nat) : Int), .string y, .slice ap np cp, .slice ak nk ck, .int .i64 now] 37)).heap[w.heap.size]? = some (.cells #[.int .i64 1, .int .u64 ((i : Nat) : Int), .string y, .slice ap np cp, .slice ak nk ck, .int .i64 now] 37 (0, 0)) ∧ P' w.heap.size ∧ ¬ B w.heap.size) := ⟨hSd, hob, hpo, hbo⟩
  have HNN : Hid (N ≤ 800000000) := hN
  clear h hSd hob hpo hbo hN
  go_enter Tryz.func7, Tryz.ntmps7
  go_wp2_with fail
  generalize w.alloc (.cells #[.int .i64 1, .int .u64 ((i : Nat) : Int), .string y, .slice ap np cp, .slice ak nk ck, .int .i64 now] 37) = W at HD ⊢
  generalize w.heap.size = O at HD ⊢
  have HDd : Hid (Sd w0 X p r P' B oK nK cK oL nL cL ks ls s N W.drew ∧ W.drew.heap[O]? = some (.cells #[.int .i64 1, .int .u64 ((i : Nat) : Int), .string y, .slice ap np cp, .slice ak nk ck, .int .i64 now] 37 (0, 0))) := ⟨HD.out.1.go ((Keeps.refl no W).drew), ((Keeps.refl no W).drew).at HD.out.2.1 id⟩
  have HSX : Hid (∀ Y : World, Y.heap[X]? = some (.cells #[.pointer (some ⟨p, 0, none⟩), .pointer (some ⟨r, 0, none⟩)] 30 (0, 0)) → Y.heap[O]? = some (.cells #[.int .i64 1, .int .u64 ((i : Nat) : Int), .string y, .slice ap np cp, .slice ak nk ck, .int .i64 now] 37 (0, 0)) → Y.cell? ⟨X, 0, none⟩ = some (.pointer (some ⟨p, 0, none⟩)) ∧ Y.cell? ⟨X, 1, none⟩ = some (.pointer (some ⟨r, 0, none⟩)) ∧ Y.cell? ⟨O, 1, none⟩ = some (.int .u64 ((i : Nat) : Int)) ∧ Y.cell? ⟨O, 2, none⟩ = some (.string y) ∧ Y.cell? ⟨O, 3, none⟩ = some (.slice ap np cp) ∧ Y.cell? ⟨O, 4, none⟩ = some (.slice ak nk ck) ∧ Y.cell? ⟨O, 5, none⟩ = some (.int .i64 now)) := fun Y h1 h2 => ⟨cell_of_blk h1 0, cell_of_blk h1 1, cell_of_blk h2 1, cell_of_blk h2 2, cell_of_blk h2 3, cell_of_blk h2 4, cell_of_blk h2 5⟩
  refine wp_region_held_drew (S := (fun Y => Y.cell? ⟨X, 0, none⟩ = some (.pointer (some ⟨p, 0, none⟩)) ∧ Y.cell? ⟨X, 1, none⟩ = some (.pointer (some ⟨r, 0, none⟩)) ∧ Y.cell? ⟨O, 1, none⟩ = some (.int .u64 ((i : Nat) : Int)) ∧ Y.cell? ⟨O, 2, none⟩ = some (.string y) ∧ Y.cell? ⟨O, 3, none⟩ = some (.slice ap np cp) ∧ Y.cell? ⟨O, 4, none⟩ = some (.slice ak nk ck) ∧ Y.cell? ⟨O, 5, none⟩ = some (.int .i64 now))) (by kernel_rfl) ?_ (fun hHeld => ?_)
  · first | exact HSX.out _ HD.out.1.x HD.out.2.1 | exact HSX.out _ HDd.out.1.x HDd.out.2
  refine wpAnyH_take (i := 0) (v := ?_) (by simp only [List.getElem?_toArray, List.getElem?_cons_succ, List.getElem?_cons_zero]; rfl) (by kernel_rfl) (by kernel_rfl) (by kernel_rfl) (by exact fun _ _ _ h => h) (Or.inl ⟨by rfl, ?_⟩) (by assumption) ?_
  rotate_left
  · (intro _ hSw; (try dsimp only at hSw); go_simp; (try with_reducible rfl))
  try simp only [Act.put, List.setIfInBounds_toArray, List.set_cons_zero, List.set_cons_succ]
  refine wpAnyH_take (i := 1) (v := ?_) (by simp only [List.getElem?_toArray, List.getElem?_cons_succ, List.getElem?_cons_zero]; rfl) (by kernel_rfl) (by kernel_rfl) (by kernel_rfl) (by exact fun _ _ _ h => h) (Or.inl ⟨by rfl, ?_⟩) (by assumption) ?_
  rotate_left
  · (intro _ hSw; (try dsimp only at hSw); go_simp; (try with_reducible rfl))
  try simp only [Act.put, List.setIfInBounds_toArray, List.set_cons_zero, List.set_cons_succ]
  refine wpAnyH_take (i := 2) (v := ?_) (by simp only [List.getElem?_toArray, List.getElem?_cons_succ, List.getElem?_cons_zero]; rfl) (by kernel_rfl) (by kernel_rfl) (by kernel_rfl) (by exact fun _ _ _ h => h) (Or.inl ⟨by rfl, ?_⟩) (by assumption) ?_
  rotate_left
  · (intro _ hSw; (try dsimp only at hSw); go_simp; (try with_reducible rfl))
  try simp only [Act.put, List.setIfInBounds_toArray, List.set_cons_zero, List.set_cons_succ]
  refine wpAnyH_take (i := 3) (v := ?_) (by simp only [List.getElem?_toArray, List.getElem?_cons_succ, List.getElem?_cons_zero]; rfl) (by kernel_rfl) (by kernel_rfl) (by kernel_rfl) (by exact fun _ _ _ h => h) (Or.inl ⟨by rfl, ?_⟩) (by assumption) ?_
  rotate_left
  · (intro _ hSw; (try dsimp only at hSw); go_simp; (try with_reducible rfl))
  try simp only [Act.put, List.setIfInBounds_toArray, List.set_cons_zero, List.set_cons_succ]
  refine wpAnyH_take (i := 4) (v := ?_) (by simp only [List.getElem?_toArray, List.getElem?_cons_succ, List.getElem?_cons_zero]; rfl) (by kernel_rfl) (by kernel_rfl) (by kernel_rfl) (by exact fun _ _ _ h => h) (Or.inl ⟨by rfl, ?_⟩) (by assumption) ?_
  rotate_left
  · (intro _ hSw; (try dsimp only at hSw); go_simp; (try with_reducible rfl))
  try simp only [Act.put, List.setIfInBounds_toArray, List.set_cons_zero, List.set_cons_succ]
  refine wpAnyH_take (i := 5) (v := ?_) (by simp only [List.getElem?_toArray, List.getElem?_cons_succ, List.getElem?_cons_zero]; rfl) (by kernel_rfl) (by kernel_rfl) (by kernel_rfl) (by exact fun _ _ _ h => h) (Or.inl ⟨by rfl, ?_⟩) (by assumption) ?_
  rotate_left
  · (intro _ hSw; (try dsimp only at hSw); go_simp; (try with_reducible rfl))
  try simp only [Act.put, List.setIfInBounds_toArray, List.set_cons_zero, List.set_cons_succ]
  refine wpAnyH_take (i := 6) (v := ?_) (by simp only [List.getElem?_toArray, List.getElem?_cons_succ, List.getElem?_cons_zero]; rfl) (by kernel_rfl) (by kernel_rfl) (by kernel_rfl) (by exact fun _ _ _ h => h) (Or.inl ⟨by rfl, ?_⟩) (by assumption) ?_
  rotate_left
  · (intro _ hSw; (try dsimp only at hSw); go_simp; (try with_reducible rfl))
  try simp only [Act.put, List.setIfInBounds_toArray, List.set_cons_zero, List.set_cons_succ]
  refine wpAnyH_take (i := 7) (v := ?_) (by simp only [List.getElem?_toArray, List.getElem?_cons_succ, List.getElem?_cons_zero]; rfl) (by kernel_rfl) (by kernel_rfl) (by kernel_rfl) (by exact fun _ _ _ h => h) (Or.inl ⟨by rfl, ?_⟩) (by assumption) ?_
  rotate_left
  · (intro _ hSw; (try dsimp only at hSw); go_simp; (try with_reducible rfl))
  try simp only [Act.put, List.setIfInBounds_toArray, List.set_cons_zero, List.set_cons_succ]
  refine wpAnyH_take (i := 8) (v := ?_) (by simp only [List.getElem?_toArray, List.getElem?_cons_succ, List.getElem?_cons_zero]; rfl) (by kernel_rfl) (by kernel_rfl) (by kernel_rfl) (by exact fun _ _ _ h => h) (Or.inl ⟨by rfl, ?_⟩) (by assumption) ?_
  rotate_left
  · (intro _ hSw; (try dsimp only at hSw); go_simp; (try with_reducible rfl))
  try simp only [Act.put, List.setIfInBounds_toArray, List.set_cons_zero, List.set_cons_succ]
  refine wpAnyH_take (i := 9) (v := ?_) (by simp only [List.getElem?_toArray, List.getElem?_cons_succ, List.getElem?_cons_zero]; rfl) (by kernel_rfl) (by kernel_rfl) (by kernel_rfl) (by exact fun _ _ _ h => h) (Or.inl ⟨by rfl, ?_⟩) (by assumption) ?_
  rotate_left
  · (intro _ hSw; (try dsimp only at hSw); go_simp; (try with_reducible rfl))
  try simp only [Act.put, List.setIfInBounds_toArray, List.set_cons_zero, List.set_cons_succ]
  refine wpAnyH_take (i := 10) (v := ?_) (by simp only [List.getElem?_toArray, List.getElem?_cons_succ, List.getElem?_cons_zero]; rfl) (by kernel_rfl) (by kernel_rfl) (by kernel_rfl) (by exact fun _ _ _ h => h) (Or.inl ⟨by rfl, ?_⟩) (by assumption) ?_
  rotate_left
  · (intro _ hSw; (try dsimp only at hSw); go_simp; (try with_reducible rfl))
  try simp only [Act.put, List.setIfInBounds_toArray, List.set_cons_zero, List.set_cons_succ]
  refine wpAnyH_take (i := 11) (v := ?_) (by simp only [List.getElem?_toArray, List.getElem?_cons_succ, List.getElem?_cons_zero]; rfl) (by kernel_rfl) (by kernel_rfl) (by kernel_rfl) (by exact fun _ _ _ h => h) (Or.inl ⟨by rfl, ?_⟩) (by assumption) ?_
  rotate_left
  · (intro _ hSw; (try dsimp only at hSw); go_simp; (try with_reducible rfl))
  try simp only [Act.put, List.setIfInBounds_toArray, List.set_cons_zero, List.set_cons_succ]
  refine wpAnyH_ready (rs := [12]) (by kernel_rfl) (by simp) ?_
  refine AllReadyH.cons (by simp only [List.getElem?_toArray, List.getElem?_cons_succ, List.getElem?_cons_zero]; rfl) (fun Kq hKq => ?_) AllReadyH.nil
  (go_simp; refine (put_bad W.drew _ i ps keys now ap np cp ak nk ck HA.out.2.2.1 HA.out.1 HA.out.2.1 (by have := HA.out.2.2.2.2.2.2.2.2.1; omega) (by have := HA.out.2.2.2.2.2.2.2.2.2; omega) (HA.out.2.2.2.1.keepsN HDd.out.1.ow.keep) (HA.out.2.2.2.2.1.keepsN HDd.out.1.ow.keep) HA.out.2.2.2.2.2.2.2.1).mono ?_; rintro e z1 ⟨rfl, h1⟩; have HP1 : Hid (Sp w0 X p r P' B oK nK cK oL nL cL ks ls s N z1) := HDd.out.1.sp.go h1; have HO1 : Hid (z1.heap[O]? = some (.cells #[.int .i64 1, .int .u64 ((i : Nat) : Int), .string y, .slice ap np cp, .slice ak nk ck, .int .i64 now] 37 (0, 0))) := h1.at HDd.out.2 id; clear h1)
  refine hKq.out _ _ ?_ (fun hHeldN => ?_)
  · exact HSX.out _ HP1.out.x HO1.out
  clear hKq Kq hHeld
  have hHeld := hHeldN
  clear hHeldN
  refine wpAnyH_take (i := 13) (v := ?_) (by simp only [List.getElem?_toArray, List.getElem?_cons_succ, List.getElem?_cons_zero]; rfl) (by kernel_rfl) (by kernel_rfl) (by kernel_rfl) (by exact fun _ _ _ h => h) (Or.inl ⟨by rfl, ?_⟩) (by assumption) ?_
  rotate_left
  · (intro _ hSw; (try dsimp only at hSw); go_simp; (try with_reducible rfl))
  try simp only [Act.put, List.setIfInBounds_toArray, List.set_cons_zero, List.set_cons_succ]
  refine wpAnyH_take (i := 14) (v := ?_) (by simp only [List.getElem?_toArray, List.getElem?_cons_succ, List.getElem?_cons_zero]; rfl) (by kernel_rfl) (by kernel_rfl) (by kernel_rfl) (by exact fun _ _ _ h => h) (Or.inl ⟨by rfl, ?_⟩) (by assumption) ?_
  rotate_left
  · (intro _ hSw; (try dsimp only at hSw); go_simp; (try with_reducible rfl))
  try simp only [Act.put, List.setIfInBounds_toArray, List.set_cons_zero, List.set_cons_succ]
  refine wpAnyH_take (i := 15) (v := ?_) (by simp only [List.getElem?_toArray, List.getElem?_cons_succ, List.getElem?_cons_zero]; rfl) (by kernel_rfl) (by kernel_rfl) (by kernel_rfl) (by exact fun _ _ _ h => h) (Or.inl ⟨by rfl, ?_⟩) (by assumption) ?_
  rotate_left
  · (intro _ hSw; (try dsimp only at hSw); go_simp; (try with_reducible rfl))
  try simp only [Act.put, List.setIfInBounds_toArray, List.set_cons_zero, List.set_cons_succ]
  refine wpAnyH_take (i := 16) (v := ?_) (by simp only [List.getElem?_toArray, List.getElem?_cons_succ, List.getElem?_cons_zero]; rfl) (by kernel_rfl) (by kernel_rfl) (by kernel_rfl) (by exact fun _ _ _ h => h) (Or.inl ⟨by rfl, ?_⟩) (by assumption) ?_
  rotate_left
  · (intro _ hSw; (try dsimp only at hSw); go_simp; (try with_reducible rfl))
  try simp only [Act.put, List.setIfInBounds_toArray, List.set_cons_zero, List.set_cons_succ]
  refine wpAnyH_take (i := 17) (v := ?_) (by simp only [List.getElem?_toArray, List.getElem?_cons_succ, List.getElem?_cons_zero]; rfl) (by kernel_rfl) (by kernel_rfl) (by kernel_rfl) (by exact fun _ _ _ h => h) (Or.inl ⟨by rfl, ?_⟩) (by assumption) ?_
  rotate_left
  · (intro _ hSw; (try dsimp only at hSw); go_simp; (try with_reducible rfl))
  try simp only [Act.put, List.setIfInBounds_toArray, List.set_cons_zero, List.set_cons_succ]
  refine wpAnyH_done (by kernel_rfl) ?_ _
  clear hHeld
  have HP1d : Hid (Sp w0 X p r P' B oK nK cK oL nL cL ks ls s N z1.drew) := HP1.out.go ((Keeps.refl no z1).drew)
  have HO1d : Hid (z1.drew.heap[O]? = some (.cells #[.int .i64 1, .int .u64 ((i : Nat) : Int), .string y, .slice ap np cp, .slice ak nk ck, .int .i64 now] 37 (0, 0))) := ((Keeps.refl no z1).drew).at HO1.out id
  go_wp2_with fail
  refine wp_region_held_drew (S := (fun Y => Y.cell? ⟨X, 0, none⟩ = some (.pointer (some ⟨p, 0, none⟩)) ∧ Y.cell? ⟨X, 1, none⟩ = some (.pointer (some ⟨r, 0, none⟩)) ∧ Y.cell? ⟨O, 1, none⟩ = some (.int .u64 ((i : Nat) : Int)) ∧ Y.cell? ⟨O, 2, none⟩ = some (.string y) ∧ Y.cell? ⟨O, 3, none⟩ = some (.slice ap np cp) ∧ Y.cell? ⟨O, 4, none⟩ = some (.slice ak nk ck) ∧ Y.cell? ⟨O, 5, none⟩ = some (.int .i64 now))) (by kernel_rfl) ?_ (fun hHeld => ?_)
  · first | exact HSX.out _ HP1.out.x HO1.out | exact HSX.out _ HP1d.out.x HO1d.out
  refine wpAnyH_take (i := 0) (v := ?_) (by simp only [List.getElem?_toArray, List.getElem?_cons_succ, List.getElem?_cons_zero]; rfl) (by kernel_rfl) (by kernel_rfl) (by kernel_rfl) (by exact fun _ _ _ h => h) (Or.inl ⟨by rfl, ?_⟩) (by assumption) ?_
  rotate_left
  · (intro _ hSw; (try dsimp only at hSw); go_simp; (try with_reducible rfl))
  try simp only [Act.put, List.setIfInBounds_toArray, List.set_cons_zero, List.set_cons_succ]
  refine wpAnyH_take (i := 1) (v := ?_) (by simp only [List.getElem?_toArray, List.getElem?_cons_succ, List.getElem?_cons_zero]; rfl) (by kernel_rfl) (by kernel_rfl) (by kernel_rfl) (by exact fun _ _ _ h => h) (Or.inl ⟨by rfl, ?_⟩) (by assumption) ?_
  rotate_left
  · (intro _ hSw; (try dsimp only at hSw); go_simp; (try with_reducible rfl))
  try simp only [Act.put, List.setIfInBounds_toArray, List.set_cons_zero, List.set_cons_succ]
  refine wpAnyH_take (i := 2) (v := ?_) (by simp only [List.getElem?_toArray, List.getElem?_cons_succ, List.getElem?_cons_zero]; rfl) (by kernel_rfl) (by kernel_rfl) (by kernel_rfl) (by exact fun _ _ _ h => h) (Or.inl ⟨by rfl, ?_⟩) (by assumption) ?_
  rotate_left
  · (intro _ hSw; (try dsimp only at hSw); go_simp; (try with_reducible rfl))
  try simp only [Act.put, List.setIfInBounds_toArray, List.set_cons_zero, List.set_cons_succ]
  refine wpAnyH_take (i := 3) (v := ?_) (by simp only [List.getElem?_toArray, List.getElem?_cons_succ, List.getElem?_cons_zero]; rfl) (by kernel_rfl) (by kernel_rfl) (by kernel_rfl) (by exact fun _ _ _ h => h) (Or.inl ⟨by rfl, ?_⟩) (by assumption) ?_
  rotate_left
  · (intro _ hSw; (try dsimp only at hSw); go_simp; (try with_reducible rfl))
  try simp only [Act.put, List.setIfInBounds_toArray, List.set_cons_zero, List.set_cons_succ]
  refine wpAnyH_take (i := 4) (v := ?_) (by simp only [List.getElem?_toArray, List.getElem?_cons_succ, List.getElem?_cons_zero]; rfl) (by kernel_rfl) (by kernel_rfl) (by kernel_rfl) (by exact fun _ _ _ h => h) (Or.inl ⟨by rfl, ?_⟩) (by assumption) ?_
  rotate_left
  · (intro _ hSw; (try dsimp only at hSw); go_simp; (try with_reducible rfl))
  try simp only [Act.put, List.setIfInBounds_toArray, List.set_cons_zero, List.set_cons_succ]
  refine wpAnyH_take (i := 5) (v := ?_) (by simp only [List.getElem?_toArray, List.getElem?_cons_succ, List.getElem?_cons_zero]; rfl) (by kernel_rfl) (by kernel_rfl) (by kernel_rfl) (by exact fun _ _ _ h => h) (Or.inl ⟨by rfl, ?_⟩) (by assumption) ?_
  rotate_left
  · (intro _ hSw; (try dsimp only at hSw); go_simp; (try with_reducible rfl))
  try simp only [Act.put, List.setIfInBounds_toArray, List.set_cons_zero, List.set_cons_succ]
  refine wpAnyH_take (i := 6) (v := ?_) (by simp only [List.getElem?_toArray, List.getElem?_cons_succ, List.getElem?_cons_zero]; rfl) (by kernel_rfl) (by kernel_rfl) (by kernel_rfl) (by exact fun _ _ _ h => h) (Or.inl ⟨by rfl, ?_⟩) (by assumption) ?_
  rotate_left
  · (intro _ hSw; (try dsimp only at hSw); go_simp; (try with_reducible rfl))
  try simp only [Act.put, List.setIfInBounds_toArray, List.set_cons_zero, List.set_cons_succ]
  refine wpAnyH_take (i := 7) (v := ?_) (by simp only [List.getElem?_toArray, List.getElem?_cons_succ, List.getElem?_cons_zero]; rfl) (by kernel_rfl) (by kernel_rfl) (by kernel_rfl) (by exact fun _ _ _ h => h) (Or.inl ⟨by rfl, ?_⟩) (by assumption) ?_
  rotate_left
  · (intro _ hSw; (try dsimp only at hSw); go_simp; (try with_reducible rfl))
  try simp only [Act.put, List.setIfInBounds_toArray, List.set_cons_zero, List.set_cons_succ]
  refine wpAnyH_take (i := 8) (v := ?_) (by simp only [List.getElem?_toArray, List.getElem?_cons_succ, List.getElem?_cons_zero]; rfl) (by kernel_rfl) (by kernel_rfl) (by kernel_rfl) (by exact fun _ _ _ h => h) (Or.inl ⟨by rfl, ?_⟩) (by assumption) ?_
  rotate_left
  · (intro _ hSw; (try dsimp only at hSw); go_simp; (try with_reducible rfl))
  try simp only [Act.put, List.setIfInBounds_toArray, List.set_cons_zero, List.set_cons_succ]
  refine wpAnyH_take (i := 9) (v := ?_) (by simp only [List.getElem?_toArray, List.getElem?_cons_succ, List.getElem?_cons_zero]; rfl) (by kernel_rfl) (by kernel_rfl) (by kernel_rfl) (by exact fun _ _ _ h => h) (Or.inl ⟨by rfl, ?_⟩) (by assumption) ?_
  rotate_left
  · (intro _ hSw; (try dsimp only at hSw); go_simp; (try with_reducible rfl))
  try simp only [Act.put, List.setIfInBounds_toArray, List.set_cons_zero, List.set_cons_succ]
  refine wpAnyH_take (i := 10) (v := ?_) (by simp only [List.getElem?_toArray, List.getElem?_cons_succ, List.getElem?_cons_zero]; rfl) (by kernel_rfl) (by kernel_rfl) (by kernel_rfl) (by exact fun _ _ _ h => h) (Or.inl ⟨by rfl, ?_⟩) (by assumption) ?_
  rotate_left
  · (intro _ hSw; (try dsimp only at hSw); go_simp; (try with_reducible rfl))
  try simp only [Act.put, List.setIfInBounds_toArray, List.set_cons_zero, List.set_cons_succ]
  refine wpAnyH_take (i := 11) (v := ?_) (by simp only [List.getElem?_toArray, List.getElem?_cons_succ, List.getElem?_cons_zero]; rfl) (by kernel_rfl) (by kernel_rfl) (by kernel_rfl) (by exact fun _ _ _ h => h) (Or.inl ⟨by rfl, ?_⟩) (by assumption) ?_
  rotate_left
  · (intro _ hSw; (try dsimp only at hSw); go_simp; (try with_reducible rfl))
  try simp only [Act.put, List.setIfInBounds_toArray, List.set_cons_zero, List.set_cons_succ]
  refine wpAnyH_ready (rs := [12]) (by kernel_rfl) (by simp) ?_
  refine AllReadyH.cons (by simp only [List.getElem?_toArray, List.getElem?_cons_succ, List.getElem?_cons_zero]; rfl) (fun Kq hKq => ?_) AllReadyH.nil
  (go_simp; refine (rPut_bad z1.drew _ i ps keys now ap np cp ak nk ck HA.out.1 HA.out.2.1 (by have := HA.out.2.2.2.2.2.2.2.2.1; omega) (by have := HA.out.2.2.2.2.2.2.2.2.2; omega) (HA.out.2.2.2.1.keepsN HP1d.out.ow.keep) (HA.out.2.2.2.2.1.keepsN HP1d.out.ow.keep) HA.out.2.2.2.2.2.2.1 HA.out.2.2.2.2.2.1 HA.out.2.2.2.2.2.2.2.1).mono ?_; rintro e z2 ⟨rfl, h2⟩; have HP2 : Hid (Sp w0 X p r P' B oK nK cK oL nL cL ks ls s N z2) := HP1d.out.go h2; have HO2 : Hid (z2.heap[O]? = some (.cells #[.int .i64 1, .int .u64 ((i : Nat) : Int), .string y, .slice ap np cp, .slice ak nk ck, .int .i64 now] 37 (0, 0))) := h2.at HO1d.out id; clear h2)
  refine hKq.out _ _ ?_ (fun hHeldN => ?_)
  · exact HSX.out _ HP2.out.x HO2.out
  clear hKq Kq hHeld
  have hHeld := hHeldN
  clear hHeldN
  refine wpAnyH_take (i := 13) (v := ?_) (by simp only [List.getElem?_toArray, List.getElem?_cons_succ, List.getElem?_cons_zero]; rfl) (by kernel_rfl) (by kernel_rfl) (by kernel_rfl) (by exact fun _ _ _ h => h) (Or.inl ⟨by rfl, ?_⟩) (by assumption) ?_
  rotate_left
  · (intro _ hSw; (try dsimp only at hSw); go_simp; (try with_reducible rfl))
  try simp only [Act.put, List.setIfInBounds_toArray, List.set_cons_zero, List.set_cons_succ]
  refine wpAnyH_take (i := 14) (v := ?_) (by simp only [List.getElem?_toArray, List.getElem?_cons_succ, List.getElem?_cons_zero]; rfl) (by kernel_rfl) (by kernel_rfl) (by kernel_rfl) (by exact fun _ _ _ h => h) (Or.inl ⟨by rfl, ?_⟩) (by assumption) ?_
  rotate_left
  · (intro _ hSw; (try dsimp only at hSw); go_simp; (try with_reducible rfl))
  try simp only [Act.put, List.setIfInBounds_toArray, List.set_cons_zero, List.set_cons_succ]
  refine wpAnyH_take (i := 15) (v := ?_) (by simp only [List.getElem?_toArray, List.getElem?_cons_succ, List.getElem?_cons_zero]; rfl) (by kernel_rfl) (by kernel_rfl) (by kernel_rfl) (by exact fun _ _ _ h => h) (Or.inl ⟨by rfl, ?_⟩) (by assumption) ?_
  rotate_left
  · (intro _ hSw; (try dsimp only at hSw); go_simp; (try with_reducible rfl))
  try simp only [Act.put, List.setIfInBounds_toArray, List.set_cons_zero, List.set_cons_succ]
  refine wpAnyH_take (i := 16) (v := ?_) (by simp only [List.getElem?_toArray, List.getElem?_cons_succ, List.getElem?_cons_zero]; rfl) (by kernel_rfl) (by kernel_rfl) (by kernel_rfl) (by exact fun _ _ _ h => h) (Or.inl ⟨by rfl, ?_⟩) (by assumption) ?_
  rotate_left
  · (intro _ hSw; (try dsimp only at hSw); go_simp; (try with_reducible rfl))
  try simp only [Act.put, List.setIfInBounds_toArray, List.set_cons_zero, List.set_cons_succ]
  refine wpAnyH_take (i := 17) (v := ?_) (by simp only [List.getElem?_toArray, List.getElem?_cons_succ, List.getElem?_cons_zero]; rfl) (by kernel_rfl) (by kernel_rfl) (by kernel_rfl) (by exact fun _ _ _ h => h) (Or.inl ⟨by rfl, ?_⟩) (by assumption) ?_
  rotate_left
  · (intro _ hSw; (try dsimp only at hSw); go_simp; (try with_reducible rfl))
  try simp only [Act.put, List.setIfInBounds_toArray, List.set_cons_zero, List.set_cons_succ]
  refine wpAnyH_done (by kernel_rfl) ?_ _
  clear hHeld
  go_wp2_with fail
  go_ret
  exact ⟨rfl, (HP2.out.sd HD.out.1.rl HD.out.1.nk).sx⟩
end Go.Proofs.YtkoaiibjahlnmabGreat
/- StorePlays: Commit. -/
namespace Go.Proofs.YtkoaiibjahlnmabGreat
open Go.RowKit Go.Maps Go.Sort Orl
set_option linter.unusedVariables false
set_option linter.unusedSimpArgs false

set_option maxRecDepth 10000 in
set_option maxHeartbeats 1000000 in
theorem plays_com {w0 : World} {X p r : Nat} {P B : Nat → Prop} {oK : Option Addr} {nK cK : Nat} {oL : Option Addr} {nL cL : Nat} {ks : List KV} {ls : List Mk} {s : St} {N : Nat} {w : World} (h : Sd w0 X p r P B oK nK cK oL nL cL ks ls s N w) (hN : N ≤ 400000000) (i : Nat) (y : Tx) (ap : Option Addr) (np cp : Nat) (ak : Option Addr) (nk ck : Nat) (now : Int) (hi : i < 18446744073709551616) (hok : (decide (65536 ≤ i) && tickB now) = true) :
    Calls Tryz.prog 7 #[.pointer (some ⟨X, 0, none⟩), .agg #[.int .i64 2, .int .u64 ((i : Nat) : Int), .string y, .slice ap np cp, .slice ak nk ck, .int .i64 now]] w fun e w' => e = .returned (.bool true) ∧ Hid (Sx w0 X (commitS s i now) N w') := by
  have HA : Hid (i < 18446744073709551616 ∧ 65536 ≤ i ∧ tickB now = true ∧ (decide (65536 ≤ i) && tickB now) = true) := ⟨hi, by simp only [Bool.and_eq_true, decide_eq_true_eq] at hok; exact hok.1, by simp only [Bool.and_eq_true] at hok; exact hok.2, hok⟩
  clear hi hok
  obtain ⟨P', hSd, hob, hpo, hbo⟩ := h.arg (.cells #[.int .i64 2, .int .u64 ((i : Nat) : Int), .string y, .slice ap np cp, .slice ak nk ck, .int .i64 now] 37)
  have HD : Hid (Sd w0 X p r P' B oK nK cK oL nL cL ks ls s N (w.alloc (.cells #[.int .i64 2, .int .u64 ((i : Nat) : Int), .string y, .slice ap np cp, .slice ak nk ck, .int .i64 now] 37)) ∧ (w.alloc (.cells #[.int .i64 2, .int .u64 ((i : Nat) : Int), .string y, .slice ap np cp, .slice ak nk ck, .int .i64 now] 37)).heap[w.heap.size]? = some (.cells #[.int .i64 2, .int .u64 ((i : Nat) : Int), .string y, .slice ap np cp, .slice ak nk ck, .int .i64 now] 37 (0, 0)) ∧ P' w.heap.size ∧ ¬ B w.heap.size) := ⟨hSd, hob, hpo, hbo⟩
  have HNN : Hid (N ≤ 800000000) := (show _ ≤ _ by omega)
  have HN4 : Hid (N ≤ 400000000) := hN
  clear h hSd hob hpo hbo hN
  go_enter Tryz.func7, Tryz.ntmps7
  go_wp2_with fail
  generalize w.alloc (.cells #[.int .i64 2, .int .u64 ((i : Nat) : Int), .string y, .slice ap np cp, .slice ak nk ck, .int .i64 now] 37) = W at HD ⊢
  generalize w.heap.size = O at HD ⊢
  have HDd : Hid (Sd w0 X p r P' B oK nK cK oL nL cL ks ls s N W.drew ∧ W.drew.heap[O]? = some (.cells #[.int .i64 2, .int .u64 ((i : Nat) : Int), .string y, .slice ap np cp, .slice ak nk ck, .int .i64 now] 37 (0, 0))) := ⟨HD.out.1.go ((Keeps.refl no W).drew), ((Keeps.refl no W).drew).at HD.out.2.1 id⟩
  have HSX : Hid (∀ Y : World, Y.heap[X]? = some (.cells #[.pointer (some ⟨p, 0, none⟩), .pointer (some ⟨r, 0, none⟩)] 30 (0, 0)) → Y.heap[O]? = some (.cells #[.int .i64 2, .int .u64 ((i : Nat) : Int), .string y, .slice ap np cp, .slice ak nk ck, .int .i64 now] 37 (0, 0)) → Y.cell? ⟨X, 0, none⟩ = some (.pointer (some ⟨p, 0, none⟩)) ∧ Y.cell? ⟨X, 1, none⟩ = some (.pointer (some ⟨r, 0, none⟩)) ∧ Y.cell? ⟨O, 1, none⟩ = some (.int .u64 ((i : Nat) : Int)) ∧ Y.cell? ⟨O, 2, none⟩ = some (.string y) ∧ Y.cell? ⟨O, 3, none⟩ = some (.slice ap np cp) ∧ Y.cell? ⟨O, 4, none⟩ = some (.slice ak nk ck) ∧ Y.cell? ⟨O, 5, none⟩ = some (.int .i64 now)) := fun Y h1 h2 => ⟨cell_of_blk h1 0, cell_of_blk h1 1, cell_of_blk h2 1, cell_of_blk h2 2, cell_of_blk h2 3, cell_of_blk h2 4, cell_of_blk h2 5⟩
  refine wp_region_held_drew (S := (fun Y => Y.cell? ⟨X, 0, none⟩ = some (.pointer (some ⟨p, 0, none⟩)) ∧ Y.cell? ⟨X, 1, none⟩ = some (.pointer (some ⟨r, 0, none⟩)) ∧ Y.cell? ⟨O, 1, none⟩ = some (.int .u64 ((i : Nat) : Int)) ∧ Y.cell? ⟨O, 2, none⟩ = some (.string y) ∧ Y.cell? ⟨O, 3, none⟩ = some (.slice ap np cp) ∧ Y.cell? ⟨O, 4, none⟩ = some (.slice ak nk ck) ∧ Y.cell? ⟨O, 5, none⟩ = some (.int .i64 now))) (by kernel_rfl) ?_ (fun hHeld => ?_)
  · first | exact HSX.out _ HD.out.1.x HD.out.2.1 | exact HSX.out _ HDd.out.1.x HDd.out.2
  refine wpAnyH_take (i := 0) (v := ?_) (by simp only [List.getElem?_toArray, List.getElem?_cons_succ, List.getElem?_cons_zero]; rfl) (by kernel_rfl) (by kernel_rfl) (by kernel_rfl) (by exact fun _ _ _ h => h) (Or.inl ⟨by rfl, ?_⟩) (by assumption) ?_
  rotate_left
  · (intro _ hSw; (try dsimp only at hSw); go_simp; (try with_reducible rfl))
  try simp only [Act.put, List.setIfInBounds_toArray, List.set_cons_zero, List.set_cons_succ]
  refine wpAnyH_take (i := 1) (v := ?_) (by simp only [List.getElem?_toArray, List.getElem?_cons_succ, List.getElem?_cons_zero]; rfl) (by kernel_rfl) (by kernel_rfl) (by kernel_rfl) (by exact fun _ _ _ h => h) (Or.inl ⟨by rfl, ?_⟩) (by assumption) ?_
  rotate_left
  · (intro _ hSw; (try dsimp only at hSw); go_simp; (try with_reducible rfl))
  try simp only [Act.put, List.setIfInBounds_toArray, List.set_cons_zero, List.set_cons_succ]
  refine wpAnyH_take (i := 2) (v := ?_) (by simp only [List.getElem?_toArray, List.getElem?_cons_succ, List.getElem?_cons_zero]; rfl) (by kernel_rfl) (by kernel_rfl) (by kernel_rfl) (by exact fun _ _ _ h => h) (Or.inl ⟨by rfl, ?_⟩) (by assumption) ?_
  rotate_left
  · (intro _ hSw; (try dsimp only at hSw); go_simp; (try with_reducible rfl))
  try simp only [Act.put, List.setIfInBounds_toArray, List.set_cons_zero, List.set_cons_succ]
  refine wpAnyH_take (i := 3) (v := ?_) (by simp only [List.getElem?_toArray, List.getElem?_cons_succ, List.getElem?_cons_zero]; rfl) (by kernel_rfl) (by kernel_rfl) (by kernel_rfl) (by exact fun _ _ _ h => h) (Or.inl ⟨by rfl, ?_⟩) (by assumption) ?_
  rotate_left
  · (intro _ hSw; (try dsimp only at hSw); go_simp; (try with_reducible rfl))
  try simp only [Act.put, List.setIfInBounds_toArray, List.set_cons_zero, List.set_cons_succ]
  refine wpAnyH_take (i := 4) (v := ?_) (by simp only [List.getElem?_toArray, List.getElem?_cons_succ, List.getElem?_cons_zero]; rfl) (by kernel_rfl) (by kernel_rfl) (by kernel_rfl) (by exact fun _ _ _ h => h) (Or.inl ⟨by rfl, ?_⟩) (by assumption) ?_
  rotate_left
  · (intro _ hSw; (try dsimp only at hSw); go_simp; (try with_reducible rfl))
  try simp only [Act.put, List.setIfInBounds_toArray, List.set_cons_zero, List.set_cons_succ]
  refine wpAnyH_take (i := 5) (v := ?_) (by simp only [List.getElem?_toArray, List.getElem?_cons_succ, List.getElem?_cons_zero]; rfl) (by kernel_rfl) (by kernel_rfl) (by kernel_rfl) (by exact fun _ _ _ h => h) (Or.inl ⟨by rfl, ?_⟩) (by assumption) ?_
  rotate_left
  · (intro _ hSw; (try dsimp only at hSw); go_simp; (try with_reducible rfl))
  try simp only [Act.put, List.setIfInBounds_toArray, List.set_cons_zero, List.set_cons_succ]
  refine wpAnyH_take (i := 6) (v := ?_) (by simp only [List.getElem?_toArray, List.getElem?_cons_succ, List.getElem?_cons_zero]; rfl) (by kernel_rfl) (by kernel_rfl) (by kernel_rfl) (by exact fun _ _ _ h => h) (Or.inl ⟨by rfl, ?_⟩) (by assumption) ?_
  rotate_left
  · (intro _ hSw; (try dsimp only at hSw); go_simp; (try with_reducible rfl))
  try simp only [Act.put, List.setIfInBounds_toArray, List.set_cons_zero, List.set_cons_succ]
  refine wpAnyH_take (i := 7) (v := ?_) (by simp only [List.getElem?_toArray, List.getElem?_cons_succ, List.getElem?_cons_zero]; rfl) (by kernel_rfl) (by kernel_rfl) (by kernel_rfl) (by exact fun _ _ _ h => h) (Or.inl ⟨by rfl, ?_⟩) (by assumption) ?_
  rotate_left
  · (intro _ hSw; (try dsimp only at hSw); go_simp; (try with_reducible rfl))
  try simp only [Act.put, List.setIfInBounds_toArray, List.set_cons_zero, List.set_cons_succ]
  refine wpAnyH_ready (rs := [8]) (by kernel_rfl) (by simp) ?_
  refine AllReadyH.cons (by simp only [List.getElem?_toArray, List.getElem?_cons_succ, List.getElem?_cons_zero]; rfl) (fun Kq hKq => ?_) AllReadyH.nil
  (go_simp; refine (HDd.out.1.ow.commit i now HA.out.1 HA.out.2.1 HA.out.2.2.1 (by have := HNN.out; omega)).mono ?_; rintro e z1 ⟨n, rfl, hc, h1⟩; have hcn := HD.out.1.rl.count hc.out; have HP1 : Hid (Sp w0 X p r P' B oK nK cK oL nL cL ks ls (commitS s i now) N z1) := HDd.out.1.prog h1.out.1 h1.out.2; have HO1 : Hid (z1.heap[O]? = some (.cells #[.int .i64 2, .int .u64 ((i : Nat) : Int), .string y, .slice ap np cp, .slice ak nk ck, .int .i64 now] 37 (0, 0))) := h1.out.2.at HDd.out.2 (fun hn => hn HD.out.2.2.1); have HCN : Hid (hasC ks i = n) := hcn.symm; clear h1 hc hcn)
  refine hKq.out _ _ ?_ (fun hHeldN => ?_)
  · exact HSX.out _ HP1.out.x HO1.out
  clear hKq Kq hHeld
  have hHeld := hHeldN
  clear hHeldN
  refine wpAnyH_take (i := 9) (v := ?_) (by simp only [List.getElem?_toArray, List.getElem?_cons_succ, List.getElem?_cons_zero]; rfl) (by kernel_rfl) (by kernel_rfl) (by kernel_rfl) (by exact fun _ _ _ h => h) (Or.inl ⟨by rfl, ?_⟩) (by assumption) ?_
  rotate_left
  · (intro _ hSw; (try dsimp only at hSw); go_simp; (try with_reducible rfl))
  try simp only [Act.put, List.setIfInBounds_toArray, List.set_cons_zero, List.set_cons_succ]
  refine wpAnyH_take (i := 10) (v := ?_) (by simp only [List.getElem?_toArray, List.getElem?_cons_succ, List.getElem?_cons_zero]; rfl) (by kernel_rfl) (by kernel_rfl) (by kernel_rfl) (by exact fun _ _ _ h => h) (Or.inl ⟨by rfl, ?_⟩) (by assumption) ?_
  rotate_left
  · (intro _ hSw; (try dsimp only at hSw); go_simp; (try with_reducible rfl))
  try simp only [Act.put, List.setIfInBounds_toArray, List.set_cons_zero, List.set_cons_succ]
  refine wpAnyH_take (i := 11) (v := ?_) (by simp only [List.getElem?_toArray, List.getElem?_cons_succ, List.getElem?_cons_zero]; rfl) (by kernel_rfl) (by kernel_rfl) (by kernel_rfl) (by exact fun _ _ _ h => h) (Or.inl ⟨by rfl, ?_⟩) (by assumption) ?_
  rotate_left
  · (intro _ hSw; (try dsimp only at hSw); go_simp; (try with_reducible rfl))
  try simp only [Act.put, List.setIfInBounds_toArray, List.set_cons_zero, List.set_cons_succ]
  refine wpAnyH_take (i := 12) (v := ?_) (by simp only [List.getElem?_toArray, List.getElem?_cons_succ, List.getElem?_cons_zero]; rfl) (by kernel_rfl) (by kernel_rfl) (by kernel_rfl) (by exact fun _ _ _ h => h) (Or.inl ⟨by rfl, ?_⟩) (by assumption) ?_
  rotate_left
  · (intro _ hSw; (try dsimp only at hSw); go_simp; (try with_reducible rfl))
  try simp only [Act.put, List.setIfInBounds_toArray, List.set_cons_zero, List.set_cons_succ]
  refine wpAnyH_take (i := 13) (v := ?_) (by simp only [List.getElem?_toArray, List.getElem?_cons_succ, List.getElem?_cons_zero]; rfl) (by kernel_rfl) (by kernel_rfl) (by kernel_rfl) (by exact fun _ _ _ h => h) (Or.inl ⟨by rfl, ?_⟩) (by assumption) ?_
  rotate_left
  · (intro _ hSw; (try dsimp only at hSw); go_simp; (try with_reducible rfl))
  try simp only [Act.put, List.setIfInBounds_toArray, List.set_cons_zero, List.set_cons_succ]
  refine wpAnyH_done (by kernel_rfl) ?_ _
  clear hHeld
  have HP1d : Hid (Sp w0 X p r P' B oK nK cK oL nL cL ks ls (commitS s i now) N z1.drew) := HP1.out.go ((Keeps.refl no z1).drew)
  have HO1d : Hid (z1.drew.heap[O]? = some (.cells #[.int .i64 2, .int .u64 ((i : Nat) : Int), .string y, .slice ap np cp, .slice ak nk ck, .int .i64 now] 37 (0, 0))) := ((Keeps.refl no z1).drew).at HO1.out id
  go_wp2_with fail
  refine wp_region_held_drew (S := (fun Y => Y.cell? ⟨X, 0, none⟩ = some (.pointer (some ⟨p, 0, none⟩)) ∧ Y.cell? ⟨X, 1, none⟩ = some (.pointer (some ⟨r, 0, none⟩)) ∧ Y.cell? ⟨O, 1, none⟩ = some (.int .u64 ((i : Nat) : Int)) ∧ Y.cell? ⟨O, 2, none⟩ = some (.string y) ∧ Y.cell? ⟨O, 3, none⟩ = some (.slice ap np cp) ∧ Y.cell? ⟨O, 4, none⟩ = some (.slice ak nk ck) ∧ Y.cell? ⟨O, 5, none⟩ = some (.int .i64 now))) (by kernel_rfl) ?_ (fun hHeld => ?_)
  · first | exact HSX.out _ HP1.out.x HO1.out | exact HSX.out _ HP1d.out.x HO1d.out
  refine wpAnyH_take (i := 0) (v := ?_) (by simp only [List.getElem?_toArray, List.getElem?_cons_succ, List.getElem?_cons_zero]; rfl) (by kernel_rfl) (by kernel_rfl) (by kernel_rfl) (by exact fun _ _ _ h => h) (Or.inl ⟨by rfl, ?_⟩) (by assumption) ?_
  rotate_left
  · (intro _ hSw; (try dsimp only at hSw); go_simp; (try with_reducible rfl))
  try simp only [Act.put, List.setIfInBounds_toArray, List.set_cons_zero, List.set_cons_succ]
  refine wpAnyH_take (i := 1) (v := ?_) (by simp only [List.getElem?_toArray, List.getElem?_cons_succ, List.getElem?_cons_zero]; rfl) (by kernel_rfl) (by kernel_rfl) (by kernel_rfl) (by exact fun _ _ _ h => h) (Or.inl ⟨by rfl, ?_⟩) (by assumption) ?_
  rotate_left
  · (intro _ hSw; (try dsimp only at hSw); go_simp; (try with_reducible rfl))
  try simp only [Act.put, List.setIfInBounds_toArray, List.set_cons_zero, List.set_cons_succ]
  refine wpAnyH_take (i := 2) (v := ?_) (by simp only [List.getElem?_toArray, List.getElem?_cons_succ, List.getElem?_cons_zero]; rfl) (by kernel_rfl) (by kernel_rfl) (by kernel_rfl) (by exact fun _ _ _ h => h) (Or.inl ⟨by rfl, ?_⟩) (by assumption) ?_
  rotate_left
  · (intro _ hSw; (try dsimp only at hSw); go_simp; (try with_reducible rfl))
  try simp only [Act.put, List.setIfInBounds_toArray, List.set_cons_zero, List.set_cons_succ]
  refine wpAnyH_take (i := 3) (v := ?_) (by simp only [List.getElem?_toArray, List.getElem?_cons_succ, List.getElem?_cons_zero]; rfl) (by kernel_rfl) (by kernel_rfl) (by kernel_rfl) (by exact fun _ _ _ h => h) (Or.inl ⟨by rfl, ?_⟩) (by assumption) ?_
  rotate_left
  · (intro _ hSw; (try dsimp only at hSw); go_simp; (try with_reducible rfl))
  try simp only [Act.put, List.setIfInBounds_toArray, List.set_cons_zero, List.set_cons_succ]
  refine wpAnyH_take (i := 4) (v := ?_) (by simp only [List.getElem?_toArray, List.getElem?_cons_succ, List.getElem?_cons_zero]; rfl) (by kernel_rfl) (by kernel_rfl) (by kernel_rfl) (by exact fun _ _ _ h => h) (Or.inl ⟨by rfl, ?_⟩) (by assumption) ?_
  rotate_left
  · (intro _ hSw; (try dsimp only at hSw); go_simp; (try with_reducible rfl))
  try simp only [Act.put, List.setIfInBounds_toArray, List.set_cons_zero, List.set_cons_succ]
  refine wpAnyH_take (i := 5) (v := ?_) (by simp only [List.getElem?_toArray, List.getElem?_cons_succ, List.getElem?_cons_zero]; rfl) (by kernel_rfl) (by kernel_rfl) (by kernel_rfl) (by exact fun _ _ _ h => h) (Or.inl ⟨by rfl, ?_⟩) (by assumption) ?_
  rotate_left
  · (intro _ hSw; (try dsimp only at hSw); go_simp; (try with_reducible rfl))
  try simp only [Act.put, List.setIfInBounds_toArray, List.set_cons_zero, List.set_cons_succ]
  refine wpAnyH_take (i := 6) (v := ?_) (by simp only [List.getElem?_toArray, List.getElem?_cons_succ, List.getElem?_cons_zero]; rfl) (by kernel_rfl) (by kernel_rfl) (by kernel_rfl) (by exact fun _ _ _ h => h) (Or.inl ⟨by rfl, ?_⟩) (by assumption) ?_
  rotate_left
  · (intro _ hSw; (try dsimp only at hSw); go_simp; (try with_reducible rfl))
  try simp only [Act.put, List.setIfInBounds_toArray, List.set_cons_zero, List.set_cons_succ]
  refine wpAnyH_take (i := 7) (v := ?_) (by simp only [List.getElem?_toArray, List.getElem?_cons_succ, List.getElem?_cons_zero]; rfl) (by kernel_rfl) (by kernel_rfl) (by kernel_rfl) (by exact fun _ _ _ h => h) (Or.inl ⟨by rfl, ?_⟩) (by assumption) ?_
  rotate_left
  · (intro _ hSw; (try dsimp only at hSw); go_simp; (try with_reducible rfl))
  try simp only [Act.put, List.setIfInBounds_toArray, List.set_cons_zero, List.set_cons_succ]
  refine wpAnyH_ready (rs := [8]) (by kernel_rfl) (by simp) ?_
  refine AllReadyH.cons (by simp only [List.getElem?_toArray, List.getElem?_cons_succ, List.getElem?_cons_zero]; rfl) (fun Kq hKq => ?_) AllReadyH.nil
  (go_simp; refine (rCommit_good B z1.drew r oK nK cK oL nL cL ks ls HP1d.out.ro i now HA.out.2.2.2 (by have q1 := HD.out.1.nk; have q2 := HNN.out; have q3 := HD.out.1.rl.len HD.out.1.ow.ok; have q4 : N ≤ 400000000 := HN4.out; omega)).mono ?_; rintro e z2 ⟨rfl, h2⟩; rw [HCN.out]; have HZ : Hid (Sx w0 X (commitS s i now) N z2) := (by obtain ⟨P3, B3, a1, a2, a3, a4, a5, a6, hh⟩ := HP1d.out.doc h2.out (HD.out.1.rl.com HD.out.1.ow.ok i (by have := HA.out.2.1; omega) now) (by rw [List.length_map]; exact HD.out.1.nk); exact hh.sx); have HX2 : Hid (z2.heap[X]? = some (.cells #[.pointer (some ⟨p, 0, none⟩), .pointer (some ⟨r, 0, none⟩)] 30 (0, 0))) := h2.out.2.at HP1d.out.x HP1d.out.bx; have HO2 : Hid (z2.heap[O]? = some (.cells #[.int .i64 2, .int .u64 ((i : Nat) : Int), .string y, .slice ap np cp, .slice ak nk ck, .int .i64 now] 37 (0, 0))) := h2.out.2.at HO1d.out HD.out.2.2.2; clear h2)
  refine hKq.out _ _ ?_ (fun hHeldN => ?_)
  · exact HSX.out _ HX2.out HO2.out
  clear hKq Kq hHeld
  have hHeld := hHeldN
  clear hHeldN
  refine wpAnyH_take (i := 9) (v := ?_) (by simp only [List.getElem?_toArray, List.getElem?_cons_succ, List.getElem?_cons_zero]; rfl) (by kernel_rfl) (by kernel_rfl) (by kernel_rfl) (by exact fun _ _ _ h => h) (Or.inl ⟨by rfl, ?_⟩) (by assumption) ?_
  rotate_left
  · (intro _ hSw; (try dsimp only at hSw); go_simp; (try with_reducible rfl))
  try simp only [Act.put, List.setIfInBounds_toArray, List.set_cons_zero, List.set_cons_succ]
  refine wpAnyH_take (i := 10) (v := ?_) (by simp only [List.getElem?_toArray, List.getElem?_cons_succ, List.getElem?_cons_zero]; rfl) (by kernel_rfl) (by kernel_rfl) (by kernel_rfl) (by exact fun _ _ _ h => h) (Or.inl ⟨by rfl, ?_⟩) (by assumption) ?_
  rotate_left
  · (intro _ hSw; (try dsimp only at hSw); go_simp; (try with_reducible rfl))
  try simp only [Act.put, List.setIfInBounds_toArray, List.set_cons_zero, List.set_cons_succ]
  refine wpAnyH_take (i := 11) (v := ?_) (by simp only [List.getElem?_toArray, List.getElem?_cons_succ, List.getElem?_cons_zero]; rfl) (by kernel_rfl) (by kernel_rfl) (by kernel_rfl) (by exact fun _ _ _ h => h) (Or.inl ⟨by rfl, ?_⟩) (by assumption) ?_
  rotate_left
  · (intro _ hSw; (try dsimp only at hSw); go_simp; (try with_reducible rfl))
  try simp only [Act.put, List.setIfInBounds_toArray, List.set_cons_zero, List.set_cons_succ]
  refine wpAnyH_take (i := 12) (v := ?_) (by simp only [List.getElem?_toArray, List.getElem?_cons_succ, List.getElem?_cons_zero]; rfl) (by kernel_rfl) (by kernel_rfl) (by kernel_rfl) (by exact fun _ _ _ h => h) (Or.inl ⟨by rfl, ?_⟩) (by assumption) ?_
  rotate_left
  · (intro _ hSw; (try dsimp only at hSw); go_simp; (try with_reducible rfl))
  try simp only [Act.put, List.setIfInBounds_toArray, List.set_cons_zero, List.set_cons_succ]
  refine wpAnyH_take (i := 13) (v := ?_) (by simp only [List.getElem?_toArray, List.getElem?_cons_succ, List.getElem?_cons_zero]; rfl) (by kernel_rfl) (by kernel_rfl) (by kernel_rfl) (by exact fun _ _ _ h => h) (Or.inl ⟨by rfl, ?_⟩) (by assumption) ?_
  rotate_left
  · (intro _ hSw; (try dsimp only at hSw); go_simp; (try with_reducible rfl))
  try simp only [Act.put, List.setIfInBounds_toArray, List.set_cons_zero, List.set_cons_succ]
  refine wpAnyH_done (by kernel_rfl) ?_ _
  clear hHeld
  go_wp2_with fail
  go_ret
  exact ⟨rfl, HZ.out⟩
set_option maxRecDepth 10000 in
set_option maxHeartbeats 1000000 in
theorem plays_comb {w0 : World} {X p r : Nat} {P B : Nat → Prop} {oK : Option Addr} {nK cK : Nat} {oL : Option Addr} {nL cL : Nat} {ks : List KV} {ls : List Mk} {s : St} {N : Nat} {w : World} (h : Sd w0 X p r P B oK nK cK oL nL cL ks ls s N w) (hN : N ≤ 800000000) (i : Nat) (y : Tx) (ap : Option Addr) (np cp : Nat) (ak : Option Addr) (nk ck : Nat) (now : Int) (hi : i < 18446744073709551616) (hok : (decide (65536 ≤ i) && tickB now) = false) :
    Calls Tryz.prog 7 #[.pointer (some ⟨X, 0, none⟩), .agg #[.int .i64 2, .int .u64 ((i : Nat) : Int), .string y, .slice ap np cp, .slice ak nk ck, .int .i64 now]] w fun e w' => e = .returned (.bool true) ∧ Hid (Sx w0 X s N w') := by
  have HA : Hid (i < 18446744073709551616 ∧ (decide (65536 ≤ i) && tickB now) = false) := ⟨hi, hok⟩
  clear hi hok
  obtain ⟨P', hSd, hob, hpo, hbo⟩ := h.arg (.cells #[.int .i64 2, .int .u64 ((i : Nat) : Int), .string y, .slice ap np cp, .slice ak nk ck, .int .i64 now] 37)
  have HD : Hid (Sd w0 X p r P' B oK nK cK oL nL cL ks ls s N (w.alloc (.cells #[.int .i64 2, .int .u64 ((i : Nat) : Int), .string y, .slice ap np cp, .slice ak nk ck, .int .i64 now] 37)) ∧ (w.alloc (.cells #[.int .i64 2, .int .u64 ((i : Nat) : Int), .string y, .slice ap np cp, .slice ak nk ck, .int .i64 now] 37)).heap[w.heap.size]? = some (.cells #[.int .i64 2, .int .u64 ((i : Nat) : Int), .string y, .slice ap np cp, .slice ak nk ck, .int .i64 now] 37 (0, 0)) ∧ P' w.heap.size ∧ ¬ B w.heap.size) := ⟨hSd, hob, hpo, hbo⟩
  have HNN : Hid (N ≤ 800000000) := hN
  clear h hSd hob hpo hbo hN
  go_enter Tryz.func7, Tryz.ntmps7
  go_wp2_with fail
  generalize w.alloc (.cells #[.int .i64 2, .int .u64 ((i : Nat) : Int), .string y, .slice ap np cp, .slice ak nk ck, .int .i64 now] 37) = W at HD ⊢
  generalize w.heap.size = O at HD ⊢
  have HDd : Hid (Sd w0 X p r P' B oK nK cK oL nL cL ks ls s N W.drew ∧ W.drew.heap[O]? = some (.cells #[.int .i64 2, .int .u64 ((i : Nat) : Int), .string y, .slice ap np cp, .slice ak nk ck, .int .i64 now] 37 (0, 0))) := ⟨HD.out.1.go ((Keeps.refl no W).drew), ((Keeps.refl no W).drew).at HD.out.2.1 id⟩
  have HSX : Hid (∀ Y : World, Y.heap[X]? = some (.cells #[.pointer (some ⟨p, 0, none⟩), .pointer (some ⟨r, 0, none⟩)] 30 (0, 0)) → Y.heap[O]? = some (.cells #[.int .i64 2, .int .u64 ((i : Nat) : Int), .string y, .slice ap np cp, .slice ak nk ck, .int .i64 now] 37 (0, 0)) → Y.cell? ⟨X, 0, none⟩ = some (.pointer (some ⟨p, 0, none⟩)) ∧ Y.cell? ⟨X, 1, none⟩ = some (.pointer (some ⟨r, 0, none⟩)) ∧ Y.cell? ⟨O, 1, none⟩ = some (.int .u64 ((i : Nat) : Int)) ∧ Y.cell? ⟨O, 2, none⟩ = some (.string y) ∧ Y.cell? ⟨O, 3, none⟩ = some (.slice ap np cp) ∧ Y.cell? ⟨O, 4, none⟩ = some (.slice ak nk ck) ∧ Y.cell? ⟨O, 5, none⟩ = some (.int .i64 now)) := fun Y h1 h2 => ⟨cell_of_blk h1 0, cell_of_blk h1 1, cell_of_blk h2 1, cell_of_blk h2 2, cell_of_blk h2 3, cell_of_blk h2 4, cell_of_blk h2 5⟩
  refine wp_region_held_drew (S := (fun Y => Y.cell? ⟨X, 0, none⟩ = some (.pointer (some ⟨p, 0, none⟩)) ∧ Y.cell? ⟨X, 1, none⟩ = some (.pointer (some ⟨r, 0, none⟩)) ∧ Y.cell? ⟨O, 1, none⟩ = some (.int .u64 ((i : Nat) : Int)) ∧ Y.cell? ⟨O, 2, none⟩ = some (.string y) ∧ Y.cell? ⟨O, 3, none⟩ = some (.slice ap np cp) ∧ Y.cell? ⟨O, 4, none⟩ = some (.slice ak nk ck) ∧ Y.cell? ⟨O, 5, none⟩ = some (.int .i64 now))) (by kernel_rfl) ?_ (fun hHeld => ?_)
  · first | exact HSX.out _ HD.out.1.x HD.out.2.1 | exact HSX.out _ HDd.out.1.x HDd.out.2
  refine wpAnyH_take (i := 0) (v := ?_) (by simp only [List.getElem?_toArray, List.getElem?_cons_succ, List.getElem?_cons_zero]; rfl) (by kernel_rfl) (by kernel_rfl) (by kernel_rfl) (by exact fun _ _ _ h => h) (Or.inl ⟨by rfl, ?_⟩) (by assumption) ?_
  rotate_left
  · (intro _ hSw; (try dsimp only at hSw); go_simp; (try with_reducible rfl))
  try simp only [Act.put, List.setIfInBounds_toArray, List.set_cons_zero, List.set_cons_succ]
  refine wpAnyH_take (i := 1) (v := ?_) (by simp only [List.getElem?_toArray, List.getElem?_cons_succ, List.getElem?_cons_zero]; rfl) (by kernel_rfl) (by kernel_rfl) (by kernel_rfl) (by exact fun _ _ _ h => h) (Or.inl ⟨by rfl, ?_⟩) (by assumption) ?_
  rotate_left
  · (intro _ hSw; (try dsimp only at hSw); go_simp; (try with_reducible rfl))
  try simp only [Act.put, List.setIfInBounds_toArray, List.set_cons_zero, List.set_cons_succ]
  refine wpAnyH_take (i := 2) (v := ?_) (by simp only [List.getElem?_toArray, List.getElem?_cons_succ, List.getElem?_cons_zero]; rfl) (by kernel_rfl) (by kernel_rfl) (by kernel_rfl) (by exact fun _ _ _ h => h) (Or.inl ⟨by rfl, ?_⟩) (by assumption) ?_
  rotate_left
  · (intro _ hSw; (try dsimp only at hSw); go_simp; (try with_reducible rfl))
  try simp only [Act.put, List.setIfInBounds_toArray, List.set_cons_zero, List.set_cons_succ]
  refine wpAnyH_take (i := 3) (v := ?_) (by simp only [List.getElem?_toArray, List.getElem?_cons_succ, List.getElem?_cons_zero]; rfl) (by kernel_rfl) (by kernel_rfl) (by kernel_rfl) (by exact fun _ _ _ h => h) (Or.inl ⟨by rfl, ?_⟩) (by assumption) ?_
  rotate_left
  · (intro _ hSw; (try dsimp only at hSw); go_simp; (try with_reducible rfl))
  try simp only [Act.put, List.setIfInBounds_toArray, List.set_cons_zero, List.set_cons_succ]
  refine wpAnyH_take (i := 4) (v := ?_) (by simp only [List.getElem?_toArray, List.getElem?_cons_succ, List.getElem?_cons_zero]; rfl) (by kernel_rfl) (by kernel_rfl) (by kernel_rfl) (by exact fun _ _ _ h => h) (Or.inl ⟨by rfl, ?_⟩) (by assumption) ?_
  rotate_left
  · (intro _ hSw; (try dsimp only at hSw); go_simp; (try with_reducible rfl))
  try simp only [Act.put, List.setIfInBounds_toArray, List.set_cons_zero, List.set_cons_succ]
  refine wpAnyH_take (i := 5) (v := ?_) (by simp only [List.getElem?_toArray, List.getElem?_cons_succ, List.getElem?_cons_zero]; rfl) (by kernel_rfl) (by kernel_rfl) (by kernel_rfl) (by exact fun _ _ _ h => h) (Or.inl ⟨by rfl, ?_⟩) (by assumption) ?_
  rotate_left
  · (intro _ hSw; (try dsimp only at hSw); go_simp; (try with_reducible rfl))
  try simp only [Act.put, List.setIfInBounds_toArray, List.set_cons_zero, List.set_cons_succ]
  refine wpAnyH_take (i := 6) (v := ?_) (by simp only [List.getElem?_toArray, List.getElem?_cons_succ, List.getElem?_cons_zero]; rfl) (by kernel_rfl) (by kernel_rfl) (by kernel_rfl) (by exact fun _ _ _ h => h) (Or.inl ⟨by rfl, ?_⟩) (by assumption) ?_
  rotate_left
  · (intro _ hSw; (try dsimp only at hSw); go_simp; (try with_reducible rfl))
  try simp only [Act.put, List.setIfInBounds_toArray, List.set_cons_zero, List.set_cons_succ]
  refine wpAnyH_take (i := 7) (v := ?_) (by simp only [List.getElem?_toArray, List.getElem?_cons_succ, List.getElem?_cons_zero]; rfl) (by kernel_rfl) (by kernel_rfl) (by kernel_rfl) (by exact fun _ _ _ h => h) (Or.inl ⟨by rfl, ?_⟩) (by assumption) ?_
  rotate_left
  · (intro _ hSw; (try dsimp only at hSw); go_simp; (try with_reducible rfl))
  try simp only [Act.put, List.setIfInBounds_toArray, List.set_cons_zero, List.set_cons_succ]
  refine wpAnyH_ready (rs := [8]) (by kernel_rfl) (by simp) ?_
  refine AllReadyH.cons (by simp only [List.getElem?_toArray, List.getElem?_cons_succ, List.getElem?_cons_zero]; rfl) (fun Kq hKq => ?_) AllReadyH.nil
  (go_simp; refine (commit_bad W.drew _ i now HA.out.1 HA.out.2).mono ?_; rintro e z1 ⟨rfl, h1⟩; have HP1 : Hid (Sp w0 X p r P' B oK nK cK oL nL cL ks ls s N z1) := (by rw [h1]; exact HDd.out.1.sp); have HO1 : Hid (z1.heap[O]? = some (.cells #[.int .i64 2, .int .u64 ((i : Nat) : Int), .string y, .slice ap np cp, .slice ak nk ck, .int .i64 now] 37 (0, 0))) := (by rw [h1]; exact HDd.out.2); clear h1)
  refine hKq.out _ _ ?_ (fun hHeldN => ?_)
  · exact HSX.out _ HP1.out.x HO1.out
  clear hKq Kq hHeld
  have hHeld := hHeldN
  clear hHeldN
  refine wpAnyH_take (i := 9) (v := ?_) (by simp only [List.getElem?_toArray, List.getElem?_cons_succ, List.getElem?_cons_zero]; rfl) (by kernel_rfl) (by kernel_rfl) (by kernel_rfl) (by exact fun _ _ _ h => h) (Or.inl ⟨by rfl, ?_⟩) (by assumption) ?_
  rotate_left
  · (intro _ hSw; (try dsimp only at hSw); go_simp; (try with_reducible rfl))
  try simp only [Act.put, List.setIfInBounds_toArray, List.set_cons_zero, List.set_cons_succ]
  refine wpAnyH_take (i := 10) (v := ?_) (by simp only [List.getElem?_toArray, List.getElem?_cons_succ, List.getElem?_cons_zero]; rfl) (by kernel_rfl) (by kernel_rfl) (by kernel_rfl) (by exact fun _ _ _ h => h) (Or.inl ⟨by rfl, ?_⟩) (by assumption) ?_
  rotate_left
  · (intro _ hSw; (try dsimp only at hSw); go_simp; (try with_reducible rfl))
  try simp only [Act.put, List.setIfInBounds_toArray, List.set_cons_zero, List.set_cons_succ]
  refine wpAnyH_take (i := 11) (v := ?_) (by simp only [List.getElem?_toArray, List.getElem?_cons_succ, List.getElem?_cons_zero]; rfl) (by kernel_rfl) (by kernel_rfl) (by kernel_rfl) (by exact fun _ _ _ h => h) (Or.inl ⟨by rfl, ?_⟩) (by assumption) ?_
  rotate_left
  · (intro _ hSw; (try dsimp only at hSw); go_simp; (try with_reducible rfl))
  try simp only [Act.put, List.setIfInBounds_toArray, List.set_cons_zero, List.set_cons_succ]
  refine wpAnyH_take (i := 12) (v := ?_) (by simp only [List.getElem?_toArray, List.getElem?_cons_succ, List.getElem?_cons_zero]; rfl) (by kernel_rfl) (by kernel_rfl) (by kernel_rfl) (by exact fun _ _ _ h => h) (Or.inl ⟨by rfl, ?_⟩) (by assumption) ?_
  rotate_left
  · (intro _ hSw; (try dsimp only at hSw); go_simp; (try with_reducible rfl))
  try simp only [Act.put, List.setIfInBounds_toArray, List.set_cons_zero, List.set_cons_succ]
  refine wpAnyH_take (i := 13) (v := ?_) (by simp only [List.getElem?_toArray, List.getElem?_cons_succ, List.getElem?_cons_zero]; rfl) (by kernel_rfl) (by kernel_rfl) (by kernel_rfl) (by exact fun _ _ _ h => h) (Or.inl ⟨by rfl, ?_⟩) (by assumption) ?_
  rotate_left
  · (intro _ hSw; (try dsimp only at hSw); go_simp; (try with_reducible rfl))
  try simp only [Act.put, List.setIfInBounds_toArray, List.set_cons_zero, List.set_cons_succ]
  refine wpAnyH_done (by kernel_rfl) ?_ _
  clear hHeld
  have HP1d : Hid (Sp w0 X p r P' B oK nK cK oL nL cL ks ls s N z1.drew) := HP1.out.go ((Keeps.refl no z1).drew)
  have HO1d : Hid (z1.drew.heap[O]? = some (.cells #[.int .i64 2, .int .u64 ((i : Nat) : Int), .string y, .slice ap np cp, .slice ak nk ck, .int .i64 now] 37 (0, 0))) := ((Keeps.refl no z1).drew).at HO1.out id
  go_wp2_with fail
  refine wp_region_held_drew (S := (fun Y => Y.cell? ⟨X, 0, none⟩ = some (.pointer (some ⟨p, 0, none⟩)) ∧ Y.cell? ⟨X, 1, none⟩ = some (.pointer (some ⟨r, 0, none⟩)) ∧ Y.cell? ⟨O, 1, none⟩ = some (.int .u64 ((i : Nat) : Int)) ∧ Y.cell? ⟨O, 2, none⟩ = some (.string y) ∧ Y.cell? ⟨O, 3, none⟩ = some (.slice ap np cp) ∧ Y.cell? ⟨O, 4, none⟩ = some (.slice ak nk ck) ∧ Y.cell? ⟨O, 5, none⟩ = some (.int .i64 now))) (by kernel_rfl) ?_ (fun hHeld => ?_)
  · first | exact HSX.out _ HP1.out.x HO1.out | exact HSX.out _ HP1d.out.x HO1d.out
  refine wpAnyH_take (i := 0) (v := ?_) (by simp only [List.getElem?_toArray, List.getElem?_cons_succ, List.getElem?_cons_zero]; rfl) (by kernel_rfl) (by kernel_rfl) (by kernel_rfl) (by exact fun _ _ _ h => h) (Or.inl ⟨by rfl, ?_⟩) (by assumption) ?_
  rotate_left
  · (intro _ hSw; (try dsimp only at hSw); go_simp; (try with_reducible rfl))
  try simp only [Act.put, List.setIfInBounds_toArray, List.set_cons_zero, List.set_cons_succ]
  refine wpAnyH_take (i := 1) (v := ?_) (by simp only [List.getElem?_toArray, List.getElem?_cons_succ, List.getElem?_cons_zero]; rfl) (by kernel_rfl) (by kernel_rfl) (by kernel_rfl) (by exact fun _ _ _ h => h) (Or.inl ⟨by rfl, ?_⟩) (by assumption) ?_
  rotate_left
  · (intro _ hSw; (try dsimp only at hSw); go_simp; (try with_reducible rfl))
  try simp only [Act.put, List.setIfInBounds_toArray, List.set_cons_zero, List.set_cons_succ]
  refine wpAnyH_take (i := 2) (v := ?_) (by simp only [List.getElem?_toArray, List.getElem?_cons_succ, List.getElem?_cons_zero]; rfl) (by kernel_rfl) (by kernel_rfl) (by kernel_rfl) (by exact fun _ _ _ h => h) (Or.inl ⟨by rfl, ?_⟩) (by assumption) ?_
  rotate_left
  · (intro _ hSw; (try dsimp only at hSw); go_simp; (try with_reducible rfl))
  try simp only [Act.put, List.setIfInBounds_toArray, List.set_cons_zero, List.set_cons_succ]
  refine wpAnyH_take (i := 3) (v := ?_) (by simp only [List.getElem?_toArray, List.getElem?_cons_succ, List.getElem?_cons_zero]; rfl) (by kernel_rfl) (by kernel_rfl) (by kernel_rfl) (by exact fun _ _ _ h => h) (Or.inl ⟨by rfl, ?_⟩) (by assumption) ?_
  rotate_left
  · (intro _ hSw; (try dsimp only at hSw); go_simp; (try with_reducible rfl))
  try simp only [Act.put, List.setIfInBounds_toArray, List.set_cons_zero, List.set_cons_succ]
  refine wpAnyH_take (i := 4) (v := ?_) (by simp only [List.getElem?_toArray, List.getElem?_cons_succ, List.getElem?_cons_zero]; rfl) (by kernel_rfl) (by kernel_rfl) (by kernel_rfl) (by exact fun _ _ _ h => h) (Or.inl ⟨by rfl, ?_⟩) (by assumption) ?_
  rotate_left
  · (intro _ hSw; (try dsimp only at hSw); go_simp; (try with_reducible rfl))
  try simp only [Act.put, List.setIfInBounds_toArray, List.set_cons_zero, List.set_cons_succ]
  refine wpAnyH_take (i := 5) (v := ?_) (by simp only [List.getElem?_toArray, List.getElem?_cons_succ, List.getElem?_cons_zero]; rfl) (by kernel_rfl) (by kernel_rfl) (by kernel_rfl) (by exact fun _ _ _ h => h) (Or.inl ⟨by rfl, ?_⟩) (by assumption) ?_
  rotate_left
  · (intro _ hSw; (try dsimp only at hSw); go_simp; (try with_reducible rfl))
  try simp only [Act.put, List.setIfInBounds_toArray, List.set_cons_zero, List.set_cons_succ]
  refine wpAnyH_take (i := 6) (v := ?_) (by simp only [List.getElem?_toArray, List.getElem?_cons_succ, List.getElem?_cons_zero]; rfl) (by kernel_rfl) (by kernel_rfl) (by kernel_rfl) (by exact fun _ _ _ h => h) (Or.inl ⟨by rfl, ?_⟩) (by assumption) ?_
  rotate_left
  · (intro _ hSw; (try dsimp only at hSw); go_simp; (try with_reducible rfl))
  try simp only [Act.put, List.setIfInBounds_toArray, List.set_cons_zero, List.set_cons_succ]
  refine wpAnyH_take (i := 7) (v := ?_) (by simp only [List.getElem?_toArray, List.getElem?_cons_succ, List.getElem?_cons_zero]; rfl) (by kernel_rfl) (by kernel_rfl) (by kernel_rfl) (by exact fun _ _ _ h => h) (Or.inl ⟨by rfl, ?_⟩) (by assumption) ?_
  rotate_left
  · (intro _ hSw; (try dsimp only at hSw); go_simp; (try with_reducible rfl))
  try simp only [Act.put, List.setIfInBounds_toArray, List.set_cons_zero, List.set_cons_succ]
  refine wpAnyH_ready (rs := [8]) (by kernel_rfl) (by simp) ?_
  refine AllReadyH.cons (by simp only [List.getElem?_toArray, List.getElem?_cons_succ, List.getElem?_cons_zero]; rfl) (fun Kq hKq => ?_) AllReadyH.nil
  (go_simp; refine (rCommit_bad z1.drew _ i now HA.out.2).mono ?_; rintro e z2 ⟨rfl, h2⟩; have HP2 : Hid (Sp w0 X p r P' B oK nK cK oL nL cL ks ls s N z2) := HP1d.out.go h2; have HO2 : Hid (z2.heap[O]? = some (.cells #[.int .i64 2, .int .u64 ((i : Nat) : Int), .string y, .slice ap np cp, .slice ak nk ck, .int .i64 now] 37 (0, 0))) := h2.at HO1d.out id; clear h2)
  refine hKq.out _ _ ?_ (fun hHeldN => ?_)
  · exact HSX.out _ HP2.out.x HO2.out
  clear hKq Kq hHeld
  have hHeld := hHeldN
  clear hHeldN
  refine wpAnyH_take (i := 9) (v := ?_) (by simp only [List.getElem?_toArray, List.getElem?_cons_succ, List.getElem?_cons_zero]; rfl) (by kernel_rfl) (by kernel_rfl) (by kernel_rfl) (by exact fun _ _ _ h => h) (Or.inl ⟨by rfl, ?_⟩) (by assumption) ?_
  rotate_left
  · (intro _ hSw; (try dsimp only at hSw); go_simp; (try with_reducible rfl))
  try simp only [Act.put, List.setIfInBounds_toArray, List.set_cons_zero, List.set_cons_succ]
  refine wpAnyH_take (i := 10) (v := ?_) (by simp only [List.getElem?_toArray, List.getElem?_cons_succ, List.getElem?_cons_zero]; rfl) (by kernel_rfl) (by kernel_rfl) (by kernel_rfl) (by exact fun _ _ _ h => h) (Or.inl ⟨by rfl, ?_⟩) (by assumption) ?_
  rotate_left
  · (intro _ hSw; (try dsimp only at hSw); go_simp; (try with_reducible rfl))
  try simp only [Act.put, List.setIfInBounds_toArray, List.set_cons_zero, List.set_cons_succ]
  refine wpAnyH_take (i := 11) (v := ?_) (by simp only [List.getElem?_toArray, List.getElem?_cons_succ, List.getElem?_cons_zero]; rfl) (by kernel_rfl) (by kernel_rfl) (by kernel_rfl) (by exact fun _ _ _ h => h) (Or.inl ⟨by rfl, ?_⟩) (by assumption) ?_
  rotate_left
  · (intro _ hSw; (try dsimp only at hSw); go_simp; (try with_reducible rfl))
  try simp only [Act.put, List.setIfInBounds_toArray, List.set_cons_zero, List.set_cons_succ]
  refine wpAnyH_take (i := 12) (v := ?_) (by simp only [List.getElem?_toArray, List.getElem?_cons_succ, List.getElem?_cons_zero]; rfl) (by kernel_rfl) (by kernel_rfl) (by kernel_rfl) (by exact fun _ _ _ h => h) (Or.inl ⟨by rfl, ?_⟩) (by assumption) ?_
  rotate_left
  · (intro _ hSw; (try dsimp only at hSw); go_simp; (try with_reducible rfl))
  try simp only [Act.put, List.setIfInBounds_toArray, List.set_cons_zero, List.set_cons_succ]
  refine wpAnyH_take (i := 13) (v := ?_) (by simp only [List.getElem?_toArray, List.getElem?_cons_succ, List.getElem?_cons_zero]; rfl) (by kernel_rfl) (by kernel_rfl) (by kernel_rfl) (by exact fun _ _ _ h => h) (Or.inl ⟨by rfl, ?_⟩) (by assumption) ?_
  rotate_left
  · (intro _ hSw; (try dsimp only at hSw); go_simp; (try with_reducible rfl))
  try simp only [Act.put, List.setIfInBounds_toArray, List.set_cons_zero, List.set_cons_succ]
  refine wpAnyH_done (by kernel_rfl) ?_ _
  clear hHeld
  go_wp2_with fail
  go_ret
  exact ⟨rfl, (HP2.out.sd HD.out.1.rl HD.out.1.nk).sx⟩
end Go.Proofs.YtkoaiibjahlnmabGreat
/- StorePlays: Drop. -/
namespace Go.Proofs.YtkoaiibjahlnmabGreat
open Go.RowKit Go.Maps Go.Sort Orl
set_option linter.unusedVariables false
set_option linter.unusedSimpArgs false

set_option maxRecDepth 10000 in
set_option maxHeartbeats 1000000 in
theorem plays_drop0 {w0 : World} {X p r : Nat} {P B : Nat → Prop} {oK : Option Addr} {nK cK : Nat} {oL : Option Addr} {nL cL : Nat} {ks : List KV} {ls : List Mk} {s : St} {N : Nat} {w : World} (h : Sd w0 X p r P B oK nK cK oL nL cL ks ls s N w) (hN : N ≤ 800000000) (i : Nat) (y : Tx) (ap : Option Addr) (np cp : Nat) (ak : Option Addr) (nk ck : Nat) (now : Int) (hi : i < 18446744073709551616) (hy : y.size ≤ 140737488351232) (hv : s.V (y, i) = none) :
    Calls Tryz.prog 7 #[.pointer (some ⟨X, 0, none⟩), .agg #[.int .i64 3, .int .u64 ((i : Nat) : Int), .string y, .slice ap np cp, .slice ak nk ck, .int .i64 now]] w fun e w' => e = .returned (.bool true) ∧ Hid (Sx w0 X s N w') := by
  have HDE : Hid (dropE s (y, i) = 110) := by unfold dropE; rw [hv]; exact rfl
  have HDR : Hid (dropR s (y, i) = s) := by unfold dropR; rw [hv]; exact rfl
  have HV : Hid (s.V (y, i) = none) := hv
  clear hv
  have HA : Hid (i < 18446744073709551616 ∧ y.size ≤ 140737488351232 ∧ KM.ok (y, i)) := ⟨hi, hy, by show y.size ≤ maxLen; unfold maxLen; omega, hi⟩
  clear hi hy
  obtain ⟨P', hSd, hob, hpo, hbo⟩ := h.arg (.cells #[.int .i64 3, .int .u64 ((i : Nat) : Int), .string y, .slice ap np cp, .slice ak nk ck, .int .i64 now] 37)
  have HD : Hid (Sd w0 X p r P' B oK nK cK oL nL cL ks ls s N (w.alloc (.cells #[.int .i64 3, .int .u64 ((i : Nat) : Int), .string y, .slice ap np cp, .slice ak nk ck, .int .i64 now] 37)) ∧ (w.alloc (.cells #[.int .i64 3, .int .u64 ((i : Nat) : Int), .string y, .slice ap np cp, .slice ak nk ck, .int .i64 now] 37)).heap[w.heap.size]? = some (.cells #[.int .i64 3, .int .u64 ((i : Nat) : Int), .string y, .slice ap np cp, .slice ak nk ck, .int .i64 now] 37 (0, 0)) ∧ P' w.heap.size ∧ ¬ B w.heap.size) := ⟨hSd, hob, hpo, hbo⟩
  have HNN : Hid (N ≤ 800000000) := hN
  clear h hSd hob hpo hbo hN
  go_enter Tryz.func7, Tryz.ntmps7
  go_wp2_with fail
  generalize w.alloc (.cells #[.int .i64 3, .int .u64 ((i : Nat) : Int), .string y, .slice ap np cp, .slice ak nk ck, .int .i64 now] 37) = W at HD ⊢
  generalize w.heap.size = O at HD ⊢
  have HDd : Hid (Sd w0 X p r P' B oK nK cK oL nL cL ks ls s N W.drew ∧ W.drew.heap[O]? = some (.cells #[.int .i64 3, .int .u64 ((i : Nat) : Int), .string y, .slice ap np cp, .slice ak nk ck, .int .i64 now] 37 (0, 0))) := ⟨HD.out.1.go ((Keeps.refl no W).drew), ((Keeps.refl no W).drew).at HD.out.2.1 id⟩
  have HSX : Hid (∀ Y : World, Y.heap[X]? = some (.cells #[.pointer (some ⟨p, 0, none⟩), .pointer (some ⟨r, 0, none⟩)] 30 (0, 0)) → Y.heap[O]? = some (.cells #[.int .i64 3, .int .u64 ((i : Nat) : Int), .string y, .slice ap np cp, .slice ak nk ck, .int .i64 now] 37 (0, 0)) → Y.cell? ⟨X, 0, none⟩ = some (.pointer (some ⟨p, 0, none⟩)) ∧ Y.cell? ⟨X, 1, none⟩ = some (.pointer (some ⟨r, 0, none⟩)) ∧ Y.cell? ⟨O, 1, none⟩ = some (.int .u64 ((i : Nat) : Int)) ∧ Y.cell? ⟨O, 2, none⟩ = some (.string y) ∧ Y.cell? ⟨O, 3, none⟩ = some (.slice ap np cp) ∧ Y.cell? ⟨O, 4, none⟩ = some (.slice ak nk ck) ∧ Y.cell? ⟨O, 5, none⟩ = some (.int .i64 now)) := fun Y h1 h2 => ⟨cell_of_blk h1 0, cell_of_blk h1 1, cell_of_blk h2 1, cell_of_blk h2 2, cell_of_blk h2 3, cell_of_blk h2 4, cell_of_blk h2 5⟩
  refine wp_region_held_drew (S := (fun Y => Y.cell? ⟨X, 0, none⟩ = some (.pointer (some ⟨p, 0, none⟩)) ∧ Y.cell? ⟨X, 1, none⟩ = some (.pointer (some ⟨r, 0, none⟩)) ∧ Y.cell? ⟨O, 1, none⟩ = some (.int .u64 ((i : Nat) : Int)) ∧ Y.cell? ⟨O, 2, none⟩ = some (.string y) ∧ Y.cell? ⟨O, 3, none⟩ = some (.slice ap np cp) ∧ Y.cell? ⟨O, 4, none⟩ = some (.slice ak nk ck) ∧ Y.cell? ⟨O, 5, none⟩ = some (.int .i64 now))) (by kernel_rfl) ?_ (fun hHeld => ?_)
  · first | exact HSX.out _ HD.out.1.x HD.out.2.1 | exact HSX.out _ HDd.out.1.x HDd.out.2
  refine wpAnyH_take (i := 0) (v := ?_) (by simp only [List.getElem?_toArray, List.getElem?_cons_succ, List.getElem?_cons_zero]; rfl) (by kernel_rfl) (by kernel_rfl) (by kernel_rfl) (by exact fun _ _ _ h => h) (Or.inl ⟨by rfl, ?_⟩) (by assumption) ?_
  rotate_left
  · (intro _ hSw; (try dsimp only at hSw); go_simp; (try with_reducible rfl))
  try simp only [Act.put, List.setIfInBounds_toArray, List.set_cons_zero, List.set_cons_succ]
  refine wpAnyH_take (i := 1) (v := ?_) (by simp only [List.getElem?_toArray, List.getElem?_cons_succ, List.getElem?_cons_zero]; rfl) (by kernel_rfl) (by kernel_rfl) (by kernel_rfl) (by exact fun _ _ _ h => h) (Or.inl ⟨by rfl, ?_⟩) (by assumption) ?_
  rotate_left
  · (intro _ hSw; (try dsimp only at hSw); go_simp; (try with_reducible rfl))
  try simp only [Act.put, List.setIfInBounds_toArray, List.set_cons_zero, List.set_cons_succ]
  refine wpAnyH_take (i := 2) (v := ?_) (by simp only [List.getElem?_toArray, List.getElem?_cons_succ, List.getElem?_cons_zero]; rfl) (by kernel_rfl) (by kernel_rfl) (by kernel_rfl) (by exact fun _ _ _ h => h) (Or.inl ⟨by rfl, ?_⟩) (by assumption) ?_
  rotate_left
  · (intro _ hSw; (try dsimp only at hSw); go_simp; (try with_reducible rfl))
  try simp only [Act.put, List.setIfInBounds_toArray, List.set_cons_zero, List.set_cons_succ]
  refine wpAnyH_take (i := 3) (v := ?_) (by simp only [List.getElem?_toArray, List.getElem?_cons_succ, List.getElem?_cons_zero]; rfl) (by kernel_rfl) (by kernel_rfl) (by kernel_rfl) (by exact fun _ _ _ h => h) (Or.inl ⟨by rfl, ?_⟩) (by assumption) ?_
  rotate_left
  · (intro _ hSw; (try dsimp only at hSw); go_simp; (try with_reducible rfl))
  try simp only [Act.put, List.setIfInBounds_toArray, List.set_cons_zero, List.set_cons_succ]
  refine wpAnyH_take (i := 4) (v := ?_) (by simp only [List.getElem?_toArray, List.getElem?_cons_succ, List.getElem?_cons_zero]; rfl) (by kernel_rfl) (by kernel_rfl) (by kernel_rfl) (by exact fun _ _ _ h => h) (Or.inl ⟨by rfl, ?_⟩) (by assumption) ?_
  rotate_left
  · (intro _ hSw; (try dsimp only at hSw); go_simp; (try with_reducible rfl))
  try simp only [Act.put, List.setIfInBounds_toArray, List.set_cons_zero, List.set_cons_succ]
  refine wpAnyH_take (i := 5) (v := ?_) (by simp only [List.getElem?_toArray, List.getElem?_cons_succ, List.getElem?_cons_zero]; rfl) (by kernel_rfl) (by kernel_rfl) (by kernel_rfl) (by exact fun _ _ _ h => h) (Or.inl ⟨by rfl, ?_⟩) (by assumption) ?_
  rotate_left
  · (intro _ hSw; (try dsimp only at hSw); go_simp; (try with_reducible rfl))
  try simp only [Act.put, List.setIfInBounds_toArray, List.set_cons_zero, List.set_cons_succ]
  refine wpAnyH_take (i := 6) (v := ?_) (by simp only [List.getElem?_toArray, List.getElem?_cons_succ, List.getElem?_cons_zero]; rfl) (by kernel_rfl) (by kernel_rfl) (by kernel_rfl) (by exact fun _ _ _ h => h) (Or.inl ⟨by rfl, ?_⟩) (by assumption) ?_
  rotate_left
  · (intro _ hSw; (try dsimp only at hSw); go_simp; (try with_reducible rfl))
  try simp only [Act.put, List.setIfInBounds_toArray, List.set_cons_zero, List.set_cons_succ]
  refine wpAnyH_take (i := 7) (v := ?_) (by simp only [List.getElem?_toArray, List.getElem?_cons_succ, List.getElem?_cons_zero]; rfl) (by kernel_rfl) (by kernel_rfl) (by kernel_rfl) (by exact fun _ _ _ h => h) (Or.inl ⟨by rfl, ?_⟩) (by assumption) ?_
  rotate_left
  · (intro _ hSw; (try dsimp only at hSw); go_simp; (try with_reducible rfl))
  try simp only [Act.put, List.setIfInBounds_toArray, List.set_cons_zero, List.set_cons_succ]
  refine wpAnyH_take (i := 9) (v := ?_) (by simp only [List.getElem?_toArray, List.getElem?_cons_succ, List.getElem?_cons_zero]; rfl) (by kernel_rfl) (by kernel_rfl) (by kernel_rfl) (by exact fun _ _ _ h => h) (Or.inl ⟨by rfl, ?_⟩) (by assumption) ?_
  rotate_left
  · (intro _ hSw; (try dsimp only at hSw); go_simp; (try with_reducible rfl))
  try simp only [Act.put, List.setIfInBounds_toArray, List.set_cons_zero, List.set_cons_succ]
  refine wpAnyH_take (i := 10) (v := ?_) (by simp only [List.getElem?_toArray, List.getElem?_cons_succ, List.getElem?_cons_zero]; rfl) (by kernel_rfl) (by kernel_rfl) (by kernel_rfl) (by exact fun _ _ _ h => h) (Or.inl ⟨by rfl, ?_⟩) (by assumption) ?_
  rotate_left
  · (intro _ hSw; (try dsimp only at hSw); go_simp; (try with_reducible rfl))
  try simp only [Act.put, List.setIfInBounds_toArray, List.set_cons_zero, List.set_cons_succ]
  refine wpAnyH_take (i := 11) (v := ?_) (by simp only [List.getElem?_toArray, List.getElem?_cons_succ, List.getElem?_cons_zero]; rfl) (by kernel_rfl) (by kernel_rfl) (by kernel_rfl) (by exact fun _ _ _ h => h) (Or.inl ⟨by rfl, ?_⟩) (by assumption) ?_
  rotate_left
  · (intro _ hSw; (try dsimp only at hSw); go_simp; (try with_reducible rfl))
  try simp only [Act.put, List.setIfInBounds_toArray, List.set_cons_zero, List.set_cons_succ]
  refine wpAnyH_take (i := 12) (v := ?_) (by simp only [List.getElem?_toArray, List.getElem?_cons_succ, List.getElem?_cons_zero]; rfl) (by kernel_rfl) (by kernel_rfl) (by kernel_rfl) (by exact fun _ _ _ h => h) (Or.inl ⟨by rfl, ?_⟩) (by assumption) ?_
  rotate_left
  · (intro _ hSw; (try dsimp only at hSw); go_simp; (try with_reducible rfl))
  try simp only [Act.put, List.setIfInBounds_toArray, List.set_cons_zero, List.set_cons_succ]
  refine wpAnyH_take (i := 13) (v := ?_) (by simp only [List.getElem?_toArray, List.getElem?_cons_succ, List.getElem?_cons_zero]; rfl) (by kernel_rfl) (by kernel_rfl) (by kernel_rfl) (by exact fun _ _ _ h => h) (Or.inl ⟨by rfl, ?_⟩) (by assumption) ?_
  rotate_left
  · (intro _ hSw; (try dsimp only at hSw); go_simp; (try with_reducible rfl))
  try simp only [Act.put, List.setIfInBounds_toArray, List.set_cons_zero, List.set_cons_succ]
  refine wpAnyH_take (i := 14) (v := ?_) (by simp only [List.getElem?_toArray, List.getElem?_cons_succ, List.getElem?_cons_zero]; rfl) (by kernel_rfl) (by kernel_rfl) (by kernel_rfl) (by exact fun _ _ _ h => h) (Or.inl ⟨by rfl, ?_⟩) (by assumption) ?_
  rotate_left
  · (intro _ hSw; (try dsimp only at hSw); go_simp; (try with_reducible rfl))
  try simp only [Act.put, List.setIfInBounds_toArray, List.set_cons_zero, List.set_cons_succ]
  refine wpAnyH_take (i := 15) (v := ?_) (by simp only [List.getElem?_toArray, List.getElem?_cons_succ, List.getElem?_cons_zero]; rfl) (by kernel_rfl) (by kernel_rfl) (by kernel_rfl) (by exact fun _ _ _ h => h) (Or.inl ⟨by rfl, ?_⟩) (by assumption) ?_
  rotate_left
  · (intro _ hSw; (try dsimp only at hSw); go_simp; (try with_reducible rfl))
  try simp only [Act.put, List.setIfInBounds_toArray, List.set_cons_zero, List.set_cons_succ]
  refine wpAnyH_take (i := 16) (v := ?_) (by simp only [List.getElem?_toArray, List.getElem?_cons_succ, List.getElem?_cons_zero]; rfl) (by kernel_rfl) (by kernel_rfl) (by kernel_rfl) (by exact fun _ _ _ h => h) (Or.inl ⟨by rfl, ?_⟩) (by assumption) ?_
  rotate_left
  · (intro _ hSw; (try dsimp only at hSw); go_simp; (try with_reducible rfl))
  try simp only [Act.put, List.setIfInBounds_toArray, List.set_cons_zero, List.set_cons_succ]
  refine wpAnyH_ready (rs := [8]) (by kernel_rfl) (by simp) ?_
  refine AllReadyH.cons (by simp only [List.getElem?_toArray, List.getElem?_cons_succ, List.getElem?_cons_zero]; rfl) (fun Kq hKq => ?_) AllReadyH.nil
  (go_simp; refine (HDd.out.1.ow.drop y i HA.out.2.2).mono ?_; rintro e z1 ⟨rfl, h1⟩; rw [HDE.out]; have h1a := h1.out.1; rw [HDR.out] at h1a; have HP1 : Hid (Sp w0 X p r P' B oK nK cK oL nL cL ks ls s N z1) := HDd.out.1.prog h1a h1.out.2; have HO1 : Hid (z1.heap[O]? = some (.cells #[.int .i64 3, .int .u64 ((i : Nat) : Int), .string y, .slice ap np cp, .slice ak nk ck, .int .i64 now] 37 (0, 0))) := h1.out.2.at HDd.out.2 (fun hn => hn HD.out.2.2.1); clear h1 h1a)
  refine hKq.out _ _ ?_ (fun hHeldN => ?_)
  · exact HSX.out _ HP1.out.x HO1.out
  clear hKq Kq hHeld
  have hHeld := hHeldN
  clear hHeldN
  refine wpAnyH_ready (rs := [17]) (by kernel_rfl) (by simp) ?_
  refine AllReadyH.cons (by simp only [List.getElem?_toArray, List.getElem?_cons_succ, List.getElem?_cons_zero]; rfl) (fun Kq hKq => ?_) AllReadyH.nil
  (go_simp; refine (rDrop_none z1 r oK nK cK oL nL cL ks ls HP1.out.ro.rd y i (by rw [HD.out.1.rl.there, HV.out]; rfl)).mono ?_; rintro e z2 ⟨rfl, h2⟩; have HP2 : Hid (Sp w0 X p r P' B oK nK cK oL nL cL ks ls s N z2) := HP1.out.go h2; have HX2 : Hid (z2.heap[X]? = some (.cells #[.pointer (some ⟨p, 0, none⟩), .pointer (some ⟨r, 0, none⟩)] 30 (0, 0))) := HP2.out.x; have HO2 : Hid (z2.heap[O]? = some (.cells #[.int .i64 3, .int .u64 ((i : Nat) : Int), .string y, .slice ap np cp, .slice ak nk ck, .int .i64 now] 37 (0, 0))) := h2.at HO1.out id; clear h2)
  refine hKq.out _ _ ?_ (fun hHeldN => ?_)
  · exact HSX.out _ HX2.out HO2.out
  clear hKq Kq hHeld
  have hHeld := hHeldN
  clear hHeldN
  refine wpAnyH_take (i := 18) (v := ?_) (by simp only [List.getElem?_toArray, List.getElem?_cons_succ, List.getElem?_cons_zero]; rfl) (by kernel_rfl) (by kernel_rfl) (by kernel_rfl) (by exact fun _ _ _ h => h) (Or.inl ⟨by rfl, ?_⟩) (by assumption) ?_
  rotate_left
  · (intro _ hSw; (try dsimp only at hSw); go_simp; (try with_reducible rfl))
  try simp only [Act.put, List.setIfInBounds_toArray, List.set_cons_zero, List.set_cons_succ]
  refine wpAnyH_take (i := 19) (v := ?_) (by simp only [List.getElem?_toArray, List.getElem?_cons_succ, List.getElem?_cons_zero]; rfl) (by kernel_rfl) (by kernel_rfl) (by kernel_rfl) (by exact fun _ _ _ h => h) (Or.inl ⟨by rfl, ?_⟩) (by assumption) ?_
  rotate_left
  · (intro _ hSw; (try dsimp only at hSw); go_simp; (try with_reducible rfl))
  try simp only [Act.put, List.setIfInBounds_toArray, List.set_cons_zero, List.set_cons_succ]
  refine wpAnyH_done (by kernel_rfl) ?_ _
  clear hHeld
  go_wp2_with fail
  go_ret
  exact ⟨rfl, (HP2.out.sd HD.out.1.rl HD.out.1.nk).sx⟩
set_option maxRecDepth 10000 in
set_option maxHeartbeats 1000000 in
theorem plays_drop1 {w0 : World} {X p r : Nat} {P B : Nat → Prop} {oK : Option Addr} {nK cK : Nat} {oL : Option Addr} {nL cL : Nat} {ks : List KV} {ls : List Mk} {s : St} {N : Nat} {w : World} (h : Sd w0 X p r P B oK nK cK oL nL cL ks ls s N w) (hN : N ≤ 800000000) (i : Nat) (y : Tx) (ap : Option Addr) (np cp : Nat) (ak : Option Addr) (nk ck : Nat) (now : Int) (hi : i < 18446744073709551616) (hy : y.size ≤ 140737488351232) (v : Vr) (hv : s.V (y, i) = some v) (hs : v.stamp = -1) :
    Calls Tryz.prog 7 #[.pointer (some ⟨X, 0, none⟩), .agg #[.int .i64 3, .int .u64 ((i : Nat) : Int), .string y, .slice ap np cp, .slice ak nk ck, .int .i64 now]] w fun e w' => e = .returned (.bool true) ∧ Hid (Sx w0 X s N w') := by
  have HDE : Hid (dropE s (y, i) = 1) := by unfold dropE; rw [hv]; show (if v.stamp = -1 then (1 : Int) else 0) = 1; rw [if_pos hs]
  have HDR : Hid (dropR s (y, i) = s) := by unfold dropR; rw [hv]; show (if v.stamp = -1 then s else dropS s (y, i)) = s; rw [if_pos hs]
  have HV : Hid (s.V (y, i) = some v ∧ ¬ i < s.last y) := ⟨hv, fun hl => by have := ((h.ow.ok.st _ _ hv).1 hl).1; omega⟩
  clear hv hs
  have HA : Hid (i < 18446744073709551616 ∧ y.size ≤ 140737488351232 ∧ KM.ok (y, i)) := ⟨hi, hy, by show y.size ≤ maxLen; unfold maxLen; omega, hi⟩
  clear hi hy
  obtain ⟨P', hSd, hob, hpo, hbo⟩ := h.arg (.cells #[.int .i64 3, .int .u64 ((i : Nat) : Int), .string y, .slice ap np cp, .slice ak nk ck, .int .i64 now] 37)
  have HD : Hid (Sd w0 X p r P' B oK nK cK oL nL cL ks ls s N (w.alloc (.cells #[.int .i64 3, .int .u64 ((i : Nat) : Int), .string y, .slice ap np cp, .slice ak nk ck, .int .i64 now] 37)) ∧ (w.alloc (.cells #[.int .i64 3, .int .u64 ((i : Nat) : Int), .string y, .slice ap np cp, .slice ak nk ck, .int .i64 now] 37)).heap[w.heap.size]? = some (.cells #[.int .i64 3, .int .u64 ((i : Nat) : Int), .string y, .slice ap np cp, .slice ak nk ck, .int .i64 now] 37 (0, 0)) ∧ P' w.heap.size ∧ ¬ B w.heap.size) := ⟨hSd, hob, hpo, hbo⟩
  have HNN : Hid (N ≤ 800000000) := hN
  clear h hSd hob hpo hbo hN
  go_enter Tryz.func7, Tryz.ntmps7
  go_wp2_with fail
  generalize w.alloc (.cells #[.int .i64 3, .int .u64 ((i : Nat) : Int), .string y, .slice ap np cp, .slice ak nk ck, .int .i64 now] 37) = W at HD ⊢
  generalize w.heap.size = O at HD ⊢
  have HDd : Hid (Sd w0 X p r P' B oK nK cK oL nL cL ks ls s N W.drew ∧ W.drew.heap[O]? = some (.cells #[.int .i64 3, .int .u64 ((i : Nat) : Int), .string y, .slice ap np cp, .slice ak nk ck, .int .i64 now] 37 (0, 0))) := ⟨HD.out.1.go ((Keeps.refl no W).drew), ((Keeps.refl no W).drew).at HD.out.2.1 id⟩
  have HSX : Hid (∀ Y : World, Y.heap[X]? = some (.cells #[.pointer (some ⟨p, 0, none⟩), .pointer (some ⟨r, 0, none⟩)] 30 (0, 0)) → Y.heap[O]? = some (.cells #[.int .i64 3, .int .u64 ((i : Nat) : Int), .string y, .slice ap np cp, .slice ak nk ck, .int .i64 now] 37 (0, 0)) → Y.cell? ⟨X, 0, none⟩ = some (.pointer (some ⟨p, 0, none⟩)) ∧ Y.cell? ⟨X, 1, none⟩ = some (.pointer (some ⟨r, 0, none⟩)) ∧ Y.cell? ⟨O, 1, none⟩ = some (.int .u64 ((i : Nat) : Int)) ∧ Y.cell? ⟨O, 2, none⟩ = some (.string y) ∧ Y.cell? ⟨O, 3, none⟩ = some (.slice ap np cp) ∧ Y.cell? ⟨O, 4, none⟩ = some (.slice ak nk ck) ∧ Y.cell? ⟨O, 5, none⟩ = some (.int .i64 now)) := fun Y h1 h2 => ⟨cell_of_blk h1 0, cell_of_blk h1 1, cell_of_blk h2 1, cell_of_blk h2 2, cell_of_blk h2 3, cell_of_blk h2 4, cell_of_blk h2 5⟩
  refine wp_region_held_drew (S := (fun Y => Y.cell? ⟨X, 0, none⟩ = some (.pointer (some ⟨p, 0, none⟩)) ∧ Y.cell? ⟨X, 1, none⟩ = some (.pointer (some ⟨r, 0, none⟩)) ∧ Y.cell? ⟨O, 1, none⟩ = some (.int .u64 ((i : Nat) : Int)) ∧ Y.cell? ⟨O, 2, none⟩ = some (.string y) ∧ Y.cell? ⟨O, 3, none⟩ = some (.slice ap np cp) ∧ Y.cell? ⟨O, 4, none⟩ = some (.slice ak nk ck) ∧ Y.cell? ⟨O, 5, none⟩ = some (.int .i64 now))) (by kernel_rfl) ?_ (fun hHeld => ?_)
  · first | exact HSX.out _ HD.out.1.x HD.out.2.1 | exact HSX.out _ HDd.out.1.x HDd.out.2
  refine wpAnyH_take (i := 0) (v := ?_) (by simp only [List.getElem?_toArray, List.getElem?_cons_succ, List.getElem?_cons_zero]; rfl) (by kernel_rfl) (by kernel_rfl) (by kernel_rfl) (by exact fun _ _ _ h => h) (Or.inl ⟨by rfl, ?_⟩) (by assumption) ?_
  rotate_left
  · (intro _ hSw; (try dsimp only at hSw); go_simp; (try with_reducible rfl))
  try simp only [Act.put, List.setIfInBounds_toArray, List.set_cons_zero, List.set_cons_succ]
  refine wpAnyH_take (i := 1) (v := ?_) (by simp only [List.getElem?_toArray, List.getElem?_cons_succ, List.getElem?_cons_zero]; rfl) (by kernel_rfl) (by kernel_rfl) (by kernel_rfl) (by exact fun _ _ _ h => h) (Or.inl ⟨by rfl, ?_⟩) (by assumption) ?_
  rotate_left
  · (intro _ hSw; (try dsimp only at hSw); go_simp; (try with_reducible rfl))
  try simp only [Act.put, List.setIfInBounds_toArray, List.set_cons_zero, List.set_cons_succ]
  refine wpAnyH_take (i := 2) (v := ?_) (by simp only [List.getElem?_toArray, List.getElem?_cons_succ, List.getElem?_cons_zero]; rfl) (by kernel_rfl) (by kernel_rfl) (by kernel_rfl) (by exact fun _ _ _ h => h) (Or.inl ⟨by rfl, ?_⟩) (by assumption) ?_
  rotate_left
  · (intro _ hSw; (try dsimp only at hSw); go_simp; (try with_reducible rfl))
  try simp only [Act.put, List.setIfInBounds_toArray, List.set_cons_zero, List.set_cons_succ]
  refine wpAnyH_take (i := 3) (v := ?_) (by simp only [List.getElem?_toArray, List.getElem?_cons_succ, List.getElem?_cons_zero]; rfl) (by kernel_rfl) (by kernel_rfl) (by kernel_rfl) (by exact fun _ _ _ h => h) (Or.inl ⟨by rfl, ?_⟩) (by assumption) ?_
  rotate_left
  · (intro _ hSw; (try dsimp only at hSw); go_simp; (try with_reducible rfl))
  try simp only [Act.put, List.setIfInBounds_toArray, List.set_cons_zero, List.set_cons_succ]
  refine wpAnyH_take (i := 4) (v := ?_) (by simp only [List.getElem?_toArray, List.getElem?_cons_succ, List.getElem?_cons_zero]; rfl) (by kernel_rfl) (by kernel_rfl) (by kernel_rfl) (by exact fun _ _ _ h => h) (Or.inl ⟨by rfl, ?_⟩) (by assumption) ?_
  rotate_left
  · (intro _ hSw; (try dsimp only at hSw); go_simp; (try with_reducible rfl))
  try simp only [Act.put, List.setIfInBounds_toArray, List.set_cons_zero, List.set_cons_succ]
  refine wpAnyH_take (i := 5) (v := ?_) (by simp only [List.getElem?_toArray, List.getElem?_cons_succ, List.getElem?_cons_zero]; rfl) (by kernel_rfl) (by kernel_rfl) (by kernel_rfl) (by exact fun _ _ _ h => h) (Or.inl ⟨by rfl, ?_⟩) (by assumption) ?_
  rotate_left
  · (intro _ hSw; (try dsimp only at hSw); go_simp; (try with_reducible rfl))
  try simp only [Act.put, List.setIfInBounds_toArray, List.set_cons_zero, List.set_cons_succ]
  refine wpAnyH_take (i := 6) (v := ?_) (by simp only [List.getElem?_toArray, List.getElem?_cons_succ, List.getElem?_cons_zero]; rfl) (by kernel_rfl) (by kernel_rfl) (by kernel_rfl) (by exact fun _ _ _ h => h) (Or.inl ⟨by rfl, ?_⟩) (by assumption) ?_
  rotate_left
  · (intro _ hSw; (try dsimp only at hSw); go_simp; (try with_reducible rfl))
  try simp only [Act.put, List.setIfInBounds_toArray, List.set_cons_zero, List.set_cons_succ]
  refine wpAnyH_take (i := 7) (v := ?_) (by simp only [List.getElem?_toArray, List.getElem?_cons_succ, List.getElem?_cons_zero]; rfl) (by kernel_rfl) (by kernel_rfl) (by kernel_rfl) (by exact fun _ _ _ h => h) (Or.inl ⟨by rfl, ?_⟩) (by assumption) ?_
  rotate_left
  · (intro _ hSw; (try dsimp only at hSw); go_simp; (try with_reducible rfl))
  try simp only [Act.put, List.setIfInBounds_toArray, List.set_cons_zero, List.set_cons_succ]
  refine wpAnyH_take (i := 9) (v := ?_) (by simp only [List.getElem?_toArray, List.getElem?_cons_succ, List.getElem?_cons_zero]; rfl) (by kernel_rfl) (by kernel_rfl) (by kernel_rfl) (by exact fun _ _ _ h => h) (Or.inl ⟨by rfl, ?_⟩) (by assumption) ?_
  rotate_left
  · (intro _ hSw; (try dsimp only at hSw); go_simp; (try with_reducible rfl))
  try simp only [Act.put, List.setIfInBounds_toArray, List.set_cons_zero, List.set_cons_succ]
  refine wpAnyH_take (i := 10) (v := ?_) (by simp only [List.getElem?_toArray, List.getElem?_cons_succ, List.getElem?_cons_zero]; rfl) (by kernel_rfl) (by kernel_rfl) (by kernel_rfl) (by exact fun _ _ _ h => h) (Or.inl ⟨by rfl, ?_⟩) (by assumption) ?_
  rotate_left
  · (intro _ hSw; (try dsimp only at hSw); go_simp; (try with_reducible rfl))
  try simp only [Act.put, List.setIfInBounds_toArray, List.set_cons_zero, List.set_cons_succ]
  refine wpAnyH_take (i := 11) (v := ?_) (by simp only [List.getElem?_toArray, List.getElem?_cons_succ, List.getElem?_cons_zero]; rfl) (by kernel_rfl) (by kernel_rfl) (by kernel_rfl) (by exact fun _ _ _ h => h) (Or.inl ⟨by rfl, ?_⟩) (by assumption) ?_
  rotate_left
  · (intro _ hSw; (try dsimp only at hSw); go_simp; (try with_reducible rfl))
  try simp only [Act.put, List.setIfInBounds_toArray, List.set_cons_zero, List.set_cons_succ]
  refine wpAnyH_take (i := 12) (v := ?_) (by simp only [List.getElem?_toArray, List.getElem?_cons_succ, List.getElem?_cons_zero]; rfl) (by kernel_rfl) (by kernel_rfl) (by kernel_rfl) (by exact fun _ _ _ h => h) (Or.inl ⟨by rfl, ?_⟩) (by assumption) ?_
  rotate_left
  · (intro _ hSw; (try dsimp only at hSw); go_simp; (try with_reducible rfl))
  try simp only [Act.put, List.setIfInBounds_toArray, List.set_cons_zero, List.set_cons_succ]
  refine wpAnyH_take (i := 13) (v := ?_) (by simp only [List.getElem?_toArray, List.getElem?_cons_succ, List.getElem?_cons_zero]; rfl) (by kernel_rfl) (by kernel_rfl) (by kernel_rfl) (by exact fun _ _ _ h => h) (Or.inl ⟨by rfl, ?_⟩) (by assumption) ?_
  rotate_left
  · (intro _ hSw; (try dsimp only at hSw); go_simp; (try with_reducible rfl))
  try simp only [Act.put, List.setIfInBounds_toArray, List.set_cons_zero, List.set_cons_succ]
  refine wpAnyH_take (i := 14) (v := ?_) (by simp only [List.getElem?_toArray, List.getElem?_cons_succ, List.getElem?_cons_zero]; rfl) (by kernel_rfl) (by kernel_rfl) (by kernel_rfl) (by exact fun _ _ _ h => h) (Or.inl ⟨by rfl, ?_⟩) (by assumption) ?_
  rotate_left
  · (intro _ hSw; (try dsimp only at hSw); go_simp; (try with_reducible rfl))
  try simp only [Act.put, List.setIfInBounds_toArray, List.set_cons_zero, List.set_cons_succ]
  refine wpAnyH_take (i := 15) (v := ?_) (by simp only [List.getElem?_toArray, List.getElem?_cons_succ, List.getElem?_cons_zero]; rfl) (by kernel_rfl) (by kernel_rfl) (by kernel_rfl) (by exact fun _ _ _ h => h) (Or.inl ⟨by rfl, ?_⟩) (by assumption) ?_
  rotate_left
  · (intro _ hSw; (try dsimp only at hSw); go_simp; (try with_reducible rfl))
  try simp only [Act.put, List.setIfInBounds_toArray, List.set_cons_zero, List.set_cons_succ]
  refine wpAnyH_take (i := 16) (v := ?_) (by simp only [List.getElem?_toArray, List.getElem?_cons_succ, List.getElem?_cons_zero]; rfl) (by kernel_rfl) (by kernel_rfl) (by kernel_rfl) (by exact fun _ _ _ h => h) (Or.inl ⟨by rfl, ?_⟩) (by assumption) ?_
  rotate_left
  · (intro _ hSw; (try dsimp only at hSw); go_simp; (try with_reducible rfl))
  try simp only [Act.put, List.setIfInBounds_toArray, List.set_cons_zero, List.set_cons_succ]
  refine wpAnyH_ready (rs := [8]) (by kernel_rfl) (by simp) ?_
  refine AllReadyH.cons (by simp only [List.getElem?_toArray, List.getElem?_cons_succ, List.getElem?_cons_zero]; rfl) (fun Kq hKq => ?_) AllReadyH.nil
  (go_simp; refine (HDd.out.1.ow.drop y i HA.out.2.2).mono ?_; rintro e z1 ⟨rfl, h1⟩; rw [HDE.out]; have h1a := h1.out.1; rw [HDR.out] at h1a; have HP1 : Hid (Sp w0 X p r P' B oK nK cK oL nL cL ks ls s N z1) := HDd.out.1.prog h1a h1.out.2; have HO1 : Hid (z1.heap[O]? = some (.cells #[.int .i64 3, .int .u64 ((i : Nat) : Int), .string y, .slice ap np cp, .slice ak nk ck, .int .i64 now] 37 (0, 0))) := h1.out.2.at HDd.out.2 (fun hn => hn HD.out.2.2.1); clear h1 h1a)
  refine hKq.out _ _ ?_ (fun hHeldN => ?_)
  · exact HSX.out _ HP1.out.x HO1.out
  clear hKq Kq hHeld
  have hHeld := hHeldN
  clear hHeldN
  refine wpAnyH_ready (rs := [17]) (by kernel_rfl) (by simp) ?_
  refine AllReadyH.cons (by simp only [List.getElem?_toArray, List.getElem?_cons_succ, List.getElem?_cons_zero]; rfl) (fun Kq hKq => ?_) AllReadyH.nil
  (go_simp; refine (rDrop_last z1 r oK nK cK oL nL cL ks ls HP1.out.ro.rd y i (by rw [HD.out.1.rl.there, HV.out.1]; rfl) (by rw [lastIn_is HD.out.1.rl.la]; exact HV.out.2)).mono ?_; rintro e z2 ⟨rfl, h2⟩; have HP2 : Hid (Sp w0 X p r P' B oK nK cK oL nL cL ks ls s N z2) := HP1.out.go h2; have HX2 : Hid (z2.heap[X]? = some (.cells #[.pointer (some ⟨p, 0, none⟩), .pointer (some ⟨r, 0, none⟩)] 30 (0, 0))) := HP2.out.x; have HO2 : Hid (z2.heap[O]? = some (.cells #[.int .i64 3, .int .u64 ((i : Nat) : Int), .string y, .slice ap np cp, .slice ak nk ck, .int .i64 now] 37 (0, 0))) := h2.at HO1.out id; clear h2)
  refine hKq.out _ _ ?_ (fun hHeldN => ?_)
  · exact HSX.out _ HX2.out HO2.out
  clear hKq Kq hHeld
  have hHeld := hHeldN
  clear hHeldN
  refine wpAnyH_take (i := 18) (v := ?_) (by simp only [List.getElem?_toArray, List.getElem?_cons_succ, List.getElem?_cons_zero]; rfl) (by kernel_rfl) (by kernel_rfl) (by kernel_rfl) (by exact fun _ _ _ h => h) (Or.inl ⟨by rfl, ?_⟩) (by assumption) ?_
  rotate_left
  · (intro _ hSw; (try dsimp only at hSw); go_simp; (try with_reducible rfl))
  try simp only [Act.put, List.setIfInBounds_toArray, List.set_cons_zero, List.set_cons_succ]
  refine wpAnyH_take (i := 19) (v := ?_) (by simp only [List.getElem?_toArray, List.getElem?_cons_succ, List.getElem?_cons_zero]; rfl) (by kernel_rfl) (by kernel_rfl) (by kernel_rfl) (by exact fun _ _ _ h => h) (Or.inl ⟨by rfl, ?_⟩) (by assumption) ?_
  rotate_left
  · (intro _ hSw; (try dsimp only at hSw); go_simp; (try with_reducible rfl))
  try simp only [Act.put, List.setIfInBounds_toArray, List.set_cons_zero, List.set_cons_succ]
  refine wpAnyH_done (by kernel_rfl) ?_ _
  clear hHeld
  go_wp2_with fail
  go_ret
  exact ⟨rfl, (HP2.out.sd HD.out.1.rl HD.out.1.nk).sx⟩
set_option maxRecDepth 10000 in
set_option maxHeartbeats 1000000 in
theorem plays_drop2 {w0 : World} {X p r : Nat} {P B : Nat → Prop} {oK : Option Addr} {nK cK : Nat} {oL : Option Addr} {nL cL : Nat} {ks : List KV} {ls : List Mk} {s : St} {N : Nat} {w : World} (h : Sd w0 X p r P B oK nK cK oL nL cL ks ls s N w) (hN : N ≤ 800000000) (i : Nat) (y : Tx) (ap : Option Addr) (np cp : Nat) (ak : Option Addr) (nk ck : Nat) (now : Int) (hi : i < 18446744073709551616) (hy : y.size ≤ 140737488351232) (v : Vr) (hv : s.V (y, i) = some v) (hs : v.stamp ≠ -1) :
    Calls Tryz.prog 7 #[.pointer (some ⟨X, 0, none⟩), .agg #[.int .i64 3, .int .u64 ((i : Nat) : Int), .string y, .slice ap np cp, .slice ak nk ck, .int .i64 now]] w fun e w' => e = .returned (.bool true) ∧ Hid (Sx w0 X (dropS s (y, i)) N w') := by
  have HDE : Hid (dropE s (y, i) = 0) := by unfold dropE; rw [hv]; show (if v.stamp = -1 then (1 : Int) else 0) = 0; rw [if_neg hs]
  have HDR : Hid (dropR s (y, i) = dropS s (y, i)) := by unfold dropR; rw [hv]; show (if v.stamp = -1 then s else dropS s (y, i)) = dropS s (y, i); rw [if_neg hs]
  have HV : Hid (s.V (y, i) = some v ∧ i < s.last y) := ⟨hv, by
    by_cases hl : i < s.last y
    · exact hl
    · exact absurd ((h.ow.ok.st _ _ hv).2 hl) hs⟩
  clear hv hs
  have HA : Hid (i < 18446744073709551616 ∧ y.size ≤ 140737488351232 ∧ KM.ok (y, i)) := ⟨hi, hy, by show y.size ≤ maxLen; unfold maxLen; omega, hi⟩
  clear hi hy
  obtain ⟨P', hSd, hob, hpo, hbo⟩ := h.arg (.cells #[.int .i64 3, .int .u64 ((i : Nat) : Int), .string y, .slice ap np cp, .slice ak nk ck, .int .i64 now] 37)
  have HD : Hid (Sd w0 X p r P' B oK nK cK oL nL cL ks ls s N (w.alloc (.cells #[.int .i64 3, .int .u64 ((i : Nat) : Int), .string y, .slice ap np cp, .slice ak nk ck, .int .i64 now] 37)) ∧ (w.alloc (.cells #[.int .i64 3, .int .u64 ((i : Nat) : Int), .string y, .slice ap np cp, .slice ak nk ck, .int .i64 now] 37)).heap[w.heap.size]? = some (.cells #[.int .i64 3, .int .u64 ((i : Nat) : Int), .string y, .slice ap np cp, .slice ak nk ck, .int .i64 now] 37 (0, 0)) ∧ P' w.heap.size ∧ ¬ B w.heap.size) := ⟨hSd, hob, hpo, hbo⟩
  have HNN : Hid (N ≤ 800000000) := hN
  clear h hSd hob hpo hbo hN
  go_enter Tryz.func7, Tryz.ntmps7
  go_wp2_with fail
  generalize w.alloc (.cells #[.int .i64 3, .int .u64 ((i : Nat) : Int), .string y, .slice ap np cp, .slice ak nk ck, .int .i64 now] 37) = W at HD ⊢
  generalize w.heap.size = O at HD ⊢
  have HDd : Hid (Sd w0 X p r P' B oK nK cK oL nL cL ks ls s N W.drew ∧ W.drew.heap[O]? = some (.cells #[.int .i64 3, .int .u64 ((i : Nat) : Int), .string y, .slice ap np cp, .slice ak nk ck, .int .i64 now] 37 (0, 0))) := ⟨HD.out.1.go ((Keeps.refl no W).drew), ((Keeps.refl no W).drew).at HD.out.2.1 id⟩
  have HSX : Hid (∀ Y : World, Y.heap[X]? = some (.cells #[.pointer (some ⟨p, 0, none⟩), .pointer (some ⟨r, 0, none⟩)] 30 (0, 0)) → Y.heap[O]? = some (.cells #[.int .i64 3, .int .u64 ((i : Nat) : Int), .string y, .slice ap np cp, .slice ak nk ck, .int .i64 now] 37 (0, 0)) → Y.cell? ⟨X, 0, none⟩ = some (.pointer (some ⟨p, 0, none⟩)) ∧ Y.cell? ⟨X, 1, none⟩ = some (.pointer (some ⟨r, 0, none⟩)) ∧ Y.cell? ⟨O, 1, none⟩ = some (.int .u64 ((i : Nat) : Int)) ∧ Y.cell? ⟨O, 2, none⟩ = some (.string y) ∧ Y.cell? ⟨O, 3, none⟩ = some (.slice ap np cp) ∧ Y.cell? ⟨O, 4, none⟩ = some (.slice ak nk ck) ∧ Y.cell? ⟨O, 5, none⟩ = some (.int .i64 now)) := fun Y h1 h2 => ⟨cell_of_blk h1 0, cell_of_blk h1 1, cell_of_blk h2 1, cell_of_blk h2 2, cell_of_blk h2 3, cell_of_blk h2 4, cell_of_blk h2 5⟩
  refine wp_region_held_drew (S := (fun Y => Y.cell? ⟨X, 0, none⟩ = some (.pointer (some ⟨p, 0, none⟩)) ∧ Y.cell? ⟨X, 1, none⟩ = some (.pointer (some ⟨r, 0, none⟩)) ∧ Y.cell? ⟨O, 1, none⟩ = some (.int .u64 ((i : Nat) : Int)) ∧ Y.cell? ⟨O, 2, none⟩ = some (.string y) ∧ Y.cell? ⟨O, 3, none⟩ = some (.slice ap np cp) ∧ Y.cell? ⟨O, 4, none⟩ = some (.slice ak nk ck) ∧ Y.cell? ⟨O, 5, none⟩ = some (.int .i64 now))) (by kernel_rfl) ?_ (fun hHeld => ?_)
  · first | exact HSX.out _ HD.out.1.x HD.out.2.1 | exact HSX.out _ HDd.out.1.x HDd.out.2
  refine wpAnyH_take (i := 0) (v := ?_) (by simp only [List.getElem?_toArray, List.getElem?_cons_succ, List.getElem?_cons_zero]; rfl) (by kernel_rfl) (by kernel_rfl) (by kernel_rfl) (by exact fun _ _ _ h => h) (Or.inl ⟨by rfl, ?_⟩) (by assumption) ?_
  rotate_left
  · (intro _ hSw; (try dsimp only at hSw); go_simp; (try with_reducible rfl))
  try simp only [Act.put, List.setIfInBounds_toArray, List.set_cons_zero, List.set_cons_succ]
  refine wpAnyH_take (i := 1) (v := ?_) (by simp only [List.getElem?_toArray, List.getElem?_cons_succ, List.getElem?_cons_zero]; rfl) (by kernel_rfl) (by kernel_rfl) (by kernel_rfl) (by exact fun _ _ _ h => h) (Or.inl ⟨by rfl, ?_⟩) (by assumption) ?_
  rotate_left
  · (intro _ hSw; (try dsimp only at hSw); go_simp; (try with_reducible rfl))
  try simp only [Act.put, List.setIfInBounds_toArray, List.set_cons_zero, List.set_cons_succ]
  refine wpAnyH_take (i := 2) (v := ?_) (by simp only [List.getElem?_toArray, List.getElem?_cons_succ, List.getElem?_cons_zero]; rfl) (by kernel_rfl) (by kernel_rfl) (by kernel_rfl) (by exact fun _ _ _ h => h) (Or.inl ⟨by rfl, ?_⟩) (by assumption) ?_
  rotate_left
  · (intro _ hSw; (try dsimp only at hSw); go_simp; (try with_reducible rfl))
  try simp only [Act.put, List.setIfInBounds_toArray, List.set_cons_zero, List.set_cons_succ]
  refine wpAnyH_take (i := 3) (v := ?_) (by simp only [List.getElem?_toArray, List.getElem?_cons_succ, List.getElem?_cons_zero]; rfl) (by kernel_rfl) (by kernel_rfl) (by kernel_rfl) (by exact fun _ _ _ h => h) (Or.inl ⟨by rfl, ?_⟩) (by assumption) ?_
  rotate_left
  · (intro _ hSw; (try dsimp only at hSw); go_simp; (try with_reducible rfl))
  try simp only [Act.put, List.setIfInBounds_toArray, List.set_cons_zero, List.set_cons_succ]
  refine wpAnyH_take (i := 4) (v := ?_) (by simp only [List.getElem?_toArray, List.getElem?_cons_succ, List.getElem?_cons_zero]; rfl) (by kernel_rfl) (by kernel_rfl) (by kernel_rfl) (by exact fun _ _ _ h => h) (Or.inl ⟨by rfl, ?_⟩) (by assumption) ?_
  rotate_left
  · (intro _ hSw; (try dsimp only at hSw); go_simp; (try with_reducible rfl))
  try simp only [Act.put, List.setIfInBounds_toArray, List.set_cons_zero, List.set_cons_succ]
  refine wpAnyH_take (i := 5) (v := ?_) (by simp only [List.getElem?_toArray, List.getElem?_cons_succ, List.getElem?_cons_zero]; rfl) (by kernel_rfl) (by kernel_rfl) (by kernel_rfl) (by exact fun _ _ _ h => h) (Or.inl ⟨by rfl, ?_⟩) (by assumption) ?_
  rotate_left
  · (intro _ hSw; (try dsimp only at hSw); go_simp; (try with_reducible rfl))
  try simp only [Act.put, List.setIfInBounds_toArray, List.set_cons_zero, List.set_cons_succ]
  refine wpAnyH_take (i := 6) (v := ?_) (by simp only [List.getElem?_toArray, List.getElem?_cons_succ, List.getElem?_cons_zero]; rfl) (by kernel_rfl) (by kernel_rfl) (by kernel_rfl) (by exact fun _ _ _ h => h) (Or.inl ⟨by rfl, ?_⟩) (by assumption) ?_
  rotate_left
  · (intro _ hSw; (try dsimp only at hSw); go_simp; (try with_reducible rfl))
  try simp only [Act.put, List.setIfInBounds_toArray, List.set_cons_zero, List.set_cons_succ]
  refine wpAnyH_take (i := 7) (v := ?_) (by simp only [List.getElem?_toArray, List.getElem?_cons_succ, List.getElem?_cons_zero]; rfl) (by kernel_rfl) (by kernel_rfl) (by kernel_rfl) (by exact fun _ _ _ h => h) (Or.inl ⟨by rfl, ?_⟩) (by assumption) ?_
  rotate_left
  · (intro _ hSw; (try dsimp only at hSw); go_simp; (try with_reducible rfl))
  try simp only [Act.put, List.setIfInBounds_toArray, List.set_cons_zero, List.set_cons_succ]
  refine wpAnyH_take (i := 9) (v := ?_) (by simp only [List.getElem?_toArray, List.getElem?_cons_succ, List.getElem?_cons_zero]; rfl) (by kernel_rfl) (by kernel_rfl) (by kernel_rfl) (by exact fun _ _ _ h => h) (Or.inl ⟨by rfl, ?_⟩) (by assumption) ?_
  rotate_left
  · (intro _ hSw; (try dsimp only at hSw); go_simp; (try with_reducible rfl))
  try simp only [Act.put, List.setIfInBounds_toArray, List.set_cons_zero, List.set_cons_succ]
  refine wpAnyH_take (i := 10) (v := ?_) (by simp only [List.getElem?_toArray, List.getElem?_cons_succ, List.getElem?_cons_zero]; rfl) (by kernel_rfl) (by kernel_rfl) (by kernel_rfl) (by exact fun _ _ _ h => h) (Or.inl ⟨by rfl, ?_⟩) (by assumption) ?_
  rotate_left
  · (intro _ hSw; (try dsimp only at hSw); go_simp; (try with_reducible rfl))
  try simp only [Act.put, List.setIfInBounds_toArray, List.set_cons_zero, List.set_cons_succ]
  refine wpAnyH_take (i := 11) (v := ?_) (by simp only [List.getElem?_toArray, List.getElem?_cons_succ, List.getElem?_cons_zero]; rfl) (by kernel_rfl) (by kernel_rfl) (by kernel_rfl) (by exact fun _ _ _ h => h) (Or.inl ⟨by rfl, ?_⟩) (by assumption) ?_
  rotate_left
  · (intro _ hSw; (try dsimp only at hSw); go_simp; (try with_reducible rfl))
  try simp only [Act.put, List.setIfInBounds_toArray, List.set_cons_zero, List.set_cons_succ]
  refine wpAnyH_take (i := 12) (v := ?_) (by simp only [List.getElem?_toArray, List.getElem?_cons_succ, List.getElem?_cons_zero]; rfl) (by kernel_rfl) (by kernel_rfl) (by kernel_rfl) (by exact fun _ _ _ h => h) (Or.inl ⟨by rfl, ?_⟩) (by assumption) ?_
  rotate_left
  · (intro _ hSw; (try dsimp only at hSw); go_simp; (try with_reducible rfl))
  try simp only [Act.put, List.setIfInBounds_toArray, List.set_cons_zero, List.set_cons_succ]
  refine wpAnyH_take (i := 13) (v := ?_) (by simp only [List.getElem?_toArray, List.getElem?_cons_succ, List.getElem?_cons_zero]; rfl) (by kernel_rfl) (by kernel_rfl) (by kernel_rfl) (by exact fun _ _ _ h => h) (Or.inl ⟨by rfl, ?_⟩) (by assumption) ?_
  rotate_left
  · (intro _ hSw; (try dsimp only at hSw); go_simp; (try with_reducible rfl))
  try simp only [Act.put, List.setIfInBounds_toArray, List.set_cons_zero, List.set_cons_succ]
  refine wpAnyH_take (i := 14) (v := ?_) (by simp only [List.getElem?_toArray, List.getElem?_cons_succ, List.getElem?_cons_zero]; rfl) (by kernel_rfl) (by kernel_rfl) (by kernel_rfl) (by exact fun _ _ _ h => h) (Or.inl ⟨by rfl, ?_⟩) (by assumption) ?_
  rotate_left
  · (intro _ hSw; (try dsimp only at hSw); go_simp; (try with_reducible rfl))
  try simp only [Act.put, List.setIfInBounds_toArray, List.set_cons_zero, List.set_cons_succ]
  refine wpAnyH_take (i := 15) (v := ?_) (by simp only [List.getElem?_toArray, List.getElem?_cons_succ, List.getElem?_cons_zero]; rfl) (by kernel_rfl) (by kernel_rfl) (by kernel_rfl) (by exact fun _ _ _ h => h) (Or.inl ⟨by rfl, ?_⟩) (by assumption) ?_
  rotate_left
  · (intro _ hSw; (try dsimp only at hSw); go_simp; (try with_reducible rfl))
  try simp only [Act.put, List.setIfInBounds_toArray, List.set_cons_zero, List.set_cons_succ]
  refine wpAnyH_take (i := 16) (v := ?_) (by simp only [List.getElem?_toArray, List.getElem?_cons_succ, List.getElem?_cons_zero]; rfl) (by kernel_rfl) (by kernel_rfl) (by kernel_rfl) (by exact fun _ _ _ h => h) (Or.inl ⟨by rfl, ?_⟩) (by assumption) ?_
  rotate_left
  · (intro _ hSw; (try dsimp only at hSw); go_simp; (try with_reducible rfl))
  try simp only [Act.put, List.setIfInBounds_toArray, List.set_cons_zero, List.set_cons_succ]
  refine wpAnyH_ready (rs := [8]) (by kernel_rfl) (by simp) ?_
  refine AllReadyH.cons (by simp only [List.getElem?_toArray, List.getElem?_cons_succ, List.getElem?_cons_zero]; rfl) (fun Kq hKq => ?_) AllReadyH.nil
  (go_simp; refine (HDd.out.1.ow.drop y i HA.out.2.2).mono ?_; rintro e z1 ⟨rfl, h1⟩; rw [HDE.out]; have h1a := h1.out.1; rw [HDR.out] at h1a; have HP1 : Hid (Sp w0 X p r P' B oK nK cK oL nL cL ks ls (dropS s (y, i)) N z1) := HDd.out.1.prog h1a h1.out.2; have HO1 : Hid (z1.heap[O]? = some (.cells #[.int .i64 3, .int .u64 ((i : Nat) : Int), .string y, .slice ap np cp, .slice ak nk ck, .int .i64 now] 37 (0, 0))) := h1.out.2.at HDd.out.2 (fun hn => hn HD.out.2.2.1); clear h1 h1a)
  refine hKq.out _ _ ?_ (fun hHeldN => ?_)
  · exact HSX.out _ HP1.out.x HO1.out
  clear hKq Kq hHeld
  have hHeld := hHeldN
  clear hHeldN
  refine wpAnyH_ready (rs := [17]) (by kernel_rfl) (by simp) ?_
  refine AllReadyH.cons (by simp only [List.getElem?_toArray, List.getElem?_cons_succ, List.getElem?_cons_zero]; rfl) (fun Kq hKq => ?_) AllReadyH.nil
  (go_simp; refine (rDrop_some B z1 r oK nK cK oL nL cL ks ls HP1.out.ro y i (by rw [HD.out.1.rl.there, HV.out.1]; rfl) (by rw [lastIn_is HD.out.1.rl.la]; exact HV.out.2) (by have q1 := HD.out.1.nk; have q2 := HNN.out; omega)).mono ?_; rintro e z2 ⟨rfl, h2⟩; have HZ : Hid (Sx w0 X (dropS s (y, i)) N z2) := (by obtain ⟨P3, B3, a1, a2, a3, a4, a5, a6, hh⟩ := HP1.out.doc h2.out (HD.out.1.rl.drop (y, i) (by rw [HV.out.1]; simp)) (by have q1 := HD.out.1.nk; unfold delK; rw [List.length_append, List.length_take, List.length_drop]; omega); exact hh.sx); have HX2 : Hid (z2.heap[X]? = some (.cells #[.pointer (some ⟨p, 0, none⟩), .pointer (some ⟨r, 0, none⟩)] 30 (0, 0))) := h2.out.2.at HP1.out.x HP1.out.bx; have HO2 : Hid (z2.heap[O]? = some (.cells #[.int .i64 3, .int .u64 ((i : Nat) : Int), .string y, .slice ap np cp, .slice ak nk ck, .int .i64 now] 37 (0, 0))) := h2.out.2.at HO1.out HD.out.2.2.2; clear h2)
  refine hKq.out _ _ ?_ (fun hHeldN => ?_)
  · exact HSX.out _ HX2.out HO2.out
  clear hKq Kq hHeld
  have hHeld := hHeldN
  clear hHeldN
  refine wpAnyH_take (i := 18) (v := ?_) (by simp only [List.getElem?_toArray, List.getElem?_cons_succ, List.getElem?_cons_zero]; rfl) (by kernel_rfl) (by kernel_rfl) (by kernel_rfl) (by exact fun _ _ _ h => h) (Or.inl ⟨by rfl, ?_⟩) (by assumption) ?_
  rotate_left
  · (intro _ hSw; (try dsimp only at hSw); go_simp; (try with_reducible rfl))
  try simp only [Act.put, List.setIfInBounds_toArray, List.set_cons_zero, List.set_cons_succ]
  refine wpAnyH_take (i := 19) (v := ?_) (by simp only [List.getElem?_toArray, List.getElem?_cons_succ, List.getElem?_cons_zero]; rfl) (by kernel_rfl) (by kernel_rfl) (by kernel_rfl) (by exact fun _ _ _ h => h) (Or.inl ⟨by rfl, ?_⟩) (by assumption) ?_
  rotate_left
  · (intro _ hSw; (try dsimp only at hSw); go_simp; (try with_reducible rfl))
  try simp only [Act.put, List.setIfInBounds_toArray, List.set_cons_zero, List.set_cons_succ]
  refine wpAnyH_done (by kernel_rfl) ?_ _
  clear hHeld
  go_wp2_with fail
  go_ret
  exact ⟨rfl, HZ.out⟩
end Go.Proofs.YtkoaiibjahlnmabGreat
/- StorePlays: Has, Committed. -/
namespace Go.Proofs.YtkoaiibjahlnmabGreat
open Go.RowKit Go.Maps Go.Sort Orl
set_option linter.unusedVariables false
set_option linter.unusedSimpArgs false

set_option maxRecDepth 10000 in
set_option maxHeartbeats 1000000 in
theorem plays_has {w0 : World} {X p r : Nat} {P B : Nat → Prop} {oK : Option Addr} {nK cK : Nat} {oL : Option Addr} {nL cL : Nat} {ks : List KV} {ls : List Mk} {s : St} {N : Nat} {w : World} (h : Sd w0 X p r P B oK nK cK oL nL cL ks ls s N w) (hN : N ≤ 800000000) (i : Nat) (y : Tx) (ap : Option Addr) (np cp : Nat) (ak : Option Addr) (nk ck : Nat) (now : Int) (hi : i < 18446744073709551616) :
    Calls Tryz.prog 7 #[.pointer (some ⟨X, 0, none⟩), .agg #[.int .i64 6, .int .u64 ((i : Nat) : Int), .string y, .slice ap np cp, .slice ak nk ck, .int .i64 now]] w fun e w' => e = .returned (.bool true) ∧ Hid (Sx w0 X s N w') := by
  have HI : Hid (i < 18446744073709551616) := hi
  obtain ⟨C, hC⟩ : ∃ C, comB ks ls i = C := ⟨_, rfl⟩
  have HC : Hid (comB ks ls i = C) := hC
  clear hi hC
  obtain ⟨P', hSd, hob, hpo, hbo⟩ := h.arg (.cells #[.int .i64 6, .int .u64 ((i : Nat) : Int), .string y, .slice ap np cp, .slice ak nk ck, .int .i64 now] 37)
  have HD : Hid (Sd w0 X p r P' B oK nK cK oL nL cL ks ls s N (w.alloc (.cells #[.int .i64 6, .int .u64 ((i : Nat) : Int), .string y, .slice ap np cp, .slice ak nk ck, .int .i64 now] 37)) ∧ (w.alloc (.cells #[.int .i64 6, .int .u64 ((i : Nat) : Int), .string y, .slice ap np cp, .slice ak nk ck, .int .i64 now] 37)).heap[w.heap.size]? = some (.cells #[.int .i64 6, .int .u64 ((i : Nat) : Int), .string y, .slice ap np cp, .slice ak nk ck, .int .i64 now] 37 (0, 0)) ∧ P' w.heap.size ∧ ¬ B w.heap.size) := ⟨hSd, hob, hpo, hbo⟩
  have HNN : Hid (N ≤ 800000000) := hN
  clear h hSd hob hpo hbo hN
  go_enter Tryz.func7, Tryz.ntmps7
  go_wp2_with fail
  generalize w.alloc (.cells #[.int .i64 6, .int .u64 ((i : Nat) : Int), .string y, .slice ap np cp, .slice ak nk ck, .int .i64 now] 37) = W at HD ⊢
  generalize w.heap.size = O at HD ⊢
  have HDd : Hid (Sd w0 X p r P' B oK nK cK oL nL cL ks ls s N W.drew ∧ W.drew.heap[O]? = some (.cells #[.int .i64 6, .int .u64 ((i : Nat) : Int), .string y, .slice ap np cp, .slice ak nk ck, .int .i64 now] 37 (0, 0))) := ⟨HD.out.1.go ((Keeps.refl no W).drew), ((Keeps.refl no W).drew).at HD.out.2.1 id⟩
  have HSX : Hid (∀ Y : World, Y.heap[X]? = some (.cells #[.pointer (some ⟨p, 0, none⟩), .pointer (some ⟨r, 0, none⟩)] 30 (0, 0)) → Y.heap[O]? = some (.cells #[.int .i64 6, .int .u64 ((i : Nat) : Int), .string y, .slice ap np cp, .slice ak nk ck, .int .i64 now] 37 (0, 0)) → Y.cell? ⟨X, 0, none⟩ = some (.pointer (some ⟨p, 0, none⟩)) ∧ Y.cell? ⟨X, 1, none⟩ = some (.pointer (some ⟨r, 0, none⟩)) ∧ Y.cell? ⟨O, 1, none⟩ = some (.int .u64 ((i : Nat) : Int)) ∧ Y.cell? ⟨O, 2, none⟩ = some (.string y) ∧ Y.cell? ⟨O, 3, none⟩ = some (.slice ap np cp) ∧ Y.cell? ⟨O, 4, none⟩ = some (.slice ak nk ck) ∧ Y.cell? ⟨O, 5, none⟩ = some (.int .i64 now)) := fun Y h1 h2 => ⟨cell_of_blk h1 0, cell_of_blk h1 1, cell_of_blk h2 1, cell_of_blk h2 2, cell_of_blk h2 3, cell_of_blk h2 4, cell_of_blk h2 5⟩
  refine wp_region_held_drew (S := (fun Y => Y.cell? ⟨X, 0, none⟩ = some (.pointer (some ⟨p, 0, none⟩)) ∧ Y.cell? ⟨X, 1, none⟩ = some (.pointer (some ⟨r, 0, none⟩)) ∧ Y.cell? ⟨O, 1, none⟩ = some (.int .u64 ((i : Nat) : Int)) ∧ Y.cell? ⟨O, 2, none⟩ = some (.string y) ∧ Y.cell? ⟨O, 3, none⟩ = some (.slice ap np cp) ∧ Y.cell? ⟨O, 4, none⟩ = some (.slice ak nk ck) ∧ Y.cell? ⟨O, 5, none⟩ = some (.int .i64 now))) (by kernel_rfl) ?_ (fun hHeld => ?_)
  · first | exact HSX.out _ HD.out.1.x HD.out.2.1 | exact HSX.out _ HDd.out.1.x HDd.out.2
  refine wpAnyH_take (i := 0) (v := ?_) (by simp only [List.getElem?_toArray, List.getElem?_cons_succ, List.getElem?_cons_zero]; rfl) (by kernel_rfl) (by kernel_rfl) (by kernel_rfl) (by exact fun _ _ _ h => h) (Or.inl ⟨by rfl, ?_⟩) (by assumption) ?_
  rotate_left
  · (intro _ hSw; (try dsimp only at hSw); go_simp; (try with_reducible rfl))
  try simp only [Act.put, List.setIfInBounds_toArray, List.set_cons_zero, List.set_cons_succ]
  refine wpAnyH_take (i := 1) (v := ?_) (by simp only [List.getElem?_toArray, List.getElem?_cons_succ, List.getElem?_cons_zero]; rfl) (by kernel_rfl) (by kernel_rfl) (by kernel_rfl) (by exact fun _ _ _ h => h) (Or.inl ⟨by rfl, ?_⟩) (by assumption) ?_
  rotate_left
  · (intro _ hSw; (try dsimp only at hSw); go_simp; (try with_reducible rfl))
  try simp only [Act.put, List.setIfInBounds_toArray, List.set_cons_zero, List.set_cons_succ]
  refine wpAnyH_take (i := 2) (v := ?_) (by simp only [List.getElem?_toArray, List.getElem?_cons_succ, List.getElem?_cons_zero]; rfl) (by kernel_rfl) (by kernel_rfl) (by kernel_rfl) (by exact fun _ _ _ h => h) (Or.inl ⟨by rfl, ?_⟩) (by assumption) ?_
  rotate_left
  · (intro _ hSw; (try dsimp only at hSw); go_simp; (try with_reducible rfl))
  try simp only [Act.put, List.setIfInBounds_toArray, List.set_cons_zero, List.set_cons_succ]
  refine wpAnyH_take (i := 3) (v := ?_) (by simp only [List.getElem?_toArray, List.getElem?_cons_succ, List.getElem?_cons_zero]; rfl) (by kernel_rfl) (by kernel_rfl) (by kernel_rfl) (by exact fun _ _ _ h => h) (Or.inl ⟨by rfl, ?_⟩) (by assumption) ?_
  rotate_left
  · (intro _ hSw; (try dsimp only at hSw); go_simp; (try with_reducible rfl))
  try simp only [Act.put, List.setIfInBounds_toArray, List.set_cons_zero, List.set_cons_succ]
  refine wpAnyH_take (i := 4) (v := ?_) (by simp only [List.getElem?_toArray, List.getElem?_cons_succ, List.getElem?_cons_zero]; rfl) (by kernel_rfl) (by kernel_rfl) (by kernel_rfl) (by exact fun _ _ _ h => h) (Or.inl ⟨by rfl, ?_⟩) (by assumption) ?_
  rotate_left
  · (intro _ hSw; (try dsimp only at hSw); go_simp; (try with_reducible rfl))
  try simp only [Act.put, List.setIfInBounds_toArray, List.set_cons_zero, List.set_cons_succ]
  refine wpAnyH_take (i := 5) (v := ?_) (by simp only [List.getElem?_toArray, List.getElem?_cons_succ, List.getElem?_cons_zero]; rfl) (by kernel_rfl) (by kernel_rfl) (by kernel_rfl) (by exact fun _ _ _ h => h) (Or.inl ⟨by rfl, ?_⟩) (by assumption) ?_
  rotate_left
  · (intro _ hSw; (try dsimp only at hSw); go_simp; (try with_reducible rfl))
  try simp only [Act.put, List.setIfInBounds_toArray, List.set_cons_zero, List.set_cons_succ]
  refine wpAnyH_take (i := 7) (v := ?_) (by simp only [List.getElem?_toArray, List.getElem?_cons_succ, List.getElem?_cons_zero]; rfl) (by kernel_rfl) (by kernel_rfl) (by kernel_rfl) (by exact fun _ _ _ h => h) (Or.inl ⟨by rfl, ?_⟩) (by assumption) ?_
  rotate_left
  · (intro _ hSw; (try dsimp only at hSw); go_simp; (try with_reducible rfl))
  try simp only [Act.put, List.setIfInBounds_toArray, List.set_cons_zero, List.set_cons_succ]
  refine wpAnyH_take (i := 8) (v := ?_) (by simp only [List.getElem?_toArray, List.getElem?_cons_succ, List.getElem?_cons_zero]; rfl) (by kernel_rfl) (by kernel_rfl) (by kernel_rfl) (by exact fun _ _ _ h => h) (Or.inl ⟨by rfl, ?_⟩) (by assumption) ?_
  rotate_left
  · (intro _ hSw; (try dsimp only at hSw); go_simp; (try with_reducible rfl))
  try simp only [Act.put, List.setIfInBounds_toArray, List.set_cons_zero, List.set_cons_succ]
  refine wpAnyH_take (i := 9) (v := ?_) (by simp only [List.getElem?_toArray, List.getElem?_cons_succ, List.getElem?_cons_zero]; rfl) (by kernel_rfl) (by kernel_rfl) (by kernel_rfl) (by exact fun _ _ _ h => h) (Or.inl ⟨by rfl, ?_⟩) (by assumption) ?_
  rotate_left
  · (intro _ hSw; (try dsimp only at hSw); go_simp; (try with_reducible rfl))
  try simp only [Act.put, List.setIfInBounds_toArray, List.set_cons_zero, List.set_cons_succ]
  refine wpAnyH_take (i := 10) (v := ?_) (by simp only [List.getElem?_toArray, List.getElem?_cons_succ, List.getElem?_cons_zero]; rfl) (by kernel_rfl) (by kernel_rfl) (by kernel_rfl) (by exact fun _ _ _ h => h) (Or.inl ⟨by rfl, ?_⟩) (by assumption) ?_
  rotate_left
  · (intro _ hSw; (try dsimp only at hSw); go_simp; (try with_reducible rfl))
  try simp only [Act.put, List.setIfInBounds_toArray, List.set_cons_zero, List.set_cons_succ]
  refine wpAnyH_take (i := 11) (v := ?_) (by simp only [List.getElem?_toArray, List.getElem?_cons_succ, List.getElem?_cons_zero]; rfl) (by kernel_rfl) (by kernel_rfl) (by kernel_rfl) (by exact fun _ _ _ h => h) (Or.inl ⟨by rfl, ?_⟩) (by assumption) ?_
  rotate_left
  · (intro _ hSw; (try dsimp only at hSw); go_simp; (try with_reducible rfl))
  try simp only [Act.put, List.setIfInBounds_toArray, List.set_cons_zero, List.set_cons_succ]
  refine wpAnyH_take (i := 12) (v := ?_) (by simp only [List.getElem?_toArray, List.getElem?_cons_succ, List.getElem?_cons_zero]; rfl) (by kernel_rfl) (by kernel_rfl) (by kernel_rfl) (by exact fun _ _ _ h => h) (Or.inl ⟨by rfl, ?_⟩) (by assumption) ?_
  rotate_left
  · (intro _ hSw; (try dsimp only at hSw); go_simp; (try with_reducible rfl))
  try simp only [Act.put, List.setIfInBounds_toArray, List.set_cons_zero, List.set_cons_succ]
  refine wpAnyH_ready (rs := [6]) (by kernel_rfl) (by simp) ?_
  refine AllReadyH.cons (by simp only [List.getElem?_toArray, List.getElem?_cons_succ, List.getElem?_cons_zero]; rfl) (fun Kq hKq => ?_) AllReadyH.nil
  (go_simp; refine (HDd.out.1.ow.hasN i HI.out).mono ?_; rintro e z1 ⟨⟨n, rfl, hc⟩, h1⟩; have hcn := HD.out.1.rl.count hc.out; have HCN : Hid (hasC ks i = n) := hcn.symm; have HP1 : Hid (Sp w0 X p r P' B oK nK cK oL nL cL ks ls s N z1) := HDd.out.1.sp.go h1; have HO1 : Hid (z1.heap[O]? = some (.cells #[.int .i64 6, .int .u64 ((i : Nat) : Int), .string y, .slice ap np cp, .slice ak nk ck, .int .i64 now] 37 (0, 0))) := h1.at HDd.out.2 id; clear h1 hc hcn)
  refine hKq.out _ _ ?_ (fun hHeldN => ?_)
  · exact HSX.out _ HP1.out.x HO1.out
  clear hKq Kq hHeld
  have hHeld := hHeldN
  clear hHeldN
  refine wpAnyH_ready (rs := [13]) (by kernel_rfl) (by simp) ?_
  refine AllReadyH.cons (by simp only [List.getElem?_toArray, List.getElem?_cons_succ, List.getElem?_cons_zero]; rfl) (fun Kq hKq => ?_) AllReadyH.nil
  (go_simp; refine (rHas_any z1 r oK nK cK oL nL cL ks ls HP1.out.ro.rd i).mono ?_; rintro e z2 ⟨rfl, h2⟩; rw [HCN.out]; have HP2 : Hid (Sp w0 X p r P' B oK nK cK oL nL cL ks ls s N z2) := HP1.out.go h2; have HO2 : Hid (z2.heap[O]? = some (.cells #[.int .i64 6, .int .u64 ((i : Nat) : Int), .string y, .slice ap np cp, .slice ak nk ck, .int .i64 now] 37 (0, 0))) := h2.at HO1.out id; clear h2)
  refine hKq.out _ _ ?_ (fun hHeldN => ?_)
  · exact HSX.out _ HP2.out.x HO2.out
  clear hKq Kq hHeld
  have hHeld := hHeldN
  clear hHeldN
  refine wpAnyH_take (i := 14) (v := ?_) (by simp only [List.getElem?_toArray, List.getElem?_cons_succ, List.getElem?_cons_zero]; rfl) (by kernel_rfl) (by kernel_rfl) (by kernel_rfl) (by exact fun _ _ _ h => h) (Or.inl ⟨by rfl, ?_⟩) (by assumption) ?_
  rotate_left
  · (intro _ hSw; (try dsimp only at hSw); go_simp; (try with_reducible rfl))
  try simp only [Act.put, List.setIfInBounds_toArray, List.set_cons_zero, List.set_cons_succ]
  refine wpAnyH_take (i := 15) (v := ?_) (by simp only [List.getElem?_toArray, List.getElem?_cons_succ, List.getElem?_cons_zero]; rfl) (by kernel_rfl) (by kernel_rfl) (by kernel_rfl) (by exact fun _ _ _ h => h) (Or.inl ⟨by rfl, ?_⟩) (by assumption) ?_
  rotate_left
  · (intro _ hSw; (try dsimp only at hSw); go_simp; (try with_reducible rfl))
  try simp only [Act.put, List.setIfInBounds_toArray, List.set_cons_zero, List.set_cons_succ]
  refine wpAnyH_take (i := 16) (v := ?_) (by simp only [List.getElem?_toArray, List.getElem?_cons_succ, List.getElem?_cons_zero]; rfl) (by kernel_rfl) (by kernel_rfl) (by kernel_rfl) (by exact fun _ _ _ h => h) (Or.inl ⟨by rfl, ?_⟩) (by assumption) ?_
  rotate_left
  · (intro _ hSw; (try dsimp only at hSw); go_simp; (try with_reducible rfl))
  try simp only [Act.put, List.setIfInBounds_toArray, List.set_cons_zero, List.set_cons_succ]
  refine wpAnyH_take (i := 17) (v := ?_) (by simp only [List.getElem?_toArray, List.getElem?_cons_succ, List.getElem?_cons_zero]; rfl) (by kernel_rfl) (by kernel_rfl) (by kernel_rfl) (by exact fun _ _ _ h => h) (Or.inl ⟨by rfl, ?_⟩) (by assumption) ?_
  rotate_left
  · (intro _ hSw; (try dsimp only at hSw); go_simp; (try with_reducible rfl))
  try simp only [Act.put, List.setIfInBounds_toArray, List.set_cons_zero, List.set_cons_succ]
  refine wpAnyH_take (i := 18) (v := ?_) (by simp only [List.getElem?_toArray, List.getElem?_cons_succ, List.getElem?_cons_zero]; rfl) (by kernel_rfl) (by kernel_rfl) (by kernel_rfl) (by exact fun _ _ _ h => h) (Or.inl ⟨by rfl, ?_⟩) (by assumption) ?_
  rotate_left
  · (intro _ hSw; (try dsimp only at hSw); go_simp; (try with_reducible rfl))
  try simp only [Act.put, List.setIfInBounds_toArray, List.set_cons_zero, List.set_cons_succ]
  refine wpAnyH_take (i := 19) (v := ?_) (by simp only [List.getElem?_toArray, List.getElem?_cons_succ, List.getElem?_cons_zero]; rfl) (by kernel_rfl) (by kernel_rfl) (by kernel_rfl) (by exact fun _ _ _ h => h) (Or.inl ⟨by rfl, ?_⟩) (by assumption) ?_
  rotate_left
  · (intro _ hSw; (try dsimp only at hSw); go_simp; (try with_reducible rfl))
  try simp only [Act.put, List.setIfInBounds_toArray, List.set_cons_zero, List.set_cons_succ]
  refine wpAnyH_take (i := 20) (v := ?_) (by simp only [List.getElem?_toArray, List.getElem?_cons_succ, List.getElem?_cons_zero]; rfl) (by kernel_rfl) (by kernel_rfl) (by kernel_rfl) (by exact fun _ _ _ h => h) (Or.inl ⟨by rfl, ?_⟩) (by assumption) ?_
  rotate_left
  · (intro _ hSw; (try dsimp only at hSw); go_simp; (try with_reducible rfl))
  try simp only [Act.put, List.setIfInBounds_toArray, List.set_cons_zero, List.set_cons_succ]
  refine wpAnyH_take (i := 21) (v := ?_) (by simp only [List.getElem?_toArray, List.getElem?_cons_succ, List.getElem?_cons_zero]; rfl) (by kernel_rfl) (by kernel_rfl) (by kernel_rfl) (by exact fun _ _ _ h => h) (Or.inl ⟨by rfl, ?_⟩) (by assumption) ?_
  rotate_left
  · (intro _ hSw; (try dsimp only at hSw); go_simp; (try with_reducible rfl))
  try simp only [Act.put, List.setIfInBounds_toArray, List.set_cons_zero, List.set_cons_succ]
  refine wpAnyH_take (i := 23) (v := ?_) (by simp only [List.getElem?_toArray, List.getElem?_cons_succ, List.getElem?_cons_zero]; rfl) (by kernel_rfl) (by kernel_rfl) (by kernel_rfl) (by exact fun _ _ _ h => h) (Or.inl ⟨by rfl, ?_⟩) (by assumption) ?_
  rotate_left
  · (intro _ hSw; (try dsimp only at hSw); go_simp; (try with_reducible rfl))
  try simp only [Act.put, List.setIfInBounds_toArray, List.set_cons_zero, List.set_cons_succ]
  refine wpAnyH_take (i := 24) (v := ?_) (by simp only [List.getElem?_toArray, List.getElem?_cons_succ, List.getElem?_cons_zero]; rfl) (by kernel_rfl) (by kernel_rfl) (by kernel_rfl) (by exact fun _ _ _ h => h) (Or.inl ⟨by rfl, ?_⟩) (by assumption) ?_
  rotate_left
  · (intro _ hSw; (try dsimp only at hSw); go_simp; (try with_reducible rfl))
  try simp only [Act.put, List.setIfInBounds_toArray, List.set_cons_zero, List.set_cons_succ]
  refine wpAnyH_take (i := 25) (v := ?_) (by simp only [List.getElem?_toArray, List.getElem?_cons_succ, List.getElem?_cons_zero]; rfl) (by kernel_rfl) (by kernel_rfl) (by kernel_rfl) (by exact fun _ _ _ h => h) (Or.inl ⟨by rfl, ?_⟩) (by assumption) ?_
  rotate_left
  · (intro _ hSw; (try dsimp only at hSw); go_simp; (try with_reducible rfl))
  try simp only [Act.put, List.setIfInBounds_toArray, List.set_cons_zero, List.set_cons_succ]
  refine wpAnyH_take (i := 26) (v := ?_) (by simp only [List.getElem?_toArray, List.getElem?_cons_succ, List.getElem?_cons_zero]; rfl) (by kernel_rfl) (by kernel_rfl) (by kernel_rfl) (by exact fun _ _ _ h => h) (Or.inl ⟨by rfl, ?_⟩) (by assumption) ?_
  rotate_left
  · (intro _ hSw; (try dsimp only at hSw); go_simp; (try with_reducible rfl))
  try simp only [Act.put, List.setIfInBounds_toArray, List.set_cons_zero, List.set_cons_succ]
  refine wpAnyH_take (i := 27) (v := ?_) (by simp only [List.getElem?_toArray, List.getElem?_cons_succ, List.getElem?_cons_zero]; rfl) (by kernel_rfl) (by kernel_rfl) (by kernel_rfl) (by exact fun _ _ _ h => h) (Or.inl ⟨by rfl, ?_⟩) (by assumption) ?_
  rotate_left
  · (intro _ hSw; (try dsimp only at hSw); go_simp; (try with_reducible rfl))
  try simp only [Act.put, List.setIfInBounds_toArray, List.set_cons_zero, List.set_cons_succ]
  refine wpAnyH_take (i := 28) (v := ?_) (by simp only [List.getElem?_toArray, List.getElem?_cons_succ, List.getElem?_cons_zero]; rfl) (by kernel_rfl) (by kernel_rfl) (by kernel_rfl) (by exact fun _ _ _ h => h) (Or.inl ⟨by rfl, ?_⟩) (by assumption) ?_
  rotate_left
  · (intro _ hSw; (try dsimp only at hSw); go_simp; (try with_reducible rfl))
  try simp only [Act.put, List.setIfInBounds_toArray, List.set_cons_zero, List.set_cons_succ]
  refine wpAnyH_ready (rs := [22]) (by kernel_rfl) (by simp) ?_
  refine AllReadyH.cons (by simp only [List.getElem?_toArray, List.getElem?_cons_succ, List.getElem?_cons_zero]; rfl) (fun Kq hKq => ?_) AllReadyH.nil
  (go_simp; refine (HP2.out.ow.committed i HI.out).mono ?_; rintro e z3 ⟨⟨C3, rfl, hB3⟩, h3⟩; have hbe : C3 = C := (by rw [← HC.out]; exact Bool.eq_iff_iff.2 (hB3.out.trans (HD.out.1.rl.comB i).symm)); subst hbe; have HP3 : Hid (Sp w0 X p r P' B oK nK cK oL nL cL ks ls s N z3) := HP2.out.go h3; have HO3 : Hid (z3.heap[O]? = some (.cells #[.int .i64 6, .int .u64 ((i : Nat) : Int), .string y, .slice ap np cp, .slice ak nk ck, .int .i64 now] 37 (0, 0))) := h3.at HO2.out id; clear h3; clear hB3)
  refine hKq.out _ _ ?_ (fun hHeldN => ?_)
  · exact HSX.out _ HP3.out.x HO3.out
  clear hKq Kq hHeld
  have hHeld := hHeldN
  clear hHeldN
  refine wpAnyH_ready (rs := [29]) (by kernel_rfl) (by simp) ?_
  refine AllReadyH.cons (by simp only [List.getElem?_toArray, List.getElem?_cons_succ, List.getElem?_cons_zero]; rfl) (fun Kq hKq => ?_) AllReadyH.nil
  (go_simp; refine (rCommitted_any z3 r oK nK cK oL nL cL ks ls HP3.out.ro.rd i).mono ?_; rintro e z4 ⟨rfl, h4⟩; rw [HC.out]; have HP4 : Hid (Sp w0 X p r P' B oK nK cK oL nL cL ks ls s N z4) := HP3.out.go h4; have HO4 : Hid (z4.heap[O]? = some (.cells #[.int .i64 6, .int .u64 ((i : Nat) : Int), .string y, .slice ap np cp, .slice ak nk ck, .int .i64 now] 37 (0, 0))) := h4.at HO3.out id; clear h4)
  refine hKq.out _ _ ?_ (fun hHeldN => ?_)
  · exact HSX.out _ HP4.out.x HO4.out
  clear hKq Kq hHeld
  have hHeld := hHeldN
  clear hHeldN
  refine wpAnyH_take (i := 30) (v := ?_) (by simp only [List.getElem?_toArray, List.getElem?_cons_succ, List.getElem?_cons_zero]; rfl) (by kernel_rfl) (by kernel_rfl) (by kernel_rfl) (by exact fun _ _ _ h => h) (Or.inl ⟨by rfl, ?_⟩) (by assumption) ?_
  rotate_left
  · (intro _ hSw; (try dsimp only at hSw); go_simp; (try with_reducible rfl))
  try simp only [Act.put, List.setIfInBounds_toArray, List.set_cons_zero, List.set_cons_succ]
  refine wpAnyH_take (i := 31) (v := ?_) (by simp only [List.getElem?_toArray, List.getElem?_cons_succ, List.getElem?_cons_zero]; rfl) (by kernel_rfl) (by kernel_rfl) (by kernel_rfl) (by exact fun _ _ _ h => h) (Or.inl ⟨by rfl, ?_⟩) (by assumption) ?_
  rotate_left
  · (intro _ hSw; (try dsimp only at hSw); go_simp; (try with_reducible rfl))
  try simp only [Act.put, List.setIfInBounds_toArray, List.set_cons_zero, List.set_cons_succ]
  refine wpAnyH_take (i := 32) (v := ?_) (by simp only [List.getElem?_toArray, List.getElem?_cons_succ, List.getElem?_cons_zero]; rfl) (by kernel_rfl) (by kernel_rfl) (by kernel_rfl) (by exact fun _ _ _ h => h) (Or.inl ⟨by rfl, ?_⟩) (by assumption) ?_
  rotate_left
  · (intro _ hSw; (try dsimp only at hSw); go_simp; (try with_reducible rfl))
  try simp only [Act.put, List.setIfInBounds_toArray, List.set_cons_zero, List.set_cons_succ]
  refine wpAnyH_done (by kernel_rfl) ?_ _
  clear hHeld
  go_wp2_with fail
  go_ret
  exact ⟨rfl, (HP4.out.sd HD.out.1.rl HD.out.1.nk).sx⟩
end Go.Proofs.YtkoaiibjahlnmabGreat
