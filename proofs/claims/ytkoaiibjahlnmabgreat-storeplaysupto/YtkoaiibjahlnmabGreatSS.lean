import Derived.Test.YtkoaiibjahlnmabGreatSQ
import Derived.Test.YtkoaiibjahlnmabGreatSR
import Derived.Test.YtkoaiibjahlnmabGreatKn
/- StorePlays: Latest. -/
namespace Go.Proofs.YtkoaiibjahlnmabGreat
open Go.RowKit Go.Maps Go.Sort Orl
set_option linter.unusedVariables false
set_option linter.unusedSimpArgs false

theorem sameVN (W : World) (y : Tx) (i : Int) (x : Tx) :
    Calls Tryz.prog 21 #[.agg #[.string y, .int .u64 i, .string x, .slice none 0 0], .agg #[.string y, .int .u64 i, .string x, .slice none 0 0]] W fun e w' => e = .returned (.bool true) ∧ Keeps no W w' := by
  refine (sameVersion_any W ⟨y, i, x, none, 0, 0⟩ ⟨y, i, x, none, 0, 0⟩ [] [] rfl rfl (by simp) (by simp) ⟨.inl rfl, by simp, fun _ => rfl⟩ ⟨.inl rfl, by simp, fun _ => rfl⟩).mono ?_
  rintro e w' ⟨⟨B, hB, hB2⟩, hk⟩
  exact ⟨by rw [hB, hB2.out.2 ⟨rfl, rfl, rfl, rfl⟩], hk⟩
theorem sameVS (W : World) (y : Tx) (i : Nat) (x : Tx) {o o' : Option Addr} {n n' c c' : Nat} {keys : List Tx} (hn : n = keys.length) (hn' : n' = keys.length) (hl : keys.length ≤ 8796093022000) (h1 : Own TE W o c keys) (h2 : Own TE W o' c' keys) :
    Calls Tryz.prog 21 #[.agg #[.string y, .int .u64 ((i : Nat) : Int), .string x, .slice o n c], .agg #[.string y, .int .u64 ((i : Nat) : Int), .string x, .slice o' n' c']] W fun e w' => e = .returned (.bool true) ∧ Keeps no W w' := by
  refine (sameVersion_any W ⟨y, _, x, o, n, c⟩ ⟨y, _, x, o', n', c'⟩ keys keys hn hn' hl hl h1.sl h2.sl).mono ?_
  rintro e w' ⟨⟨B, hB, hB2⟩, hk⟩
  exact ⟨by rw [hB, hB2.out.2 ⟨rfl, rfl, rfl, rfl⟩], hk⟩
theorem Rl.found {s : St} {ks : List KV} {ls : List Mk} (h : Rl s ks ls) {m : Mk} {v : Vr} (hv : s.V m = some v) : (ks.getD (fpos ks m) kv0).val = v.val ∧ (ks.getD (fpos ks m) kv0).keys = v.keys := by
  have ht : Go.Proofs.YtkoaiibjahlnmabGreat.there ks m = true := by rw [h.there, hv]; rfl
  simp only [Go.Proofs.YtkoaiibjahlnmabGreat.there, Bool.and_eq_true, decide_eq_true_eq] at ht
  have h1 := h.is _ (getD_mem_lt kv0 ht.1)
  rw [ht.2, hv] at h1
  injection h1 with h1
  rw [h1]
  exact ⟨rfl, rfl⟩
set_option maxRecDepth 10000 in
set_option maxHeartbeats 1000000 in
theorem plays_lat0 {w0 : World} {X p r : Nat} {P B : Nat → Prop} {oK : Option Addr} {nK cK : Nat} {oL : Option Addr} {nL cL : Nat} {ks : List KV} {ls : List Mk} {s : St} {N : Nat} {w : World} (h : Sd w0 X p r P B oK nK cK oL nL cL ks ls s N w) (hN : N ≤ 800000000) (i : Nat) (y : Tx) (ap : Option Addr) (np cp : Nat) (ak : Option Addr) (nk ck : Nat) (now : Int) (hi : i < 18446744073709551616) (hy : y.size ≤ 140737488351232) (hv : s.V (y, s.last y) = none) :
    Calls Tryz.prog 7 #[.pointer (some ⟨X, 0, none⟩), .agg #[.int .i64 5, .int .u64 ((i : Nat) : Int), .string y, .slice ap np cp, .slice ak nk ck, .int .i64 now]] w fun e w' => e = .returned (.bool true) ∧ Hid (Sx w0 X s N w') := by
  obtain ⟨L, hL⟩ : ∃ L, s.last y = L := ⟨_, rfl⟩
  have HLL : Hid (s.last y = L) := hL
  have HV : Hid (s.V (y, s.last y) = none) := hv
  clear hv hL
  have HA : Hid (i < 18446744073709551616 ∧ y.size ≤ 140737488351232 ∧ KM.ok (y, i)) := ⟨hi, hy, by show y.size ≤ maxLen; unfold maxLen; omega, hi⟩
  clear hi hy
  obtain ⟨P', hSd, hob, hpo, hbo⟩ := h.arg (.cells #[.int .i64 5, .int .u64 ((i : Nat) : Int), .string y, .slice ap np cp, .slice ak nk ck, .int .i64 now] 37)
  have HD : Hid (Sd w0 X p r P' B oK nK cK oL nL cL ks ls s N (w.alloc (.cells #[.int .i64 5, .int .u64 ((i : Nat) : Int), .string y, .slice ap np cp, .slice ak nk ck, .int .i64 now] 37)) ∧ (w.alloc (.cells #[.int .i64 5, .int .u64 ((i : Nat) : Int), .string y, .slice ap np cp, .slice ak nk ck, .int .i64 now] 37)).heap[w.heap.size]? = some (.cells #[.int .i64 5, .int .u64 ((i : Nat) : Int), .string y, .slice ap np cp, .slice ak nk ck, .int .i64 now] 37 (0, 0)) ∧ P' w.heap.size ∧ ¬ B w.heap.size) := ⟨hSd, hob, hpo, hbo⟩
  have HNN : Hid (N ≤ 800000000) := hN
  clear h hSd hob hpo hbo hN
  go_enter Tryz.func7, Tryz.ntmps7
  go_wp2_with fail
  generalize w.alloc (.cells #[.int .i64 5, .int .u64 ((i : Nat) : Int), .string y, .slice ap np cp, .slice ak nk ck, .int .i64 now] 37) = W at HD ⊢
  generalize w.heap.size = O at HD ⊢
  have HDd : Hid (Sd w0 X p r P' B oK nK cK oL nL cL ks ls s N W.drew ∧ W.drew.heap[O]? = some (.cells #[.int .i64 5, .int .u64 ((i : Nat) : Int), .string y, .slice ap np cp, .slice ak nk ck, .int .i64 now] 37 (0, 0))) := ⟨HD.out.1.go ((Keeps.refl no W).drew), ((Keeps.refl no W).drew).at HD.out.2.1 id⟩
  have HSX : Hid (∀ Y : World, Y.heap[X]? = some (.cells #[.pointer (some ⟨p, 0, none⟩), .pointer (some ⟨r, 0, none⟩)] 30 (0, 0)) → Y.heap[O]? = some (.cells #[.int .i64 5, .int .u64 ((i : Nat) : Int), .string y, .slice ap np cp, .slice ak nk ck, .int .i64 now] 37 (0, 0)) → Y.cell? ⟨X, 0, none⟩ = some (.pointer (some ⟨p, 0, none⟩)) ∧ Y.cell? ⟨X, 1, none⟩ = some (.pointer (some ⟨r, 0, none⟩)) ∧ Y.cell? ⟨O, 1, none⟩ = some (.int .u64 ((i : Nat) : Int)) ∧ Y.cell? ⟨O, 2, none⟩ = some (.string y) ∧ Y.cell? ⟨O, 3, none⟩ = some (.slice ap np cp) ∧ Y.cell? ⟨O, 4, none⟩ = some (.slice ak nk ck) ∧ Y.cell? ⟨O, 5, none⟩ = some (.int .i64 now)) := fun Y h1 h2 => ⟨cell_of_blk h1 0, cell_of_blk h1 1, cell_of_blk h2 1, cell_of_blk h2 2, cell_of_blk h2 3, cell_of_blk h2 4, cell_of_blk h2 5⟩
  refine wp_region_held_drew (S := (fun Y => Y.cell? ⟨X, 0, none⟩ = some (.pointer (some ⟨p, 0, none⟩)) ∧ Y.cell? ⟨X, 1, none⟩ = some (.pointer (some ⟨r, 0, none⟩)) ∧ Y.cell? ⟨O, 1, none⟩ = some (.int .u64 ((i : Nat) : Int)) ∧ Y.cell? ⟨O, 2, none⟩ = some (.string y) ∧ Y.cell? ⟨O, 3, none⟩ = some (.slice ap np cp) ∧ Y.cell? ⟨O, 4, none⟩ = some (.slice ak nk ck) ∧ Y.cell? ⟨O, 5, none⟩ = some (.int .i64 now))) (by kernel_rfl) ?_ (fun hHeld => ?_)
  · first | exact HSX.out _ HD.out.1.x HD.out.2.1 | exact HSX.out _ HDd.out.1.x HDd.out.2
  refine wpAnyH_take (i := 0) (v := ?_) (by simp only [List.getElem?_toArray, List.getElem?_cons_succ, List.getElem?_cons_zero]; rfl) (by kernel_rfl) (by kernel_rfl) (by kernel_rfl) (by exact fun _ _ _ h => h) (Or.inl ⟨by rfl, ?_⟩) (by assumption) ?_
  rotate_left
  · (intro _ hSw; (try dsimp only at hSw); go_simp; (try with_reducible rfl))
  try simp only [Act.put, List.setIfInBounds_toArray, List.set_cons_zero, List.set_cons_succ]
  refine wpAnyH_take (i := 1) (v := ?_) (by simp only [List.getElem?_toArray, List.getElem?_cons_succ, List.getElem?_cons_zero]; rfl) (by kernel_rfl) (by kernel_rfl) (by kernel_rfl) (by exact fun _ _ _ h => h) (Or.inl ⟨by rfl, ?_⟩) (by assumption) ?_
  rotate_left
  · (intro _ hSw; (try dsimp only at hSw); go_simp; (try with_reducible rfl))
  try simp only [Act.put, List.setIfInBounds_toArray, List.set_cons_zero, List.set_cons_succ]
  refine wpAnyH_take (i := 2) (v := ?_) (by simp only [List.getElem?_toArray, List.getElem?_cons_succ, List.getElem?_cons_zero]; rfl) (by kernel_rfl) (by kernel_rfl) (by kernel_rfl) (by exact fun _ _ _ h => h) (Or.inl ⟨by rfl, ?_⟩) (by assumption) ?_
  rotate_left
  · (intro _ hSw; (try dsimp only at hSw); go_simp; (try with_reducible rfl))
  try simp only [Act.put, List.setIfInBounds_toArray, List.set_cons_zero, List.set_cons_succ]
  refine wpAnyH_take (i := 3) (v := ?_) (by simp only [List.getElem?_toArray, List.getElem?_cons_succ, List.getElem?_cons_zero]; rfl) (by kernel_rfl) (by kernel_rfl) (by kernel_rfl) (by exact fun _ _ _ h => h) (Or.inl ⟨by rfl, ?_⟩) (by assumption) ?_
  rotate_left
  · (intro _ hSw; (try dsimp only at hSw); go_simp; (try with_reducible rfl))
  try simp only [Act.put, List.setIfInBounds_toArray, List.set_cons_zero, List.set_cons_succ]
  refine wpAnyH_take (i := 4) (v := ?_) (by simp only [List.getElem?_toArray, List.getElem?_cons_succ, List.getElem?_cons_zero]; rfl) (by kernel_rfl) (by kernel_rfl) (by kernel_rfl) (by exact fun _ _ _ h => h) (Or.inl ⟨by rfl, ?_⟩) (by assumption) ?_
  rotate_left
  · (intro _ hSw; (try dsimp only at hSw); go_simp; (try with_reducible rfl))
  try simp only [Act.put, List.setIfInBounds_toArray, List.set_cons_zero, List.set_cons_succ]
  refine wpAnyH_take (i := 5) (v := ?_) (by simp only [List.getElem?_toArray, List.getElem?_cons_succ, List.getElem?_cons_zero]; rfl) (by kernel_rfl) (by kernel_rfl) (by kernel_rfl) (by exact fun _ _ _ h => h) (Or.inl ⟨by rfl, ?_⟩) (by assumption) ?_
  rotate_left
  · (intro _ hSw; (try dsimp only at hSw); go_simp; (try with_reducible rfl))
  try simp only [Act.put, List.setIfInBounds_toArray, List.set_cons_zero, List.set_cons_succ]
  refine wpAnyH_take (i := 7) (v := ?_) (by simp only [List.getElem?_toArray, List.getElem?_cons_succ, List.getElem?_cons_zero]; rfl) (by kernel_rfl) (by kernel_rfl) (by kernel_rfl) (by exact fun _ _ _ h => h) (Or.inl ⟨by rfl, ?_⟩) (by assumption) ?_
  rotate_left
  · (intro _ hSw; (try dsimp only at hSw); go_simp; (try with_reducible rfl))
  try simp only [Act.put, List.setIfInBounds_toArray, List.set_cons_zero, List.set_cons_succ]
  refine wpAnyH_take (i := 8) (v := ?_) (by simp only [List.getElem?_toArray, List.getElem?_cons_succ, List.getElem?_cons_zero]; rfl) (by kernel_rfl) (by kernel_rfl) (by kernel_rfl) (by exact fun _ _ _ h => h) (Or.inl ⟨by rfl, ?_⟩) (by assumption) ?_
  rotate_left
  · (intro _ hSw; (try dsimp only at hSw); go_simp; (try with_reducible rfl))
  try simp only [Act.put, List.setIfInBounds_toArray, List.set_cons_zero, List.set_cons_succ]
  refine wpAnyH_take (i := 9) (v := ?_) (by simp only [List.getElem?_toArray, List.getElem?_cons_succ, List.getElem?_cons_zero]; rfl) (by kernel_rfl) (by kernel_rfl) (by kernel_rfl) (by exact fun _ _ _ h => h) (Or.inl ⟨by rfl, ?_⟩) (by assumption) ?_
  rotate_left
  · (intro _ hSw; (try dsimp only at hSw); go_simp; (try with_reducible rfl))
  try simp only [Act.put, List.setIfInBounds_toArray, List.set_cons_zero, List.set_cons_succ]
  refine wpAnyH_take (i := 10) (v := ?_) (by simp only [List.getElem?_toArray, List.getElem?_cons_succ, List.getElem?_cons_zero]; rfl) (by kernel_rfl) (by kernel_rfl) (by kernel_rfl) (by exact fun _ _ _ h => h) (Or.inl ⟨by rfl, ?_⟩) (by assumption) ?_
  rotate_left
  · (intro _ hSw; (try dsimp only at hSw); go_simp; (try with_reducible rfl))
  try simp only [Act.put, List.setIfInBounds_toArray, List.set_cons_zero, List.set_cons_succ]
  refine wpAnyH_take (i := 11) (v := ?_) (by simp only [List.getElem?_toArray, List.getElem?_cons_succ, List.getElem?_cons_zero]; rfl) (by kernel_rfl) (by kernel_rfl) (by kernel_rfl) (by exact fun _ _ _ h => h) (Or.inl ⟨by rfl, ?_⟩) (by assumption) ?_
  rotate_left
  · (intro _ hSw; (try dsimp only at hSw); go_simp; (try with_reducible rfl))
  try simp only [Act.put, List.setIfInBounds_toArray, List.set_cons_zero, List.set_cons_succ]
  refine wpAnyH_take (i := 12) (v := ?_) (by simp only [List.getElem?_toArray, List.getElem?_cons_succ, List.getElem?_cons_zero]; rfl) (by kernel_rfl) (by kernel_rfl) (by kernel_rfl) (by exact fun _ _ _ h => h) (Or.inl ⟨by rfl, ?_⟩) (by assumption) ?_
  rotate_left
  · (intro _ hSw; (try dsimp only at hSw); go_simp; (try with_reducible rfl))
  try simp only [Act.put, List.setIfInBounds_toArray, List.set_cons_zero, List.set_cons_succ]
  refine wpAnyH_ready (rs := [6]) (by kernel_rfl) (by simp) ?_
  refine AllReadyH.cons (by simp only [List.getElem?_toArray, List.getElem?_cons_succ, List.getElem?_cons_zero]; rfl) (fun Kq hKq => ?_) AllReadyH.nil
  (go_simp; refine (HDd.out.1.ow.latN y HA.out.2.1 HV.out).mono ?_; rintro e z1 ⟨rfl, h1⟩; have HP1 : Hid (Sp w0 X p r P' B oK nK cK oL nL cL ks ls s N z1) := HDd.out.1.sp.go h1; have HO1 : Hid (z1.heap[O]? = some (.cells #[.int .i64 5, .int .u64 ((i : Nat) : Int), .string y, .slice ap np cp, .slice ak nk ck, .int .i64 now] 37 (0, 0))) := h1.at HDd.out.2 id; clear h1)
  refine hKq.out _ _ ?_ (fun hHeldN => ?_)
  · exact HSX.out _ HP1.out.x HO1.out
  clear hKq Kq hHeld
  have hHeld := hHeldN
  clear hHeldN
  refine wpAnyH_ready (rs := [13]) (by kernel_rfl) (by simp) ?_
  refine AllReadyH.cons (by simp only [List.getElem?_toArray, List.getElem?_cons_succ, List.getElem?_cons_zero]; rfl) (fun Kq hKq => ?_) AllReadyH.nil
  (go_simp; refine (rLatest_none z1 r oK nK cK oL nL cL ks ls HP1.out.ro.rd y (by rw [lastIn_is HD.out.1.rl.la, HD.out.1.rl.there, HV.out]; rfl)).mono ?_; rintro e z2 ⟨rfl, h2⟩; have HP2 : Hid (Sp w0 X p r P' B oK nK cK oL nL cL ks ls s N z2) := HP1.out.go h2; have HO2 : Hid (z2.heap[O]? = some (.cells #[.int .i64 5, .int .u64 ((i : Nat) : Int), .string y, .slice ap np cp, .slice ak nk ck, .int .i64 now] 37 (0, 0))) := h2.at HO1.out id; clear h2)
  refine hKq.out _ _ ?_ (fun hHeldN => ?_)
  · exact HSX.out _ HP2.out.x HO2.out
  clear hKq Kq hHeld
  have hHeld := hHeldN
  clear hHeldN
  refine wpAnyH_ready (rs := [14]) (by kernel_rfl) (by simp) ?_
  refine AllReadyH.cons (by simp only [List.getElem?_toArray, List.getElem?_cons_succ, List.getElem?_cons_zero]; rfl) (fun Kq hKq => ?_) AllReadyH.nil
  (go_simp; refine (sameVN z2 y 0 ⟨#[]⟩).mono ?_; rintro e z3 ⟨rfl, h3⟩; have HP3 : Hid (Sp w0 X p r P' B oK nK cK oL nL cL ks ls s N z3) := HP2.out.go h3; have HO3 : Hid (z3.heap[O]? = some (.cells #[.int .i64 5, .int .u64 ((i : Nat) : Int), .string y, .slice ap np cp, .slice ak nk ck, .int .i64 now] 37 (0, 0))) := h3.at HO2.out id; clear h3)
  refine hKq.out _ _ ?_ (fun hHeldN => ?_)
  · exact HSX.out _ HP3.out.x HO3.out
  clear hKq Kq hHeld
  have hHeld := hHeldN
  clear hHeldN
  refine wpAnyH_take (i := 15) (v := ?_) (by simp only [List.getElem?_toArray, List.getElem?_cons_succ, List.getElem?_cons_zero]; rfl) (by kernel_rfl) (by kernel_rfl) (by kernel_rfl) (by exact fun _ _ _ h => h) (Or.inl ⟨by rfl, ?_⟩) (by assumption) ?_
  rotate_left
  · (intro _ hSw; (try dsimp only at hSw); go_simp; (try with_reducible rfl))
  try simp only [Act.put, List.setIfInBounds_toArray, List.set_cons_zero, List.set_cons_succ]
  refine wpAnyH_take (i := 16) (v := ?_) (by simp only [List.getElem?_toArray, List.getElem?_cons_succ, List.getElem?_cons_zero]; rfl) (by kernel_rfl) (by kernel_rfl) (by kernel_rfl) (by exact fun _ _ _ h => h) (Or.inl ⟨by rfl, ?_⟩) (by assumption) ?_
  rotate_left
  · (intro _ hSw; (try dsimp only at hSw); go_simp; (try with_reducible rfl))
  try simp only [Act.put, List.setIfInBounds_toArray, List.set_cons_zero, List.set_cons_succ]
  refine wpAnyH_take (i := 17) (v := ?_) (by simp only [List.getElem?_toArray, List.getElem?_cons_succ, List.getElem?_cons_zero]; rfl) (by kernel_rfl) (by kernel_rfl) (by kernel_rfl) (by exact fun _ _ _ h => h) (Or.inl ⟨by rfl, ?_⟩) (by assumption) ?_
  rotate_left
  · (intro _ hSw; (try dsimp only at hSw); go_simp; (try with_reducible rfl))
  try simp only [Act.put, List.setIfInBounds_toArray, List.set_cons_zero, List.set_cons_succ]
  refine wpAnyH_take (i := 18) (v := ?_) (by simp only [List.getElem?_toArray, List.getElem?_cons_succ, List.getElem?_cons_zero]; rfl) (by kernel_rfl) (by kernel_rfl) (by kernel_rfl) (by exact fun _ _ _ h => h) (Or.inl ⟨by rfl, ?_⟩) (by assumption) ?_
  rotate_left
  · (intro _ hSw; (try dsimp only at hSw); go_simp; (try with_reducible rfl))
  try simp only [Act.put, List.setIfInBounds_toArray, List.set_cons_zero, List.set_cons_succ]
  refine wpAnyH_take (i := 19) (v := ?_) (by simp only [List.getElem?_toArray, List.getElem?_cons_succ, List.getElem?_cons_zero]; rfl) (by kernel_rfl) (by kernel_rfl) (by kernel_rfl) (by exact fun _ _ _ h => h) (Or.inl ⟨by rfl, ?_⟩) (by assumption) ?_
  rotate_left
  · (intro _ hSw; (try dsimp only at hSw); go_simp; (try with_reducible rfl))
  try simp only [Act.put, List.setIfInBounds_toArray, List.set_cons_zero, List.set_cons_succ]
  refine wpAnyH_take (i := 20) (v := ?_) (by simp only [List.getElem?_toArray, List.getElem?_cons_succ, List.getElem?_cons_zero]; rfl) (by kernel_rfl) (by kernel_rfl) (by kernel_rfl) (by exact fun _ _ _ h => h) (Or.inl ⟨by rfl, ?_⟩) (by assumption) ?_
  rotate_left
  · (intro _ hSw; (try dsimp only at hSw); go_simp; (try with_reducible rfl))
  try simp only [Act.put, List.setIfInBounds_toArray, List.set_cons_zero, List.set_cons_succ]
  refine wpAnyH_take (i := 21) (v := ?_) (by simp only [List.getElem?_toArray, List.getElem?_cons_succ, List.getElem?_cons_zero]; rfl) (by kernel_rfl) (by kernel_rfl) (by kernel_rfl) (by exact fun _ _ _ h => h) (Or.inl ⟨by rfl, ?_⟩) (by assumption) ?_
  rotate_left
  · (intro _ hSw; (try dsimp only at hSw); go_simp; (try with_reducible rfl))
  try simp only [Act.put, List.setIfInBounds_toArray, List.set_cons_zero, List.set_cons_succ]
  refine wpAnyH_take (i := 23) (v := ?_) (by simp only [List.getElem?_toArray, List.getElem?_cons_succ, List.getElem?_cons_zero]; rfl) (by kernel_rfl) (by kernel_rfl) (by kernel_rfl) (by exact fun _ _ _ h => h) (Or.inl ⟨by rfl, ?_⟩) (by assumption) ?_
  rotate_left
  · (intro _ hSw; (try dsimp only at hSw); go_simp; (try with_reducible rfl))
  try simp only [Act.put, List.setIfInBounds_toArray, List.set_cons_zero, List.set_cons_succ]
  refine wpAnyH_take (i := 24) (v := ?_) (by simp only [List.getElem?_toArray, List.getElem?_cons_succ, List.getElem?_cons_zero]; rfl) (by kernel_rfl) (by kernel_rfl) (by kernel_rfl) (by exact fun _ _ _ h => h) (Or.inl ⟨by rfl, ?_⟩) (by assumption) ?_
  rotate_left
  · (intro _ hSw; (try dsimp only at hSw); go_simp; (try with_reducible rfl))
  try simp only [Act.put, List.setIfInBounds_toArray, List.set_cons_zero, List.set_cons_succ]
  refine wpAnyH_take (i := 25) (v := ?_) (by simp only [List.getElem?_toArray, List.getElem?_cons_succ, List.getElem?_cons_zero]; rfl) (by kernel_rfl) (by kernel_rfl) (by kernel_rfl) (by exact fun _ _ _ h => h) (Or.inl ⟨by rfl, ?_⟩) (by assumption) ?_
  rotate_left
  · (intro _ hSw; (try dsimp only at hSw); go_simp; (try with_reducible rfl))
  try simp only [Act.put, List.setIfInBounds_toArray, List.set_cons_zero, List.set_cons_succ]
  refine wpAnyH_take (i := 26) (v := ?_) (by simp only [List.getElem?_toArray, List.getElem?_cons_succ, List.getElem?_cons_zero]; rfl) (by kernel_rfl) (by kernel_rfl) (by kernel_rfl) (by exact fun _ _ _ h => h) (Or.inl ⟨by rfl, ?_⟩) (by assumption) ?_
  rotate_left
  · (intro _ hSw; (try dsimp only at hSw); go_simp; (try with_reducible rfl))
  try simp only [Act.put, List.setIfInBounds_toArray, List.set_cons_zero, List.set_cons_succ]
  refine wpAnyH_take (i := 27) (v := ?_) (by simp only [List.getElem?_toArray, List.getElem?_cons_succ, List.getElem?_cons_zero]; rfl) (by kernel_rfl) (by kernel_rfl) (by kernel_rfl) (by exact fun _ _ _ h => h) (Or.inl ⟨by rfl, ?_⟩) (by assumption) ?_
  rotate_left
  · (intro _ hSw; (try dsimp only at hSw); go_simp; (try with_reducible rfl))
  try simp only [Act.put, List.setIfInBounds_toArray, List.set_cons_zero, List.set_cons_succ]
  refine wpAnyH_take (i := 28) (v := ?_) (by simp only [List.getElem?_toArray, List.getElem?_cons_succ, List.getElem?_cons_zero]; rfl) (by kernel_rfl) (by kernel_rfl) (by kernel_rfl) (by exact fun _ _ _ h => h) (Or.inl ⟨by rfl, ?_⟩) (by assumption) ?_
  rotate_left
  · (intro _ hSw; (try dsimp only at hSw); go_simp; (try with_reducible rfl))
  try simp only [Act.put, List.setIfInBounds_toArray, List.set_cons_zero, List.set_cons_succ]
  refine wpAnyH_ready (rs := [22]) (by kernel_rfl) (by simp) ?_
  refine AllReadyH.cons (by simp only [List.getElem?_toArray, List.getElem?_cons_succ, List.getElem?_cons_zero]; rfl) (fun Kq hKq => ?_) AllReadyH.nil
  (go_simp; refine (HP3.out.ow.lastA y HA.out.2.1).mono ?_; rintro e z4 ⟨rfl, hz4⟩; rw [HLL.out]; have h4 : Keeps no z3 z4 := (by rw [hz4]; exact Keeps.refl _ _); clear hz4; have HP4 : Hid (Sp w0 X p r P' B oK nK cK oL nL cL ks ls s N z4) := HP3.out.go h4; have HO4 : Hid (z4.heap[O]? = some (.cells #[.int .i64 5, .int .u64 ((i : Nat) : Int), .string y, .slice ap np cp, .slice ak nk ck, .int .i64 now] 37 (0, 0))) := h4.at HO3.out id; clear h4)
  refine hKq.out _ _ ?_ (fun hHeldN => ?_)
  · exact HSX.out _ HP4.out.x HO4.out
  clear hKq Kq hHeld
  have hHeld := hHeldN
  clear hHeldN
  refine wpAnyH_ready (rs := [29]) (by kernel_rfl) (by simp) ?_
  refine AllReadyH.cons (by simp only [List.getElem?_toArray, List.getElem?_cons_succ, List.getElem?_cons_zero]; rfl) (fun Kq hKq => ?_) AllReadyH.nil
  (go_simp; refine (rLast_any z4 r oK nK cK oL nL cL ks ls HP4.out.ro.rd y).mono ?_; rintro e z5 ⟨rfl, h5⟩; rw [lastIn_is HD.out.1.rl.la, HLL.out]; have HP5 : Hid (Sp w0 X p r P' B oK nK cK oL nL cL ks ls s N z5) := HP4.out.go h5; have HO5 : Hid (z5.heap[O]? = some (.cells #[.int .i64 5, .int .u64 ((i : Nat) : Int), .string y, .slice ap np cp, .slice ak nk ck, .int .i64 now] 37 (0, 0))) := h5.at HO4.out id; clear h5)
  refine hKq.out _ _ ?_ (fun hHeldN => ?_)
  · exact HSX.out _ HP5.out.x HO5.out
  clear hKq Kq hHeld
  have hHeld := hHeldN
  clear hHeldN
  refine wpAnyH_take (i := 30) (v := ?_) (by simp only [List.getElem?_toArray, List.getElem?_cons_succ, List.getElem?_cons_zero]; rfl) (by kernel_rfl) (by kernel_rfl) (by kernel_rfl) (by exact fun _ _ _ h => h) (Or.inl ⟨by rfl, ?_⟩) (by assumption) ?_
  rotate_left
  · (intro _ hSw; (try dsimp only at hSw); go_simp; (try with_reducible rfl))
  try simp only [Act.put, List.setIfInBounds_toArray, List.set_cons_zero, List.set_cons_succ]
  refine wpAnyH_take (i := 31) (v := ?_) (by simp only [List.getElem?_toArray, List.getElem?_cons_succ, List.getElem?_cons_zero]; rfl) (by kernel_rfl) (by kernel_rfl) (by kernel_rfl) (by exact fun _ _ _ h => h) (Or.inl ⟨by rfl, ?_⟩) (by assumption) ?_
  rotate_left
  · (intro _ hSw; (try dsimp only at hSw); go_simp; (try with_reducible rfl))
  try simp only [Act.put, List.setIfInBounds_toArray, List.set_cons_zero, List.set_cons_succ]
  refine wpAnyH_take (i := 32) (v := ?_) (by simp only [List.getElem?_toArray, List.getElem?_cons_succ, List.getElem?_cons_zero]; rfl) (by kernel_rfl) (by kernel_rfl) (by kernel_rfl) (by exact fun _ _ _ h => h) (Or.inl ⟨by rfl, ?_⟩) (by assumption) ?_
  rotate_left
  · (intro _ hSw; (try dsimp only at hSw); go_simp; (try with_reducible rfl))
  try simp only [Act.put, List.setIfInBounds_toArray, List.set_cons_zero, List.set_cons_succ]
  refine wpAnyH_done (by kernel_rfl) ?_ _
  clear hHeld
  go_wp2_with fail
  go_ret
  exact ⟨rfl, (HP5.out.sd HD.out.1.rl HD.out.1.nk).sx⟩
set_option maxRecDepth 10000 in
set_option maxHeartbeats 1000000 in
theorem plays_lat1 {w0 : World} {X p r : Nat} {P B : Nat → Prop} {oK : Option Addr} {nK cK : Nat} {oL : Option Addr} {nL cL : Nat} {ks : List KV} {ls : List Mk} {s : St} {N : Nat} {w : World} (h : Sd w0 X p r P B oK nK cK oL nL cL ks ls s N w) (hN : N ≤ 800000000) (i : Nat) (y : Tx) (ap : Option Addr) (np cp : Nat) (ak : Option Addr) (nk ck : Nat) (now : Int) (hi : i < 18446744073709551616) (hy : y.size ≤ 140737488351232) (v : Vr) (hv : s.V (y, s.last y) = some v) :
    Calls Tryz.prog 7 #[.pointer (some ⟨X, 0, none⟩), .agg #[.int .i64 5, .int .u64 ((i : Nat) : Int), .string y, .slice ap np cp, .slice ak nk ck, .int .i64 now]] w fun e w' => e = .returned (.bool true) ∧ Hid (Sx w0 X s N w') := by
  obtain ⟨L, hL⟩ : ∃ L, s.last y = L := ⟨_, rfl⟩
  have HLL : Hid (s.last y = L) := hL
  have HV : Hid (s.V (y, s.last y) = some v) := hv
  clear hv hL
  have HA : Hid (i < 18446744073709551616 ∧ y.size ≤ 140737488351232 ∧ KM.ok (y, i)) := ⟨hi, hy, by show y.size ≤ maxLen; unfold maxLen; omega, hi⟩
  clear hi hy
  obtain ⟨P', hSd, hob, hpo, hbo⟩ := h.arg (.cells #[.int .i64 5, .int .u64 ((i : Nat) : Int), .string y, .slice ap np cp, .slice ak nk ck, .int .i64 now] 37)
  have HD : Hid (Sd w0 X p r P' B oK nK cK oL nL cL ks ls s N (w.alloc (.cells #[.int .i64 5, .int .u64 ((i : Nat) : Int), .string y, .slice ap np cp, .slice ak nk ck, .int .i64 now] 37)) ∧ (w.alloc (.cells #[.int .i64 5, .int .u64 ((i : Nat) : Int), .string y, .slice ap np cp, .slice ak nk ck, .int .i64 now] 37)).heap[w.heap.size]? = some (.cells #[.int .i64 5, .int .u64 ((i : Nat) : Int), .string y, .slice ap np cp, .slice ak nk ck, .int .i64 now] 37 (0, 0)) ∧ P' w.heap.size ∧ ¬ B w.heap.size) := ⟨hSd, hob, hpo, hbo⟩
  have HNN : Hid (N ≤ 800000000) := hN
  clear h hSd hob hpo hbo hN
  go_enter Tryz.func7, Tryz.ntmps7
  go_wp2_with fail
  generalize w.alloc (.cells #[.int .i64 5, .int .u64 ((i : Nat) : Int), .string y, .slice ap np cp, .slice ak nk ck, .int .i64 now] 37) = W at HD ⊢
  generalize w.heap.size = O at HD ⊢
  have HDd : Hid (Sd w0 X p r P' B oK nK cK oL nL cL ks ls s N W.drew ∧ W.drew.heap[O]? = some (.cells #[.int .i64 5, .int .u64 ((i : Nat) : Int), .string y, .slice ap np cp, .slice ak nk ck, .int .i64 now] 37 (0, 0))) := ⟨HD.out.1.go ((Keeps.refl no W).drew), ((Keeps.refl no W).drew).at HD.out.2.1 id⟩
  have HSX : Hid (∀ Y : World, Y.heap[X]? = some (.cells #[.pointer (some ⟨p, 0, none⟩), .pointer (some ⟨r, 0, none⟩)] 30 (0, 0)) → Y.heap[O]? = some (.cells #[.int .i64 5, .int .u64 ((i : Nat) : Int), .string y, .slice ap np cp, .slice ak nk ck, .int .i64 now] 37 (0, 0)) → Y.cell? ⟨X, 0, none⟩ = some (.pointer (some ⟨p, 0, none⟩)) ∧ Y.cell? ⟨X, 1, none⟩ = some (.pointer (some ⟨r, 0, none⟩)) ∧ Y.cell? ⟨O, 1, none⟩ = some (.int .u64 ((i : Nat) : Int)) ∧ Y.cell? ⟨O, 2, none⟩ = some (.string y) ∧ Y.cell? ⟨O, 3, none⟩ = some (.slice ap np cp) ∧ Y.cell? ⟨O, 4, none⟩ = some (.slice ak nk ck) ∧ Y.cell? ⟨O, 5, none⟩ = some (.int .i64 now)) := fun Y h1 h2 => ⟨cell_of_blk h1 0, cell_of_blk h1 1, cell_of_blk h2 1, cell_of_blk h2 2, cell_of_blk h2 3, cell_of_blk h2 4, cell_of_blk h2 5⟩
  refine wp_region_held_drew (S := (fun Y => Y.cell? ⟨X, 0, none⟩ = some (.pointer (some ⟨p, 0, none⟩)) ∧ Y.cell? ⟨X, 1, none⟩ = some (.pointer (some ⟨r, 0, none⟩)) ∧ Y.cell? ⟨O, 1, none⟩ = some (.int .u64 ((i : Nat) : Int)) ∧ Y.cell? ⟨O, 2, none⟩ = some (.string y) ∧ Y.cell? ⟨O, 3, none⟩ = some (.slice ap np cp) ∧ Y.cell? ⟨O, 4, none⟩ = some (.slice ak nk ck) ∧ Y.cell? ⟨O, 5, none⟩ = some (.int .i64 now))) (by kernel_rfl) ?_ (fun hHeld => ?_)
  · first | exact HSX.out _ HD.out.1.x HD.out.2.1 | exact HSX.out _ HDd.out.1.x HDd.out.2
  refine wpAnyH_take (i := 0) (v := ?_) (by simp only [List.getElem?_toArray, List.getElem?_cons_succ, List.getElem?_cons_zero]; rfl) (by kernel_rfl) (by kernel_rfl) (by kernel_rfl) (by exact fun _ _ _ h => h) (Or.inl ⟨by rfl, ?_⟩) (by assumption) ?_
  rotate_left
  · (intro _ hSw; (try dsimp only at hSw); go_simp; (try with_reducible rfl))
  try simp only [Act.put, List.setIfInBounds_toArray, List.set_cons_zero, List.set_cons_succ]
  refine wpAnyH_take (i := 1) (v := ?_) (by simp only [List.getElem?_toArray, List.getElem?_cons_succ, List.getElem?_cons_zero]; rfl) (by kernel_rfl) (by kernel_rfl) (by kernel_rfl) (by exact fun _ _ _ h => h) (Or.inl ⟨by rfl, ?_⟩) (by assumption) ?_
  rotate_left
  · (intro _ hSw; (try dsimp only at hSw); go_simp; (try with_reducible rfl))
  try simp only [Act.put, List.setIfInBounds_toArray, List.set_cons_zero, List.set_cons_succ]
  refine wpAnyH_take (i := 2) (v := ?_) (by simp only [List.getElem?_toArray, List.getElem?_cons_succ, List.getElem?_cons_zero]; rfl) (by kernel_rfl) (by kernel_rfl) (by kernel_rfl) (by exact fun _ _ _ h => h) (Or.inl ⟨by rfl, ?_⟩) (by assumption) ?_
  rotate_left
  · (intro _ hSw; (try dsimp only at hSw); go_simp; (try with_reducible rfl))
  try simp only [Act.put, List.setIfInBounds_toArray, List.set_cons_zero, List.set_cons_succ]
  refine wpAnyH_take (i := 3) (v := ?_) (by simp only [List.getElem?_toArray, List.getElem?_cons_succ, List.getElem?_cons_zero]; rfl) (by kernel_rfl) (by kernel_rfl) (by kernel_rfl) (by exact fun _ _ _ h => h) (Or.inl ⟨by rfl, ?_⟩) (by assumption) ?_
  rotate_left
  · (intro _ hSw; (try dsimp only at hSw); go_simp; (try with_reducible rfl))
  try simp only [Act.put, List.setIfInBounds_toArray, List.set_cons_zero, List.set_cons_succ]
  refine wpAnyH_take (i := 4) (v := ?_) (by simp only [List.getElem?_toArray, List.getElem?_cons_succ, List.getElem?_cons_zero]; rfl) (by kernel_rfl) (by kernel_rfl) (by kernel_rfl) (by exact fun _ _ _ h => h) (Or.inl ⟨by rfl, ?_⟩) (by assumption) ?_
  rotate_left
  · (intro _ hSw; (try dsimp only at hSw); go_simp; (try with_reducible rfl))
  try simp only [Act.put, List.setIfInBounds_toArray, List.set_cons_zero, List.set_cons_succ]
  refine wpAnyH_take (i := 5) (v := ?_) (by simp only [List.getElem?_toArray, List.getElem?_cons_succ, List.getElem?_cons_zero]; rfl) (by kernel_rfl) (by kernel_rfl) (by kernel_rfl) (by exact fun _ _ _ h => h) (Or.inl ⟨by rfl, ?_⟩) (by assumption) ?_
  rotate_left
  · (intro _ hSw; (try dsimp only at hSw); go_simp; (try with_reducible rfl))
  try simp only [Act.put, List.setIfInBounds_toArray, List.set_cons_zero, List.set_cons_succ]
  refine wpAnyH_take (i := 7) (v := ?_) (by simp only [List.getElem?_toArray, List.getElem?_cons_succ, List.getElem?_cons_zero]; rfl) (by kernel_rfl) (by kernel_rfl) (by kernel_rfl) (by exact fun _ _ _ h => h) (Or.inl ⟨by rfl, ?_⟩) (by assumption) ?_
  rotate_left
  · (intro _ hSw; (try dsimp only at hSw); go_simp; (try with_reducible rfl))
  try simp only [Act.put, List.setIfInBounds_toArray, List.set_cons_zero, List.set_cons_succ]
  refine wpAnyH_take (i := 8) (v := ?_) (by simp only [List.getElem?_toArray, List.getElem?_cons_succ, List.getElem?_cons_zero]; rfl) (by kernel_rfl) (by kernel_rfl) (by kernel_rfl) (by exact fun _ _ _ h => h) (Or.inl ⟨by rfl, ?_⟩) (by assumption) ?_
  rotate_left
  · (intro _ hSw; (try dsimp only at hSw); go_simp; (try with_reducible rfl))
  try simp only [Act.put, List.setIfInBounds_toArray, List.set_cons_zero, List.set_cons_succ]
  refine wpAnyH_take (i := 9) (v := ?_) (by simp only [List.getElem?_toArray, List.getElem?_cons_succ, List.getElem?_cons_zero]; rfl) (by kernel_rfl) (by kernel_rfl) (by kernel_rfl) (by exact fun _ _ _ h => h) (Or.inl ⟨by rfl, ?_⟩) (by assumption) ?_
  rotate_left
  · (intro _ hSw; (try dsimp only at hSw); go_simp; (try with_reducible rfl))
  try simp only [Act.put, List.setIfInBounds_toArray, List.set_cons_zero, List.set_cons_succ]
  refine wpAnyH_take (i := 10) (v := ?_) (by simp only [List.getElem?_toArray, List.getElem?_cons_succ, List.getElem?_cons_zero]; rfl) (by kernel_rfl) (by kernel_rfl) (by kernel_rfl) (by exact fun _ _ _ h => h) (Or.inl ⟨by rfl, ?_⟩) (by assumption) ?_
  rotate_left
  · (intro _ hSw; (try dsimp only at hSw); go_simp; (try with_reducible rfl))
  try simp only [Act.put, List.setIfInBounds_toArray, List.set_cons_zero, List.set_cons_succ]
  refine wpAnyH_take (i := 11) (v := ?_) (by simp only [List.getElem?_toArray, List.getElem?_cons_succ, List.getElem?_cons_zero]; rfl) (by kernel_rfl) (by kernel_rfl) (by kernel_rfl) (by exact fun _ _ _ h => h) (Or.inl ⟨by rfl, ?_⟩) (by assumption) ?_
  rotate_left
  · (intro _ hSw; (try dsimp only at hSw); go_simp; (try with_reducible rfl))
  try simp only [Act.put, List.setIfInBounds_toArray, List.set_cons_zero, List.set_cons_succ]
  refine wpAnyH_take (i := 12) (v := ?_) (by simp only [List.getElem?_toArray, List.getElem?_cons_succ, List.getElem?_cons_zero]; rfl) (by kernel_rfl) (by kernel_rfl) (by kernel_rfl) (by exact fun _ _ _ h => h) (Or.inl ⟨by rfl, ?_⟩) (by assumption) ?_
  rotate_left
  · (intro _ hSw; (try dsimp only at hSw); go_simp; (try with_reducible rfl))
  try simp only [Act.put, List.setIfInBounds_toArray, List.set_cons_zero, List.set_cons_succ]
  refine wpAnyH_ready (rs := [6]) (by kernel_rfl) (by simp) ?_
  refine AllReadyH.cons (by simp only [List.getElem?_toArray, List.getElem?_cons_succ, List.getElem?_cons_zero]; rfl) (fun Kq hKq => ?_) AllReadyH.nil
  (go_simp; refine (HDd.out.1.ow.latS y v HV.out).mono ?_; rintro e z1 ⟨u1, rfl, o1, n1, c1, rfl, hn1, ho1, _, h1⟩; rw [HLL.out]; have HP1 : Hid (Sp w0 X p r P' B oK nK cK oL nL cL ks ls s N z1) := HDd.out.1.sp.go h1; have HU1 : Hid (n1 = v.keys.length ∧ Own TE z1 o1 c1 v.keys) := ⟨hn1.out, ho1⟩; have HO1 : Hid (z1.heap[O]? = some (.cells #[.int .i64 5, .int .u64 ((i : Nat) : Int), .string y, .slice ap np cp, .slice ak nk ck, .int .i64 now] 37 (0, 0))) := h1.at HDd.out.2 id; clear h1 hn1 ho1)
  refine hKq.out _ _ ?_ (fun hHeldN => ?_)
  · exact HSX.out _ HP1.out.x HO1.out
  clear hKq Kq hHeld
  have hHeld := hHeldN
  clear hHeldN
  refine wpAnyH_ready (rs := [13]) (by kernel_rfl) (by simp) ?_
  refine AllReadyH.cons (by simp only [List.getElem?_toArray, List.getElem?_cons_succ, List.getElem?_cons_zero]; rfl) (fun Kq hKq => ?_) AllReadyH.nil
  (go_simp; refine (rLatest_some z1 r oK nK cK oL nL cL ks ls HP1.out.ro.rd (HP1.out.sd HD.out.1.rl HD.out.1.nk).rk y (by rw [lastIn_is HD.out.1.rl.la, HD.out.1.rl.there, HV.out]; rfl)).mono ?_; rintro e z2 ⟨u2, rfl, o2, n2, c2, rfl, h2⟩; have hxv := HD.out.1.rl.found (m := (y, s.last y)) HV.out; rw [← lastIn_is HD.out.1.rl.la] at hxv; rw [hxv.1, lastIn_is HD.out.1.rl.la, HLL.out]; have HU2 : Hid (n2 = v.keys.length ∧ Own TE z2 o2 c2 v.keys ∧ Own TE z2 o1 c1 v.keys) := (by have q := h2.out; rw [hxv.2] at q; exact ⟨q.1, q.2.1, HU1.out.2.keepsN q.2.2⟩); have hk2 := h2.out.2.2; clear h2 hxv; have h2 := hk2; clear hk2; have HP2 : Hid (Sp w0 X p r P' B oK nK cK oL nL cL ks ls s N z2) := HP1.out.go h2; have HO2 : Hid (z2.heap[O]? = some (.cells #[.int .i64 5, .int .u64 ((i : Nat) : Int), .string y, .slice ap np cp, .slice ak nk ck, .int .i64 now] 37 (0, 0))) := h2.at HO1.out id; clear h2)
  refine hKq.out _ _ ?_ (fun hHeldN => ?_)
  · exact HSX.out _ HP2.out.x HO2.out
  clear hKq Kq hHeld
  have hHeld := hHeldN
  clear hHeldN
  refine wpAnyH_ready (rs := [14]) (by kernel_rfl) (by simp) ?_
  refine AllReadyH.cons (by simp only [List.getElem?_toArray, List.getElem?_cons_succ, List.getElem?_cons_zero]; rfl) (fun Kq hKq => ?_) AllReadyH.nil
  (go_simp; refine (sameVS z2 y L v.val HU1.out.1 HU2.out.1 (by have := HD.out.1.ow.ok.v.len HV.out; omega) HU2.out.2.2 HU2.out.2.1).mono ?_; rintro e z3 ⟨rfl, h3⟩; have HP3 : Hid (Sp w0 X p r P' B oK nK cK oL nL cL ks ls s N z3) := HP2.out.go h3; have HO3 : Hid (z3.heap[O]? = some (.cells #[.int .i64 5, .int .u64 ((i : Nat) : Int), .string y, .slice ap np cp, .slice ak nk ck, .int .i64 now] 37 (0, 0))) := h3.at HO2.out id; clear h3)
  refine hKq.out _ _ ?_ (fun hHeldN => ?_)
  · exact HSX.out _ HP3.out.x HO3.out
  clear hKq Kq hHeld
  have hHeld := hHeldN
  clear hHeldN
  refine wpAnyH_take (i := 15) (v := ?_) (by simp only [List.getElem?_toArray, List.getElem?_cons_succ, List.getElem?_cons_zero]; rfl) (by kernel_rfl) (by kernel_rfl) (by kernel_rfl) (by exact fun _ _ _ h => h) (Or.inl ⟨by rfl, ?_⟩) (by assumption) ?_
  rotate_left
  · (intro _ hSw; (try dsimp only at hSw); go_simp; (try with_reducible rfl))
  try simp only [Act.put, List.setIfInBounds_toArray, List.set_cons_zero, List.set_cons_succ]
  refine wpAnyH_take (i := 16) (v := ?_) (by simp only [List.getElem?_toArray, List.getElem?_cons_succ, List.getElem?_cons_zero]; rfl) (by kernel_rfl) (by kernel_rfl) (by kernel_rfl) (by exact fun _ _ _ h => h) (Or.inl ⟨by rfl, ?_⟩) (by assumption) ?_
  rotate_left
  · (intro _ hSw; (try dsimp only at hSw); go_simp; (try with_reducible rfl))
  try simp only [Act.put, List.setIfInBounds_toArray, List.set_cons_zero, List.set_cons_succ]
  refine wpAnyH_take (i := 17) (v := ?_) (by simp only [List.getElem?_toArray, List.getElem?_cons_succ, List.getElem?_cons_zero]; rfl) (by kernel_rfl) (by kernel_rfl) (by kernel_rfl) (by exact fun _ _ _ h => h) (Or.inl ⟨by rfl, ?_⟩) (by assumption) ?_
  rotate_left
  · (intro _ hSw; (try dsimp only at hSw); go_simp; (try with_reducible rfl))
  try simp only [Act.put, List.setIfInBounds_toArray, List.set_cons_zero, List.set_cons_succ]
  refine wpAnyH_take (i := 18) (v := ?_) (by simp only [List.getElem?_toArray, List.getElem?_cons_succ, List.getElem?_cons_zero]; rfl) (by kernel_rfl) (by kernel_rfl) (by kernel_rfl) (by exact fun _ _ _ h => h) (Or.inl ⟨by rfl, ?_⟩) (by assumption) ?_
  rotate_left
  · (intro _ hSw; (try dsimp only at hSw); go_simp; (try with_reducible rfl))
  try simp only [Act.put, List.setIfInBounds_toArray, List.set_cons_zero, List.set_cons_succ]
  refine wpAnyH_take (i := 19) (v := ?_) (by simp only [List.getElem?_toArray, List.getElem?_cons_succ, List.getElem?_cons_zero]; rfl) (by kernel_rfl) (by kernel_rfl) (by kernel_rfl) (by exact fun _ _ _ h => h) (Or.inl ⟨by rfl, ?_⟩) (by assumption) ?_
  rotate_left
  · (intro _ hSw; (try dsimp only at hSw); go_simp; (try with_reducible rfl))
  try simp only [Act.put, List.setIfInBounds_toArray, List.set_cons_zero, List.set_cons_succ]
  refine wpAnyH_take (i := 20) (v := ?_) (by simp only [List.getElem?_toArray, List.getElem?_cons_succ, List.getElem?_cons_zero]; rfl) (by kernel_rfl) (by kernel_rfl) (by kernel_rfl) (by exact fun _ _ _ h => h) (Or.inl ⟨by rfl, ?_⟩) (by assumption) ?_
  rotate_left
  · (intro _ hSw; (try dsimp only at hSw); go_simp; (try with_reducible rfl))
  try simp only [Act.put, List.setIfInBounds_toArray, List.set_cons_zero, List.set_cons_succ]
  refine wpAnyH_take (i := 21) (v := ?_) (by simp only [List.getElem?_toArray, List.getElem?_cons_succ, List.getElem?_cons_zero]; rfl) (by kernel_rfl) (by kernel_rfl) (by kernel_rfl) (by exact fun _ _ _ h => h) (Or.inl ⟨by rfl, ?_⟩) (by assumption) ?_
  rotate_left
  · (intro _ hSw; (try dsimp only at hSw); go_simp; (try with_reducible rfl))
  try simp only [Act.put, List.setIfInBounds_toArray, List.set_cons_zero, List.set_cons_succ]
  refine wpAnyH_take (i := 23) (v := ?_) (by simp only [List.getElem?_toArray, List.getElem?_cons_succ, List.getElem?_cons_zero]; rfl) (by kernel_rfl) (by kernel_rfl) (by kernel_rfl) (by exact fun _ _ _ h => h) (Or.inl ⟨by rfl, ?_⟩) (by assumption) ?_
  rotate_left
  · (intro _ hSw; (try dsimp only at hSw); go_simp; (try with_reducible rfl))
  try simp only [Act.put, List.setIfInBounds_toArray, List.set_cons_zero, List.set_cons_succ]
  refine wpAnyH_take (i := 24) (v := ?_) (by simp only [List.getElem?_toArray, List.getElem?_cons_succ, List.getElem?_cons_zero]; rfl) (by kernel_rfl) (by kernel_rfl) (by kernel_rfl) (by exact fun _ _ _ h => h) (Or.inl ⟨by rfl, ?_⟩) (by assumption) ?_
  rotate_left
  · (intro _ hSw; (try dsimp only at hSw); go_simp; (try with_reducible rfl))
  try simp only [Act.put, List.setIfInBounds_toArray, List.set_cons_zero, List.set_cons_succ]
  refine wpAnyH_take (i := 25) (v := ?_) (by simp only [List.getElem?_toArray, List.getElem?_cons_succ, List.getElem?_cons_zero]; rfl) (by kernel_rfl) (by kernel_rfl) (by kernel_rfl) (by exact fun _ _ _ h => h) (Or.inl ⟨by rfl, ?_⟩) (by assumption) ?_
  rotate_left
  · (intro _ hSw; (try dsimp only at hSw); go_simp; (try with_reducible rfl))
  try simp only [Act.put, List.setIfInBounds_toArray, List.set_cons_zero, List.set_cons_succ]
  refine wpAnyH_take (i := 26) (v := ?_) (by simp only [List.getElem?_toArray, List.getElem?_cons_succ, List.getElem?_cons_zero]; rfl) (by kernel_rfl) (by kernel_rfl) (by kernel_rfl) (by exact fun _ _ _ h => h) (Or.inl ⟨by rfl, ?_⟩) (by assumption) ?_
  rotate_left
  · (intro _ hSw; (try dsimp only at hSw); go_simp; (try with_reducible rfl))
  try simp only [Act.put, List.setIfInBounds_toArray, List.set_cons_zero, List.set_cons_succ]
  refine wpAnyH_take (i := 27) (v := ?_) (by simp only [List.getElem?_toArray, List.getElem?_cons_succ, List.getElem?_cons_zero]; rfl) (by kernel_rfl) (by kernel_rfl) (by kernel_rfl) (by exact fun _ _ _ h => h) (Or.inl ⟨by rfl, ?_⟩) (by assumption) ?_
  rotate_left
  · (intro _ hSw; (try dsimp only at hSw); go_simp; (try with_reducible rfl))
  try simp only [Act.put, List.setIfInBounds_toArray, List.set_cons_zero, List.set_cons_succ]
  refine wpAnyH_take (i := 28) (v := ?_) (by simp only [List.getElem?_toArray, List.getElem?_cons_succ, List.getElem?_cons_zero]; rfl) (by kernel_rfl) (by kernel_rfl) (by kernel_rfl) (by exact fun _ _ _ h => h) (Or.inl ⟨by rfl, ?_⟩) (by assumption) ?_
  rotate_left
  · (intro _ hSw; (try dsimp only at hSw); go_simp; (try with_reducible rfl))
  try simp only [Act.put, List.setIfInBounds_toArray, List.set_cons_zero, List.set_cons_succ]
  refine wpAnyH_ready (rs := [22]) (by kernel_rfl) (by simp) ?_
  refine AllReadyH.cons (by simp only [List.getElem?_toArray, List.getElem?_cons_succ, List.getElem?_cons_zero]; rfl) (fun Kq hKq => ?_) AllReadyH.nil
  (go_simp; refine (HP3.out.ow.lastA y HA.out.2.1).mono ?_; rintro e z4 ⟨rfl, hz4⟩; rw [HLL.out]; have h4 : Keeps no z3 z4 := (by rw [hz4]; exact Keeps.refl _ _); clear hz4; have HP4 : Hid (Sp w0 X p r P' B oK nK cK oL nL cL ks ls s N z4) := HP3.out.go h4; have HO4 : Hid (z4.heap[O]? = some (.cells #[.int .i64 5, .int .u64 ((i : Nat) : Int), .string y, .slice ap np cp, .slice ak nk ck, .int .i64 now] 37 (0, 0))) := h4.at HO3.out id; clear h4)
  refine hKq.out _ _ ?_ (fun hHeldN => ?_)
  · exact HSX.out _ HP4.out.x HO4.out
  clear hKq Kq hHeld
  have hHeld := hHeldN
  clear hHeldN
  refine wpAnyH_ready (rs := [29]) (by kernel_rfl) (by simp) ?_
  refine AllReadyH.cons (by simp only [List.getElem?_toArray, List.getElem?_cons_succ, List.getElem?_cons_zero]; rfl) (fun Kq hKq => ?_) AllReadyH.nil
  (go_simp; refine (rLast_any z4 r oK nK cK oL nL cL ks ls HP4.out.ro.rd y).mono ?_; rintro e z5 ⟨rfl, h5⟩; rw [lastIn_is HD.out.1.rl.la, HLL.out]; have HP5 : Hid (Sp w0 X p r P' B oK nK cK oL nL cL ks ls s N z5) := HP4.out.go h5; have HO5 : Hid (z5.heap[O]? = some (.cells #[.int .i64 5, .int .u64 ((i : Nat) : Int), .string y, .slice ap np cp, .slice ak nk ck, .int .i64 now] 37 (0, 0))) := h5.at HO4.out id; clear h5)
  refine hKq.out _ _ ?_ (fun hHeldN => ?_)
  · exact HSX.out _ HP5.out.x HO5.out
  clear hKq Kq hHeld
  have hHeld := hHeldN
  clear hHeldN
  refine wpAnyH_take (i := 30) (v := ?_) (by simp only [List.getElem?_toArray, List.getElem?_cons_succ, List.getElem?_cons_zero]; rfl) (by kernel_rfl) (by kernel_rfl) (by kernel_rfl) (by exact fun _ _ _ h => h) (Or.inl ⟨by rfl, ?_⟩) (by assumption) ?_
  rotate_left
  · (intro _ hSw; (try dsimp only at hSw); go_simp; (try with_reducible rfl))
  try simp only [Act.put, List.setIfInBounds_toArray, List.set_cons_zero, List.set_cons_succ]
  refine wpAnyH_take (i := 31) (v := ?_) (by simp only [List.getElem?_toArray, List.getElem?_cons_succ, List.getElem?_cons_zero]; rfl) (by kernel_rfl) (by kernel_rfl) (by kernel_rfl) (by exact fun _ _ _ h => h) (Or.inl ⟨by rfl, ?_⟩) (by assumption) ?_
  rotate_left
  · (intro _ hSw; (try dsimp only at hSw); go_simp; (try with_reducible rfl))
  try simp only [Act.put, List.setIfInBounds_toArray, List.set_cons_zero, List.set_cons_succ]
  refine wpAnyH_take (i := 32) (v := ?_) (by simp only [List.getElem?_toArray, List.getElem?_cons_succ, List.getElem?_cons_zero]; rfl) (by kernel_rfl) (by kernel_rfl) (by kernel_rfl) (by exact fun _ _ _ h => h) (Or.inl ⟨by rfl, ?_⟩) (by assumption) ?_
  rotate_left
  · (intro _ hSw; (try dsimp only at hSw); go_simp; (try with_reducible rfl))
  try simp only [Act.put, List.setIfInBounds_toArray, List.set_cons_zero, List.set_cons_succ]
  refine wpAnyH_done (by kernel_rfl) ?_ _
  clear hHeld
  go_wp2_with fail
  go_ret
  exact ⟨rfl, (HP5.out.sd HD.out.1.rl HD.out.1.nk).sx⟩
end Go.Proofs.YtkoaiibjahlnmabGreat
/- StorePlays: Load. -/
namespace Go.Proofs.YtkoaiibjahlnmabGreat
open Go.RowKit Go.Maps Go.Sort Orl
set_option linter.unusedVariables false
set_option linter.unusedSimpArgs false

theorem Sd.load {w0 : World} {X p r : Nat} {P B : Nat → Prop} {oK : Option Addr} {nK cK : Nat} {oL : Option Addr} {nL cL : Nat} {ks : List KV} {ls : List Mk} {s : St} {N : Nat} {w w' : World} (h : Sd w0 X p r P B oK nK cK oL nL cL ks ls s N w) {q M : Nat} (hl : Ow w w' q s M no) (hM : M ≤ N) : Sd w0 X q r P B oK nK cK oL nL cL ks ls s N (w'.setCell ⟨X, 0, none⟩ (.pointer (some ⟨q, 0, none⟩))) := by
  have hk : Keeps (eqA X) w' (w'.setCell ⟨X, 0, none⟩ (.pointer (some ⟨q, 0, none⟩))) := (Keeps.refl _ _).setA 0 _
  have h1 : Ow w0 w' q s N P := (Tw.made h.ow hl).swap.first.more hM
  refine ⟨h1.other (hk.mono (fun b hb => by have : b = X := hb; rw [this]; exact h.px)), (h.ro.keepsN hl.keep).keeps hk (fun b hb e => by have : b = X := e; rw [this] at hb; exact h.bx hb), h.sub, h.px, h.bx, ?_, h.rl, h.nk⟩
  rw [blk_set (hl.keep.at h.x id) 0]
  rfl
set_option maxRecDepth 10000 in
set_option maxHeartbeats 1000000 in
theorem plays_load {w0 : World} {X p r : Nat} {P B : Nat → Prop} {oK : Option Addr} {nK cK : Nat} {oL : Option Addr} {nL cL : Nat} {ks : List KV} {ls : List Mk} {s : St} {N : Nat} {w : World} (h : Sd w0 X p r P B oK nK cK oL nL cL ks ls s N w) (hN : N ≤ 800000000) (i : Nat) (y : Tx) (ap : Option Addr) (np cp : Nat) (ak : Option Addr) (nk ck : Nat) (now : Int)  :
    Calls Tryz.prog 7 #[.pointer (some ⟨X, 0, none⟩), .agg #[.int .i64 8, .int .u64 ((i : Nat) : Int), .string y, .slice ap np cp, .slice ak nk ck, .int .i64 now]] w fun e w' => e = .returned (.bool true) ∧ Hid (Sx w0 X s N w') := by
  obtain ⟨P', hSd, hob, hpo, hbo⟩ := h.arg (.cells #[.int .i64 8, .int .u64 ((i : Nat) : Int), .string y, .slice ap np cp, .slice ak nk ck, .int .i64 now] 37)
  have HD : Hid (Sd w0 X p r P' B oK nK cK oL nL cL ks ls s N (w.alloc (.cells #[.int .i64 8, .int .u64 ((i : Nat) : Int), .string y, .slice ap np cp, .slice ak nk ck, .int .i64 now] 37)) ∧ (w.alloc (.cells #[.int .i64 8, .int .u64 ((i : Nat) : Int), .string y, .slice ap np cp, .slice ak nk ck, .int .i64 now] 37)).heap[w.heap.size]? = some (.cells #[.int .i64 8, .int .u64 ((i : Nat) : Int), .string y, .slice ap np cp, .slice ak nk ck, .int .i64 now] 37 (0, 0)) ∧ P' w.heap.size ∧ ¬ B w.heap.size) := ⟨hSd, hob, hpo, hbo⟩
  have HNN : Hid (N ≤ 800000000) := hN
  clear h hSd hob hpo hbo hN
  go_enter Tryz.func7, Tryz.ntmps7
  go_wp2_with fail
  generalize w.alloc (.cells #[.int .i64 8, .int .u64 ((i : Nat) : Int), .string y, .slice ap np cp, .slice ak nk ck, .int .i64 now] 37) = W at HD ⊢
  generalize w.heap.size = O at HD ⊢
  have HDd : Hid (Sd w0 X p r P' B oK nK cK oL nL cL ks ls s N W.drew ∧ W.drew.heap[O]? = some (.cells #[.int .i64 8, .int .u64 ((i : Nat) : Int), .string y, .slice ap np cp, .slice ak nk ck, .int .i64 now] 37 (0, 0))) := ⟨HD.out.1.go ((Keeps.refl no W).drew), ((Keeps.refl no W).drew).at HD.out.2.1 id⟩
  have HSX : Hid (∀ Y : World, Y.heap[X]? = some (.cells #[.pointer (some ⟨p, 0, none⟩), .pointer (some ⟨r, 0, none⟩)] 30 (0, 0)) → Y.heap[O]? = some (.cells #[.int .i64 8, .int .u64 ((i : Nat) : Int), .string y, .slice ap np cp, .slice ak nk ck, .int .i64 now] 37 (0, 0)) → Y.cell? ⟨X, 0, none⟩ = some (.pointer (some ⟨p, 0, none⟩)) ∧ Y.cell? ⟨X, 1, none⟩ = some (.pointer (some ⟨r, 0, none⟩)) ∧ Y.cell? ⟨O, 1, none⟩ = some (.int .u64 ((i : Nat) : Int)) ∧ Y.cell? ⟨O, 2, none⟩ = some (.string y) ∧ Y.cell? ⟨O, 3, none⟩ = some (.slice ap np cp) ∧ Y.cell? ⟨O, 4, none⟩ = some (.slice ak nk ck) ∧ Y.cell? ⟨O, 5, none⟩ = some (.int .i64 now)) := fun Y h1 h2 => ⟨cell_of_blk h1 0, cell_of_blk h1 1, cell_of_blk h2 1, cell_of_blk h2 2, cell_of_blk h2 3, cell_of_blk h2 4, cell_of_blk h2 5⟩
  refine wp_region_held_drew (S := (fun Y => Y.cell? ⟨X, 0, none⟩ = some (.pointer (some ⟨p, 0, none⟩)) ∧ Y.cell? ⟨X, 1, none⟩ = some (.pointer (some ⟨r, 0, none⟩)) ∧ Y.cell? ⟨O, 1, none⟩ = some (.int .u64 ((i : Nat) : Int)) ∧ Y.cell? ⟨O, 2, none⟩ = some (.string y) ∧ Y.cell? ⟨O, 3, none⟩ = some (.slice ap np cp) ∧ Y.cell? ⟨O, 4, none⟩ = some (.slice ak nk ck) ∧ Y.cell? ⟨O, 5, none⟩ = some (.int .i64 now))) (by kernel_rfl) ?_ (fun hHeld => ?_)
  · first | exact HSX.out _ HD.out.1.x HD.out.2.1 | exact HSX.out _ HDd.out.1.x HDd.out.2
  refine wpAnyH_take (i := 0) (v := ?_) (by simp only [List.getElem?_toArray, List.getElem?_cons_succ, List.getElem?_cons_zero]; rfl) (by kernel_rfl) (by kernel_rfl) (by kernel_rfl) (by exact fun _ _ _ h => h) (Or.inl ⟨by rfl, ?_⟩) (by assumption) ?_
  rotate_left
  · (intro _ hSw; (try dsimp only at hSw); go_simp; (try with_reducible rfl))
  try simp only [Act.put, List.setIfInBounds_toArray, List.set_cons_zero, List.set_cons_succ]
  refine wpAnyH_take (i := 1) (v := ?_) (by simp only [List.getElem?_toArray, List.getElem?_cons_succ, List.getElem?_cons_zero]; rfl) (by kernel_rfl) (by kernel_rfl) (by kernel_rfl) (by exact fun _ _ _ h => h) (Or.inl ⟨by rfl, ?_⟩) (by assumption) ?_
  rotate_left
  · (intro _ hSw; (try dsimp only at hSw); go_simp; (try with_reducible rfl))
  try simp only [Act.put, List.setIfInBounds_toArray, List.set_cons_zero, List.set_cons_succ]
  refine wpAnyH_take (i := 2) (v := ?_) (by simp only [List.getElem?_toArray, List.getElem?_cons_succ, List.getElem?_cons_zero]; rfl) (by kernel_rfl) (by kernel_rfl) (by kernel_rfl) (by exact fun _ _ _ h => h) (Or.inl ⟨by rfl, ?_⟩) (by assumption) ?_
  rotate_left
  · (intro _ hSw; (try dsimp only at hSw); go_simp; (try with_reducible rfl))
  try simp only [Act.put, List.setIfInBounds_toArray, List.set_cons_zero, List.set_cons_succ]
  refine wpAnyH_take (i := 3) (v := ?_) (by simp only [List.getElem?_toArray, List.getElem?_cons_succ, List.getElem?_cons_zero]; rfl) (by kernel_rfl) (by kernel_rfl) (by kernel_rfl) (by exact fun _ _ _ h => h) (Or.inl ⟨by rfl, ?_⟩) (by assumption) ?_
  rotate_left
  · (intro _ hSw; (try dsimp only at hSw); go_simp; (try with_reducible rfl))
  try simp only [Act.put, List.setIfInBounds_toArray, List.set_cons_zero, List.set_cons_succ]
  refine wpAnyH_take (i := 5) (v := ?_) (by simp only [List.getElem?_toArray, List.getElem?_cons_succ, List.getElem?_cons_zero]; rfl) (by kernel_rfl) (by kernel_rfl) (by kernel_rfl) (by exact fun _ _ _ h => h) (Or.inl ⟨by rfl, ?_⟩) (by assumption) ?_
  rotate_left
  · (intro _ hSw; (try dsimp only at hSw); go_simp; (try with_reducible rfl))
  try simp only [Act.put, List.setIfInBounds_toArray, List.set_cons_zero, List.set_cons_succ]
  refine wpAnyH_take (i := 6) (v := ?_) (by simp only [List.getElem?_toArray, List.getElem?_cons_succ, List.getElem?_cons_zero]; rfl) (by kernel_rfl) (by kernel_rfl) (by kernel_rfl) (by exact fun _ _ _ h => h) (Or.inl ⟨by rfl, ?_⟩) (by assumption) ?_
  rotate_left
  · (intro _ hSw; (try dsimp only at hSw); go_simp; (try with_reducible rfl))
  try simp only [Act.put, List.setIfInBounds_toArray, List.set_cons_zero, List.set_cons_succ]
  refine wpAnyH_take (i := 7) (v := ?_) (by simp only [List.getElem?_toArray, List.getElem?_cons_succ, List.getElem?_cons_zero]; rfl) (by kernel_rfl) (by kernel_rfl) (by kernel_rfl) (by exact fun _ _ _ h => h) (Or.inl ⟨by rfl, ?_⟩) (by assumption) ?_
  rotate_left
  · (intro _ hSw; (try dsimp only at hSw); go_simp; (try with_reducible rfl))
  try simp only [Act.put, List.setIfInBounds_toArray, List.set_cons_zero, List.set_cons_succ]
  refine wpAnyH_take (i := 8) (v := ?_) (by simp only [List.getElem?_toArray, List.getElem?_cons_succ, List.getElem?_cons_zero]; rfl) (by kernel_rfl) (by kernel_rfl) (by kernel_rfl) (by exact fun _ _ _ h => h) (Or.inl ⟨by rfl, ?_⟩) (by assumption) ?_
  rotate_left
  · (intro _ hSw; (try dsimp only at hSw); go_simp; (try with_reducible rfl))
  try simp only [Act.put, List.setIfInBounds_toArray, List.set_cons_zero, List.set_cons_succ]
  refine wpAnyH_ready (rs := [4]) (by kernel_rfl) (by simp) ?_
  refine AllReadyH.cons (by simp only [List.getElem?_toArray, List.getElem?_cons_succ, List.getElem?_cons_zero]; rfl) (fun Kq hKq => ?_) AllReadyH.nil
  (go_simp; refine (HDd.out.1.ow.keptK (by have := HNN.out; omega)).mono ?_; rintro e z1 ⟨o1, n1, c1, l1, rfl, h1⟩; have HP1 : Hid (Sp w0 X p r P' B oK nK cK oL nL cL ks ls s N z1) := HDd.out.1.sp.go h1.out.2.2.1; have HO1 : Hid (z1.heap[O]? = some (.cells #[.int .i64 8, .int .u64 ((i : Nat) : Int), .string y, .slice ap np cp, .slice ak nk ck, .int .i64 now] 37 (0, 0))) := h1.out.2.2.1.at HDd.out.2 id; have HK1 : Hid (Kd s l1 o1 n1 c1 z1 ∧ l1.length ≤ N) := ⟨h1.out.1, h1.out.2.2.2⟩; clear h1)
  refine hKq.out _ _ ?_ (fun hHeldN => ?_)
  · exact HSX.out _ HP1.out.x HO1.out
  clear hKq Kq hHeld
  have hHeld := hHeldN
  clear hHeldN
  refine wpAnyH_ready (rs := [9]) (by kernel_rfl) (by simp) ?_
  refine AllReadyH.cons (by simp only [List.getElem?_toArray, List.getElem?_cons_succ, List.getElem?_cons_zero]; rfl) (fun Kq hKq => ?_) AllReadyH.nil
  (go_simp; refine (HP1.out.ow.lastsK (by have := HNN.out; omega)).mono ?_; rintro e z2 ⟨o2, n2, c2, l2, rfl, h2⟩; have HP2 : Hid (Sp w0 X p r P' B oK nK cK oL nL cL ks ls s N z2) := HP1.out.go h2.out.2.2.1; have HO2 : Hid (z2.heap[O]? = some (.cells #[.int .i64 8, .int .u64 ((i : Nat) : Int), .string y, .slice ap np cp, .slice ak nk ck, .int .i64 now] 37 (0, 0))) := h2.out.2.2.1.at HO1.out id; have HK2 : Hid (Kd s l1 o1 n1 c1 z2 ∧ Ld s l2 o2 n2 c2 z2) := ⟨HK1.out.1.keepsN h2.out.2.2.1, h2.out.1⟩; clear h2)
  refine hKq.out _ _ ?_ (fun hHeldN => ?_)
  · exact HSX.out _ HP2.out.x HO2.out
  clear hKq Kq hHeld
  have hHeld := hHeldN
  clear hHeldN
  refine wpAnyH_ready (rs := [10]) (by kernel_rfl) (by simp) ?_
  refine AllReadyH.cons (by simp only [List.getElem?_toArray, List.getElem?_cons_succ, List.getElem?_cons_zero]; rfl) (fun Kq hKq => ?_) AllReadyH.nil
  (go_simp; refine (load_same HK2.out.1 HK2.out.2).mono ?_; rintro e z3 ⟨q, rfl, h3⟩; have hk3 := h3.out.keep; have HP3 : Hid (Sp w0 X p r P' B oK nK cK oL nL cL ks ls s N z3) := HP2.out.go hk3; have HO3 : Hid (z3.heap[O]? = some (.cells #[.int .i64 8, .int .u64 ((i : Nat) : Int), .string y, .slice ap np cp, .slice ak nk ck, .int .i64 now] 37 (0, 0))) := hk3.at HO2.out id; have HLD : Hid (Sd w0 X q r P' B oK nK cK oL nL cL ks ls s N (z3.setCell ⟨X, 0, none⟩ (.pointer (some ⟨q, 0, none⟩)))) := (HP2.out.sd HD.out.1.rl HD.out.1.nk).load h3.out HK1.out.2; clear hk3 h3)
  refine hKq.out _ _ ?_ (fun hHeldN => ?_)
  · exact HSX.out _ HP3.out.x HO3.out
  clear hKq Kq hHeld
  have hHeld := hHeldN
  clear hHeldN
  refine wpAnyH_take (i := 11) (v := ?_) (by simp only [List.getElem?_toArray, List.getElem?_cons_succ, List.getElem?_cons_zero]; rfl) (by kernel_rfl) (by kernel_rfl) (by kernel_rfl) (by exact fun _ _ _ h => h) (Or.inl ⟨by rfl, ?_⟩) (by assumption) ?_
  rotate_left
  · (intro _ hSw; (try dsimp only at hSw); go_simp; (try with_reducible rfl))
  try simp only [Act.put, List.setIfInBounds_toArray, List.set_cons_zero, List.set_cons_succ]
  refine wpAnyH_take (i := 12) (v := ?_) (by simp only [List.getElem?_toArray, List.getElem?_cons_succ, List.getElem?_cons_zero]; rfl) (by kernel_rfl) (by kernel_rfl) (by kernel_rfl) (by exact fun _ _ _ h => h) (Or.inl ⟨by rfl, ?_⟩) (by assumption) ?_
  rotate_left
  · (intro _ hSw; (try dsimp only at hSw); go_simp; (try with_reducible rfl))
  try simp only [Act.put, List.setIfInBounds_toArray, List.set_cons_zero, List.set_cons_succ]
  refine wpAnyH_take (i := 13) (v := ?_) (by simp only [List.getElem?_toArray, List.getElem?_cons_succ, List.getElem?_cons_zero]; rfl) (by kernel_rfl) (by kernel_rfl) (by kernel_rfl) (by exact fun _ _ _ h => h) (Or.inl ⟨by rfl, ?_⟩) (by assumption) ?_
  rotate_left
  · (intro _ hSw; (try dsimp only at hSw); go_simp; (try with_reducible rfl))
  try simp only [Act.put, List.setIfInBounds_toArray, List.set_cons_zero, List.set_cons_succ]
  refine wpAnyH_take (i := 14) (v := ?_) (by simp only [List.getElem?_toArray, List.getElem?_cons_succ, List.getElem?_cons_zero]; rfl) (by kernel_rfl) (by kernel_rfl) (by kernel_rfl) (by exact fun _ _ _ h => h) (Or.inl ⟨by rfl, ?_⟩) (by assumption) ?_
  rotate_left
  · (intro _ hSw; (try dsimp only at hSw); go_simp; (try with_reducible rfl))
  try simp only [Act.put, List.setIfInBounds_toArray, List.set_cons_zero, List.set_cons_succ]
  refine wpAnyH_take (i := 15) (v := ?_) (by simp only [List.getElem?_toArray, List.getElem?_cons_succ, List.getElem?_cons_zero]; rfl) (by kernel_rfl) (by kernel_rfl) (by kernel_rfl) (by exact fun _ _ _ h => h) (Or.inl ⟨by rfl, ?_⟩) (by assumption) ?_
  rotate_left
  · (intro _ hSw; (try dsimp only at hSw); go_simp; (try with_reducible rfl))
  try simp only [Act.put, List.setIfInBounds_toArray, List.set_cons_zero, List.set_cons_succ]
  refine wpAnyH_done (by kernel_rfl) ?_ _
  clear hHeld
  have x0 := cell_of_blk HP3.out.x 0
  have xf := frozen_of_blk HP3.out.x 0
  have hall := all_any HLD.out (by have := HNN.out; omega)
  go_wp2_with fail
  refine hall.mono ?_
  rintro e z4 ⟨rfl, h4⟩
  go_wp2_with fail
  go_ret
  exact ⟨rfl, (HLD.out.go h4).sx⟩
end Go.Proofs.YtkoaiibjahlnmabGreat
/- StorePlays: ByID. -/
namespace Go.Proofs.YtkoaiibjahlnmabGreat
open Go.RowKit Go.Maps Go.Sort Orl
set_option linter.unusedVariables false
set_option linter.unusedSimpArgs false

set_option maxRecDepth 10000 in
set_option maxHeartbeats 1000000 in
theorem plays_by1 {w0 : World} {X p r : Nat} {P B : Nat → Prop} {oK : Option Addr} {nK cK : Nat} {oL : Option Addr} {nL cL : Nat} {ks : List KV} {ls : List Mk} {s : St} {N : Nat} {w : World} (h : Sd w0 X p r P B oK nK cK oL nL cL ks ls s N w) (hN : N ≤ 800000000) (i : Nat) (y : Tx) (ap : Option Addr) (np cp : Nat) (ak : Option Addr) (nk ck : Nat) (now : Int) (hi : i < 18446744073709551616) (hy : y.size ≤ 140737488351232) (v : Vr) (hv : s.V (y, i) = some v) :
    Calls Tryz.prog 7 #[.pointer (some ⟨X, 0, none⟩), .agg #[.int .i64 4, .int .u64 ((i : Nat) : Int), .string y, .slice ap np cp, .slice ak nk ck, .int .i64 now]] w fun e w' => e = .returned (.bool true) ∧ Hid (Sx w0 X s N w') := by
  have HV : Hid (s.V (y, i) = some v) := hv
  clear hv
  have HA : Hid (i < 18446744073709551616 ∧ y.size ≤ 140737488351232 ∧ KM.ok (y, i)) := ⟨hi, hy, by show y.size ≤ maxLen; unfold maxLen; omega, hi⟩
  clear hi hy
  obtain ⟨P', hSd, hob, hpo, hbo⟩ := h.arg (.cells #[.int .i64 4, .int .u64 ((i : Nat) : Int), .string y, .slice ap np cp, .slice ak nk ck, .int .i64 now] 37)
  have HD : Hid (Sd w0 X p r P' B oK nK cK oL nL cL ks ls s N (w.alloc (.cells #[.int .i64 4, .int .u64 ((i : Nat) : Int), .string y, .slice ap np cp, .slice ak nk ck, .int .i64 now] 37)) ∧ (w.alloc (.cells #[.int .i64 4, .int .u64 ((i : Nat) : Int), .string y, .slice ap np cp, .slice ak nk ck, .int .i64 now] 37)).heap[w.heap.size]? = some (.cells #[.int .i64 4, .int .u64 ((i : Nat) : Int), .string y, .slice ap np cp, .slice ak nk ck, .int .i64 now] 37 (0, 0)) ∧ P' w.heap.size ∧ ¬ B w.heap.size) := ⟨hSd, hob, hpo, hbo⟩
  have HNN : Hid (N ≤ 800000000) := hN
  clear h hSd hob hpo hbo hN
  go_enter Tryz.func7, Tryz.ntmps7
  go_wp2_with fail
  generalize w.alloc (.cells #[.int .i64 4, .int .u64 ((i : Nat) : Int), .string y, .slice ap np cp, .slice ak nk ck, .int .i64 now] 37) = W at HD ⊢
  generalize w.heap.size = O at HD ⊢
  have HDd : Hid (Sd w0 X p r P' B oK nK cK oL nL cL ks ls s N W.drew ∧ W.drew.heap[O]? = some (.cells #[.int .i64 4, .int .u64 ((i : Nat) : Int), .string y, .slice ap np cp, .slice ak nk ck, .int .i64 now] 37 (0, 0))) := ⟨HD.out.1.go ((Keeps.refl no W).drew), ((Keeps.refl no W).drew).at HD.out.2.1 id⟩
  have HSX : Hid (∀ Y : World, Y.heap[X]? = some (.cells #[.pointer (some ⟨p, 0, none⟩), .pointer (some ⟨r, 0, none⟩)] 30 (0, 0)) → Y.heap[O]? = some (.cells #[.int .i64 4, .int .u64 ((i : Nat) : Int), .string y, .slice ap np cp, .slice ak nk ck, .int .i64 now] 37 (0, 0)) → Y.cell? ⟨X, 0, none⟩ = some (.pointer (some ⟨p, 0, none⟩)) ∧ Y.cell? ⟨X, 1, none⟩ = some (.pointer (some ⟨r, 0, none⟩)) ∧ Y.cell? ⟨O, 1, none⟩ = some (.int .u64 ((i : Nat) : Int)) ∧ Y.cell? ⟨O, 2, none⟩ = some (.string y) ∧ Y.cell? ⟨O, 3, none⟩ = some (.slice ap np cp) ∧ Y.cell? ⟨O, 4, none⟩ = some (.slice ak nk ck) ∧ Y.cell? ⟨O, 5, none⟩ = some (.int .i64 now)) := fun Y h1 h2 => ⟨cell_of_blk h1 0, cell_of_blk h1 1, cell_of_blk h2 1, cell_of_blk h2 2, cell_of_blk h2 3, cell_of_blk h2 4, cell_of_blk h2 5⟩
  have HSW : Hid (∀ Y, Keeps no W Y → Y.cell? ⟨X, 0, none⟩ = some (.pointer (some ⟨p, 0, none⟩)) ∧ Y.cell? ⟨X, 1, none⟩ = some (.pointer (some ⟨r, 0, none⟩)) ∧ Y.cell? ⟨O, 1, none⟩ = some (.int .u64 ((i : Nat) : Int)) ∧ Y.cell? ⟨O, 2, none⟩ = some (.string y) ∧ Y.cell? ⟨O, 3, none⟩ = some (.slice ap np cp) ∧ Y.cell? ⟨O, 4, none⟩ = some (.slice ak nk ck) ∧ Y.cell? ⟨O, 5, none⟩ = some (.int .i64 now)) := fun Y hY => HSX.out Y (hY.at HD.out.1.x id) (hY.at HD.out.2.1 id)
  have HKd : Hid (Keeps no W W.drew) := (Keeps.refl no W).drew
  have HKda : Hid (Keeps no W (W.drew.alloc (.cells #[.string ⟨#[]⟩, .int .u64 0, .string ⟨#[]⟩, .slice none 0 0] 44))) := ((Keeps.refl no W).drew).alloc _
  have HBd : Hid ((W.drew.alloc (.cells #[.string ⟨#[]⟩, .int .u64 0, .string ⟨#[]⟩, .slice none 0 0] 44)).heap[W.heap.size]? = some (.cells #[.string ⟨#[]⟩, .int .u64 0, .string ⟨#[]⟩, .slice none 0 0] 44 (0, 0))) := blk_new W.drew _
  go_cut [13, 14] from 120 to 131 (fun s1 s2 wc => ∃ (g : Nat) (o : Option Addr) (n d : Nat), s1 = .pointer (some ⟨g, 0, none⟩) ∧ s2 = .int .i64 0 ∧ Hid (Keeps no W wc ∧ wc.heap[g]? = some (.cells #[.string y, .int .u64 ((i : Nat) : Int), .string v.val, .slice o n d] 44 (0, 0)) ∧ (n = v.keys.length ∧ Own TE wc o d v.keys)))
  case first =>
    refine wp_region_held_drew (S := (fun Y => Y.cell? ⟨X, 0, none⟩ = some (.pointer (some ⟨p, 0, none⟩)) ∧ Y.cell? ⟨X, 1, none⟩ = some (.pointer (some ⟨r, 0, none⟩)) ∧ Y.cell? ⟨O, 1, none⟩ = some (.int .u64 ((i : Nat) : Int)) ∧ Y.cell? ⟨O, 2, none⟩ = some (.string y) ∧ Y.cell? ⟨O, 3, none⟩ = some (.slice ap np cp) ∧ Y.cell? ⟨O, 4, none⟩ = some (.slice ak nk ck) ∧ Y.cell? ⟨O, 5, none⟩ = some (.int .i64 now))) (by kernel_rfl) ?_ (fun hHeld => ?_)
    · first | exact HSW.out _ (Keeps.refl no W) | exact HSW.out _ HKd.out
    refine wpAnyH_take (i := 0) (v := ?_) (by simp only [List.getElem?_toArray, List.getElem?_cons_succ, List.getElem?_cons_zero]; rfl) (by kernel_rfl) (by kernel_rfl) (by kernel_rfl) (by exact fun _ _ _ h => h) (Or.inl ⟨by rfl, ?_⟩) (by assumption) ?_
    rotate_left
    · (intro _ hSw; (try dsimp only at hSw); go_simp; (try with_reducible rfl))
    try simp only [Act.put, List.setIfInBounds_toArray, List.set_cons_zero, List.set_cons_succ]
    refine wpAnyH_take (i := 1) (v := ?_) (by simp only [List.getElem?_toArray, List.getElem?_cons_succ, List.getElem?_cons_zero]; rfl) (by kernel_rfl) (by kernel_rfl) (by kernel_rfl) (by exact fun _ _ _ h => h) (Or.inl ⟨by rfl, ?_⟩) (by assumption) ?_
    rotate_left
    · (intro _ hSw; (try dsimp only at hSw); go_simp; (try with_reducible rfl))
    try simp only [Act.put, List.setIfInBounds_toArray, List.set_cons_zero, List.set_cons_succ]
    refine wpAnyH_take (i := 2) (v := ?_) (by simp only [List.getElem?_toArray, List.getElem?_cons_succ, List.getElem?_cons_zero]; rfl) (by kernel_rfl) (by kernel_rfl) (by kernel_rfl) (by exact fun _ _ _ h => h) (Or.inl ⟨by rfl, ?_⟩) (by assumption) ?_
    rotate_left
    · (intro _ hSw; (try dsimp only at hSw); go_simp; (try with_reducible rfl))
    try simp only [Act.put, List.setIfInBounds_toArray, List.set_cons_zero, List.set_cons_succ]
    refine wpAnyH_take (i := 3) (v := ?_) (by simp only [List.getElem?_toArray, List.getElem?_cons_succ, List.getElem?_cons_zero]; rfl) (by kernel_rfl) (by kernel_rfl) (by kernel_rfl) (by exact fun _ _ _ h => h) (Or.inl ⟨by rfl, ?_⟩) (by assumption) ?_
    rotate_left
    · (intro _ hSw; (try dsimp only at hSw); go_simp; (try with_reducible rfl))
    try simp only [Act.put, List.setIfInBounds_toArray, List.set_cons_zero, List.set_cons_succ]
    refine wpAnyH_take (i := 4) (v := ?_) (by simp only [List.getElem?_toArray, List.getElem?_cons_succ, List.getElem?_cons_zero]; rfl) (by kernel_rfl) (by kernel_rfl) (by kernel_rfl) (by exact fun _ _ _ h => h) (Or.inl ⟨by rfl, ?_⟩) (by assumption) ?_
    rotate_left
    · (intro _ hSw; (try dsimp only at hSw); go_simp; (try with_reducible rfl))
    try simp only [Act.put, List.setIfInBounds_toArray, List.set_cons_zero, List.set_cons_succ]
    refine wpAnyH_take (i := 5) (v := ?_) (by simp only [List.getElem?_toArray, List.getElem?_cons_succ, List.getElem?_cons_zero]; rfl) (by kernel_rfl) (by kernel_rfl) (by kernel_rfl) (by exact fun _ _ _ h => h) (Or.inl ⟨by rfl, ?_⟩) (by assumption) ?_
    rotate_left
    · (intro _ hSw; (try dsimp only at hSw); go_simp; (try with_reducible rfl))
    try simp only [Act.put, List.setIfInBounds_toArray, List.set_cons_zero, List.set_cons_succ]
    refine wpAnyH_take (i := 6) (v := ?_) (by simp only [List.getElem?_toArray, List.getElem?_cons_succ, List.getElem?_cons_zero]; rfl) (by kernel_rfl) (by kernel_rfl) (by kernel_rfl) (by exact fun _ _ _ h => h) (Or.inl ⟨by rfl, ?_⟩) (by assumption) ?_
    rotate_left
    · (intro _ hSw; (try dsimp only at hSw); go_simp; (try with_reducible rfl))
    try simp only [Act.put, List.setIfInBounds_toArray, List.set_cons_zero, List.set_cons_succ]
    refine wpAnyH_take (i := 7) (v := ?_) (by simp only [List.getElem?_toArray, List.getElem?_cons_succ, List.getElem?_cons_zero]; rfl) (by kernel_rfl) (by kernel_rfl) (by kernel_rfl) (by exact fun _ _ _ h => h) (Or.inl ⟨by rfl, ?_⟩) (by assumption) ?_
    rotate_left
    · (intro _ hSw; (try dsimp only at hSw); go_simp; (try with_reducible rfl))
    try simp only [Act.put, List.setIfInBounds_toArray, List.set_cons_zero, List.set_cons_succ]
    refine wpAnyH_ready (rs := [8, 12]) (by kernel_rfl) (by simp) ?_
    refine AllReadyH.cons (by simp only [List.getElem?_toArray, List.getElem?_cons_succ, List.getElem?_cons_zero]; rfl) (fun Kq hKq => ?_) (AllReadyH.cons (by simp only [List.getElem?_toArray, List.getElem?_cons_succ, List.getElem?_cons_zero]; rfl) (fun Kq hKq => ?_) AllReadyH.nil)
    · (go_simp; refine ((HD.out.1.go (HKd.out)).ow.byS y i v HV.out).mono ?_; rintro e z1 ⟨u, rfl, o, n, d, rfl, hn, ho, _, h1⟩; have HKz : Hid (Keeps no W z1) := HKd.out.trans h1; have HKa : Hid (Keeps no W (z1.alloc (.cells #[.string ⟨#[]⟩, .int .u64 0, .string ⟨#[]⟩, .slice none 0 0] 44))) := HKz.out.alloc _; have HKv : Hid (Keeps no W (z1.alloc (.cells #[.string y, .int .u64 ((i : Nat) : Int), .string v.val, .slice o n d] 44))) := HKz.out.alloc _; have HBv : Hid ((z1.alloc (.cells #[.string y, .int .u64 ((i : Nat) : Int), .string v.val, .slice o n d] 44)).heap[z1.heap.size]? = some (.cells #[.string y, .int .u64 ((i : Nat) : Int), .string v.val, .slice o n d] 44 (0, 0))) := blk_new z1 _; have HKY : Hid (n = v.keys.length ∧ Own TE z1 o d v.keys) := ⟨hn.out, ho⟩; clear h1 hn ho)
      refine hKq.out _ _ ?_ (fun hHeldN => ?_)
      · first | exact HSW.out _ HKz.out | exact HSW.out _ HKd.out
      clear hKq Kq hHeld
      have hHeld := hHeldN
      clear hHeldN
      refine wpAnyH_take (i := 9) (v := ?_) (by simp only [List.getElem?_toArray, List.getElem?_cons_succ, List.getElem?_cons_zero]; rfl) (by kernel_rfl) (by kernel_rfl) (by kernel_rfl) (by exact fun _ _ _ h => h) (Or.inl ⟨by rfl, ?_⟩) (by assumption) ?_
      rotate_left
      · (intro _ hSw; (try dsimp only at hSw); go_simp; (try with_reducible rfl))
      try simp only [Act.put, List.setIfInBounds_toArray, List.set_cons_zero, List.set_cons_succ]
      refine wpAnyH_take (i := 10) (v := ?_) (by simp only [List.getElem?_toArray, List.getElem?_cons_succ, List.getElem?_cons_zero]; rfl) (by kernel_rfl) (by kernel_rfl) (by kernel_rfl) (by exact fun _ _ _ h => h) (Or.inl ⟨by rfl, ?_⟩) (by assumption) ?_
      rotate_left
      · (intro _ hSw; (try dsimp only at hSw); go_simp; (try with_reducible rfl))
      try simp only [Act.put, List.setIfInBounds_toArray, List.set_cons_zero, List.set_cons_succ]
      refine wpAnyH_take (i := 11) (v := ?_) (by simp only [List.getElem?_toArray, List.getElem?_cons_succ, List.getElem?_cons_zero]; rfl) (by kernel_rfl) (by kernel_rfl) (by kernel_rfl) (by exact fun _ _ _ h => h) (Or.inl ⟨by rfl, ?_⟩) (by assumption) ?_
      rotate_left
      · (intro _ hSw; (try dsimp only at hSw); go_simp; (try with_reducible rfl))
      try simp only [Act.put, List.setIfInBounds_toArray, List.set_cons_zero, List.set_cons_succ]
      refine wpAnyH_ready (rs := [12]) (by kernel_rfl) (by simp) ?_
      refine AllReadyH.cons (by simp only [List.getElem?_toArray, List.getElem?_cons_succ, List.getElem?_cons_zero]; rfl) (fun Kq hKq => ?_) AllReadyH.nil
      go_simp
      refine hKq.out _ _ ?_ (fun hHeldN => ?_)
      · first | exact HSW.out _ HKa.out
      clear hKq Kq hHeld
      have hHeld := hHeldN
      clear hHeldN
      refine wpAnyH_ready (rs := [13]) (by kernel_rfl) (by simp) ?_
      refine AllReadyH.cons (by simp only [List.getElem?_toArray, List.getElem?_cons_succ, List.getElem?_cons_zero]; rfl) (fun Kq hKq => ?_) AllReadyH.nil
      go_simp
      refine hKq.out _ _ ?_ (fun hHeldN => ?_)
      · first | exact HSW.out _ HKv.out
      clear hKq Kq hHeld
      have hHeld := hHeldN
      clear hHeldN
      refine wpAnyH_take (i := 14) (v := ?_) (by simp only [List.getElem?_toArray, List.getElem?_cons_succ, List.getElem?_cons_zero]; rfl) (by kernel_rfl) (by kernel_rfl) (by kernel_rfl) (by exact fun _ _ _ h => h) (Or.inl ⟨by rfl, ?_⟩) (by assumption) ?_
      rotate_left
      · (intro _ hSw; (try dsimp only at hSw); go_simp; (try with_reducible rfl))
      try simp only [Act.put, List.setIfInBounds_toArray, List.set_cons_zero, List.set_cons_succ]
      refine wpAnyH_done (by kernel_rfl) ?_ _
      clear hHeld
      go_wp2_with fail
      go_meet
      go_light
      exact ⟨z1.heap.size, o, n, d, rfl, rfl, HKv.out, HBv.out, HKY.out.1, HKY.out.2.keepsN ((Keeps.refl no z1).alloc _)⟩
    · go_simp
      refine hKq.out _ _ ?_ (fun hHeldN => ?_)
      · first | exact HSW.out _ HKda.out
      clear hKq Kq hHeld
      have hHeld := hHeldN
      clear hHeldN
      refine wpAnyH_ready (rs := [8]) (by kernel_rfl) (by simp) ?_
      refine AllReadyH.cons (by simp only [List.getElem?_toArray, List.getElem?_cons_succ, List.getElem?_cons_zero]; rfl) (fun Kq hKq => ?_) AllReadyH.nil
      (go_simp; refine ((HD.out.1.go (HKda.out)).ow.byS y i v HV.out).mono ?_; rintro e z1 ⟨u, rfl, o, n, d, rfl, hn, ho, _, h1⟩; have HKz : Hid (Keeps no W z1) := HKda.out.trans h1; have HBz : Hid (z1.heap[W.heap.size]? = some (.cells #[.string ⟨#[]⟩, .int .u64 0, .string ⟨#[]⟩, .slice none 0 0] 44 (0, 0))) := h1.at HBd.out id; have HKY : Hid (n = v.keys.length ∧ Own TE z1 o d v.keys) := ⟨hn.out, ho⟩; clear h1 hn ho)
      refine hKq.out _ _ ?_ (fun hHeldN => ?_)
      · first | exact HSW.out _ HKz.out
      clear hKq Kq hHeld
      have hHeld := hHeldN
      clear hHeldN
      have q0 := cell_of_blk HBz.out 0
      have q1 := cell_of_blk HBz.out 1
      have q2 := cell_of_blk HBz.out 2
      have q3 := cell_of_blk HBz.out 3
      have f0 := frozen_of_blk HBz.out 0
      have f1 := frozen_of_blk HBz.out 1
      have f2 := frozen_of_blk HBz.out 2
      have f3 := frozen_of_blk HBz.out 3
      have hs4 := set4 HBz.out (.string y) (.int .u64 ((i : Nat) : Int)) (.string v.val) (.slice o n d)
      unfold set4w at hs4
      have HKv : Hid (Keeps no W ((((z1.setCell ⟨W.heap.size, 0, none⟩ (.string y)).setCell ⟨W.heap.size, 1, none⟩ (.int .u64 ((i : Nat) : Int))).setCell ⟨W.heap.size, 2, none⟩ (.string v.val)).setCell ⟨W.heap.size, 3, none⟩ (.slice o n d))) := HKz.out.then hs4.2 (fun b hb => .inr (by have : b = W.heap.size := hb; omega))
      have HBv : Hid (((((z1.setCell ⟨W.heap.size, 0, none⟩ (.string y)).setCell ⟨W.heap.size, 1, none⟩ (.int .u64 ((i : Nat) : Int))).setCell ⟨W.heap.size, 2, none⟩ (.string v.val)).setCell ⟨W.heap.size, 3, none⟩ (.slice o n d)).heap[W.heap.size]? = some (.cells #[.string y, .int .u64 ((i : Nat) : Int), .string v.val, .slice o n d] 44 (0, 0))) := hs4.1
      have HEQ : Hid (Keeps (eqA W.heap.size) z1 ((((z1.setCell ⟨W.heap.size, 0, none⟩ (.string y)).setCell ⟨W.heap.size, 1, none⟩ (.int .u64 ((i : Nat) : Int))).setCell ⟨W.heap.size, 2, none⟩ (.string v.val)).setCell ⟨W.heap.size, 3, none⟩ (.slice o n d))) := hs4.2
      clear hs4
      refine wpAnyH_take (i := 9) (v := ?_) (by simp only [List.getElem?_toArray, List.getElem?_cons_succ, List.getElem?_cons_zero]; rfl) (by kernel_rfl) (by kernel_rfl) (by kernel_rfl) (by exact fun _ _ _ h => h) (Or.inl ⟨by rfl, ?_⟩) (by assumption) ?_
      rotate_left
      · (intro _ hSw; (try dsimp only at hSw); go_simp; (try with_reducible rfl))
      try simp only [Act.put, List.setIfInBounds_toArray, List.set_cons_zero, List.set_cons_succ]
      refine wpAnyH_take (i := 10) (v := ?_) (by simp only [List.getElem?_toArray, List.getElem?_cons_succ, List.getElem?_cons_zero]; rfl) (by kernel_rfl) (by kernel_rfl) (by kernel_rfl) (by exact fun _ _ _ h => h) (Or.inl ⟨by rfl, ?_⟩) (by assumption) ?_
      rotate_left
      · (intro _ hSw; (try dsimp only at hSw); go_simp; (try with_reducible rfl))
      try simp only [Act.put, List.setIfInBounds_toArray, List.set_cons_zero, List.set_cons_succ]
      refine wpAnyH_take (i := 11) (v := ?_) (by simp only [List.getElem?_toArray, List.getElem?_cons_succ, List.getElem?_cons_zero]; rfl) (by kernel_rfl) (by kernel_rfl) (by kernel_rfl) (by exact fun _ _ _ h => h) (Or.inl ⟨by rfl, ?_⟩) (by assumption) ?_
      rotate_left
      · (intro _ hSw; (try dsimp only at hSw); go_simp; (try with_reducible rfl))
      try simp only [Act.put, List.setIfInBounds_toArray, List.set_cons_zero, List.set_cons_succ]
      refine wpAnyH_ready (rs := [13]) (by kernel_rfl) (by simp) ?_
      refine AllReadyH.cons (by simp only [List.getElem?_toArray, List.getElem?_cons_succ, List.getElem?_cons_zero]; rfl) (fun Kq hKq => ?_) AllReadyH.nil
      go_simp
      refine hKq.out _ _ ?_ (fun hHeldN => ?_)
      · first | exact HSW.out _ HKv.out
      clear hKq Kq hHeld
      have hHeld := hHeldN
      clear hHeldN
      refine wpAnyH_take (i := 14) (v := ?_) (by simp only [List.getElem?_toArray, List.getElem?_cons_succ, List.getElem?_cons_zero]; rfl) (by kernel_rfl) (by kernel_rfl) (by kernel_rfl) (by exact fun _ _ _ h => h) (Or.inl ⟨by rfl, ?_⟩) (by assumption) ?_
      rotate_left
      · (intro _ hSw; (try dsimp only at hSw); go_simp; (try with_reducible rfl))
      try simp only [Act.put, List.setIfInBounds_toArray, List.set_cons_zero, List.set_cons_succ]
      refine wpAnyH_done (by kernel_rfl) ?_ _
      clear hHeld
      go_wp2_with fail
      go_meet
      go_light
      exact ⟨W.heap.size, o, n, d, rfl, rfl, HKv.out, HBv.out, HKY.out.1, HKY.out.2.keeps HEQ.out (fun b hb e => own_ne HKY.out.2 HBz.out (by decide) b hb e)⟩
  case rest =>
  obtain ⟨g1, o1, n1, d1, rfl, rfl, HC1⟩ := hcut
  rename World => W1
  have HSW1 : Hid (∀ Y, Keeps no W1 Y → Y.cell? ⟨X, 0, none⟩ = some (.pointer (some ⟨p, 0, none⟩)) ∧ Y.cell? ⟨X, 1, none⟩ = some (.pointer (some ⟨r, 0, none⟩)) ∧ Y.cell? ⟨O, 1, none⟩ = some (.int .u64 ((i : Nat) : Int)) ∧ Y.cell? ⟨O, 2, none⟩ = some (.string y) ∧ Y.cell? ⟨O, 3, none⟩ = some (.slice ap np cp) ∧ Y.cell? ⟨O, 4, none⟩ = some (.slice ak nk ck) ∧ Y.cell? ⟨O, 5, none⟩ = some (.int .i64 now)) := fun Y hY => HSW.out Y (HC1.out.1.trans hY)
  clear HSW HKd HKda HBd
  have HSW := HSW1
  clear HSW1
  go_wp2_with fail
  have HKd : Hid (Keeps no W1 W1.drew) := (Keeps.refl no W1).drew
  have HKda : Hid (Keeps no W1 (W1.drew.alloc (.cells #[.string ⟨#[]⟩, .int .u64 0, .string ⟨#[]⟩, .slice none 0 0] 44))) := ((Keeps.refl no W1).drew).alloc _
  have HBd : Hid ((W1.drew.alloc (.cells #[.string ⟨#[]⟩, .int .u64 0, .string ⟨#[]⟩, .slice none 0 0] 44)).heap[W1.heap.size]? = some (.cells #[.string ⟨#[]⟩, .int .u64 0, .string ⟨#[]⟩, .slice none 0 0] 44 (0, 0))) := blk_new W1.drew _
  go_cut [15, 16] from 132 to 143 (fun s1 s2 wc => ∃ (g : Nat) (o : Option Addr) (n d : Nat), s1 = .pointer (some ⟨g, 0, none⟩) ∧ s2 = .int .i64 0 ∧ Hid (Keeps no W1 wc ∧ wc.heap[g]? = some (.cells #[.string y, .int .u64 ((i : Nat) : Int), .string v.val, .slice o n d] 44 (0, 0)) ∧ (n = v.keys.length ∧ Own TE wc o d v.keys)))
  case first =>
    refine wp_region_held_drew (S := (fun Y => Y.cell? ⟨X, 0, none⟩ = some (.pointer (some ⟨p, 0, none⟩)) ∧ Y.cell? ⟨X, 1, none⟩ = some (.pointer (some ⟨r, 0, none⟩)) ∧ Y.cell? ⟨O, 1, none⟩ = some (.int .u64 ((i : Nat) : Int)) ∧ Y.cell? ⟨O, 2, none⟩ = some (.string y) ∧ Y.cell? ⟨O, 3, none⟩ = some (.slice ap np cp) ∧ Y.cell? ⟨O, 4, none⟩ = some (.slice ak nk ck) ∧ Y.cell? ⟨O, 5, none⟩ = some (.int .i64 now))) (by kernel_rfl) ?_ (fun hHeld => ?_)
    · first | exact HSW.out _ (Keeps.refl no W1) | exact HSW.out _ HKd.out
    refine wpAnyH_take (i := 0) (v := ?_) (by simp only [List.getElem?_toArray, List.getElem?_cons_succ, List.getElem?_cons_zero]; rfl) (by kernel_rfl) (by kernel_rfl) (by kernel_rfl) (by exact fun _ _ _ h => h) (Or.inl ⟨by rfl, ?_⟩) (by assumption) ?_
    rotate_left
    · (intro _ hSw; (try dsimp only at hSw); go_simp; (try with_reducible rfl))
    try simp only [Act.put, List.setIfInBounds_toArray, List.set_cons_zero, List.set_cons_succ]
    refine wpAnyH_take (i := 1) (v := ?_) (by simp only [List.getElem?_toArray, List.getElem?_cons_succ, List.getElem?_cons_zero]; rfl) (by kernel_rfl) (by kernel_rfl) (by kernel_rfl) (by exact fun _ _ _ h => h) (Or.inl ⟨by rfl, ?_⟩) (by assumption) ?_
    rotate_left
    · (intro _ hSw; (try dsimp only at hSw); go_simp; (try with_reducible rfl))
    try simp only [Act.put, List.setIfInBounds_toArray, List.set_cons_zero, List.set_cons_succ]
    refine wpAnyH_take (i := 2) (v := ?_) (by simp only [List.getElem?_toArray, List.getElem?_cons_succ, List.getElem?_cons_zero]; rfl) (by kernel_rfl) (by kernel_rfl) (by kernel_rfl) (by exact fun _ _ _ h => h) (Or.inl ⟨by rfl, ?_⟩) (by assumption) ?_
    rotate_left
    · (intro _ hSw; (try dsimp only at hSw); go_simp; (try with_reducible rfl))
    try simp only [Act.put, List.setIfInBounds_toArray, List.set_cons_zero, List.set_cons_succ]
    refine wpAnyH_take (i := 3) (v := ?_) (by simp only [List.getElem?_toArray, List.getElem?_cons_succ, List.getElem?_cons_zero]; rfl) (by kernel_rfl) (by kernel_rfl) (by kernel_rfl) (by exact fun _ _ _ h => h) (Or.inl ⟨by rfl, ?_⟩) (by assumption) ?_
    rotate_left
    · (intro _ hSw; (try dsimp only at hSw); go_simp; (try with_reducible rfl))
    try simp only [Act.put, List.setIfInBounds_toArray, List.set_cons_zero, List.set_cons_succ]
    refine wpAnyH_take (i := 4) (v := ?_) (by simp only [List.getElem?_toArray, List.getElem?_cons_succ, List.getElem?_cons_zero]; rfl) (by kernel_rfl) (by kernel_rfl) (by kernel_rfl) (by exact fun _ _ _ h => h) (Or.inl ⟨by rfl, ?_⟩) (by assumption) ?_
    rotate_left
    · (intro _ hSw; (try dsimp only at hSw); go_simp; (try with_reducible rfl))
    try simp only [Act.put, List.setIfInBounds_toArray, List.set_cons_zero, List.set_cons_succ]
    refine wpAnyH_take (i := 5) (v := ?_) (by simp only [List.getElem?_toArray, List.getElem?_cons_succ, List.getElem?_cons_zero]; rfl) (by kernel_rfl) (by kernel_rfl) (by kernel_rfl) (by exact fun _ _ _ h => h) (Or.inl ⟨by rfl, ?_⟩) (by assumption) ?_
    rotate_left
    · (intro _ hSw; (try dsimp only at hSw); go_simp; (try with_reducible rfl))
    try simp only [Act.put, List.setIfInBounds_toArray, List.set_cons_zero, List.set_cons_succ]
    refine wpAnyH_take (i := 6) (v := ?_) (by simp only [List.getElem?_toArray, List.getElem?_cons_succ, List.getElem?_cons_zero]; rfl) (by kernel_rfl) (by kernel_rfl) (by kernel_rfl) (by exact fun _ _ _ h => h) (Or.inl ⟨by rfl, ?_⟩) (by assumption) ?_
    rotate_left
    · (intro _ hSw; (try dsimp only at hSw); go_simp; (try with_reducible rfl))
    try simp only [Act.put, List.setIfInBounds_toArray, List.set_cons_zero, List.set_cons_succ]
    refine wpAnyH_take (i := 7) (v := ?_) (by simp only [List.getElem?_toArray, List.getElem?_cons_succ, List.getElem?_cons_zero]; rfl) (by kernel_rfl) (by kernel_rfl) (by kernel_rfl) (by exact fun _ _ _ h => h) (Or.inl ⟨by rfl, ?_⟩) (by assumption) ?_
    rotate_left
    · (intro _ hSw; (try dsimp only at hSw); go_simp; (try with_reducible rfl))
    try simp only [Act.put, List.setIfInBounds_toArray, List.set_cons_zero, List.set_cons_succ]
    refine wpAnyH_ready (rs := [8, 12]) (by kernel_rfl) (by simp) ?_
    refine AllReadyH.cons (by simp only [List.getElem?_toArray, List.getElem?_cons_succ, List.getElem?_cons_zero]; rfl) (fun Kq hKq => ?_) (AllReadyH.cons (by simp only [List.getElem?_toArray, List.getElem?_cons_succ, List.getElem?_cons_zero]; rfl) (fun Kq hKq => ?_) AllReadyH.nil)
    · (go_simp; refine (rByID_some W1.drew r oK nK cK oL nL cL ks ls (HD.out.1.go (HC1.out.1.trans (HKd.out))).ro.rd (HD.out.1.go (HC1.out.1.trans (HKd.out))).rk y i (by rw [HD.out.1.rl.there, HV.out]; rfl)).mono ?_; rintro e z1 ⟨u, rfl, o, n, d, rfl, h2⟩; have hxv := HD.out.1.rl.found (m := (y, i)) HV.out; rw [hxv.1]; have h1 := h2.out.2.2; have q := h2.out; rw [hxv.2] at q; have HKz : Hid (Keeps no W1 z1) := HKd.out.trans h1; have HKa : Hid (Keeps no W1 (z1.alloc (.cells #[.string ⟨#[]⟩, .int .u64 0, .string ⟨#[]⟩, .slice none 0 0] 44))) := HKz.out.alloc _; have HKv : Hid (Keeps no W1 (z1.alloc (.cells #[.string y, .int .u64 ((i : Nat) : Int), .string v.val, .slice o n d] 44))) := HKz.out.alloc _; have HBv : Hid ((z1.alloc (.cells #[.string y, .int .u64 ((i : Nat) : Int), .string v.val, .slice o n d] 44)).heap[z1.heap.size]? = some (.cells #[.string y, .int .u64 ((i : Nat) : Int), .string v.val, .slice o n d] 44 (0, 0))) := blk_new z1 _; have HKY : Hid (n = v.keys.length ∧ Own TE z1 o d v.keys) := ⟨q.1, q.2.1⟩; clear h1 h2 hxv q)
      refine hKq.out _ _ ?_ (fun hHeldN => ?_)
      · first | exact HSW.out _ HKz.out | exact HSW.out _ HKd.out
      clear hKq Kq hHeld
      have hHeld := hHeldN
      clear hHeldN
      refine wpAnyH_take (i := 9) (v := ?_) (by simp only [List.getElem?_toArray, List.getElem?_cons_succ, List.getElem?_cons_zero]; rfl) (by kernel_rfl) (by kernel_rfl) (by kernel_rfl) (by exact fun _ _ _ h => h) (Or.inl ⟨by rfl, ?_⟩) (by assumption) ?_
      rotate_left
      · (intro _ hSw; (try dsimp only at hSw); go_simp; (try with_reducible rfl))
      try simp only [Act.put, List.setIfInBounds_toArray, List.set_cons_zero, List.set_cons_succ]
      refine wpAnyH_take (i := 10) (v := ?_) (by simp only [List.getElem?_toArray, List.getElem?_cons_succ, List.getElem?_cons_zero]; rfl) (by kernel_rfl) (by kernel_rfl) (by kernel_rfl) (by exact fun _ _ _ h => h) (Or.inl ⟨by rfl, ?_⟩) (by assumption) ?_
      rotate_left
      · (intro _ hSw; (try dsimp only at hSw); go_simp; (try with_reducible rfl))
      try simp only [Act.put, List.setIfInBounds_toArray, List.set_cons_zero, List.set_cons_succ]
      refine wpAnyH_take (i := 11) (v := ?_) (by simp only [List.getElem?_toArray, List.getElem?_cons_succ, List.getElem?_cons_zero]; rfl) (by kernel_rfl) (by kernel_rfl) (by kernel_rfl) (by exact fun _ _ _ h => h) (Or.inl ⟨by rfl, ?_⟩) (by assumption) ?_
      rotate_left
      · (intro _ hSw; (try dsimp only at hSw); go_simp; (try with_reducible rfl))
      try simp only [Act.put, List.setIfInBounds_toArray, List.set_cons_zero, List.set_cons_succ]
      refine wpAnyH_ready (rs := [12]) (by kernel_rfl) (by simp) ?_
      refine AllReadyH.cons (by simp only [List.getElem?_toArray, List.getElem?_cons_succ, List.getElem?_cons_zero]; rfl) (fun Kq hKq => ?_) AllReadyH.nil
      go_simp
      refine hKq.out _ _ ?_ (fun hHeldN => ?_)
      · first | exact HSW.out _ HKa.out
      clear hKq Kq hHeld
      have hHeld := hHeldN
      clear hHeldN
      refine wpAnyH_ready (rs := [13]) (by kernel_rfl) (by simp) ?_
      refine AllReadyH.cons (by simp only [List.getElem?_toArray, List.getElem?_cons_succ, List.getElem?_cons_zero]; rfl) (fun Kq hKq => ?_) AllReadyH.nil
      go_simp
      refine hKq.out _ _ ?_ (fun hHeldN => ?_)
      · first | exact HSW.out _ HKv.out
      clear hKq Kq hHeld
      have hHeld := hHeldN
      clear hHeldN
      refine wpAnyH_take (i := 14) (v := ?_) (by simp only [List.getElem?_toArray, List.getElem?_cons_succ, List.getElem?_cons_zero]; rfl) (by kernel_rfl) (by kernel_rfl) (by kernel_rfl) (by exact fun _ _ _ h => h) (Or.inl ⟨by rfl, ?_⟩) (by assumption) ?_
      rotate_left
      · (intro _ hSw; (try dsimp only at hSw); go_simp; (try with_reducible rfl))
      try simp only [Act.put, List.setIfInBounds_toArray, List.set_cons_zero, List.set_cons_succ]
      refine wpAnyH_done (by kernel_rfl) ?_ _
      clear hHeld
      go_wp2_with fail
      go_meet
      go_light
      exact ⟨z1.heap.size, o, n, d, rfl, rfl, HKv.out, HBv.out, HKY.out.1, HKY.out.2.keepsN ((Keeps.refl no z1).alloc _)⟩
    · go_simp
      refine hKq.out _ _ ?_ (fun hHeldN => ?_)
      · first | exact HSW.out _ HKda.out
      clear hKq Kq hHeld
      have hHeld := hHeldN
      clear hHeldN
      refine wpAnyH_ready (rs := [8]) (by kernel_rfl) (by simp) ?_
      refine AllReadyH.cons (by simp only [List.getElem?_toArray, List.getElem?_cons_succ, List.getElem?_cons_zero]; rfl) (fun Kq hKq => ?_) AllReadyH.nil
      (go_simp; refine (rByID_some (W1.drew.alloc (.cells #[.string ⟨#[]⟩, .int .u64 0, .string ⟨#[]⟩, .slice none 0 0] 44)) r oK nK cK oL nL cL ks ls (HD.out.1.go (HC1.out.1.trans (HKda.out))).ro.rd (HD.out.1.go (HC1.out.1.trans (HKda.out))).rk y i (by rw [HD.out.1.rl.there, HV.out]; rfl)).mono ?_; rintro e z1 ⟨u, rfl, o, n, d, rfl, h2⟩; have hxv := HD.out.1.rl.found (m := (y, i)) HV.out; rw [hxv.1]; have h1 := h2.out.2.2; have q := h2.out; rw [hxv.2] at q; have HKz : Hid (Keeps no W1 z1) := HKda.out.trans h1; have HBz : Hid (z1.heap[W1.heap.size]? = some (.cells #[.string ⟨#[]⟩, .int .u64 0, .string ⟨#[]⟩, .slice none 0 0] 44 (0, 0))) := h1.at HBd.out id; have HKY : Hid (n = v.keys.length ∧ Own TE z1 o d v.keys) := ⟨q.1, q.2.1⟩; clear h1 h2 hxv q)
      refine hKq.out _ _ ?_ (fun hHeldN => ?_)
      · first | exact HSW.out _ HKz.out
      clear hKq Kq hHeld
      have hHeld := hHeldN
      clear hHeldN
      have q0 := cell_of_blk HBz.out 0
      have q1 := cell_of_blk HBz.out 1
      have q2 := cell_of_blk HBz.out 2
      have q3 := cell_of_blk HBz.out 3
      have f0 := frozen_of_blk HBz.out 0
      have f1 := frozen_of_blk HBz.out 1
      have f2 := frozen_of_blk HBz.out 2
      have f3 := frozen_of_blk HBz.out 3
      have hs4 := set4 HBz.out (.string y) (.int .u64 ((i : Nat) : Int)) (.string v.val) (.slice o n d)
      unfold set4w at hs4
      have HKv : Hid (Keeps no W1 ((((z1.setCell ⟨W1.heap.size, 0, none⟩ (.string y)).setCell ⟨W1.heap.size, 1, none⟩ (.int .u64 ((i : Nat) : Int))).setCell ⟨W1.heap.size, 2, none⟩ (.string v.val)).setCell ⟨W1.heap.size, 3, none⟩ (.slice o n d))) := HKz.out.then hs4.2 (fun b hb => .inr (by have : b = W1.heap.size := hb; omega))
      have HBv : Hid (((((z1.setCell ⟨W1.heap.size, 0, none⟩ (.string y)).setCell ⟨W1.heap.size, 1, none⟩ (.int .u64 ((i : Nat) : Int))).setCell ⟨W1.heap.size, 2, none⟩ (.string v.val)).setCell ⟨W1.heap.size, 3, none⟩ (.slice o n d)).heap[W1.heap.size]? = some (.cells #[.string y, .int .u64 ((i : Nat) : Int), .string v.val, .slice o n d] 44 (0, 0))) := hs4.1
      have HEQ : Hid (Keeps (eqA W1.heap.size) z1 ((((z1.setCell ⟨W1.heap.size, 0, none⟩ (.string y)).setCell ⟨W1.heap.size, 1, none⟩ (.int .u64 ((i : Nat) : Int))).setCell ⟨W1.heap.size, 2, none⟩ (.string v.val)).setCell ⟨W1.heap.size, 3, none⟩ (.slice o n d))) := hs4.2
      clear hs4
      refine wpAnyH_take (i := 9) (v := ?_) (by simp only [List.getElem?_toArray, List.getElem?_cons_succ, List.getElem?_cons_zero]; rfl) (by kernel_rfl) (by kernel_rfl) (by kernel_rfl) (by exact fun _ _ _ h => h) (Or.inl ⟨by rfl, ?_⟩) (by assumption) ?_
      rotate_left
      · (intro _ hSw; (try dsimp only at hSw); go_simp; (try with_reducible rfl))
      try simp only [Act.put, List.setIfInBounds_toArray, List.set_cons_zero, List.set_cons_succ]
      refine wpAnyH_take (i := 10) (v := ?_) (by simp only [List.getElem?_toArray, List.getElem?_cons_succ, List.getElem?_cons_zero]; rfl) (by kernel_rfl) (by kernel_rfl) (by kernel_rfl) (by exact fun _ _ _ h => h) (Or.inl ⟨by rfl, ?_⟩) (by assumption) ?_
      rotate_left
      · (intro _ hSw; (try dsimp only at hSw); go_simp; (try with_reducible rfl))
      try simp only [Act.put, List.setIfInBounds_toArray, List.set_cons_zero, List.set_cons_succ]
      refine wpAnyH_take (i := 11) (v := ?_) (by simp only [List.getElem?_toArray, List.getElem?_cons_succ, List.getElem?_cons_zero]; rfl) (by kernel_rfl) (by kernel_rfl) (by kernel_rfl) (by exact fun _ _ _ h => h) (Or.inl ⟨by rfl, ?_⟩) (by assumption) ?_
      rotate_left
      · (intro _ hSw; (try dsimp only at hSw); go_simp; (try with_reducible rfl))
      try simp only [Act.put, List.setIfInBounds_toArray, List.set_cons_zero, List.set_cons_succ]
      refine wpAnyH_ready (rs := [13]) (by kernel_rfl) (by simp) ?_
      refine AllReadyH.cons (by simp only [List.getElem?_toArray, List.getElem?_cons_succ, List.getElem?_cons_zero]; rfl) (fun Kq hKq => ?_) AllReadyH.nil
      go_simp
      refine hKq.out _ _ ?_ (fun hHeldN => ?_)
      · first | exact HSW.out _ HKv.out
      clear hKq Kq hHeld
      have hHeld := hHeldN
      clear hHeldN
      refine wpAnyH_take (i := 14) (v := ?_) (by simp only [List.getElem?_toArray, List.getElem?_cons_succ, List.getElem?_cons_zero]; rfl) (by kernel_rfl) (by kernel_rfl) (by kernel_rfl) (by exact fun _ _ _ h => h) (Or.inl ⟨by rfl, ?_⟩) (by assumption) ?_
      rotate_left
      · (intro _ hSw; (try dsimp only at hSw); go_simp; (try with_reducible rfl))
      try simp only [Act.put, List.setIfInBounds_toArray, List.set_cons_zero, List.set_cons_succ]
      refine wpAnyH_done (by kernel_rfl) ?_ _
      clear hHeld
      go_wp2_with fail
      go_meet
      go_light
      exact ⟨W1.heap.size, o, n, d, rfl, rfl, HKv.out, HBv.out, HKY.out.1, HKY.out.2.keeps HEQ.out (fun b hb e => own_ne HKY.out.2 HBz.out (by decide) b hb e)⟩
  case rest =>
  obtain ⟨g2, o2, n2, d2, rfl, rfl, HC2⟩ := hcut
  rename World => W2
  obtain ⟨v0, v1, v2, v3⟩ := cells4 (HC2.out.1.at HC1.out.2.1 id)
  obtain ⟨u0, u1, u2, u3⟩ := cells4 HC2.out.2.1
  clear HSW HKd HKda HBd
  go_wp2_with fail
  refine (sameVS W2 y i v.val HC1.out.2.2.1 HC2.out.2.2.1 (by have := HD.out.1.ow.ok.v.len HV.out; omega) (HC1.out.2.2.2.keepsN HC2.out.1) HC2.out.2.2.2).mono ?_
  rintro e z5 ⟨rfl, h5⟩
  have HKE : Hid (Keeps no W z5) := (HC1.out.1.trans HC2.out.1).trans h5
  clear h5 v0 v1 v2 v3 u0 u1 u2 u3
  go_wp2_with fail
  go_ret
  exact ⟨rfl, (HD.out.1.go HKE.out).sx⟩
end Go.Proofs.YtkoaiibjahlnmabGreat
/- StorePlays: ByID, nothing there. -/
namespace Go.Proofs.YtkoaiibjahlnmabGreat
open Go.RowKit Go.Maps Go.Sort Orl
set_option linter.unusedVariables false
set_option linter.unusedSimpArgs false

set_option maxRecDepth 10000 in
set_option maxHeartbeats 1000000 in
theorem plays_by0 {w0 : World} {X p r : Nat} {P B : Nat → Prop} {oK : Option Addr} {nK cK : Nat} {oL : Option Addr} {nL cL : Nat} {ks : List KV} {ls : List Mk} {s : St} {N : Nat} {w : World} (h : Sd w0 X p r P B oK nK cK oL nL cL ks ls s N w) (hN : N ≤ 800000000) (i : Nat) (y : Tx) (ap : Option Addr) (np cp : Nat) (ak : Option Addr) (nk ck : Nat) (now : Int) (hi : i < 18446744073709551616) (hy : y.size ≤ 140737488351232) (hm : KM.ok (y, i)) (hv : s.V (y, i) = none) :
    Calls Tryz.prog 7 #[.pointer (some ⟨X, 0, none⟩), .agg #[.int .i64 4, .int .u64 ((i : Nat) : Int), .string y, .slice ap np cp, .slice ak nk ck, .int .i64 now]] w fun e w' => e = .returned (.bool true) ∧ Hid (Sx w0 X s N w') := by
  have HV : Hid (s.V (y, i) = none) := hv
  have HM : Hid (KM.ok (y, i)) := hm
  clear hv hm
  have HA : Hid (i < 18446744073709551616 ∧ y.size ≤ 140737488351232 ∧ KM.ok (y, i)) := ⟨hi, hy, by show y.size ≤ maxLen; unfold maxLen; omega, hi⟩
  clear hi hy
  obtain ⟨P', hSd, hob, hpo, hbo⟩ := h.arg (.cells #[.int .i64 4, .int .u64 ((i : Nat) : Int), .string y, .slice ap np cp, .slice ak nk ck, .int .i64 now] 37)
  have HD : Hid (Sd w0 X p r P' B oK nK cK oL nL cL ks ls s N (w.alloc (.cells #[.int .i64 4, .int .u64 ((i : Nat) : Int), .string y, .slice ap np cp, .slice ak nk ck, .int .i64 now] 37)) ∧ (w.alloc (.cells #[.int .i64 4, .int .u64 ((i : Nat) : Int), .string y, .slice ap np cp, .slice ak nk ck, .int .i64 now] 37)).heap[w.heap.size]? = some (.cells #[.int .i64 4, .int .u64 ((i : Nat) : Int), .string y, .slice ap np cp, .slice ak nk ck, .int .i64 now] 37 (0, 0)) ∧ P' w.heap.size ∧ ¬ B w.heap.size) := ⟨hSd, hob, hpo, hbo⟩
  have HNN : Hid (N ≤ 800000000) := hN
  clear h hSd hob hpo hbo hN
  go_enter Tryz.func7, Tryz.ntmps7
  go_wp2_with fail
  generalize w.alloc (.cells #[.int .i64 4, .int .u64 ((i : Nat) : Int), .string y, .slice ap np cp, .slice ak nk ck, .int .i64 now] 37) = W at HD ⊢
  generalize w.heap.size = O at HD ⊢
  have HDd : Hid (Sd w0 X p r P' B oK nK cK oL nL cL ks ls s N W.drew ∧ W.drew.heap[O]? = some (.cells #[.int .i64 4, .int .u64 ((i : Nat) : Int), .string y, .slice ap np cp, .slice ak nk ck, .int .i64 now] 37 (0, 0))) := ⟨HD.out.1.go ((Keeps.refl no W).drew), ((Keeps.refl no W).drew).at HD.out.2.1 id⟩
  have HSX : Hid (∀ Y : World, Y.heap[X]? = some (.cells #[.pointer (some ⟨p, 0, none⟩), .pointer (some ⟨r, 0, none⟩)] 30 (0, 0)) → Y.heap[O]? = some (.cells #[.int .i64 4, .int .u64 ((i : Nat) : Int), .string y, .slice ap np cp, .slice ak nk ck, .int .i64 now] 37 (0, 0)) → Y.cell? ⟨X, 0, none⟩ = some (.pointer (some ⟨p, 0, none⟩)) ∧ Y.cell? ⟨X, 1, none⟩ = some (.pointer (some ⟨r, 0, none⟩)) ∧ Y.cell? ⟨O, 1, none⟩ = some (.int .u64 ((i : Nat) : Int)) ∧ Y.cell? ⟨O, 2, none⟩ = some (.string y) ∧ Y.cell? ⟨O, 3, none⟩ = some (.slice ap np cp) ∧ Y.cell? ⟨O, 4, none⟩ = some (.slice ak nk ck) ∧ Y.cell? ⟨O, 5, none⟩ = some (.int .i64 now)) := fun Y h1 h2 => ⟨cell_of_blk h1 0, cell_of_blk h1 1, cell_of_blk h2 1, cell_of_blk h2 2, cell_of_blk h2 3, cell_of_blk h2 4, cell_of_blk h2 5⟩
  have HSW : Hid (∀ Y, Keeps no W Y → Y.cell? ⟨X, 0, none⟩ = some (.pointer (some ⟨p, 0, none⟩)) ∧ Y.cell? ⟨X, 1, none⟩ = some (.pointer (some ⟨r, 0, none⟩)) ∧ Y.cell? ⟨O, 1, none⟩ = some (.int .u64 ((i : Nat) : Int)) ∧ Y.cell? ⟨O, 2, none⟩ = some (.string y) ∧ Y.cell? ⟨O, 3, none⟩ = some (.slice ap np cp) ∧ Y.cell? ⟨O, 4, none⟩ = some (.slice ak nk ck) ∧ Y.cell? ⟨O, 5, none⟩ = some (.int .i64 now)) := fun Y hY => HSX.out Y (hY.at HD.out.1.x id) (hY.at HD.out.2.1 id)
  have HKd : Hid (Keeps no W W.drew) := (Keeps.refl no W).drew
  have HKda : Hid (Keeps no W (W.drew.alloc (.cells #[.string ⟨#[]⟩, .int .u64 0, .string ⟨#[]⟩, .slice none 0 0] 44))) := ((Keeps.refl no W).drew).alloc _
  have HBd : Hid ((W.drew.alloc (.cells #[.string ⟨#[]⟩, .int .u64 0, .string ⟨#[]⟩, .slice none 0 0] 44)).heap[W.heap.size]? = some (.cells #[.string ⟨#[]⟩, .int .u64 0, .string ⟨#[]⟩, .slice none 0 0] 44 (0, 0))) := blk_new W.drew _
  go_cut [13, 14] from 120 to 131 (fun s1 s2 wc => ∃ (g : Nat), s1 = .pointer (some ⟨g, 0, none⟩) ∧ s2 = .int .i64 110 ∧ Hid (Keeps no W wc ∧ wc.heap[g]? = some (.cells #[.string ⟨#[]⟩, .int .u64 0, .string ⟨#[]⟩, .slice none 0 0] 44 (0, 0)) ∧ True))
  case first =>
    refine wp_region_held_drew (S := (fun Y => Y.cell? ⟨X, 0, none⟩ = some (.pointer (some ⟨p, 0, none⟩)) ∧ Y.cell? ⟨X, 1, none⟩ = some (.pointer (some ⟨r, 0, none⟩)) ∧ Y.cell? ⟨O, 1, none⟩ = some (.int .u64 ((i : Nat) : Int)) ∧ Y.cell? ⟨O, 2, none⟩ = some (.string y) ∧ Y.cell? ⟨O, 3, none⟩ = some (.slice ap np cp) ∧ Y.cell? ⟨O, 4, none⟩ = some (.slice ak nk ck) ∧ Y.cell? ⟨O, 5, none⟩ = some (.int .i64 now))) (by kernel_rfl) ?_ (fun hHeld => ?_)
    · first | exact HSW.out _ (Keeps.refl no W) | exact HSW.out _ HKd.out
    refine wpAnyH_take (i := 0) (v := ?_) (by simp only [List.getElem?_toArray, List.getElem?_cons_succ, List.getElem?_cons_zero]; rfl) (by kernel_rfl) (by kernel_rfl) (by kernel_rfl) (by exact fun _ _ _ h => h) (Or.inl ⟨by rfl, ?_⟩) (by assumption) ?_
    rotate_left
    · (intro _ hSw; (try dsimp only at hSw); go_simp; (try with_reducible rfl))
    try simp only [Act.put, List.setIfInBounds_toArray, List.set_cons_zero, List.set_cons_succ]
    refine wpAnyH_take (i := 1) (v := ?_) (by simp only [List.getElem?_toArray, List.getElem?_cons_succ, List.getElem?_cons_zero]; rfl) (by kernel_rfl) (by kernel_rfl) (by kernel_rfl) (by exact fun _ _ _ h => h) (Or.inl ⟨by rfl, ?_⟩) (by assumption) ?_
    rotate_left
    · (intro _ hSw; (try dsimp only at hSw); go_simp; (try with_reducible rfl))
    try simp only [Act.put, List.setIfInBounds_toArray, List.set_cons_zero, List.set_cons_succ]
    refine wpAnyH_take (i := 2) (v := ?_) (by simp only [List.getElem?_toArray, List.getElem?_cons_succ, List.getElem?_cons_zero]; rfl) (by kernel_rfl) (by kernel_rfl) (by kernel_rfl) (by exact fun _ _ _ h => h) (Or.inl ⟨by rfl, ?_⟩) (by assumption) ?_
    rotate_left
    · (intro _ hSw; (try dsimp only at hSw); go_simp; (try with_reducible rfl))
    try simp only [Act.put, List.setIfInBounds_toArray, List.set_cons_zero, List.set_cons_succ]
    refine wpAnyH_take (i := 3) (v := ?_) (by simp only [List.getElem?_toArray, List.getElem?_cons_succ, List.getElem?_cons_zero]; rfl) (by kernel_rfl) (by kernel_rfl) (by kernel_rfl) (by exact fun _ _ _ h => h) (Or.inl ⟨by rfl, ?_⟩) (by assumption) ?_
    rotate_left
    · (intro _ hSw; (try dsimp only at hSw); go_simp; (try with_reducible rfl))
    try simp only [Act.put, List.setIfInBounds_toArray, List.set_cons_zero, List.set_cons_succ]
    refine wpAnyH_take (i := 4) (v := ?_) (by simp only [List.getElem?_toArray, List.getElem?_cons_succ, List.getElem?_cons_zero]; rfl) (by kernel_rfl) (by kernel_rfl) (by kernel_rfl) (by exact fun _ _ _ h => h) (Or.inl ⟨by rfl, ?_⟩) (by assumption) ?_
    rotate_left
    · (intro _ hSw; (try dsimp only at hSw); go_simp; (try with_reducible rfl))
    try simp only [Act.put, List.setIfInBounds_toArray, List.set_cons_zero, List.set_cons_succ]
    refine wpAnyH_take (i := 5) (v := ?_) (by simp only [List.getElem?_toArray, List.getElem?_cons_succ, List.getElem?_cons_zero]; rfl) (by kernel_rfl) (by kernel_rfl) (by kernel_rfl) (by exact fun _ _ _ h => h) (Or.inl ⟨by rfl, ?_⟩) (by assumption) ?_
    rotate_left
    · (intro _ hSw; (try dsimp only at hSw); go_simp; (try with_reducible rfl))
    try simp only [Act.put, List.setIfInBounds_toArray, List.set_cons_zero, List.set_cons_succ]
    refine wpAnyH_take (i := 6) (v := ?_) (by simp only [List.getElem?_toArray, List.getElem?_cons_succ, List.getElem?_cons_zero]; rfl) (by kernel_rfl) (by kernel_rfl) (by kernel_rfl) (by exact fun _ _ _ h => h) (Or.inl ⟨by rfl, ?_⟩) (by assumption) ?_
    rotate_left
    · (intro _ hSw; (try dsimp only at hSw); go_simp; (try with_reducible rfl))
    try simp only [Act.put, List.setIfInBounds_toArray, List.set_cons_zero, List.set_cons_succ]
    refine wpAnyH_take (i := 7) (v := ?_) (by simp only [List.getElem?_toArray, List.getElem?_cons_succ, List.getElem?_cons_zero]; rfl) (by kernel_rfl) (by kernel_rfl) (by kernel_rfl) (by exact fun _ _ _ h => h) (Or.inl ⟨by rfl, ?_⟩) (by assumption) ?_
    rotate_left
    · (intro _ hSw; (try dsimp only at hSw); go_simp; (try with_reducible rfl))
    try simp only [Act.put, List.setIfInBounds_toArray, List.set_cons_zero, List.set_cons_succ]
    refine wpAnyH_ready (rs := [8, 12]) (by kernel_rfl) (by simp) ?_
    refine AllReadyH.cons (by simp only [List.getElem?_toArray, List.getElem?_cons_succ, List.getElem?_cons_zero]; rfl) (fun Kq hKq => ?_) (AllReadyH.cons (by simp only [List.getElem?_toArray, List.getElem?_cons_succ, List.getElem?_cons_zero]; rfl) (fun Kq hKq => ?_) AllReadyH.nil)
    · (go_simp; refine ((HD.out.1.go (HKd.out)).ow.byN y i HM.out HV.out).mono ?_; rintro e z1 ⟨rfl, h1⟩; have HKz : Hid (Keeps no W z1) := HKd.out.trans h1; have HKa : Hid (Keeps no W (z1.alloc (.cells #[.string ⟨#[]⟩, .int .u64 0, .string ⟨#[]⟩, .slice none 0 0] 44))) := HKz.out.alloc _; have HKv : Hid (Keeps no W (z1.alloc (.cells #[.string ⟨#[]⟩, .int .u64 0, .string ⟨#[]⟩, .slice none 0 0] 44))) := HKz.out.alloc _; have HBv : Hid ((z1.alloc (.cells #[.string ⟨#[]⟩, .int .u64 0, .string ⟨#[]⟩, .slice none 0 0] 44)).heap[z1.heap.size]? = some (.cells #[.string ⟨#[]⟩, .int .u64 0, .string ⟨#[]⟩, .slice none 0 0] 44 (0, 0))) := blk_new z1 _; clear h1)
      refine hKq.out _ _ ?_ (fun hHeldN => ?_)
      · first | exact HSW.out _ HKz.out | exact HSW.out _ HKd.out
      clear hKq Kq hHeld
      have hHeld := hHeldN
      clear hHeldN
      refine wpAnyH_take (i := 9) (v := ?_) (by simp only [List.getElem?_toArray, List.getElem?_cons_succ, List.getElem?_cons_zero]; rfl) (by kernel_rfl) (by kernel_rfl) (by kernel_rfl) (by exact fun _ _ _ h => h) (Or.inl ⟨by rfl, ?_⟩) (by assumption) ?_
      rotate_left
      · (intro _ hSw; (try dsimp only at hSw); go_simp; (try with_reducible rfl))
      try simp only [Act.put, List.setIfInBounds_toArray, List.set_cons_zero, List.set_cons_succ]
      refine wpAnyH_take (i := 10) (v := ?_) (by simp only [List.getElem?_toArray, List.getElem?_cons_succ, List.getElem?_cons_zero]; rfl) (by kernel_rfl) (by kernel_rfl) (by kernel_rfl) (by exact fun _ _ _ h => h) (Or.inl ⟨by rfl, ?_⟩) (by assumption) ?_
      rotate_left
      · (intro _ hSw; (try dsimp only at hSw); go_simp; (try with_reducible rfl))
      try simp only [Act.put, List.setIfInBounds_toArray, List.set_cons_zero, List.set_cons_succ]
      refine wpAnyH_take (i := 11) (v := ?_) (by simp only [List.getElem?_toArray, List.getElem?_cons_succ, List.getElem?_cons_zero]; rfl) (by kernel_rfl) (by kernel_rfl) (by kernel_rfl) (by exact fun _ _ _ h => h) (Or.inl ⟨by rfl, ?_⟩) (by assumption) ?_
      rotate_left
      · (intro _ hSw; (try dsimp only at hSw); go_simp; (try with_reducible rfl))
      try simp only [Act.put, List.setIfInBounds_toArray, List.set_cons_zero, List.set_cons_succ]
      refine wpAnyH_ready (rs := [12]) (by kernel_rfl) (by simp) ?_
      refine AllReadyH.cons (by simp only [List.getElem?_toArray, List.getElem?_cons_succ, List.getElem?_cons_zero]; rfl) (fun Kq hKq => ?_) AllReadyH.nil
      go_simp
      refine hKq.out _ _ ?_ (fun hHeldN => ?_)
      · first | exact HSW.out _ HKa.out
      clear hKq Kq hHeld
      have hHeld := hHeldN
      clear hHeldN
      refine wpAnyH_ready (rs := [13]) (by kernel_rfl) (by simp) ?_
      refine AllReadyH.cons (by simp only [List.getElem?_toArray, List.getElem?_cons_succ, List.getElem?_cons_zero]; rfl) (fun Kq hKq => ?_) AllReadyH.nil
      go_simp
      refine hKq.out _ _ ?_ (fun hHeldN => ?_)
      · first | exact HSW.out _ HKv.out
      clear hKq Kq hHeld
      have hHeld := hHeldN
      clear hHeldN
      refine wpAnyH_take (i := 14) (v := ?_) (by simp only [List.getElem?_toArray, List.getElem?_cons_succ, List.getElem?_cons_zero]; rfl) (by kernel_rfl) (by kernel_rfl) (by kernel_rfl) (by exact fun _ _ _ h => h) (Or.inl ⟨by rfl, ?_⟩) (by assumption) ?_
      rotate_left
      · (intro _ hSw; (try dsimp only at hSw); go_simp; (try with_reducible rfl))
      try simp only [Act.put, List.setIfInBounds_toArray, List.set_cons_zero, List.set_cons_succ]
      refine wpAnyH_done (by kernel_rfl) ?_ _
      clear hHeld
      go_wp2_with fail
      go_meet
      go_light
      exact ⟨z1.heap.size, rfl, rfl, HKv.out, HBv.out, trivial⟩
    · go_simp
      refine hKq.out _ _ ?_ (fun hHeldN => ?_)
      · first | exact HSW.out _ HKda.out
      clear hKq Kq hHeld
      have hHeld := hHeldN
      clear hHeldN
      refine wpAnyH_ready (rs := [8]) (by kernel_rfl) (by simp) ?_
      refine AllReadyH.cons (by simp only [List.getElem?_toArray, List.getElem?_cons_succ, List.getElem?_cons_zero]; rfl) (fun Kq hKq => ?_) AllReadyH.nil
      (go_simp; refine ((HD.out.1.go (HKda.out)).ow.byN y i HM.out HV.out).mono ?_; rintro e z1 ⟨rfl, h1⟩; have HKz : Hid (Keeps no W z1) := HKda.out.trans h1; have HBz : Hid (z1.heap[W.heap.size]? = some (.cells #[.string ⟨#[]⟩, .int .u64 0, .string ⟨#[]⟩, .slice none 0 0] 44 (0, 0))) := h1.at HBd.out id; clear h1)
      refine hKq.out _ _ ?_ (fun hHeldN => ?_)
      · first | exact HSW.out _ HKz.out
      clear hKq Kq hHeld
      have hHeld := hHeldN
      clear hHeldN
      have q0 := cell_of_blk HBz.out 0
      have q1 := cell_of_blk HBz.out 1
      have q2 := cell_of_blk HBz.out 2
      have q3 := cell_of_blk HBz.out 3
      have f0 := frozen_of_blk HBz.out 0
      have f1 := frozen_of_blk HBz.out 1
      have f2 := frozen_of_blk HBz.out 2
      have f3 := frozen_of_blk HBz.out 3
      have hs4 := set4 HBz.out (.string ⟨#[]⟩) (.int .u64 0) (.string ⟨#[]⟩) (.slice none 0 0)
      unfold set4w at hs4
      have HKv : Hid (Keeps no W ((((z1.setCell ⟨W.heap.size, 0, none⟩ (.string ⟨#[]⟩)).setCell ⟨W.heap.size, 1, none⟩ (.int .u64 0)).setCell ⟨W.heap.size, 2, none⟩ (.string ⟨#[]⟩)).setCell ⟨W.heap.size, 3, none⟩ (.slice none 0 0))) := HKz.out.then hs4.2 (fun b hb => .inr (by have : b = W.heap.size := hb; omega))
      have HBv : Hid (((((z1.setCell ⟨W.heap.size, 0, none⟩ (.string ⟨#[]⟩)).setCell ⟨W.heap.size, 1, none⟩ (.int .u64 0)).setCell ⟨W.heap.size, 2, none⟩ (.string ⟨#[]⟩)).setCell ⟨W.heap.size, 3, none⟩ (.slice none 0 0)).heap[W.heap.size]? = some (.cells #[.string ⟨#[]⟩, .int .u64 0, .string ⟨#[]⟩, .slice none 0 0] 44 (0, 0))) := hs4.1
      have HEQ : Hid (Keeps (eqA W.heap.size) z1 ((((z1.setCell ⟨W.heap.size, 0, none⟩ (.string ⟨#[]⟩)).setCell ⟨W.heap.size, 1, none⟩ (.int .u64 0)).setCell ⟨W.heap.size, 2, none⟩ (.string ⟨#[]⟩)).setCell ⟨W.heap.size, 3, none⟩ (.slice none 0 0))) := hs4.2
      clear hs4
      refine wpAnyH_take (i := 9) (v := ?_) (by simp only [List.getElem?_toArray, List.getElem?_cons_succ, List.getElem?_cons_zero]; rfl) (by kernel_rfl) (by kernel_rfl) (by kernel_rfl) (by exact fun _ _ _ h => h) (Or.inl ⟨by rfl, ?_⟩) (by assumption) ?_
      rotate_left
      · (intro _ hSw; (try dsimp only at hSw); go_simp; (try with_reducible rfl))
      try simp only [Act.put, List.setIfInBounds_toArray, List.set_cons_zero, List.set_cons_succ]
      refine wpAnyH_take (i := 10) (v := ?_) (by simp only [List.getElem?_toArray, List.getElem?_cons_succ, List.getElem?_cons_zero]; rfl) (by kernel_rfl) (by kernel_rfl) (by kernel_rfl) (by exact fun _ _ _ h => h) (Or.inl ⟨by rfl, ?_⟩) (by assumption) ?_
      rotate_left
      · (intro _ hSw; (try dsimp only at hSw); go_simp; (try with_reducible rfl))
      try simp only [Act.put, List.setIfInBounds_toArray, List.set_cons_zero, List.set_cons_succ]
      refine wpAnyH_take (i := 11) (v := ?_) (by simp only [List.getElem?_toArray, List.getElem?_cons_succ, List.getElem?_cons_zero]; rfl) (by kernel_rfl) (by kernel_rfl) (by kernel_rfl) (by exact fun _ _ _ h => h) (Or.inl ⟨by rfl, ?_⟩) (by assumption) ?_
      rotate_left
      · (intro _ hSw; (try dsimp only at hSw); go_simp; (try with_reducible rfl))
      try simp only [Act.put, List.setIfInBounds_toArray, List.set_cons_zero, List.set_cons_succ]
      refine wpAnyH_ready (rs := [13]) (by kernel_rfl) (by simp) ?_
      refine AllReadyH.cons (by simp only [List.getElem?_toArray, List.getElem?_cons_succ, List.getElem?_cons_zero]; rfl) (fun Kq hKq => ?_) AllReadyH.nil
      go_simp
      refine hKq.out _ _ ?_ (fun hHeldN => ?_)
      · first | exact HSW.out _ HKv.out
      clear hKq Kq hHeld
      have hHeld := hHeldN
      clear hHeldN
      refine wpAnyH_take (i := 14) (v := ?_) (by simp only [List.getElem?_toArray, List.getElem?_cons_succ, List.getElem?_cons_zero]; rfl) (by kernel_rfl) (by kernel_rfl) (by kernel_rfl) (by exact fun _ _ _ h => h) (Or.inl ⟨by rfl, ?_⟩) (by assumption) ?_
      rotate_left
      · (intro _ hSw; (try dsimp only at hSw); go_simp; (try with_reducible rfl))
      try simp only [Act.put, List.setIfInBounds_toArray, List.set_cons_zero, List.set_cons_succ]
      refine wpAnyH_done (by kernel_rfl) ?_ _
      clear hHeld
      go_wp2_with fail
      go_meet
      go_light
      exact ⟨W.heap.size, rfl, rfl, HKv.out, HBv.out, trivial⟩
  case rest =>
  obtain ⟨g1, rfl, rfl, HC1⟩ := hcut
  rename World => W1
  have HSW1 : Hid (∀ Y, Keeps no W1 Y → Y.cell? ⟨X, 0, none⟩ = some (.pointer (some ⟨p, 0, none⟩)) ∧ Y.cell? ⟨X, 1, none⟩ = some (.pointer (some ⟨r, 0, none⟩)) ∧ Y.cell? ⟨O, 1, none⟩ = some (.int .u64 ((i : Nat) : Int)) ∧ Y.cell? ⟨O, 2, none⟩ = some (.string y) ∧ Y.cell? ⟨O, 3, none⟩ = some (.slice ap np cp) ∧ Y.cell? ⟨O, 4, none⟩ = some (.slice ak nk ck) ∧ Y.cell? ⟨O, 5, none⟩ = some (.int .i64 now)) := fun Y hY => HSW.out Y (HC1.out.1.trans hY)
  clear HSW HKd HKda HBd
  have HSW := HSW1
  clear HSW1
  go_wp2_with fail
  have HKd : Hid (Keeps no W1 W1.drew) := (Keeps.refl no W1).drew
  have HKda : Hid (Keeps no W1 (W1.drew.alloc (.cells #[.string ⟨#[]⟩, .int .u64 0, .string ⟨#[]⟩, .slice none 0 0] 44))) := ((Keeps.refl no W1).drew).alloc _
  have HBd : Hid ((W1.drew.alloc (.cells #[.string ⟨#[]⟩, .int .u64 0, .string ⟨#[]⟩, .slice none 0 0] 44)).heap[W1.heap.size]? = some (.cells #[.string ⟨#[]⟩, .int .u64 0, .string ⟨#[]⟩, .slice none 0 0] 44 (0, 0))) := blk_new W1.drew _
  go_cut [15, 16] from 132 to 143 (fun s1 s2 wc => ∃ (g : Nat), s1 = .pointer (some ⟨g, 0, none⟩) ∧ s2 = .int .i64 110 ∧ Hid (Keeps no W1 wc ∧ wc.heap[g]? = some (.cells #[.string ⟨#[]⟩, .int .u64 0, .string ⟨#[]⟩, .slice none 0 0] 44 (0, 0)) ∧ True))
  case first =>
    refine wp_region_held_drew (S := (fun Y => Y.cell? ⟨X, 0, none⟩ = some (.pointer (some ⟨p, 0, none⟩)) ∧ Y.cell? ⟨X, 1, none⟩ = some (.pointer (some ⟨r, 0, none⟩)) ∧ Y.cell? ⟨O, 1, none⟩ = some (.int .u64 ((i : Nat) : Int)) ∧ Y.cell? ⟨O, 2, none⟩ = some (.string y) ∧ Y.cell? ⟨O, 3, none⟩ = some (.slice ap np cp) ∧ Y.cell? ⟨O, 4, none⟩ = some (.slice ak nk ck) ∧ Y.cell? ⟨O, 5, none⟩ = some (.int .i64 now))) (by kernel_rfl) ?_ (fun hHeld => ?_)
    · first | exact HSW.out _ (Keeps.refl no W1) | exact HSW.out _ HKd.out
    refine wpAnyH_take (i := 0) (v := ?_) (by simp only [List.getElem?_toArray, List.getElem?_cons_succ, List.getElem?_cons_zero]; rfl) (by kernel_rfl) (by kernel_rfl) (by kernel_rfl) (by exact fun _ _ _ h => h) (Or.inl ⟨by rfl, ?_⟩) (by assumption) ?_
    rotate_left
    · (intro _ hSw; (try dsimp only at hSw); go_simp; (try with_reducible rfl))
    try simp only [Act.put, List.setIfInBounds_toArray, List.set_cons_zero, List.set_cons_succ]
    refine wpAnyH_take (i := 1) (v := ?_) (by simp only [List.getElem?_toArray, List.getElem?_cons_succ, List.getElem?_cons_zero]; rfl) (by kernel_rfl) (by kernel_rfl) (by kernel_rfl) (by exact fun _ _ _ h => h) (Or.inl ⟨by rfl, ?_⟩) (by assumption) ?_
    rotate_left
    · (intro _ hSw; (try dsimp only at hSw); go_simp; (try with_reducible rfl))
    try simp only [Act.put, List.setIfInBounds_toArray, List.set_cons_zero, List.set_cons_succ]
    refine wpAnyH_take (i := 2) (v := ?_) (by simp only [List.getElem?_toArray, List.getElem?_cons_succ, List.getElem?_cons_zero]; rfl) (by kernel_rfl) (by kernel_rfl) (by kernel_rfl) (by exact fun _ _ _ h => h) (Or.inl ⟨by rfl, ?_⟩) (by assumption) ?_
    rotate_left
    · (intro _ hSw; (try dsimp only at hSw); go_simp; (try with_reducible rfl))
    try simp only [Act.put, List.setIfInBounds_toArray, List.set_cons_zero, List.set_cons_succ]
    refine wpAnyH_take (i := 3) (v := ?_) (by simp only [List.getElem?_toArray, List.getElem?_cons_succ, List.getElem?_cons_zero]; rfl) (by kernel_rfl) (by kernel_rfl) (by kernel_rfl) (by exact fun _ _ _ h => h) (Or.inl ⟨by rfl, ?_⟩) (by assumption) ?_
    rotate_left
    · (intro _ hSw; (try dsimp only at hSw); go_simp; (try with_reducible rfl))
    try simp only [Act.put, List.setIfInBounds_toArray, List.set_cons_zero, List.set_cons_succ]
    refine wpAnyH_take (i := 4) (v := ?_) (by simp only [List.getElem?_toArray, List.getElem?_cons_succ, List.getElem?_cons_zero]; rfl) (by kernel_rfl) (by kernel_rfl) (by kernel_rfl) (by exact fun _ _ _ h => h) (Or.inl ⟨by rfl, ?_⟩) (by assumption) ?_
    rotate_left
    · (intro _ hSw; (try dsimp only at hSw); go_simp; (try with_reducible rfl))
    try simp only [Act.put, List.setIfInBounds_toArray, List.set_cons_zero, List.set_cons_succ]
    refine wpAnyH_take (i := 5) (v := ?_) (by simp only [List.getElem?_toArray, List.getElem?_cons_succ, List.getElem?_cons_zero]; rfl) (by kernel_rfl) (by kernel_rfl) (by kernel_rfl) (by exact fun _ _ _ h => h) (Or.inl ⟨by rfl, ?_⟩) (by assumption) ?_
    rotate_left
    · (intro _ hSw; (try dsimp only at hSw); go_simp; (try with_reducible rfl))
    try simp only [Act.put, List.setIfInBounds_toArray, List.set_cons_zero, List.set_cons_succ]
    refine wpAnyH_take (i := 6) (v := ?_) (by simp only [List.getElem?_toArray, List.getElem?_cons_succ, List.getElem?_cons_zero]; rfl) (by kernel_rfl) (by kernel_rfl) (by kernel_rfl) (by exact fun _ _ _ h => h) (Or.inl ⟨by rfl, ?_⟩) (by assumption) ?_
    rotate_left
    · (intro _ hSw; (try dsimp only at hSw); go_simp; (try with_reducible rfl))
    try simp only [Act.put, List.setIfInBounds_toArray, List.set_cons_zero, List.set_cons_succ]
    refine wpAnyH_take (i := 7) (v := ?_) (by simp only [List.getElem?_toArray, List.getElem?_cons_succ, List.getElem?_cons_zero]; rfl) (by kernel_rfl) (by kernel_rfl) (by kernel_rfl) (by exact fun _ _ _ h => h) (Or.inl ⟨by rfl, ?_⟩) (by assumption) ?_
    rotate_left
    · (intro _ hSw; (try dsimp only at hSw); go_simp; (try with_reducible rfl))
    try simp only [Act.put, List.setIfInBounds_toArray, List.set_cons_zero, List.set_cons_succ]
    refine wpAnyH_ready (rs := [8, 12]) (by kernel_rfl) (by simp) ?_
    refine AllReadyH.cons (by simp only [List.getElem?_toArray, List.getElem?_cons_succ, List.getElem?_cons_zero]; rfl) (fun Kq hKq => ?_) (AllReadyH.cons (by simp only [List.getElem?_toArray, List.getElem?_cons_succ, List.getElem?_cons_zero]; rfl) (fun Kq hKq => ?_) AllReadyH.nil)
    · (go_simp; refine (rByID_none W1.drew r oK nK cK oL nL cL ks ls (HD.out.1.go (HC1.out.1.trans (HKd.out))).ro.rd y i (by rw [HD.out.1.rl.there, HV.out]; rfl)).mono ?_; rintro e z1 ⟨rfl, h1⟩; have HKz : Hid (Keeps no W1 z1) := HKd.out.trans h1; have HKa : Hid (Keeps no W1 (z1.alloc (.cells #[.string ⟨#[]⟩, .int .u64 0, .string ⟨#[]⟩, .slice none 0 0] 44))) := HKz.out.alloc _; have HKv : Hid (Keeps no W1 (z1.alloc (.cells #[.string ⟨#[]⟩, .int .u64 0, .string ⟨#[]⟩, .slice none 0 0] 44))) := HKz.out.alloc _; have HBv : Hid ((z1.alloc (.cells #[.string ⟨#[]⟩, .int .u64 0, .string ⟨#[]⟩, .slice none 0 0] 44)).heap[z1.heap.size]? = some (.cells #[.string ⟨#[]⟩, .int .u64 0, .string ⟨#[]⟩, .slice none 0 0] 44 (0, 0))) := blk_new z1 _; clear h1)
      refine hKq.out _ _ ?_ (fun hHeldN => ?_)
      · first | exact HSW.out _ HKz.out | exact HSW.out _ HKd.out
      clear hKq Kq hHeld
      have hHeld := hHeldN
      clear hHeldN
      refine wpAnyH_take (i := 9) (v := ?_) (by simp only [List.getElem?_toArray, List.getElem?_cons_succ, List.getElem?_cons_zero]; rfl) (by kernel_rfl) (by kernel_rfl) (by kernel_rfl) (by exact fun _ _ _ h => h) (Or.inl ⟨by rfl, ?_⟩) (by assumption) ?_
      rotate_left
      · (intro _ hSw; (try dsimp only at hSw); go_simp; (try with_reducible rfl))
      try simp only [Act.put, List.setIfInBounds_toArray, List.set_cons_zero, List.set_cons_succ]
      refine wpAnyH_take (i := 10) (v := ?_) (by simp only [List.getElem?_toArray, List.getElem?_cons_succ, List.getElem?_cons_zero]; rfl) (by kernel_rfl) (by kernel_rfl) (by kernel_rfl) (by exact fun _ _ _ h => h) (Or.inl ⟨by rfl, ?_⟩) (by assumption) ?_
      rotate_left
      · (intro _ hSw; (try dsimp only at hSw); go_simp; (try with_reducible rfl))
      try simp only [Act.put, List.setIfInBounds_toArray, List.set_cons_zero, List.set_cons_succ]
      refine wpAnyH_take (i := 11) (v := ?_) (by simp only [List.getElem?_toArray, List.getElem?_cons_succ, List.getElem?_cons_zero]; rfl) (by kernel_rfl) (by kernel_rfl) (by kernel_rfl) (by exact fun _ _ _ h => h) (Or.inl ⟨by rfl, ?_⟩) (by assumption) ?_
      rotate_left
      · (intro _ hSw; (try dsimp only at hSw); go_simp; (try with_reducible rfl))
      try simp only [Act.put, List.setIfInBounds_toArray, List.set_cons_zero, List.set_cons_succ]
      refine wpAnyH_ready (rs := [12]) (by kernel_rfl) (by simp) ?_
      refine AllReadyH.cons (by simp only [List.getElem?_toArray, List.getElem?_cons_succ, List.getElem?_cons_zero]; rfl) (fun Kq hKq => ?_) AllReadyH.nil
      go_simp
      refine hKq.out _ _ ?_ (fun hHeldN => ?_)
      · first | exact HSW.out _ HKa.out
      clear hKq Kq hHeld
      have hHeld := hHeldN
      clear hHeldN
      refine wpAnyH_ready (rs := [13]) (by kernel_rfl) (by simp) ?_
      refine AllReadyH.cons (by simp only [List.getElem?_toArray, List.getElem?_cons_succ, List.getElem?_cons_zero]; rfl) (fun Kq hKq => ?_) AllReadyH.nil
      go_simp
      refine hKq.out _ _ ?_ (fun hHeldN => ?_)
      · first | exact HSW.out _ HKv.out
      clear hKq Kq hHeld
      have hHeld := hHeldN
      clear hHeldN
      refine wpAnyH_take (i := 14) (v := ?_) (by simp only [List.getElem?_toArray, List.getElem?_cons_succ, List.getElem?_cons_zero]; rfl) (by kernel_rfl) (by kernel_rfl) (by kernel_rfl) (by exact fun _ _ _ h => h) (Or.inl ⟨by rfl, ?_⟩) (by assumption) ?_
      rotate_left
      · (intro _ hSw; (try dsimp only at hSw); go_simp; (try with_reducible rfl))
      try simp only [Act.put, List.setIfInBounds_toArray, List.set_cons_zero, List.set_cons_succ]
      refine wpAnyH_done (by kernel_rfl) ?_ _
      clear hHeld
      go_wp2_with fail
      go_meet
      go_light
      exact ⟨z1.heap.size, rfl, rfl, HKv.out, HBv.out, trivial⟩
    · go_simp
      refine hKq.out _ _ ?_ (fun hHeldN => ?_)
      · first | exact HSW.out _ HKda.out
      clear hKq Kq hHeld
      have hHeld := hHeldN
      clear hHeldN
      refine wpAnyH_ready (rs := [8]) (by kernel_rfl) (by simp) ?_
      refine AllReadyH.cons (by simp only [List.getElem?_toArray, List.getElem?_cons_succ, List.getElem?_cons_zero]; rfl) (fun Kq hKq => ?_) AllReadyH.nil
      (go_simp; refine (rByID_none (W1.drew.alloc (.cells #[.string ⟨#[]⟩, .int .u64 0, .string ⟨#[]⟩, .slice none 0 0] 44)) r oK nK cK oL nL cL ks ls (HD.out.1.go (HC1.out.1.trans (HKda.out))).ro.rd y i (by rw [HD.out.1.rl.there, HV.out]; rfl)).mono ?_; rintro e z1 ⟨rfl, h1⟩; have HKz : Hid (Keeps no W1 z1) := HKda.out.trans h1; have HBz : Hid (z1.heap[W1.heap.size]? = some (.cells #[.string ⟨#[]⟩, .int .u64 0, .string ⟨#[]⟩, .slice none 0 0] 44 (0, 0))) := h1.at HBd.out id; clear h1)
      refine hKq.out _ _ ?_ (fun hHeldN => ?_)
      · first | exact HSW.out _ HKz.out
      clear hKq Kq hHeld
      have hHeld := hHeldN
      clear hHeldN
      have q0 := cell_of_blk HBz.out 0
      have q1 := cell_of_blk HBz.out 1
      have q2 := cell_of_blk HBz.out 2
      have q3 := cell_of_blk HBz.out 3
      have f0 := frozen_of_blk HBz.out 0
      have f1 := frozen_of_blk HBz.out 1
      have f2 := frozen_of_blk HBz.out 2
      have f3 := frozen_of_blk HBz.out 3
      have hs4 := set4 HBz.out (.string ⟨#[]⟩) (.int .u64 0) (.string ⟨#[]⟩) (.slice none 0 0)
      unfold set4w at hs4
      have HKv : Hid (Keeps no W1 ((((z1.setCell ⟨W1.heap.size, 0, none⟩ (.string ⟨#[]⟩)).setCell ⟨W1.heap.size, 1, none⟩ (.int .u64 0)).setCell ⟨W1.heap.size, 2, none⟩ (.string ⟨#[]⟩)).setCell ⟨W1.heap.size, 3, none⟩ (.slice none 0 0))) := HKz.out.then hs4.2 (fun b hb => .inr (by have : b = W1.heap.size := hb; omega))
      have HBv : Hid (((((z1.setCell ⟨W1.heap.size, 0, none⟩ (.string ⟨#[]⟩)).setCell ⟨W1.heap.size, 1, none⟩ (.int .u64 0)).setCell ⟨W1.heap.size, 2, none⟩ (.string ⟨#[]⟩)).setCell ⟨W1.heap.size, 3, none⟩ (.slice none 0 0)).heap[W1.heap.size]? = some (.cells #[.string ⟨#[]⟩, .int .u64 0, .string ⟨#[]⟩, .slice none 0 0] 44 (0, 0))) := hs4.1
      have HEQ : Hid (Keeps (eqA W1.heap.size) z1 ((((z1.setCell ⟨W1.heap.size, 0, none⟩ (.string ⟨#[]⟩)).setCell ⟨W1.heap.size, 1, none⟩ (.int .u64 0)).setCell ⟨W1.heap.size, 2, none⟩ (.string ⟨#[]⟩)).setCell ⟨W1.heap.size, 3, none⟩ (.slice none 0 0))) := hs4.2
      clear hs4
      refine wpAnyH_take (i := 9) (v := ?_) (by simp only [List.getElem?_toArray, List.getElem?_cons_succ, List.getElem?_cons_zero]; rfl) (by kernel_rfl) (by kernel_rfl) (by kernel_rfl) (by exact fun _ _ _ h => h) (Or.inl ⟨by rfl, ?_⟩) (by assumption) ?_
      rotate_left
      · (intro _ hSw; (try dsimp only at hSw); go_simp; (try with_reducible rfl))
      try simp only [Act.put, List.setIfInBounds_toArray, List.set_cons_zero, List.set_cons_succ]
      refine wpAnyH_take (i := 10) (v := ?_) (by simp only [List.getElem?_toArray, List.getElem?_cons_succ, List.getElem?_cons_zero]; rfl) (by kernel_rfl) (by kernel_rfl) (by kernel_rfl) (by exact fun _ _ _ h => h) (Or.inl ⟨by rfl, ?_⟩) (by assumption) ?_
      rotate_left
      · (intro _ hSw; (try dsimp only at hSw); go_simp; (try with_reducible rfl))
      try simp only [Act.put, List.setIfInBounds_toArray, List.set_cons_zero, List.set_cons_succ]
      refine wpAnyH_take (i := 11) (v := ?_) (by simp only [List.getElem?_toArray, List.getElem?_cons_succ, List.getElem?_cons_zero]; rfl) (by kernel_rfl) (by kernel_rfl) (by kernel_rfl) (by exact fun _ _ _ h => h) (Or.inl ⟨by rfl, ?_⟩) (by assumption) ?_
      rotate_left
      · (intro _ hSw; (try dsimp only at hSw); go_simp; (try with_reducible rfl))
      try simp only [Act.put, List.setIfInBounds_toArray, List.set_cons_zero, List.set_cons_succ]
      refine wpAnyH_ready (rs := [13]) (by kernel_rfl) (by simp) ?_
      refine AllReadyH.cons (by simp only [List.getElem?_toArray, List.getElem?_cons_succ, List.getElem?_cons_zero]; rfl) (fun Kq hKq => ?_) AllReadyH.nil
      go_simp
      refine hKq.out _ _ ?_ (fun hHeldN => ?_)
      · first | exact HSW.out _ HKv.out
      clear hKq Kq hHeld
      have hHeld := hHeldN
      clear hHeldN
      refine wpAnyH_take (i := 14) (v := ?_) (by simp only [List.getElem?_toArray, List.getElem?_cons_succ, List.getElem?_cons_zero]; rfl) (by kernel_rfl) (by kernel_rfl) (by kernel_rfl) (by exact fun _ _ _ h => h) (Or.inl ⟨by rfl, ?_⟩) (by assumption) ?_
      rotate_left
      · (intro _ hSw; (try dsimp only at hSw); go_simp; (try with_reducible rfl))
      try simp only [Act.put, List.setIfInBounds_toArray, List.set_cons_zero, List.set_cons_succ]
      refine wpAnyH_done (by kernel_rfl) ?_ _
      clear hHeld
      go_wp2_with fail
      go_meet
      go_light
      exact ⟨W1.heap.size, rfl, rfl, HKv.out, HBv.out, trivial⟩
  case rest =>
  obtain ⟨g2, rfl, rfl, HC2⟩ := hcut
  rename World => W2
  obtain ⟨v0, v1, v2, v3⟩ := cells4 (HC2.out.1.at HC1.out.2.1 id)
  obtain ⟨u0, u1, u2, u3⟩ := cells4 HC2.out.2.1
  clear HSW HKd HKda HBd
  go_wp2_with fail
  refine (sameVN W2 ⟨#[]⟩ 0 ⟨#[]⟩).mono ?_
  rintro e z5 ⟨rfl, h5⟩
  have HKE : Hid (Keeps no W z5) := (HC1.out.1.trans HC2.out.1).trans h5
  clear h5 v0 v1 v2 v3 u0 u1 u2 u3
  go_wp2_with fail
  go_ret
  exact ⟨rfl, (HD.out.1.go HKE.out).sx⟩
end Go.Proofs.YtkoaiibjahlnmabGreat
/- StorePlays: any call on both; the script. -/
namespace Go.Proofs.YtkoaiibjahlnmabGreat
open Go.RowKit Go.Maps Go.Sort Orl
set_option linter.unusedVariables false
set_option linter.unusedSimpArgs false

/-- one call of a script -/
structure OV where
  kd : Int
  i : Nat
  y : Tx
  ap : Option Addr
  np : Nat
  cp : Nat
  ak : Option Addr
  nk : Nat
  ck : Nat
  now : Int
def ov0 : OV := ⟨0, 0, e0, none, 0, 0, none, 0, 0, 0⟩
def OE : El OV := ⟨37, 22, 6, 88, fun x => [.int .i64 x.kd, .int .u64 ((x.i : Nat) : Int), .string x.y, .slice x.ap x.np x.cp, .slice x.ak x.nk x.ck, .int .i64 x.now]⟩
theorem infoO : (Tryz.prog.info? 37).map (fun i => (i.zero, i.size, i.bytes)) = some (some (.agg #[.int .i64 0, .int .u64 0, .string ⟨#[]⟩, .slice none 0 0, .slice none 0 0, .int .i64 0]), 6, 88) := by kernel_rfl
theorem okO : OE.Ok := by
  obtain ⟨i0, hi, hz0, hz1, hz2⟩ := info_parts infoO
  exact ⟨fun _ => rfl, fun x u hu => by simp [OE] at hu; rcases hu with rfl | rfl | rfl | rfl | rfl | rfl <;> rfl, by decide, Tryz.underlying22, i0, _, hi, hz0, hz1, hz2, rfl⟩
theorem Sl.atO {w : World} {a : Option Addr} {c : Nat} {xs : List OV} (h : Sl OE w a c xs) {j : Nat} (hj : j < xs.length) : ∃ b off, a = some ⟨b, off, none⟩ ∧ ∀ k u, (OE.enc (xs.getD j ov0))[k]? = some u → k < 6 → w.cell? ⟨b, off + j * 6 + k, none⟩ = some u := by
  rcases h.row with e | ⟨b, off, rfl, hc⟩
  · subst e; simp at hj
  · refine ⟨b, off, rfl, fun k u hu hk => ?_⟩
    rw [Nat.add_assoc]
    refine hc (j * 6 + k) _ ?_
    have := cells_at okO ov0 xs j k hj hk
    rw [← hu]
    exact this
structure OkOp (W : World) (o : OV) (ps : List Pr) (keys : List Tx) : Prop where
  np : o.np = ps.length
  nk : o.nk = keys.length
  i : o.i < 18446744073709551616
  y : o.y.size ≤ 140737488351232
  sp : Sl PE W o.ap o.cp ps
  sk : Sl TE W o.ak o.ck keys
  zp : ∀ x ∈ ps, x.2.size ≤ 140737488351232
  zk : ∀ x ∈ keys, x.size ≤ 140737488351232
  lp : ps.length ≤ 1048576
  lk : keys.length ≤ 1048576
theorem plays_any {w0 : World} {X : Nat} {s : St} {N : Nat} {w : World} (h : Sx w0 X s N w) (hN : N ≤ 400000000) (o : OV) (ps : List Pr) (keys : List Tx) (ho : OkOp w0 o ps keys) :
    Calls Tryz.prog 7 #[.pointer (some ⟨X, 0, none⟩), .agg #[.int .i64 o.kd, .int .u64 ((o.i : Nat) : Int), .string o.y, .slice o.ap o.np o.cp, .slice o.ak o.nk o.ck, .int .i64 o.now]] w fun e w' => e = .returned (.bool true) ∧ Hid (∃ s' N', N' ≤ N + o.np ∧ Sx w0 X s' N' w') := by
  obtain ⟨p, r, P, B, oK, nK, cK, oL, nL, cL, ks, ls, h⟩ := h
  obtain ⟨kd, i, y, ap, np, cp, ak, nk, ck, now⟩ := o
  obtain ⟨hnp, hnk, hi, hy, sp, sk, zp, zk, lp, lk⟩ := ho
  simp only at hnp hnk hi hy sp sk zp zk lp lk ⊢
  have same : ∀ {A : Prop} {w' : World}, A ∧ Hid (Sx w0 X s N w') → A ∧ Hid (∃ s' N', N' ≤ N + np ∧ Sx w0 X s' N' w') := fun h => ⟨h.1, s, N, by omega, h.2.out⟩
  by_cases k1 : kd = 1
  · subst k1
    cases hok : okPut i ps keys now with
    | true =>
      refine (plays_put h (by omega) i y ap np cp ak nk ck now ps keys hnp hnk hi sp sk zp zk hok).mono fun e w' h => ⟨h.1, _, _, ?_, h.2.out⟩
      have : (miss s i ps).length ≤ ps.length := List.length_filter_le _ _
      omega
    | false => exact (plays_putb h (by omega) i y ap np cp ak nk ck now ps keys hnp hnk hi sp sk zp zk lp lk hok).mono fun e w' h => same h
  by_cases k2 : kd = 2
  · subst k2
    cases hok : (decide (65536 ≤ i) && tickB now) with
    | true => exact (plays_com h hN i y ap np cp ak nk ck now hi hok).mono fun e w' h => ⟨h.1, _, _, by omega, h.2.out⟩
    | false => exact (plays_comb h (by omega) i y ap np cp ak nk ck now hi hok).mono fun e w' h => same h
  by_cases k3 : kd = 3
  · subst k3
    cases hv : s.V (y, i) with
    | none => exact (plays_drop0 h (by omega) i y ap np cp ak nk ck now hi hy hv).mono fun e w' h => same h
    | some v =>
      by_cases hs : v.stamp = -1
      · exact (plays_drop1 h (by omega) i y ap np cp ak nk ck now hi hy v hv hs).mono fun e w' h => same h
      · exact (plays_drop2 h (by omega) i y ap np cp ak nk ck now hi hy v hv hs).mono fun e w' h => ⟨h.1, _, _, by omega, h.2.out⟩
  by_cases k4 : kd = 4
  · subst k4
    cases hv : s.V (y, i) with
    | none => exact (plays_by0 h (by omega) i y ap np cp ak nk ck now hi hy ⟨by show y.size ≤ maxLen; unfold maxLen; omega, hi⟩ hv).mono fun e w' h => same h
    | some v => exact (plays_by1 h (by omega) i y ap np cp ak nk ck now hi hy v hv).mono fun e w' h => same h
  by_cases k5 : kd = 5
  · subst k5
    cases hv : s.V (y, s.last y) with
    | none => exact (plays_lat0 h (by omega) i y ap np cp ak nk ck now hi hy hv).mono fun e w' h => same h
    | some v => exact (plays_lat1 h (by omega) i y ap np cp ak nk ck now hi hy v hv).mono fun e w' h => same h
  by_cases k6 : kd = 6
  · subst k6
    exact (plays_has h (by omega) i y ap np cp ak nk ck now hi).mono fun e w' h => same h
  by_cases k8 : kd = 8
  · subst k8
    exact (plays_load h (by omega) i y ap np cp ak nk ck now).mono fun e w' h => same h
  exact (plays_else h (by omega) i y ap np cp ak nk ck now kd ⟨k1, k2, k3, k4, k5, k6, k8⟩).mono fun e w' h => same h
/-- pairs, all in all -/
def tot : List OV → Nat
  | [] => 0
  | o :: r => o.np + tot r
theorem tot_app : ∀ (a b : List OV), tot (a ++ b) = tot a + tot b
  | [], b => by simp [tot]
  | o :: a, b => by have := tot_app a b; simp only [List.cons_append, tot]; omega
theorem tot_take (l : List OV) (t : Nat) (ht : t < l.length) : tot (l.take (t + 1)) = tot (l.take t) + (l.getD t ov0).np := by
  rw [List.take_succ_eq_append_getElem ht, tot_app, show l.getD t ov0 = l[t] by simp [List.getD_eq_getElem?_getD, ht]]
  simp [tot]
theorem tot_le (l : List OV) (t : Nat) : tot (l.take t) ≤ tot l := by
  have h : tot l = tot (l.take t) + tot (l.drop t) := by rw [← tot_app, List.take_append_drop]
  omega
end Go.Proofs.YtkoaiibjahlnmabGreat
/- StorePlays: the script. -/
namespace Go.Proofs.YtkoaiibjahlnmabGreat
open Go.RowKit Go.Maps Go.Sort Orl
set_option linter.unusedVariables false
set_option linter.unusedSimpArgs false

theorem Rl.new : Rl St.new [] [] := ⟨fun x hx => (by cases hx), fun m hm => absurd rfl hm, List.Pairwise.nil, ⟨List.Pairwise.nil, fun k i => ⟨fun h => (by cases h), fun h => absurd h.1.symm h.2⟩⟩⟩
theorem OkOp.keepsN {W W' : World} {o : OV} {ps : List Pr} {keys : List Tx} (h : OkOp W o ps keys) (hk : Keeps no W W') : OkOp W' o ps keys := ⟨h.np, h.nk, h.i, h.y, h.sp.keepsN hk, h.sk.keepsN hk, h.zp, h.zk, h.lp, h.lk⟩
theorem Sx.keep {w0 : World} {X : Nat} {s : St} {N : Nat} {w : World} (h : Sx w0 X s N w) : Keeps no w0 w := by
  obtain ⟨_, _, _, _, _, _, _, _, _, _, _, _, h⟩ := h
  exact h.ow.keep
theorem sx_new {w1 w2 w3 : World} {p r : Nat} (h2 : Ow w1 w2 p St.new 0 no) (h3 : RO (fun b => w2.heap.size ≤ b) w3 r none 0 0 none 0 0 [] []) (hk : Keeps no w2 w3) : Sx w1 w3.heap.size St.new 0 (w3.alloc (.cells #[.pointer (some ⟨p, 0, none⟩), .pointer (some ⟨r, 0, none⟩)] 30)) := by
  have hk2 : Keeps no w3 (w3.alloc (.cells #[.pointer (some ⟨p, 0, none⟩), .pointer (some ⟨r, 0, none⟩)] 30)) := (Keeps.refl no w3).alloc _
  have hs : (w3.alloc (.cells #[.pointer (some ⟨p, 0, none⟩), .pointer (some ⟨r, 0, none⟩)] 30)).heap.size = w3.heap.size + 1 := by simp
  have h4 := hk.size
  exact ⟨p, r, _, _, none, 0, 0, none, 0, 0, [], [], h2.grow (hk.trans hk2), h3.inb.keepsN hk2, fun b hb => .inr ⟨hb.1, by have := hb.2; omega⟩, .inr ⟨h4, by omega⟩, fun hb => by have := hb.2; omega, blk_new w3 _, Rl.new, by simp⟩
set_option maxRecDepth 10000 in
set_option maxHeartbeats 4000000 in
theorem storePlays_any (w : World) (a : Option Addr) (n c : Nat) (l : List OV) (hn : n = l.length) (hs : Sl OE w a c l) (hok : ∀ v ∈ l, ∃ ps keys, OkOp w v ps keys) (hl : l.length ≤ 1048576) (ht : tot l ≤ 400000000) :
    Calls Tryz.prog 3 #[.slice a n c] w fun e w' => e = .returned (.bool true) ∧ Keeps no w w' := by
  have HS : Hid (Sl OE w a c l ∧ n = l.length ∧ (∀ v ∈ l, ∃ ps keys, OkOp w v ps keys) ∧ tot l ≤ 400000000) := ⟨hs, hn, hok, ht⟩
  have hlb : (n : Int) ≤ 1048576 := by omega
  clear hs hn hok ht hl
  go_enter Tryz.func3, Tryz.ntmps3
  go_wp2_with fail
  refine (known_any w).mono ?_
  rintro e w1 ⟨rfl, hk1⟩
  have HK1 : Hid (Keeps no w w1) := hk1
  clear hk1
  go_wp2_with fail
  refine (ow_new w1).mono ?_
  rintro e w2 ⟨p, rfl, H2⟩
  go_wp2_with fail
  refine (rNew_any w2).mono ?_
  rintro e w3 ⟨r, rfl, H3⟩
  have HX : Hid (Sx w1 w3.heap.size St.new 0 (w3.alloc (.cells #[.pointer (some ⟨p, 0, none⟩), .pointer (some ⟨r, 0, none⟩)] 30))) := sx_new H2.out H3.out.1 H3.out.2
  clear H2 H3
  go_wp2_with fail
  obtain ⟨X, hX⟩ : ∃ X, X = w3.heap.size := ⟨_, rfl⟩
  rw [← hX] at HX ⊢
  clear hX
  go_loopw [4] (fun i wr => ∃ t : Nat, t ≤ n ∧ i = .int .i64 t ∧ Hid (∃ s N, N ≤ tot (l.take t) ∧ Sx w1 X s N wr)) (fun i _ => n - (intOf i).toNat)
  case atStart => exact ⟨0, by omega, rfl, _, _, by omega, HX.out⟩
  case round =>
    rename World => wr
    obtain ⟨t, ht, rfl, HT⟩ := hrel
    clear HX
    by_cases htl : t < n
    · have htl' : (t : Int) < n := by omega
      have hta : t < l.length := by have := HS.out.2.1; omega
      obtain ⟨s, N, hN, hSx⟩ := HT.out
      obtain ⟨b, off, hab, hc⟩ := (HS.out.1.keepsN (HK1.out.trans hSx.keep)).atO hta
      obtain ⟨ps, keys, hro⟩ := HS.out.2.2.1 (l.getD t ov0) (getD_mem_lt ov0 hta)
      have hNb : N ≤ 400000000 := by have := tot_le l t; have := HS.out.2.2.2; omega
      have hP := plays_any hSx hNb (l.getD t ov0) ps keys (hro.keepsN HK1.out)
      have HN : Hid (N + (l.getD t ov0).np ≤ tot (l.take (t + 1))) := by rw [tot_take l t hta]; exact Nat.add_le_add_right hN _
      clear hro hNb hSx hN HT
      generalize l.getD t ov0 = v at hc HN hP
      subst hab
      have d0 := hc 0 _ rfl (by decide)
      have d1 := hc 1 _ rfl (by decide)
      have d2 := hc 2 _ rfl (by decide)
      have d3 := hc 3 _ rfl (by decide)
      have d4 := hc 4 _ rfl (by decide)
      have d5 := hc 5 _ rfl (by decide)
      clear hc
      obtain ⟨kd, i, y, ap, np, cp, ak, nk, ck, now⟩ := v
      simp only [Nat.add_zero] at d0 d1 d2 d3 d4 d5 hP HN
      go_wp2_with fail
      refine hP.mono ?_
      rintro e w5 ⟨rfl, h5⟩
      clear d0 d1 d2 d3 d4 d5 hP
      go_wp2_with fail
      go_roundw
      case rel =>
        refine ⟨t + 1, by omega, by go_num, ?_⟩
        obtain ⟨s', N', hN', hs'⟩ := h5.out
        exact ⟨s', N', Nat.le_trans hN' HN.out, hs'⟩
      case measure => simp [intOf]; omega
    · have htl' : ¬ (t : Int) < n := by omega
      obtain ⟨s, N, hN, hSx⟩ := HT.out
      have HR : Hid (Keeps no w wr) := HK1.out.trans hSx.keep
      have hNb : N ≤ 400000000 := by have := tot_le l t; have := HS.out.2.2.2; omega
      obtain ⟨_, _, _, _, _, _, _, _, _, _, _, _, hSd⟩ := hSx
      have hA := all_any hSd (by omega)
      clear hSd hN hNb HT
      go_wp2_with fail
      refine hA.mono ?_
      rintro e w5 ⟨rfl, h5⟩
      have HF : Hid (Keeps no w w5) := HR.out.trans h5
      clear h5 hA
      go_wp2_with fail
      go_ret
      exact ⟨rfl, HF.out⟩
end Go.Proofs.YtkoaiibjahlnmabGreat
