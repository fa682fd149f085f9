import Derived.Test.YtkoaiibjahlnmaaKn
import Derived.Test.YtkoaiibjahlnmaaLR
/- StoreGreatest. -/
namespace Go.Proofs.Ytkoaiibjahlnmaa
open Go.RowKit Go.Maps Go.Sort Orl
set_option linter.unusedVariables false
set_option linter.unusedSimpArgs false

/-- the lasts of the three keys -/
def arr (s : St) : Array Value := #[.int .u64 ((s.last (ky 0) : Nat) : Int), .int .u64 ((s.last (ky 1) : Nat) : Int), .int .u64 ((s.last (ky 2) : Nat) : Int)]
structure GI (w : World) (p G : Nat) (k : Nat) (wr : World) (s : St) (N : Nat) : Prop where
  le : N ≤ 3 * k
  ow : Ow w wr p s N (fun b => b = G)
  ar : wr.heap[G]? = some (.cells (arr s) 28 (0, 0))
theorem arr_put (s : St) (i : Nat) (keys : List Tx) (now : Int) (ps : List Pr) : arr (putAll i keys now s ps) = arr s := by unfold arr; rw [putAll_last]
theorem arr_at (s : St) {j : Nat} (hj : j < 3) : (arr s)[j]? = some (.int .u64 ((s.last (ky j) : Nat) : Int)) := by
  have : j = 0 ∨ j = 1 ∨ j = 2 := by omega
  rcases this with rfl | rfl | rfl <;> rfl
theorem miss_len (s : St) (i : Nat) (mk : Int) (v : Tx) : (miss s i (pk mk v)).length ≤ 3 := by
  refine Nat.le_trans (List.length_filter_le _ _) ?_
  rw [pk_len]
  exact (setM_len mk).2
/-- a key's last, if the write is there -/
def lastM (s : St) (i t : Nat) : Nat := if (s.V (ky t, i)).isSome then max (s.last (ky t)) i else s.last (ky t)
def lastJ (s : St) (i j t : Nat) : Nat := if t < j then lastM s i t else s.last (ky t)
def arrM (s : St) (i j : Nat) : Array Value := #[.int .u64 ((lastJ s i j 0 : Nat) : Int), .int .u64 ((lastJ s i j 1 : Nat) : Int), .int .u64 ((lastJ s i j 2 : Nat) : Int)]
theorem arrM_zero (s : St) (i : Nat) : arrM s i 0 = arr s := by simp [arrM, arr, lastJ]
theorem lastM_commit (s : St) (i t : Nat) (now : Int) : lastM s i t = (commitS s i now).last (ky t) := by
  rw [com_last]
  unfold lastM
  cases hv : s.V (ky t, i) with
  | none =>
    have : ¬ upB s i (ky t) = true := fun h => (upB_iff.1 h).1 hv
    simp [this]
  | some v =>
    by_cases hl : s.last (ky t) < i
    · have : upB s i (ky t) = true := upB_iff.2 ⟨by rw [hv]; simp, hl⟩
      simp [this]; omega
    · have : ¬ upB s i (ky t) = true := fun h => hl (upB_iff.1 h).2
      simp [this]; omega
theorem arrM_three (s : St) (i : Nat) (now : Int) : arrM s i 3 = arr (commitS s i now) := by
  simp [arrM, arr, lastJ, lastM_commit s i _ now]
theorem arrM_at (s : St) (i : Nat) {j : Nat} (hj : j < 3) : (arrM s i j)[j]? = some (.int .u64 ((s.last (ky j) : Nat) : Int)) := by
  have : j = 0 ∨ j = 1 ∨ j = 2 := by omega
  rcases this with rfl | rfl | rfl <;> simp [arrM, lastJ]
theorem arrM_set (s : St) (i : Nat) {j : Nat} (hj : j < 3) : (arrM s i j).setIfInBounds j (.int .u64 ((lastM s i j : Nat) : Int)) = arrM s i (j + 1) := by
  have : j = 0 ∨ j = 1 ∨ j = 2 := by omega
  rcases this with rfl | rfl | rfl <;> simp [arrM, lastJ]
theorem arrM_skip (s : St) (i : Nat) {j : Nat} (hj : j < 3) (h : lastM s i j = s.last (ky j)) : arrM s i j = arrM s i (j + 1) := by
  have : j = 0 ∨ j = 1 ∨ j = 2 := by omega
  rcases this with rfl | rfl | rfl <;> simp [arrM, lastJ, h]
theorem GI.go {w : World} {p G k : Nat} {wr wr' : World} {s : St} {N : Nat} (h : GI w p G k wr s N) (hk : Keeps no wr wr') : GI w p G k wr' s N := ⟨h.le, h.ow.go hk, hk.at h.ar id⟩
theorem okKy (t i : Nat) (hi : i < 18446744073709551616) : KM.ok (ky t, i) := ⟨by show (ky t).size ≤ maxLen; rw [ky_size]; unfold maxLen; omega, hi⟩
theorem arr_drop (s : St) (m : Mk) : arr (dropR s m) = arr s := by
  unfold dropR
  split
  · rfl
  · split <;> rfl
theorem cells4r {w : World} {R : Nat} {a b c d : Value} {t : TypeId} (h : w.heap[R]? = some (.cells #[a, b, c, d] t (0, 0))) : w.cell? ⟨R, 0, none⟩ = some a ∧ w.cell? ⟨R, 1, none⟩ = some b ∧ w.cell? ⟨R, 2, none⟩ = some c ∧ w.cell? ⟨R, 3, none⟩ = some d :=
  ⟨cell_of_blk h 0, cell_of_blk h 1, cell_of_blk h 2, cell_of_blk h 3⟩
set_option maxRecDepth 10000 in
set_option maxHeartbeats 4000000 in
theorem greatest_any (w : World) (a : Option Addr) (n c : Nat) (xs : List RV) (hn : n = xs.length) (hl : xs.length ≤ 140737488355328) (hs : Sl RE w a c xs) (hr : ∀ r ∈ xs, OkR r) :
    Calls Try.prog 3 #[.slice a n c] w fun e w' => e = .returned (.bool true) ∧ Keeps no w w' := by
  have HA : Hid (n = xs.length) := hn
  have hA : (n : Int) ≤ 140737488355328 := by omega
  have HS : Hid (Sl RE w a c xs ∧ ∀ r ∈ xs, OkR r) := ⟨hs, hr⟩
  have hN := ow_new w
  clear hn hl hs hr
  go_enter Try.func3, Try.ntmps3
  go_wp2_with fail
  refine hN.mono ?_
  rintro e w1 ⟨p, rfl, H1⟩
  clear hN
  go_wp2_with fail
  refine (known_any w1).mono ?_
  rintro e w2 ⟨rfl, hk2⟩
  have H2 : Hid (Ow w w2 p St.new 0 no) := H1.out.go hk2
  clear hk2 H1
  obtain ⟨G, hG⟩ : ∃ G, G = w2.heap.size := ⟨_, rfl⟩
  have H3 : Hid (GI w p G 0 (w2.alloc (.cells #[.int .u64 0, .int .u64 0, .int .u64 0] 28)) St.new 0) :=
    ⟨by omega, (H2.out.grow ((Keeps.refl no w2).alloc _)).sub (fun b hb => .inr (by simp; omega)), by rw [hG]; exact blk_new w2 _⟩
  have HG : Hid (G = w2.heap.size) := hG
  clear H2 hG
  go_wp2_with fail
  rw [← HG.out]
  clear HG
  generalize w2.alloc (.cells #[.int .u64 0, .int .u64 0, .int .u64 0] 28) = w3 at H3 ⊢
  go_loopw [5] (fun i wr => ∃ k : Nat, k ≤ n ∧ k ≤ 200 ∧ i = .int .i64 k ∧ Hid (∃ s N, GI w p G k wr s N)) (fun i _ => n - (intOf i).toNat)
  case atStart => exact ⟨0, by omega, by omega, rfl, _, _, H3.out⟩
  case round =>
    obtain ⟨k, hk, hk2, rfl, HG⟩ := hrel
    by_cases hlt : k < n
    · by_cases hlt2 : k < 200
      · have h3 : (k : Int) < n := by omega
        have h4 : (k : Int) < 200 := by omega
        have hka : k < xs.length := by have := HA.out; omega
        obtain ⟨s, N, hg⟩ := HG.out
        have HGI : Hid (GI w p G k wr s N) := hg
        obtain ⟨b1, off1, rfl, d1, d2, d3, d4⟩ := (HS.out.1.keepsN hg.ow.keep).atR hka
        obtain ⟨r, hr⟩ : ∃ r, r = xs.getD k rv0 := ⟨_, rfl⟩
        rw [← hr] at d1 d2 d3 d4
        have HR : Hid (OkR r) := (show OkR r by rw [hr]; exact HS.out.2 _ (getD_mem_lt _ hka))
        obtain ⟨rk, rn, rm, rt⟩ := r
        simp only at d1 d2 d3 d4
        clear hka hr HG hg
        obtain ⟨R, hR⟩ : ∃ R, R = wr.heap.size := ⟨_, rfl⟩
        have HRR : Hid (R = wr.heap.size) := hR
        have H4 : Hid (Ow w (wr.alloc (.cells #[.int .i64 rk, .int .i64 rn, .int .i64 rm, .string rt] 30)) p s N (fun b => b = G ∨ b = R) ∧ (wr.alloc (.cells #[.int .i64 rk, .int .i64 rn, .int .i64 rm, .string rt] 30)).heap[G]? = some (.cells (arr s) 28 (0, 0)) ∧ (wr.alloc (.cells #[.int .i64 rk, .int .i64 rn, .int .i64 rm, .string rt] 30)).heap[R]? = some (.cells #[.int .i64 rk, .int .i64 rn, .int .i64 rm, .string rt] 30 (0, 0)) ∧ N ≤ 3 * k) :=
          ⟨(HGI.out.ow.grow ((Keeps.refl no wr).alloc _)).sub (fun b hb => hb.elim .inl (fun e => .inr (by simp; omega))), blk_alloc HGI.out.ar _, by rw [hR]; exact blk_new wr _, HGI.out.le⟩
        clear hR HGI
        go_wp2_with fail
        refine (id_any rn _ HR.out.wr).mono ?_
        rintro e w4 ⟨rfl, hw4⟩
        subst w4
        rw [← HRR.out]
        have hiw := idw_lt rn
        obtain ⟨i, hi⟩ : ∃ i, i = idw rn := ⟨_, rfl⟩
        rw [← hi] at hiw ⊢
        have HI : Hid (i = idw rn) := hi
        clear hi
        generalize wr.alloc (.cells #[.int .i64 rk, .int .i64 rn, .int .i64 rm, .string rt] 30) = w4 at H4 ⊢
        clear d1 d2 d3 d4 HRR
        have d1 : w4.cell? ⟨R, 0, none⟩ = some (.int .i64 rk) := cell_of_blk H4.out.2.2.1 0
        go_wp2_with fail
        refine (rest_any rk 3 _ HR.out.kd (by omega)).mono ?_
        rintro e w5 ⟨rfl, hw5⟩
        subst w5
        have hr3 := rst_le rk 3
        have hq4 : ((rst rk 3 : Nat) : Int) = 0 ∨ ((rst rk 3 : Nat) : Int) = 1 ∨ ((rst rk 3 : Nat) : Int) = 2 ∨ ((rst rk 3 : Nat) : Int) = 3 := by omega
        generalize ((rst rk 3 : Nat) : Int) = q at hq4 ⊢
        have HQ4 : Hid (q = 0 ∨ q = 1 ∨ q = 2 ∨ q = 3) := hq4
        clear d1 hr3 hq4
        go_upto_block 2 with fail
        go_cut [8, 9, 10, 11, 12, 13, 14, 15, 16, 17, 18, 19, 20] from 50 to 151 (fun _ _ _ _ _ _ _ _ _ _ _ _ _ wc => ∃ (s' : St) (N' : Nat), Hid (GI w p G (k + 1) wc s' N'))
        case first =>
          by_cases hq01 : q = 0 ∨ q = 1
          · have HL := H4.out.1.lput rk rn rm rt (k : Int) HR.out.wr HR.out.ma (tick_iff.2 ⟨by omega, by omega⟩) (by have := H4.out.2.2.2; omega)
            rw [← HI.out] at HL
            have HLH : Hid (Calls Try.prog 9 #[.pointer (some ⟨p, 0, none⟩), .agg #[.int .i64 rk, .int .i64 rn, .int .i64 rm, .string rt], .int .i64 (k : Int)] w4 fun e w' => e = .returned (.tuple #[.bool (decide (0 < (miss s i (pk rm rt)).length)), .int .i64 0]) ∧ Hid (Ow w w' p (putAll i (setM rm) (k : Int) s (miss s i (pk rm rt))) (N + (miss s i (pk rm rt)).length) (fun b => b = G ∨ b = R) ∧ Keeps (fun b => ¬ (b = G ∨ b = R)) w4 w')) := HL
            clear HL
            have dr := cells4r H4.out.2.2.1
            obtain ⟨d1, d2, d3, d4⟩ := dr
            clear HQ4
            rcases hq01 with hq0 | hq0
            all_goals
              subst hq0
              go_wp2_with fail
              refine Calls.mono HLH.out ?_
              rintro e w6 ⟨rfl, h6⟩
              have H6 : Hid (GI w p G (k + 1) w6 (putAll i (setM rm) (k : Int) s (miss s i (pk rm rt))) (N + (miss s i (pk rm rt)).length)) :=
                ⟨by have := H4.out.2.2.2; have := miss_len s i rm rt; omega, h6.out.1.sub (fun b hb => .inl hb), by rw [arr_put]; exact h6.out.2.at H4.out.2.1 (fun hc => hc (.inl rfl))⟩
              clear h6 HLH d1 d2 d3 d4
              go_wp2_with fail
              go_meet
              exact ⟨_, _, H6⟩
          · by_cases hq2 : q = 2
            · clear hq01 HQ4
              subst hq2
              go_wp2_with fail
              go_loopw [10] (fun j wq => ∃ t : Nat, t ≤ 3 ∧ j = .int .i64 t ∧ Hid (Ow w wq p s N (fun b => b = G) ∧ wq.heap[G]? = some (.cells (arrM s i t) 28 (0, 0)) ∧ N ≤ 3 * k)) (fun j _ => 3 - (intOf j).toNat)
              case atStart => exact ⟨0, by omega, rfl, H4.out.1.sub (fun b hb => .inl hb), by rw [arrM_zero]; exact H4.out.2.1, H4.out.2.2.2⟩
              case round =>
                obtain ⟨t, ht, rfl, HT⟩ := hrel
                rename World => wq
                clear H4
                by_cases ht3 : t < 3
                · have ht3' : (t : Int) < 3 := by omega
                  go_wp2_with fail
                  refine (key_any t _ ht3).mono ?_
                  rintro e w5 ⟨rfl, hk5⟩
                  have H5 : Hid (Ow w w5 p s N (fun b => b = G) ∧ w5.heap[G]? = some (.cells (arrM s i t) 28 (0, 0)) ∧ N ≤ 3 * k) := ⟨HT.out.1.go hk5, hk5.at HT.out.2.1 id, HT.out.2.2⟩
                  clear hk5 HT
                  go_wp2_with fail
                  refine (H5.out.1.byID (ky t) i (okKy t i (by omega))).mono ?_
                  rintro e w6 ⟨xa, xb, xc, xo, xn, xd, rfl, hk6, hv6⟩
                  have hk6' : Keeps no w5 (w6.alloc (.cells #[.string xa, .int .u64 xb, .string xc, .slice xo xn xd] 38)) := hk6.out.alloc _
                  have H6 : Hid (Ow w (w6.alloc (.cells #[.string xa, .int .u64 xb, .string xc, .slice xo xn xd] 38)) p s N (fun b => b = G) ∧ (w6.alloc (.cells #[.string xa, .int .u64 xb, .string xc, .slice xo xn xd] 38)).heap[G]? = some (.cells (arrM s i t) 28 (0, 0)) ∧ N ≤ 3 * k) := ⟨H5.out.1.go hk6', hk6'.at H5.out.2.1 id, H5.out.2.2⟩
                  clear hk6 hk6' hv6 H5
                  unfold byE
                  cases hv : s.V (ky t, i) with
                  | none =>
                    have HV : Hid (lastM s i t = s.last (ky t)) := (show _ = _ by simp [lastM, hv])
                    clear hv
                    go_wp2_with fail
                    go_roundw
                    case rel => exact ⟨t + 1, by omega, by go_num, H6.out.1, by rw [← arrM_skip s i ht3 HV.out]; exact H6.out.2.1, H6.out.2.2⟩
                    case measure => simp [intOf]; omega
                  | some v =>
                    have HV : Hid (lastM s i t = max (s.last (ky t)) i) := (show _ = _ by simp [lastM, hv])
                    have hc := cell_of_blk H6.out.2.1 t
                    rw [arrM_at s i ht3] at hc
                    have hf := frozen_of_blk H6.out.2.1 t
                    clear hv
                    obtain ⟨la, hla⟩ : ∃ la, la = s.last (ky t) := ⟨_, rfl⟩
                    rw [← hla] at hc
                    have HLA : Hid (la = s.last (ky t)) := hla
                    clear hla
                    go_wp2_with fail
                    go_roundw
                    case rel =>
                      have em : max (la : Int) (i : Int) = ((lastM s i t : Nat) : Int) := by rw [HV.out, ← HLA.out]; omega
                      rw [em]
                      refine ⟨t + 1, by omega, by go_num, H6.out.1.other (keeps_setB _ G t _), ?_, H6.out.2.2⟩
                      refine (blk_set H6.out.2.1 t _).trans ?_
                      rw [← arrM_set s i ht3]
                    case measure => simp [intOf]; omega
                · have ht3' : ¬ (t : Int) < 3 := by omega
                  have e3 : t = 3 := by omega
                  subst e3
                  go_wp2_with fail
                  refine (HT.out.1.commit i (k : Int) (by omega) hiw.1 (tick_iff.2 ⟨by omega, by omega⟩) (by have := HT.out.2.2; omega)).mono ?_
                  rintro e w5 ⟨nn, rfl, hc5, h5⟩
                  have H5 : Hid (GI w p G (k + 1) w5 (commitS s i (k : Int)) N) := ⟨by have := HT.out.2.2; omega, h5.out.1, by rw [← arrM_three]; exact h5.out.2.at HT.out.2.1 (fun hc => hc rfl)⟩
                  clear hc5 h5 HT
                  go_wp2_with fail
                  go_meet
                  exact ⟨_, _, H5⟩
            · have hq3 : q = 3 := by have := HQ4.out; omega
              clear hq01 HQ4 hq2
              subst hq3
              obtain ⟨d1, d2, d3, d4⟩ := cells4r H4.out.2.2.1
              go_wp2_with fail
              refine (rest_any rm 2 _ HR.out.ma (by omega)).mono ?_
              rintro e w5 ⟨rfl, hw5⟩
              subst w5
              have ht2 := rst_le rm 2
              obtain ⟨t, ht⟩ : ∃ t, t = rst rm 2 := ⟨_, rfl⟩
              rw [← ht] at ht2 ⊢
              have ht3 : t < 3 := by omega
              have ht3' : (t : Int) < 3 := by omega
              have ht3'' : decide ((t : Int) < 3) = true := by simpa using ht3'
              have H5 : Hid (Ow w w4 p s N (fun b => b = G) ∧ w4.heap[G]? = some (.cells (arr s) 28 (0, 0)) ∧ N ≤ 3 * k) := ⟨H4.out.1.sub (fun b hb => .inl hb), H4.out.2.1, H4.out.2.2.2⟩
              clear ht ht2 d1 d2 d3 d4 H4
              go_wp2_with fail
              refine (key_any t _ ht3).mono ?_
              rintro e w5 ⟨rfl, hk5⟩
              have H6 : Hid (Ow w w5 p s N (fun b => b = G) ∧ w5.heap[G]? = some (.cells (arr s) 28 (0, 0)) ∧ N ≤ 3 * k) := ⟨H5.out.1.go hk5, hk5.at H5.out.2.1 id, H5.out.2.2⟩
              clear hk5 H5
              go_wp2_with fail
              refine (H6.out.1.byID (ky t) i (okKy t i (by omega))).mono ?_
              rintro e w6 ⟨xa, xb, xc, xo, xn, xd, rfl, hk6, hv6⟩
              have hk6' : Keeps no w5 (w6.alloc (.cells #[.string xa, .int .u64 xb, .string xc, .slice xo xn xd] 38)) := hk6.out.alloc _
              have H7 : Hid (Ow w (w6.alloc (.cells #[.string xa, .int .u64 xb, .string xc, .slice xo xn xd] 38)) p s N (fun b => b = G) ∧ (w6.alloc (.cells #[.string xa, .int .u64 xb, .string xc, .slice xo xn xd] 38)).heap[G]? = some (.cells (arr s) 28 (0, 0)) ∧ N ≤ 3 * k) := ⟨H6.out.1.go hk6', hk6'.at H6.out.2.1 id, H6.out.2.2⟩
              clear hk6 hk6' hv6 H6
              go_wp2_with fail
              refine (key_any t _ ht3).mono ?_
              rintro e w7 ⟨rfl, hk7⟩
              have H8 : Hid (Ow w w7 p s N (fun b => b = G) ∧ w7.heap[G]? = some (.cells (arr s) 28 (0, 0)) ∧ N ≤ 3 * k) := ⟨H7.out.1.go hk7, hk7.at H7.out.2.1 id, H7.out.2.2⟩
              clear hk7 H7
              go_wp2_with fail
              refine (H8.out.1.drop (ky t) i (okKy t i (by omega))).mono ?_
              rintro e w8 ⟨rfl, h8⟩
              have H9 : Hid (Ow w w8 p (dropR s (ky t, i)) N (fun b => b = G) ∧ w8.heap[G]? = some (.cells (arr s) 28 (0, 0)) ∧ N ≤ 3 * k) := ⟨h8.out.1, h8.out.2.at H8.out.2.1 (fun hc => hc rfl), H8.out.2.2⟩
              have HOK : Hid (Ok s) := H8.out.1.ok
              clear h8 H8
              go_wp2_with fail
              refine (key_any t _ ht3).mono ?_
              rintro e w9 ⟨rfl, hk9⟩
              have H10 : Hid (Ow w w9 p (dropR s (ky t, i)) N (fun b => b = G) ∧ w9.heap[G]? = some (.cells (arr s) 28 (0, 0)) ∧ N ≤ 3 * k) := ⟨H9.out.1.go hk9, hk9.at H9.out.2.1 id, H9.out.2.2⟩
              clear hk9 H9
              go_wp2_with fail
              refine (H10.out.1.byID (ky t) i (okKy t i (by omega))).mono ?_
              rintro e w10 ⟨ya, yb, yc, yo, yn, yd, rfl, hk10, hv10⟩
              have hk10' : Keeps no w9 (w10.alloc (.cells #[.string ya, .int .u64 yb, .string yc, .slice yo yn yd] 38)) := hk10.out.alloc _
              have H11 : Hid (GI w p G (k + 1) (w10.alloc (.cells #[.string ya, .int .u64 yb, .string yc, .slice yo yn yd] 38)) (dropR s (ky t, i)) N) := ⟨by have := H10.out.2.2; omega, H10.out.1.go hk10', by rw [arr_drop]; exact hk10'.at H10.out.2.1 id⟩
              have hc := cell_of_blk (hk10'.at H10.out.2.1 id) t
              rw [arr_at s ht3] at hc
              clear hk10 hv10 H10 hk10'
              have hE : (byE s (ky t, i) = 110 ∧ dropE s (ky t, i) = 110 ∧ byE (dropR s (ky t, i)) (ky t, i) = 110) ∨ (byE s (ky t, i) = 0 ∧ dropE s (ky t, i) = 1 ∧ byE (dropR s (ky t, i)) (ky t, i) = 0 ∧ ¬ i < s.last (ky t)) ∨ (byE s (ky t, i) = 0 ∧ dropE s (ky t, i) = 0 ∧ byE (dropR s (ky t, i)) (ky t, i) = 110 ∧ i < s.last (ky t)) := by
                unfold dropE dropR byE
                cases hv : s.V (ky t, i) with
                | none => left; simp [hv]
                | some v =>
                  have ho := HOK.out.old hv
                  by_cases hst : v.stamp = -1
                  · right; left
                    simp only [hst, if_true]
                    refine ⟨by simp, by simp, by simp [hv], fun hc => ?_⟩
                    exact absurd hst (ho.2 hc)
                  · right; right
                    simp only [hst, if_false]
                    exact ⟨by simp, by simp, by simp [dropS], ho.1 hst⟩
              obtain ⟨E1, hE1⟩ : ∃ E1, E1 = byE s (ky t, i) := ⟨_, rfl⟩
              obtain ⟨E2, hE2⟩ : ∃ E2, E2 = dropE s (ky t, i) := ⟨_, rfl⟩
              obtain ⟨E3, hE3⟩ : ∃ E3, E3 = byE (dropR s (ky t, i)) (ky t, i) := ⟨_, rfl⟩
              obtain ⟨la, hla⟩ : ∃ la, la = s.last (ky t) := ⟨_, rfl⟩
              rw [← hE1, ← hE2, ← hE3, ← hla] at hE
              rw [← hE1, ← hE2, ← hE3]
              rw [← hla] at hc
              clear hE1 hE2 hE3 hla
              rcases hE with ⟨rfl, rfl, rfl⟩ | ⟨rfl, rfl, rfl, hil⟩ | ⟨rfl, rfl, rfl, hil⟩
              · go_wp2_with fail
                go_meet
                exact ⟨_, _, H11⟩
              · have hil' : ¬ (i : Int) < la := by omega
                have hil'' : decide ((i : Int) < la) = false := by simpa using hil'
                go_wp2_with fail
                go_meet
                exact ⟨_, _, H11⟩
              · have hil' : (i : Int) < la := by omega
                have hil'' : decide ((i : Int) < la) = true := by simpa using hil'
                go_wp2_with fail
                go_meet
                exact ⟨_, _, H11⟩
        case rest =>
        obtain ⟨s', N', H7⟩ := hcut
        rename World => w7
        go_wp2_with fail
        go_loopw [21] (fun j wq => ∃ t : Nat, t ≤ 3 ∧ j = .int .i64 t ∧ Hid (GI w p G (k + 1) wq s' N')) (fun j _ => 3 - (intOf j).toNat)
        case atStart => exact ⟨0, by omega, rfl, H7⟩
        case round =>
          obtain ⟨t, ht, rfl, HT⟩ := hrel
          rename World => wq
          clear H7 H4
          by_cases ht3 : t < 3
          · have ht3' : (t : Int) < 3 := by omega
            go_wp2_with fail
            refine (key_any t _ ht3).mono ?_
            rintro e w8 ⟨rfl, hk8⟩
            have H8 : Hid (GI w p G (k + 1) w8 s' N') := HT.out.go hk8
            clear hk8 HT
            go_wp2_with fail
            refine (H8.out.ow.latest (ky t) (by rw [ky_size]; omega)).mono ?_
            rintro e w9 ⟨xc, xo, xn, xd, rfl, hk9, hv9, hz9⟩
            obtain ⟨la, hla⟩ : ∃ la, la = s'.last (ky t) := ⟨_, rfl⟩
            rw [← hla]
            obtain ⟨w10, hw10⟩ : ∃ w10, w10 = w9.alloc (.cells #[.string (ky t), .int .u64 ((la : Nat) : Int), .string xc, .slice xo xn xd] 38) := ⟨_, rfl⟩
            have hk10 : Keeps no w8 w10 := by rw [hw10]; exact hk9.out.alloc _
            have H9 : Hid (GI w p G (k + 1) w10 s' N') := H8.out.go hk10
            have hb10 : w10.heap[w9.heap.size]? = some (.cells #[.string (ky t), .int .u64 ((la : Nat) : Int), .string xc, .slice xo xn xd] 38 (0, 0)) := by rw [hw10]; exact blk_new w9 _
            have z0 := cell_regrown (cell_of_blk hb10 0)
            have z1 := cell_regrown (cell_of_blk hb10 1)
            have hc := cell_of_blk H9.out.ar t
            rw [arr_at s' ht3, ← hla] at hc
            have z2 := cell_regrown hc
            have c1 := call_grown (W := w10) (fun X hX => key_any t X ht3)
            have c2 := call_grown (W := w10) (f := 15) (args := #[.pointer (some ⟨p, 0, none⟩), .string (ky t)]) (v := .int .u64 ((la : Nat) : Int)) (fun X hX => ((H9.out.ow.go hX).last (ky t) (by rw [ky_size]; omega)).mono (fun e w' h => ⟨by rw [hla]; exact h.1, by rw [h.2]; exact Keeps.refl _ _⟩))
            have ht3'' : decide ((t : Int) < 3) = true := by simpa using ht3'
            have HLA : Hid (la = s'.last (ky t)) := hla
            clear hk9 hv9 hz9 H8 hk10 hla hb10 hc
            obtain ⟨bv, hbv⟩ : ∃ bv, bv = w9.heap.size := ⟨_, rfl⟩
            rw [← hbv] at z0 z1
            go_upto_region 40 with fail
            rw [← hw10, ← hbv]
            clear hw10 hbv
            generalize ky t = kt at c1 c2 z0 z1 HLA
            refine wp_region_quiet_below (by kernel_rfl) (by kernel_rfl) ?_
            repeat (go_big_quiet_step (first | (go_at_call 11; exact c1 _ _) | (go_at_call 15; exact c2 _ _)))
            refine wpQuiet_nil ?_
            intro _ hw'
            obtain ⟨⟨dq, osq⟩, rfl⟩ := hw'
            have H12 : Hid (GI w p G (k + 1) (Sort.grow (redrawn w10 dq) osq) s' N') := H9.out.go (keeps_grownQ ..)
            generalize Sort.grow (redrawn w10 dq) osq = w12 at H12 ⊢
            clear z0 z1 z2 c1 c2 H9
            go_wp2_with fail
            go_roundw
            case rel => exact ⟨t + 1, by omega, by go_num, H12⟩
            case measure => simp [intOf]; omega
          · have ht3' : ¬ (t : Int) < 3 := by omega
            go_wp2_with fail
            go_roundw
            case rel => exact ⟨k + 1, by omega, by omega, by go_num, _, _, HT.out⟩
            case measure => simp [intOf]; omega
      · have h3 : (k : Int) < n := by omega
        have h4 : ¬ (k : Int) < 200 := by omega
        go_wp2_with fail
        go_ret
        obtain ⟨s, N, hg⟩ := HG.out
        exact ⟨rfl, hg.ow.keep⟩
    · have h3 : ¬ (k : Int) < n := by omega
      go_wp2_with fail
      go_ret
      obtain ⟨s, N, hg⟩ := HG.out
      exact ⟨rfl, hg.ow.keep⟩
end Go.Proofs.Ytkoaiibjahlnmaa
