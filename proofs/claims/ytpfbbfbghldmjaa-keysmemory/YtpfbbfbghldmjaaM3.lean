import Derived.Test.YtpfbbfbghldmjaaM2
import Derived.BigRegion
namespace Go.Proofs.Ytpfbbfbghldmjaa
open Go.RowKit Go.Sort Orl
set_option linter.unusedVariables false
set_option linter.unusedSimpArgs false

theorem own_oneI (w : World) (x : Nat) : Sl IE (w.alloc (.cells #[.int .i64 (x : Nat)] 3)) (some ⟨w.heap.size, 0, none⟩) 1 [x] := by
  refine ⟨.inr ⟨w.heap.size, 0, rfl, fun j u hj => ?_⟩, by simp, by simp⟩
  rw [cell_of_blk (blk_new w _)]
  simpa [El.cells, IE] using hj
theorem cell_alloc {w : World} {p : Addr} {v : Value} (h : w.cell? p = some v) (o : Obj) : (w.alloc o).cell? p = some v := ((Keeps.refl no w).alloc o).cellN h
theorem frozen_alloc {w : World} {p : Addr} (h : w.frozen? p = false) (hb : p.block < w.heap.size) (o : Obj) : (w.alloc o).frozen? p = false := by
  rw [← h]; exact World.frozen?_of_block (Below.heap_alloc w o p.block hb)

theorem wrap_i64' (z : Int) (h0 : 0 ≤ z) (h : z ≤ 1200) : IntKind.i64.wrap z = z := by
  have : IntKind.i64.wrap z = if z % 18446744073709551616 ≥ 9223372036854775808 then z % 18446744073709551616 - 18446744073709551616 else z % 18446744073709551616 := by simp [IntKind.wrap, IntKind.bits, IntKind.signed]
  rw [this]
  split <;> omega
/-- how many lie behind list j -/
def behind (i q j : Nat) : Nat := if j < i then 64 else if j = i then q else 0
theorem Good.more {n m j : Nat} {xs : List Tx} (h : Good n m j xs) : Good n (m + 1) j (xs ++ [mk (Z2 j)]) := by
  obtain ⟨h1, h2, h3⟩ := h
  refine ⟨by rw [List.length_append, h1]; rfl, fun t ht => ?_, fun t ht1 ht2 => ?_⟩
  · rw [← h2 t ht]
    simp only [List.getD_eq_getElem?_getD]
    rw [List.getElem?_append_left (by omega)]
  · by_cases e : t < n + m
    · rw [← h3 t ht1 e]
      simp only [List.getD_eq_getElem?_getD]
      rw [List.getElem?_append_left (by omega)]
    · simp only [List.getD_eq_getElem?_getD]
      rw [List.getElem?_append_right (by omega), show t - xs.length = 0 by omega]
      rfl

theorem app_lay {B : Nat} {w : World} {N : Nat} {ba cA : Nat} {nsf : List Nat} {m : Nat} {on : Option Addr} {cn : Nat} {L : List SlT} {wr W w' : World} (h : ApSt B w N (some ⟨ba, 0, none⟩) cA nsf m on cn L wr) (i : Nat) (hi : i < N) {o : Option Addr} {c n : Nat} {xs : List Tx} (hL : L.getD i s0 = ⟨o, c, xs⟩) (hn : xs.length = n) {o' : Option Addr} {c' : Nat} {x : Tx} (ho : Own TE w' o' c' (xs ++ [x])) (hap : Ap W o o' w') (hk : Keeps no wr W) :
    w'.cell? ⟨ba, i, none⟩ = some (.slice o n c) ∧ w'.frozen? ⟨ba, i, none⟩ = false ∧ Hid (ApSt B w N (some ⟨ba, 0, none⟩) cA nsf m on cn (L.set i ⟨o', c', xs ++ [x]⟩) (w'.setCell ⟨ba, i, none⟩ (.slice o' (n + 1) c'))) := by
  obtain ⟨b, eb, s1, s2, s3⟩ := (h.keepsN hk).app i hi ho (by rw [hL]; exact hap)
  cases eb
  rw [hL] at s1
  simp only [hn] at s1
  have e : (xs ++ [x]).length = n + 1 := by rw [List.length_append, hn]; rfl
  rw [e] at s3
  exact ⟨s1, s2, s3⟩

set_option maxHeartbeats 8000000 in
set_option maxRecDepth 10000 in
theorem apart_any (B : Nat) (w : World) (oA : Option Addr) (N cA : Nat) (L0 : List SlT) (hN : N = L0.length) (hN2 : N ≤ 100) (hsz : ∀ j, j < N → (L0.getD j s0).xs.length ≤ 2000) (hL : Lots w oA cA L0) (hB : B ≤ w.heap.size) (bA : ∀ k, inO oA k → B ≤ k) (bL : ∀ j, j < N → ∀ k, inO (L0.getD j s0).o k → B ≤ k) :
    Calls Try.prog 24 #[.slice oA N cA] w fun e w' => e = .returned (.bool true) ∧ Keeps (fun k => B ≤ k) w w' := by
  obtain ⟨nsf, hnsf⟩ : ∃ nsf : List Nat, nsf = L0.map fun s => s.xs.length := ⟨_, rfl⟩
  have hget : ∀ j, j < N → nsf.getD j 0 = (L0.getD j s0).xs.length := by
    intro j hj
    rw [hnsf]
    simp [hN ▸ hj]
  have A0 : Hid (ApSt B w N oA cA nsf 0 none 0 L0 w) := ⟨hL, hN.symm, Keeps.refl _ _, hB, bA, bL, own_nil _, (fun k ⟨x, h, _⟩ => by cases h), by rw [hnsf, List.length_map]; exact hN.symm, fun j hj => by rw [hget j hj]; exact hsz j hj⟩
  have P0 : Hid (∀ j, j < N → (L0.getD j s0).xs.length = nsf.getD j 0) := fun j hj => (hget j hj).symm
  have hNI : (N : Int) ≤ 100 := by omega
  have HN : Hid (N ≤ 100) := hN2
  clear hnsf hget hL hN hN2 hsz bA bL hB
  go_enter Try.func24, Try.ntmps24
  go_wp2_with fail
  go_loopw [3, 4] (fun s3 i wr => ∃ (i' : Nat) (on : Option Addr) (mn cn : Nat) (L : List SlT), i' ≤ N ∧ i = .int .i64 i' ∧ s3 = .slice on mn cn ∧ Hid (mn = (nsf.take i').length ∧ ApSt B w N oA cA nsf i' on cn L wr ∧ (∀ j, j < N → (L.getD j s0).xs.length = nsf.getD j 0) ∧ (∀ j, j < i' → ∀ t, t < nsf.getD j 0 → (L.getD j s0).xs.getD t e0 = mk (Z1 j)))) (fun _ i _ => N - (intOf i).toNat)
  case atStart => exact ⟨0, none, 0, 0, L0, by omega, rfl, rfl, ⟨rfl, A0.out, P0.out, fun j hj => absurd hj (Nat.not_lt_zero _)⟩⟩
  case round =>
    obtain ⟨i, on, mn, cn, L, hi, rfl, rfl, HI⟩ := hrel
    rename World => wq
    by_cases h2 : i < N
    · obtain ⟨h1, hst, hlen, hmark⟩ := HI.out
      obtain ⟨ba, offa, eA, d1⟩ := hst.lots.own.sl.atX (j := i) (by rw [hst.len]; exact h2)
      subst eA
      have hlen_i := hlen i h2
      obtain ⟨si, hsi⟩ : ∃ si, L.getD i s0 = si := ⟨_, rfl⟩
      rw [hsi] at d1 hlen_i
      obtain ⟨o, c, xs⟩ := si
      obtain ⟨n, hn⟩ : ∃ n, xs.length = n := ⟨_, rfl⟩
      simp only at d1 hlen_i
      rw [hn] at d1 hlen_i
      have hn2 : (n : Int) ≤ 2000 := by have := hst.nle i h2; omega
      have HNI : Hid (n = nsf.getD i 0) := hlen_i
      have hT : nsf.take (i + 1) = nsf.take i ++ [n] := by rw [take_succ_getD nsf i 0 (by rw [hst.nlen]; exact h2), HNI.out]
      have HT : Hid (nsf.take (i + 1) = nsf.take i ++ [n]) := hT
      have HM1 : Hid (mn = (nsf.take i).length ∧ (nsf.take i).length ≤ 100) := ⟨h1, by rw [List.length_take]; have := HN.out; omega⟩
      have HST : Hid (ApSt B w N (some ⟨ba, offa, none⟩) cA nsf i on cn L wq) := hst
      have HLEN : Hid (∀ j, j < N → (L.getD j s0).xs.length = nsf.getD j 0) := hlen
      have HMK : Hid (∀ j, j < i → ∀ t, t < nsf.getD j 0 → (L.getD j s0).xs.getD t e0 = mk (Z1 j)) := hmark
      clear h1 hst hlen hmark HI hsi hn hlen_i hT
      go_wp2_with (at_builtin; refine wpList_app okI rfl _ _ rfl _ _ _ (nsf.take i) rfl HM1.out.1 (HST.out.ints.keepsN ((Keeps.refl _ _).alloc _)) _ _ _ [n] rfl rfl (own_oneI _ n).nil (own_oneI _ n).row (by have := HM1.out.2; simp [IE] at *; omega) (by have := HM1.out.2; simp at *; omega) ?_; intro o1 c1 w1 ho1 hap1)
      have HS1 : Hid (ApSt B w N (some ⟨ba, offa, none⟩) cA nsf (i + 1) o1 c1 L w1) := (HST.out.keepsN ((Keeps.refl _ _).alloc _)).int (by rw [HT.out]; exact ho1) hap1
      have HM2 : Hid (mn + 1 = (nsf.take (i + 1)).length) := show _ = _ by rw [HT.out, List.length_append, ← HM1.out.1]; rfl
      clear HST ho1 hap1 d1
      go_loopw [5] (fun s5 wr => ∃ (k : Nat) (L' : List SlT), k ≤ n ∧ s5 = .int .i64 k ∧ Hid (ApSt B w N (some ⟨ba, offa, none⟩) cA nsf (i + 1) o1 c1 L' wr ∧ (∀ j, j < N → (L'.getD j s0).xs.length = nsf.getD j 0) ∧ (∀ j, j < i → ∀ t, t < nsf.getD j 0 → (L'.getD j s0).xs.getD t e0 = mk (Z1 j)) ∧ ∀ t, t < k → (L'.getD i s0).xs.getD t e0 = mk (Z1 i))) (fun i _ => n - (intOf i).toNat)
      case atStart => exact ⟨0, L, by omega, rfl, ⟨HS1.out, HLEN.out, HMK.out, fun t ht => absurd ht (Nat.not_lt_zero _)⟩⟩
      case round =>
        obtain ⟨k, L', hk, rfl, HI⟩ := hrel
        clear HS1 HLEN HMK
        obtain ⟨hst, hlen, hmark, hmk⟩ := HI.out
        have hiI : i < (nsf.take (i + 1)).length := by rw [List.length_take, hst.nlen]; omega
        obtain ⟨bi, offi, eI, d3⟩ := hst.ints.sl.atI hiI
        subst eI
        have en : (nsf.take (i + 1)).getD i 0 = n := by rw [HT.out]; rw [HNI.out]; simp [List.getD_eq_getElem?_getD, List.getElem?_append_right, hst.nlen, Nat.min_eq_left (Nat.le_of_lt h2)]
        rw [en] at d3
        have him : (i : Int) < (mn : Int) + 1 := by have := HM2.out; omega
        have hiN : (i : Int) < N := by omega
        by_cases h3 : k < n
        · obtain ⟨g, eg, q2, q3, hg, hst2⟩ := hst.setT i k h2 (by rw [hlen i h2]; have := HNI.out; omega) (mk (Z1 i))
          obtain ⟨b2, off2, eA2, d1⟩ := hst.lots.own.sl.atX (j := i) (by rw [hst.len]; exact h2)
          cases eA2
          rw [eg, hlen i h2, ← HNI.out] at d1
          have hcv := conv1 ((wr.alloc (.cells #[.int .u8 (Z1 i)] 5)).drew) wr.heap.size (Z1 i) (blk_new wr _)
          have hz : IntKind.u8.wrap (i : Int) = Z1 i := rfl
          have hkI : (k : Int) < n := by omega
          have r2 := cell_alloc q2 (.cells #[.int .u8 (Z1 i)] 5)
          have r3 := frozen_alloc q3 hg (.cells #[.int .u8 (Z1 i)] 5)
          have r1 := cell_alloc d1 (.cells #[.int .u8 (Z1 i)] 5)
          have H2 : Hid (ApSt B w N (some ⟨ba, offa, none⟩) cA nsf (i + 1) (some ⟨bi, offi, none⟩) c1 (L'.set i ⟨(L'.getD i s0).o, (L'.getD i s0).c, (L'.getD i s0).xs.set k (mk (Z1 i))⟩) (wr.setCell ⟨g, k, none⟩ (.string (mk (Z1 i))))) := hst2
          have HH : Hid (L'.length = N ∧ (∀ j, j < N → (L'.getD j s0).xs.length = nsf.getD j 0) ∧ (∀ j, j < i → ∀ t, t < nsf.getD j 0 → (L'.getD j s0).xs.getD t e0 = mk (Z1 j)) ∧ ∀ t, t < k → (L'.getD i s0).xs.getD t e0 = mk (Z1 i)) := ⟨hst.len, hlen, hmark, hmk⟩
          clear hst hst2 hlen hmark hmk HI
          go_wp2_with fail
          go_region_with (fail)
          all_goals
            (go_wp2_with fail
             go_roundw
             case rel =>
               obtain ⟨g1, g2, g3, g4⟩ := HH.out
               refine ⟨k + 1, _, by omega, by go_num, ⟨H2.out.keepsN ((Keeps.refl _ _).alloc _).drew, fun j hj => ?_, fun j hj t ht => ?_, fun t ht => ?_⟩⟩
               · rw [getD_set L' i j _ s0 (by omega)]
                 by_cases e : j = i
                 · rw [if_pos e, List.length_set, ← e]; exact g2 j hj
                 · rw [if_neg e]; exact g2 j hj
               · rw [getD_set L' i j _ s0 (by omega), if_neg (by omega)]; exact g3 j hj t ht
               · rw [getD_set L' i i _ s0 (by omega), if_pos rfl]
                 show ((L'.getD i s0).xs.set k (mk (Z1 i))).getD t e0 = _
                 rw [getD_set _ k t _ e0 (by rw [g2 i h2]; have := HNI.out; omega)]
                 by_cases e : t = k
                 · rw [if_pos e]
                 · rw [if_neg e]; exact g4 t (by omega)
             case measure => simp [intOf] <;> omega)
        · have HH : Hid _ := HI.out
          clear hst hlen hmark hmk HI
          go_wp2_with fail
          go_roundw
          case rel =>
            obtain ⟨g1, g2, g3, g4⟩ := HH.out
            refine ⟨i + 1, _, mn + 1, c1, L', by omega, by go_num, rfl, ⟨HM2.out, g1, g2, fun j hj t ht => ?_⟩⟩
            by_cases e : j = i
            · subst e; exact g4 t (by have := HNI.out; omega)
            · exact g3 j (by omega) t ht
          case measure => simp [intOf] <;> omega
    · obtain ⟨h1, hst, hlen, hmark⟩ := HI.out
      obtain rfl : i = N := by omega
      have hfull : nsf.take i = nsf := List.take_of_length_le (by rw [hst.nlen]; exact Nat.le_refl _)
      have HG : Hid (ApSt B w i oA cA nsf i on cn L wq ∧ ∀ j, j < i → Good (nsf.getD j 0) 0 j (L.getD j s0).xs) := ⟨hst, fun j hj => ⟨hlen j hj, hmark j hj, fun t h1 h2 => by omega⟩⟩
      have HMN : Hid (mn = i) := show _ = _ by rw [h1, hfull, hst.nlen]
      clear h1 hst hlen hmark HI hfull h2 hi A0 P0
      go_wp2_with fail
      go_loopw [6] (fun s6 wr => ∃ (p : Nat) (L : List SlT), p ≤ i ∧ s6 = .int .i64 p ∧ Hid (ApSt B w i oA cA nsf i on cn L wr ∧ ∀ j, j < i → Good (nsf.getD j 0) (behind p 0 j) j (L.getD j s0).xs)) (fun s6 _ => i - (intOf s6).toNat)
      case atStart => exact ⟨0, L, by omega, rfl, ⟨HG.out.1, fun j hj => by have := HG.out.2 j hj; unfold behind; rw [if_neg (by omega)]; split <;> exact this⟩⟩
      case round =>
        clear HG
        obtain ⟨p, L, hp, rfl, HI⟩ := hrel
        rename World => wz
        by_cases h2 : p < i
        · go_wp2_with fail
          go_loopw [7] (fun s7 wr => ∃ (q : Nat) (L : List SlT), q ≤ 64 ∧ s7 = .int .i64 q ∧ Hid (ApSt B w i oA cA nsf i on cn L wr ∧ ∀ j, j < i → Good (nsf.getD j 0) (behind p q j) j (L.getD j s0).xs)) (fun s7 _ => 64 - (intOf s7).toNat)
          case atStart => exact ⟨0, L, by omega, rfl, HI⟩
          case round =>
            clear HI
            obtain ⟨q, L, hq, rfl, HI⟩ := hrel
            by_cases h3 : q < 64
            · obtain ⟨hst, hgood⟩ := HI.out
              obtain ⟨ba, eA⟩ : ∃ ba, oA = some ⟨ba, 0, none⟩ := by
                rcases hst.lots.own.shape with ⟨_, _, e⟩ | ⟨g, cur, e, _⟩
                · have := hst.len; rw [e] at this; simp at this; omega
                · exact ⟨g, e⟩
              subst eA
              obtain ⟨b2, off2, eA2, d1⟩ := hst.lots.own.sl.atX (j := p) (by rw [hst.len]; exact h2)
              cases eA2
              rw [Nat.zero_add] at d1
              have hgp := hgood p h2
              have hlp := hgp.1
              rw [show behind p q p = q by simp [behind]] at hlp
              obtain ⟨si, hsi⟩ : ∃ si, L.getD p s0 = si := ⟨_, rfl⟩
              rw [hsi] at d1 hlp
              have hown := hst.lots.each p (by rw [hst.len]; exact h2)
              rw [hsi] at hown
              obtain ⟨o, c, xs⟩ := si
              simp only at d1 hlp hown
              obtain ⟨n, hn⟩ : ∃ n, xs.length = n := ⟨_, rfl⟩
              rw [hn] at d1
              have hnle : n ≤ 2064 := by have := hst.nle p h2; omega
              have HS : Hid (ApSt B w i (some ⟨ba, 0, none⟩) cA nsf i on cn L wr ∧ (∀ j, j < i → Good (nsf.getD j 0) (behind p q j) j (L.getD j s0).xs) ∧ L.getD p s0 = ⟨o, c, xs⟩ ∧ xs.length = n ∧ n ≤ 2064) := ⟨hst, hgood, hsi, hn, hnle⟩
              have HO : Hid (Own TE wr o c xs) := hown
              have hz : IntKind.u8.wrap (100 + (p : Int)) = Z2 p := rfl
              have hw := wrap_i64' (100 + (p : Int)) (by omega) (by omega)
              have hcv := conv1 ((wr.alloc (.cells #[.int .u8 (Z2 p)] 5)).drew) wr.heap.size (Z2 p) (blk_new wr _)
              have hpI : (p : Int) < i := by omega
              have r1 := cell_alloc d1 (.cells #[.int .u8 (Z2 p)] 5)
              have r2 := cell_alloc r1 (.cells #[.string (mk (Z2 p))] 9)
              have HB1 : Hid ((xs.length + [mk (Z2 p)].length) * TE.nb ≤ 140737488355328 ∧ xs.length + [mk (Z2 p)].length ≤ 140737488355328) := ⟨by simp [TE]; omega, by simp; omega⟩
              clear hst hgood HI hgp hlp hown hn hsi hnle
              go_wp2_with fail
              go_region_law (refine step_app okT rfl (.tmp 57) (.tmp 63) rfl o n c xs ?_ HS.out.2.2.2.1.symm ?_ (some ⟨wr.heap.size + 1, 0, none⟩) 1 1 [mk (Z2 p)] ?_ rfl ?_ ?_ HB1.out.1 HB1.out.2 ?_; rfl; exact HO.out.keepsN (((Keeps.refl _ _).alloc _).alloc _).drew; rfl; exact (own_one2 wr (.cells #[.int .u8 (Z2 p)] 5) (mk (Z2 p))).nil; exact (own_one2 wr (.cells #[.int .u8 (Z2 p)] 5) (mk (Z2 p))).row.keepsN (Keeps.refl _ _).drew; intro o5 c5 w5 ho5 hap5; obtain ⟨s1, s2, S3⟩ := app_lay HS.out.1 p h2 HS.out.2.2.1 HS.out.2.2.2.1 ho5 hap5 (((Keeps.refl _ _).alloc _).alloc _).drew)
              all_goals
                (go_wp2_with fail
                 go_roundw
                 case rel =>
                   refine ⟨q + 1, _, by omega, by go_num, ⟨S3.out, fun j hj => ?_⟩⟩
                   have hlen := HS.out.1.len
                   rw [getD_set L p j _ s0 (by omega)]
                   by_cases e : j = p
                   · subst e
                     rw [if_pos rfl]
                     have := HS.out.2.1 j hj
                     rw [HS.out.2.2.1, show behind j q j = q by simp [behind]] at this
                     rw [show behind j (q + 1) j = q + 1 by simp [behind]]
                     exact this.more
                   · rw [if_neg e]
                     have := HS.out.2.1 j hj
                     have e2 : behind p (q + 1) j = behind p q j := by simp [behind, e]
                     rw [e2]; exact this
                 case measure => simp [intOf] <;> omega)
            · have HH : Hid _ := HI.out
              clear HI
              go_wp2_with fail
              go_roundw
              case rel =>
                obtain rfl : q = 64 := by omega
                refine ⟨p + 1, L, by omega, by go_num, ⟨HH.out.1, fun j hj => ?_⟩⟩
                have e : behind (p + 1) 0 j = behind p 64 j := by
                  unfold behind
                  by_cases e1 : j < p
                  · rw [if_pos (by omega), if_pos e1]
                  · by_cases e2 : j = p
                    · rw [if_pos (by omega), if_neg e1, if_pos e2]
                    · rw [if_neg (by omega), if_neg e1, if_neg e2]; split <;> rfl
                rw [e]
                exact HH.out.2 j hj
              case measure => simp [intOf] <;> omega
        · obtain ⟨hst, hgood⟩ := HI.out
          obtain rfl : p = i := by omega
          have HG : Hid (ApSt B w p oA cA nsf p on cn L wz ∧ ∀ j, j < p → Good (nsf.getD j 0) 64 j (L.getD j s0).xs) := ⟨hst, fun j hj => by have := hgood j hj; rw [show behind p 0 j = 64 by simp [behind, hj]] at this; exact this⟩
          clear hst hgood HI h2 hp
          obtain ⟨N', hN'⟩ : ∃ N', N' = p := ⟨_, rfl⟩
          have HNN : Hid (N' = p) := hN'
          go_wp2_with fail
          go_loopw [8] (fun s8 wr => ∃ (j : Nat), j ≤ p ∧ s8 = .int .i64 j ∧ Hid (Keeps no wz wr)) (fun s8 _ => p - (intOf s8).toNat)
          case atStart => exact ⟨0, by omega, rfl, Keeps.refl _ _⟩
          case round =>
            obtain ⟨r, hr, rfl, HK1⟩ := hrel
            rename World => wy
            by_cases h2 : r < p
            · obtain ⟨hst, hgood⟩ := HG.out
              obtain ⟨ba, eA⟩ : ∃ ba, oA = some ⟨ba, 0, none⟩ := by
                rcases hst.lots.own.shape with ⟨_, _, e⟩ | ⟨g, cur, e, _⟩
                · have := hst.len; rw [e] at this; simp at this; omega
                · exact ⟨g, e⟩
              subst eA
              have hfull : nsf.take p = nsf := List.take_of_length_le (by rw [hst.nlen]; exact Nat.le_refl _)
              have hints := hst.ints
              rw [hfull] at hints
              obtain ⟨n, hn⟩ : ∃ n, nsf.getD r 0 = n := ⟨_, rfl⟩
              have hgr := hgood r h2
              rw [hn] at hgr
              have hown := hst.lots.each r (by rw [hst.len]; exact h2)
              obtain ⟨si, hsi⟩ : ∃ si, L.getD r s0 = si := ⟨_, rfl⟩
              rw [hsi] at hgr hown
              obtain ⟨o, c, xs⟩ := si
              simp only at hgr hown
              have D1 : Hid (∀ wv, Keeps no wz wv → wv.cell? ⟨ba, r, none⟩ = some (.slice o (n + 64) c)) := fun wv hv => by
                obtain ⟨b2, off2, eA2, d1⟩ := hst.lots.own.sl.atX (j := r) (by rw [hst.len]; exact h2)
                cases eA2
                rw [Nat.zero_add, hsi] at d1
                simp only [hgr.1] at d1
                exact hv.cellN d1
              obtain ⟨bi, offi, ei, d3z⟩ := hints.sl.atI (j := r) (by rw [hst.nlen]; exact h2)
              subst ei
              rw [hn] at d3z
              have HGR : Hid (Good n 64 r xs ∧ Own TE wz o c xs ∧ n ≤ 2000) := ⟨hgr, hown, by rw [← hn]; exact hst.nle r h2⟩
              have hn2 : (n : Int) ≤ 2000 := by have := HGR.out.2.2; omega
              have D3 : Hid (wz.cell? ⟨bi, offi + r, none⟩ = some (.int .i64 (n : Nat))) := d3z
              have hmnI : (r : Int) < mn := by have := HMN.out; omega
              have hrI : (r : Int) < p := by omega
              clear hst hgood hfull hints hn hgr hown hsi d3z
              go_wp2_with fail
              go_loopw [9] (fun s9 wr => ∃ (k : Nat), k ≤ n + 64 ∧ s9 = .int .i64 k ∧ Hid (Keeps no wz wr)) (fun s9 _ => n + 64 - (intOf s9).toNat)
              case atStart => exact ⟨0, by omega, rfl, HK1⟩
              case round =>
                obtain ⟨k, hk, rfl, HK⟩ := hrel
                have d1 := D1.out wr HK.out
                have d3 := HK.out.cellN D3.out
                have hzA : IntKind.u8.wrap (r : Int) = Z1 r := rfl
                have hzB : IntKind.u8.wrap (100 + (r : Int)) = Z2 r := rfl
                have hwB := wrap_i64' (100 + (r : Int)) (by omega) (by omega)
                by_cases h3 : k < n + 64
                · have hkI : (k : Int) < (n : Int) + 64 := by omega
                  obtain ⟨⟨hgp1, hgp2, hgp3⟩, hgp4, hnl⟩ := HGR.out
                  by_cases h4 : k < n
                  · have h4I : (k : Int) < n := by omega
                    have h4J : ¬ (n : Int) ≤ k := by omega
                    have h4K : ¬ n ≤ k := by omega
                    have h4L : (decide ((n : Int) ≤ k)) = false := by simpa using h4J
                    have h4M : (decide (n ≤ k)) = false := by simpa using h4K
                    have hcv := conv1 ((wr.alloc (.cells #[.int .u8 (Z1 r)] 5)).drew) wr.heap.size (Z1 r) (blk_new wr _)
                    obtain ⟨bg, offg, eg, d4⟩ := (hgp4.keepsN HK.out).sl.at (j := k) (by omega)
                    subst eg
                    rw [show xs.getD k e0 = mk (Z1 r) from hgp2 k h4] at d4
                    have r1 := cell_alloc d1 (.cells #[.int .u8 (Z1 r)] 5)
                    have r3 := cell_alloc d3 (.cells #[.int .u8 (Z1 r)] 5)
                    have r4 := cell_alloc d4 (.cells #[.int .u8 (Z1 r)] 5)
                    have hself : ((mk (Z1 r)).toList == (mk (Z1 r)).toList) = true := by simp
                    clear hgp1 hgp2 hgp3 hgp4 hnl
                    go_wp2_with fail
                    go_big_region
                    all_goals
                      (go_wp2_with fail
                       go_roundw
                       case rel => exact ⟨k + 1, by omega, by go_num, HK.out.trans (by exact ((Keeps.refl _ _).alloc _).drew)⟩
                       case measure => simp [intOf] <;> omega)
                  · have h4I : ¬ (k : Int) < n := by omega
                    have h4J : (n : Int) ≤ k := by omega
                    have hcv := conv1 ((wr.alloc (.cells #[.int .u8 (Z2 r)] 5)).drew) wr.heap.size (Z2 r) (blk_new wr _)
                    obtain ⟨bg, offg, eg, d4⟩ := (hgp4.keepsN HK.out).sl.at (j := k) (by omega)
                    subst eg
                    rw [show xs.getD k e0 = mk (Z2 r) from hgp3 k (by omega) h3] at d4
                    have r1 := cell_alloc d1 (.cells #[.int .u8 (Z2 r)] 5)
                    have r3 := cell_alloc d3 (.cells #[.int .u8 (Z2 r)] 5)
                    have r4 := cell_alloc d4 (.cells #[.int .u8 (Z2 r)] 5)
                    have hself : ((mk (Z2 r)).toList == (mk (Z2 r)).toList) = true := by simp
                    clear hgp1 hgp2 hgp3 hgp4 hnl
                    go_wp2_with fail
                    go_big_region
                    all_goals
                      (go_wp2_with fail
                       go_roundw
                       case rel => exact ⟨k + 1, by omega, by go_num, HK.out.trans (by exact ((Keeps.refl _ _).alloc _).drew)⟩
                       case measure => simp [intOf] <;> omega)
                · go_wp2_with fail
                  go_roundw
                  case rel => exact ⟨r + 1, by omega, by go_num, HK⟩
                  case measure => simp [intOf] <;> omega
            · go_wp2_with fail
              go_ret
              exact ⟨rfl, HG.out.1.kp.trans HK1.out.of_no⟩
end Go.Proofs.Ytpfbbfbghldmjaa
