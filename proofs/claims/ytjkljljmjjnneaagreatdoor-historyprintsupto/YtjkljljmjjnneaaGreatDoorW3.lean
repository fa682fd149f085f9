/- writeEvent. -/
import Derived.Test.YtjkljljmjjnneaaGreatDoorW2
namespace Go.Proofs.YtjkljljmjjnneaaGreatDoor
open Go.RowKit Go.Sort Orl
set_option linter.unusedVariables false
set_option linter.unusedSimpArgs false

/-- sizes of an event -/
structure SzE (e : Ev) : Prop where
  id : e.id < 18446744073709551616
  aid : e.aid < 18446744073709551616
  vid : ∀ v ∈ e.vers, v.id < 18446744073709551616
  pl : e.pairs.length ≤ 4398046511000
  kl : e.keys.length ≤ 8796093022000
  vl : e.vers.length ≤ 2199023255500
  vk : ∀ v ∈ e.vers, v.keys.length ≤ 8796093022000
  tx : e.txn < 9223372036854775808
/-- what writeEvent asks -/
structure WrOk (e : Ev) : Prop where
  cl : 0 ≤ e.client ∧ e.client < 9223372036854775808
  tx : 0 ≤ e.txn ∧ e.txn < 9223372036854775808
  rs : e.kind = 3 → 1 ≤ e.ares ∧ e.ares ≤ 6
theorem wrap_u64_nat (n : Nat) (h : n < 18446744073709551616) : IntKind.u64.wrap (n : Int) = (n : Int) := by
  rw [IntKind.wrap_u64]; omega
set_option maxRecDepth 10000 in
set_option maxHeartbeats 4000000 in
theorem writeEvent_any (w0 w : World) (b : Nat) (acc : List UInt8) (h : Bd w0 w b acc) (hp : Vs w0) (r : RE) (e : Ev) (he : EvOf w0 r e) (hz : SzE e) (ho : WrOk e) (hl : acc.length + wtE e ≤ 140737488355328) :
    Calls Tryz.prog 24 #[.pointer (some ⟨b, 0, none⟩), aggE r] w (Wr0 w0 w b acc (lineW e)) := by
  obtain ⟨ek, ecl, et, ei, po, pn, pc, ko, kn, kc, ax, ar, ai, vo, vn, vc⟩ := r
  obtain ⟨h1, h2, h3, h4, hpn, hps, hkn, hks, h5, h6, h7, hvn, rv, hvs⟩ := he
  simp only at h1 h2 h3 h4 hpn hps hkn hks h5 h6 h7 hvn hvs
  unfold aggE cellsE
  obtain ⟨c, hc⟩ : ∃ c : Nat, ecl = (c : Nat) := ⟨ecl.toNat, by have := ho.cl; omega⟩
  obtain ⟨t, ht⟩ : ∃ t : Nat, et = (t : Nat) := ⟨et.toNat, by have := ho.tx; omega⟩
  have hcb : c < 18446744073709551616 := by have := ho.cl; omega
  have htb : t < 18446744073709551616 := by have := ho.tx; omega
  have HEL : Hid (lineW e = numW c ++ [32] ++ numW t ++ [32] ++ evW e ++ [10]) := by
    show _ = _
    unfold lineW
    rw [← h2, ← h3, hc, ht]
    rfl
  have HP : Hid (Vs w0 ∧ SzE e ∧ c < 18446744073709551616 ∧ t < 18446744073709551616) := ⟨hp, hz, hcb, htb⟩
  have HQ : Hid (ei = e.id ∧ pn = e.pairs.length ∧ Sl PE w0 po pc e.pairs ∧ kn = e.keys.length ∧ Sl TE w0 ko kc e.keys ∧ ai = e.aid ∧ vn = e.vers.length ∧ Vers w0 vo vc rv e.vers ∧ ar = e.ares ∧ ek = e.kind) := ⟨h4, hpn, hps, hkn, hks, h7, hvn, hvs, h6, h1⟩
  have HLL : Hid (acc.length + (e.pairs.map wtP).sum + (e.keys.map fun k => wtT k + 1).sum + (e.vers.map fun v => wtV v + 1).sum + 100 ≤ 140737488355328) := by
    show _ ≤ _
    unfold wtE at hl; omega
  have HRS : Hid (e.kind = 3 → 1 ≤ e.ares ∧ e.ares ≤ 6) := ho.rs
  have hw1 : IntKind.u64.wrap (c : Int) = (c : Int) := wrap_u64_nat c hcb
  have hw2 : IntKind.u64.wrap (t : Int) = (t : Int) := wrap_u64_nat t htb
  subst hc
  subst ht
  have HB0 : Hid (Bd w0 w b acc) := h
  clear h
  obtain ⟨Z, hZ⟩ : ∃ Z, Z = w.heap.size := ⟨_, rfl⟩
  have HX : Hid (∀ W, W = w.alloc (.cells #[.int .i64 ek, .int .i64 (c : Nat), .int .i64 (t : Nat), .int .u64 (ei : Nat), .slice po pn pc, .slice ko kn kc, .int .i64 ax, .int .i64 ar, .int .u64 (ai : Nat), .slice vo vn vc] 36) → Bx w0 w W b Z #[.int .i64 ek, .int .i64 (c : Nat), .int .i64 (t : Nat), .int .u64 (ei : Nat), .slice po pn pc, .slice ko kn kc, .int .i64 ax, .int .i64 ar, .int .u64 (ai : Nat), .slice vo vn vc] 36 acc) := by
    rintro W rfl
    rw [hZ]
    exact bx_new HB0.out _ _ (by decide)
  clear hp hz ho hl hcb htb h1 h2 h3 h4 hpn hps hkn hks h5 h6 h7 hvn hvs
  have HC : Hid (∀ {W : World} {A : List UInt8}, Bx w0 w W b Z #[.int .i64 ek, .int .i64 (c : Nat), .int .i64 (t : Nat), .int .u64 (ei : Nat), .slice po pn pc, .slice ko kn kc, .int .i64 ax, .int .i64 ar, .int .u64 (ai : Nat), .slice vo vn vc] 36 A → W.cell? ⟨Z, 0, none⟩ = some (.int .i64 ek) ∧ W.cell? ⟨Z, 1, none⟩ = some (.int .i64 (c : Nat)) ∧ W.cell? ⟨Z, 2, none⟩ = some (.int .i64 (t : Nat)) ∧ W.cell? ⟨Z, 3, none⟩ = some (.int .u64 (ei : Nat)) ∧ W.cell? ⟨Z, 4, none⟩ = some (.slice po pn pc) ∧ W.cell? ⟨Z, 5, none⟩ = some (.slice ko kn kc) ∧ W.cell? ⟨Z, 6, none⟩ = some (.int .i64 ax) ∧ W.cell? ⟨Z, 7, none⟩ = some (.int .i64 ar) ∧ W.cell? ⟨Z, 8, none⟩ = some (.int .u64 (ai : Nat)) ∧ W.cell? ⟨Z, 9, none⟩ = some (.slice vo vn vc)) := fun {W A} hW => by
    rw [cell_of_blk hW.blk, cell_of_blk hW.blk, cell_of_blk hW.blk, cell_of_blk hW.blk, cell_of_blk hW.blk, cell_of_blk hW.blk, cell_of_blk hW.blk, cell_of_blk hW.blk, cell_of_blk hW.blk, cell_of_blk hW.blk]
    exact ⟨rfl, rfl, rfl, rfl, rfl, rfl, rfl, rfl, rfl, rfl⟩
  go_enter Tryz.func24, Tryz.ntmps24
  go_upto_region 1 with fail
  have h1 := HX.out _ rfl
  rw [← hZ]
  clear hZ HX
  generalize w.alloc (.cells #[.int .i64 ek, .int .i64 (c : Nat), .int .i64 (t : Nat), .int .u64 (ei : Nat), .slice po pn pc, .slice ko kn kc, .int .i64 ax, .int .i64 ar, .int .u64 (ai : Nat), .slice vo vn vc] 36) = w1 at h1 ⊢
  have H1 : Hid (Bx w0 w w1 b Z #[.int .i64 ek, .int .i64 (c : Nat), .int .i64 (t : Nat), .int .u64 (ei : Nat), .slice po pn pc, .slice ko kn kc, .int .i64 ax, .int .i64 ar, .int .u64 (ai : Nat), .slice vo vn vc] 36 acc) := h1
  obtain ⟨z0, z1, z2, z3, z4, z5, z6, z7, z8, z9⟩ := HC.out h1
  clear h1
  go_wp2_with fail
  refine (writeNumber_any w0 _ b _ H1.out.bd (HP.out.1.pow.keepsN H1.out.bd.kp) c HP.out.2.2.1 (by have := HLL.out;  omega)).mono ?_
  rintro e w2 he
  have hx := H1.out.step he
  obtain ⟨rfl, -⟩ := he
  obtain ⟨A2, hA2⟩ : ∃ A2, A2 = acc ++ numW c := ⟨_, rfl⟩
  have LE2 : Hid (A2 = acc ++ numW c ∧ A2.length ≤ acc.length + 20) := ⟨hA2, by rw [hA2, List.length_append]; have := numW_len HP.out.2.2.1; omega⟩
  rw [← hA2] at hx
  clear hA2
  have H2 : Hid (Bx w0 w w2 b Z #[.int .i64 ek, .int .i64 (c : Nat), .int .i64 (t : Nat), .int .u64 (ei : Nat), .slice po pn pc, .slice ko kn kc, .int .i64 ax, .int .i64 ar, .int .u64 (ai : Nat), .slice vo vn vc] 36 A2) := hx
  clear z0 z1 z2 z3 z4 z5 z6 z7 z8 z9 H1
  obtain ⟨z0, z1, z2, z3, z4, z5, z6, z7, z8, z9⟩ := HC.out hx
  clear hx
  go_wp2_with fail
  refine (writeByte_any w0 _ b _ 32 H2.out.bd (by have := HLL.out; have := LE2.out.2; omega)).mono ?_
  rintro e w3 he
  have hx := H2.out.step he
  obtain ⟨rfl, -⟩ := he
  obtain ⟨A3, hA3⟩ : ∃ A3, A3 = A2 ++ [32] := ⟨_, rfl⟩
  have LE3 : Hid (A3 = A2 ++ [32] ∧ A3.length ≤ A2.length + 1) := ⟨hA3, by rw [hA3, List.length_append]; simp⟩
  rw [← hA3] at hx
  clear hA3
  have H3 : Hid (Bx w0 w w3 b Z #[.int .i64 ek, .int .i64 (c : Nat), .int .i64 (t : Nat), .int .u64 (ei : Nat), .slice po pn pc, .slice ko kn kc, .int .i64 ax, .int .i64 ar, .int .u64 (ai : Nat), .slice vo vn vc] 36 A3) := hx
  clear z0 z1 z2 z3 z4 z5 z6 z7 z8 z9 H2
  obtain ⟨z0, z1, z2, z3, z4, z5, z6, z7, z8, z9⟩ := HC.out hx
  clear hx
  go_wp2_with fail
  refine (writeNumber_any w0 _ b _ H3.out.bd (HP.out.1.pow.keepsN H3.out.bd.kp) t HP.out.2.2.2 (by have := HLL.out; have := LE2.out.2; have := LE3.out.2; omega)).mono ?_
  rintro e w4 he
  have hx := H3.out.step he
  obtain ⟨rfl, -⟩ := he
  obtain ⟨A4, hA4⟩ : ∃ A4, A4 = A3 ++ numW t := ⟨_, rfl⟩
  have LE4 : Hid (A4 = A3 ++ numW t ∧ A4.length ≤ A3.length + 20) := ⟨hA4, by rw [hA4, List.length_append]; have := numW_len HP.out.2.2.2; omega⟩
  rw [← hA4] at hx
  clear hA4
  have H4 : Hid (Bx w0 w w4 b Z #[.int .i64 ek, .int .i64 (c : Nat), .int .i64 (t : Nat), .int .u64 (ei : Nat), .slice po pn pc, .slice ko kn kc, .int .i64 ax, .int .i64 ar, .int .u64 (ai : Nat), .slice vo vn vc] 36 A4) := hx
  clear z0 z1 z2 z3 z4 z5 z6 z7 z8 z9 H3
  obtain ⟨z0, z1, z2, z3, z4, z5, z6, z7, z8, z9⟩ := HC.out hx
  clear hx
  go_wp2_with fail
  refine (writeByte_any w0 _ b _ 32 H4.out.bd (by have := HLL.out; have := LE2.out.2; have := LE3.out.2; have := LE4.out.2; omega)).mono ?_
  rintro e w5 he
  have hx := H4.out.step he
  obtain ⟨rfl, -⟩ := he
  obtain ⟨A5, hA5⟩ : ∃ A5, A5 = A4 ++ [32] := ⟨_, rfl⟩
  have LE5 : Hid (A5 = A4 ++ [32] ∧ A5.length ≤ A4.length + 1) := ⟨hA5, by rw [hA5, List.length_append]; simp⟩
  rw [← hA5] at hx
  clear hA5
  have H5 : Hid (Bx w0 w w5 b Z #[.int .i64 ek, .int .i64 (c : Nat), .int .i64 (t : Nat), .int .u64 (ei : Nat), .slice po pn pc, .slice ko kn kc, .int .i64 ax, .int .i64 ar, .int .u64 (ai : Nat), .slice vo vn vc] 36 A5) := hx
  clear z0 z1 z2 z3 z4 z5 z6 z7 z8 z9 H4
  obtain ⟨z0, z1, z2, z3, z4, z5, z6, z7, z8, z9⟩ := HC.out hx
  clear hx
  by_cases hk : ek = 1
  · have HQ1 : Hid (1 = e.kind) := by rw [← hk]; exact HQ.out.2.2.2.2.2.2.2.2.2
    subst hk
    have HK1 : Hid (e.kind = 1) := HQ1.out.symm
    go_wp2_with fail
    refine (writeWrite_any w0 _ b _ H5.out.bd HP.out.1.pow 1 (c : Nat) (t : Nat) ei po pn pc ko kn kc ax ar ai vo vn vc e.pairs (by rw [HQ.out.1]; exact HP.out.2.1.id) HQ.out.2.1 HQ.out.2.2.1 (by have := HLL.out; have := LE2.out.2; have := LE3.out.2; have := LE4.out.2; have := LE5.out.2; omega) HP.out.2.1.pl).mono ?_
    rintro e' w6 he
    have hx := H5.out.step he
    obtain ⟨rfl, -⟩ := he
    have H6 : Hid (Bx w0 w w6 b Z #[.int .i64 1, .int .i64 (c : Nat), .int .i64 (t : Nat), .int .u64 (ei : Nat), .slice po pn pc, .slice ko kn kc, .int .i64 ax, .int .i64 ar, .int .u64 (ai : Nat), .slice vo vn vc] 36 (A5 ++ writeW ei e.pairs)) := hx
    clear z0 z1 z2 z3 z4 z5 z6 z7 z8 z9 H5 hx
    go_wp2_with fail
    refine (writeByte_any w0 _ b _ 10 H6.out.bd (by have := HLL.out; have := LE2.out.2; have := LE3.out.2; have := LE4.out.2; have := LE5.out.2; rw [List.length_append]; have h1 := flat_le pairW wtP e.pairs (fun p _ => pairW_wt p); have h2 := numW_len (show ei < 18446744073709551616 by rw [HQ.out.1]; exact HP.out.2.1.id); unfold writeW pairsW; simp only [List.length_append, List.length_cons, List.length_nil]; omega)).mono ?_
    rintro e' w7 he
    have hx := H6.out.step he
    obtain ⟨rfl, -⟩ := he
    have HE : Hid (Bd w0 w7 b (acc ++ lineW e) ∧ Bo b w w7) := by
      refine ⟨?_, hx.bo⟩
      have h9 := hx.bd
      rw [LE5.out.1, LE4.out.1, LE3.out.1, LE2.out.1] at h9
      rw [HEL.out]
      unfold evW
      rw [if_pos HK1.out, ← HQ.out.1]
      simpa using h9
    clear hx
    go_wp2_with fail
    go_end0
    exact ⟨rfl, HE.out.1, HE.out.2⟩
  · by_cases hk2 : ek = 2
    · have HQ1 : Hid (2 = e.kind) := by rw [← hk2]; exact HQ.out.2.2.2.2.2.2.2.2.2
      subst hk2
      have HK2 : Hid (e.kind = 2) := HQ1.out.symm
      go_wp2_with fail
      refine (writeRead_any w0 _ b _ H5.out.bd 2 (c : Nat) (t : Nat) ei po pn pc ko kn kc ax ar ai vo vn vc e.keys HQ.out.2.2.2.1 HQ.out.2.2.2.2.1 (by have := HLL.out; have := LE2.out.2; have := LE3.out.2; have := LE4.out.2; have := LE5.out.2; omega) HP.out.2.1.kl).mono ?_
      rintro e' w6 he
      have hx := H5.out.step he
      obtain ⟨rfl, -⟩ := he
      have H6 : Hid (Bx w0 w w6 b Z #[.int .i64 2, .int .i64 (c : Nat), .int .i64 (t : Nat), .int .u64 (ei : Nat), .slice po pn pc, .slice ko kn kc, .int .i64 ax, .int .i64 ar, .int .u64 (ai : Nat), .slice vo vn vc] 36 (A5 ++ readW e.keys)) := hx
      clear z0 z1 z2 z3 z4 z5 z6 z7 z8 z9 H5 hx
      go_wp2_with fail
      refine (writeByte_any w0 _ b _ 10 H6.out.bd (by have := HLL.out; have := LE2.out.2; have := LE3.out.2; have := LE4.out.2; have := LE5.out.2; rw [List.length_append]; have h1 := flat_le (keyW 32) (fun k => wtT k + 1) e.keys (fun k _ => keyW_wt 32 k); unfold readW keysW; simp only [List.length_append, List.length_cons, List.length_nil]; omega)).mono ?_
      rintro e' w7 he
      have hx := H6.out.step he
      obtain ⟨rfl, -⟩ := he
      have HE : Hid (Bd w0 w7 b (acc ++ lineW e) ∧ Bo b w w7) := by
        refine ⟨?_, hx.bo⟩
        have h9 := hx.bd
        rw [LE5.out.1, LE4.out.1, LE3.out.1, LE2.out.1] at h9
        rw [HEL.out]
        unfold evW
        rw [if_neg (by rw [HK2.out]; decide), if_pos HK2.out]
        simpa using h9
      clear hx
      go_wp2_with fail
      go_end0
      exact ⟨rfl, HE.out.1, HE.out.2⟩
    · by_cases hk3 : ek = 3
      · have HQ1 : Hid (3 = e.kind) := by rw [← hk3]; exact HQ.out.2.2.2.2.2.2.2.2.2
        subst hk3
        have HK3 : Hid (e.kind = 3) := HQ1.out.symm
        obtain ⟨q, hq⟩ : ∃ q : Nat, ar = (q : Nat) := ⟨ar.toNat, by have h1 := HRS.out HK3.out; have h2 := HQ.out.2.2.2.2.2.2.2.2.1; omega⟩
        have hq6 : 1 ≤ q ∧ q ≤ 6 := by have h1 := HRS.out HK3.out; have h2 := HQ.out.2.2.2.2.2.2.2.2.1; omega
        subst hq
        go_wp2_with fail
        refine (writeAnswer_any w0 _ b _ H5.out.bd HP.out.1 ax q ai vo vn vc rv e.vers HQ.out.2.2.2.2.2.2.1 HQ.out.2.2.2.2.2.2.2.1 hq6 (by rw [HQ.out.2.2.2.2.2.1]; exact HP.out.2.1.aid) HP.out.2.1.vid HP.out.2.1.vk (by have := HLL.out; have := LE2.out.2; have := LE3.out.2; have := LE4.out.2; have := LE5.out.2; omega) HP.out.2.1.vl).mono ?_
        rintro e' w6 he
        have hx := H5.out.step he
        obtain ⟨rfl, -⟩ := he
        have H6 : Hid (Bx w0 w w6 b Z #[.int .i64 3, .int .i64 (c : Nat), .int .i64 (t : Nat), .int .u64 (ei : Nat), .slice po pn pc, .slice ko kn kc, .int .i64 ax, .int .i64 (q : Nat), .int .u64 (ai : Nat), .slice vo vn vc] 36 (A5 ++ ansW q ai e.vers)) := hx
        clear z0 z1 z2 z3 z4 z5 z6 z7 z8 z9 H5 hx
        go_wp2_with fail
        refine (writeByte_any w0 _ b _ 10 H6.out.bd (by have := HLL.out; have := LE2.out.2; have := LE3.out.2; have := LE4.out.2; have := LE5.out.2; rw [List.length_append]; have h1 := flat_le (fun v => 32 :: verW v) (fun v => wtV v + 1) e.vers (fun v hv => by rw [List.length_cons]; have := verW_wt (HP.out.2.1.vid v hv); omega); have h2 := numW_len (show ai < 18446744073709551616 by rw [HQ.out.2.2.2.2.2.1]; exact HP.out.2.1.aid); have h3 := wordL_len q; unfold ansW versW; simp only [List.length_append, List.length_cons, List.length_nil]; omega)).mono ?_
        rintro e' w7 he
        have hx := H6.out.step he
        obtain ⟨rfl, -⟩ := he
        have HE : Hid (Bd w0 w7 b (acc ++ lineW e) ∧ Bo b w w7) := by
          refine ⟨?_, hx.bo⟩
          have h9 := hx.bd
          rw [LE5.out.1, LE4.out.1, LE3.out.1, LE2.out.1] at h9
          rw [HEL.out]
          unfold evW
          rw [if_neg (by rw [HK3.out]; decide), if_neg (by rw [HK3.out]; decide), if_pos HK3.out, ← HQ.out.2.2.2.2.2.1, show e.ares.toNat = q by have := HQ.out.2.2.2.2.2.2.2.2.1; omega]
          simpa using h9
        clear hx
        go_wp2_with fail
        go_end0
        exact ⟨rfl, HE.out.1, HE.out.2⟩
      · have HK4 : Hid (¬ e.kind = 1 ∧ ¬ e.kind = 2 ∧ ¬ e.kind = 3) := by have := HQ.out.2.2.2.2.2.2.2.2.2; exact ⟨by omega, by omega, by omega⟩
        go_wp2_with fail
        refine (writeByte_any w0 _ b _ 10 H5.out.bd (by have := HLL.out; have := LE2.out.2; have := LE3.out.2; have := LE4.out.2; have := LE5.out.2; omega)).mono ?_
        rintro e' w7 he
        have hx := H5.out.step he
        obtain ⟨rfl, -⟩ := he
        have HE : Hid (Bd w0 w7 b (acc ++ lineW e) ∧ Bo b w w7) := by
          refine ⟨?_, hx.bo⟩
          have h9 := hx.bd
          rw [LE5.out.1, LE4.out.1, LE3.out.1, LE2.out.1] at h9
          rw [HEL.out]
          unfold evW
          rw [if_neg HK4.out.1, if_neg HK4.out.2.1, if_neg HK4.out.2.2]
          simpa using h9
        clear hx z0 z1 z2 z3 z4 z5 z6 z7 z8 z9
        go_wp2_with fail
        go_end0
        exact ⟨rfl, HE.out.1, HE.out.2⟩
end Go.Proofs.YtjkljljmjjnneaaGreatDoor
