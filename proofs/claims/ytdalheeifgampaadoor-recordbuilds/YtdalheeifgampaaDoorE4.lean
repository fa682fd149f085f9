/- The document's length of a payload; its Build. -/
import Derived.Test.YtdalheeifgampaaDoorE3
namespace Go.Proofs.YtdalheeifgampaaDoor
open Go.RowKit Go.Sort Orl Pk
set_option linter.unusedVariables false
set_option linter.unusedSimpArgs false

theorem layP1_length (p : Pr) : (layP1 p).length = 8 + p.1.size + p.2.size := by
  unfold layP1; rw [List.length_append, txt_length, txt_length, nats_length, nats_length]; omega
theorem layP_snoc_len (l : List Pr) (k : Nat) (hk : k < l.length) : (layP (l.take (k + 1))).length = (layP (l.take k)).length + 8 + (l.getD k p0).1.size + (l.getD k p0).2.size := by
  rw [layP_snoc l k hk, List.length_append, List.length_append, txt_length, txt_length, nats_length, nats_length]; omega
theorem keys_snoc_len (l : List Tx) (k : Nat) (hk : k < l.length) : (txtsBody (natss (l.take (k + 1)))).length = (txtsBody (natss (l.take k))).length + 4 + (l.getD k e0).size := by
  have := txtsBody_snoc l k hk
  rw [this, List.length_append, txt_length, nats_length]; unfold e0; omega

set_option maxRecDepth 20000 in
set_option maxHeartbeats 2000000 in
theorem dLong_any (w : World) (k : Int) (i : Nat) (op : Option Addr) (np cp : Nat) (ok : Option Addr) (nk ck : Nat) (r : Rec) (h : IsC w ⟨k, i, op, np, cp, ok, nk, ck⟩ r) (hm : may r = true) :
    Calls Tryd.prog 34 #[.agg #[.int .i64 k, .int .u64 (i : Nat), .slice op np cp, .slice ok nk ck]] w fun e w' => (∃ n : Nat, e = .returned (.int .i64 (n : Nat)) ∧ Hid (n = (body r).length) ∧ (n : Int) ≤ 300000000) ∧ Keeps no w w' := by
  have H : Hid (IsC w ⟨k, i, op, np, cp, ok, nk, ck⟩ r) := h
  have hp := (may_parts hm).2
  have HKD : Hid (k = r.kind) := h.k
  have HNP : Hid (np = r.pairs.length) := h.np
  have HNK : Hid (nk = r.keys.length) := h.nk
  have k0 : Keeps no w (w.alloc (.cells #[.int .i64 k, .int .u64 (i : Nat), .slice op np cp, .slice ok nk ck] 30)) := (Keeps.refl _ _).alloc _
  have HK0 : Hid (Keeps no w (w.alloc (.cells #[.int .i64 k, .int .u64 (i : Nat), .slice op np cp, .slice ok nk ck] 30))) := k0
  have hb0 := blk_new w (.cells #[.int .i64 k, .int .u64 (i : Nat), .slice op np cp, .slice ok nk ck] 30)
  have HB0 : Hid ((w.alloc (.cells #[.int .i64 k, .int .u64 (i : Nat), .slice op np cp, .slice ok nk ck] 30)).heap[w.heap.size]? = some (.cells #[.int .i64 k, .int .u64 (i : Nat), .slice op np cp, .slice ok nk ck] 30 (0, 0))) := hb0
  clear h hm k0 hb0
  rcases hp with ⟨hk, hK, hP⟩ | ⟨hk, hps, hks⟩
  · rw [← HKD.out] at hk
    subst hk
    obtain ⟨q1, q2, q3, _⟩ := mayK_all hK
    obtain ⟨p1, p2, p3⟩ := mayP_all hK hP
    have hnp : (np : Int) ≤ 1024 := by have := HNP.out; omega
    have hnk : (nk : Int) ≤ 1024 := by have := HNK.out; omega
    have HPX : Hid ((∀ p ∈ r.pairs, p.1.size ≤ 65535 ∧ p.2.size ≤ 65535) ∧ (∀ s ∈ r.keys, s.size ≤ 65535)) := ⟨p3, q3⟩
    have HBP : Hid (∀ q, (layP (r.pairs.take q)).length ≤ 134223872) := pairs_big hK hP
    have HBK : Hid (∀ q, (txtsBody (natss (r.keys.take q))).length ≤ 67111936) := keys_big hK
    clear hK hP q1 q2 q3 p1 p2 p3
    go_enter Tryd.func34, Tryd.ntmps34
    go_upto_block 0 with fail
    generalize w.alloc (.cells #[.int .i64 1, .int .u64 (i : Nat), .slice op np cp, .slice ok nk ck] 30) = W0 at HK0 HB0 ⊢
    generalize w.heap.size = A at HB0 ⊢
    go_cut [3, 4] from 11 to 35 (fun s _ wc => ∃ n : Nat, s = .int .i64 (n : Nat) ∧ Hid (n = 17 + (layP r.pairs).length) ∧ (n : Int) ≤ 134223889 ∧ ∃ m, wc = W0.drewN m)
    case first =>
      go_wp2_with fail
      go_loopw [3, 4] (fun s j wr => ∃ n q m : Nat, s = .int .i64 (n : Nat) ∧ j = .int .i64 (q : Nat) ∧ q ≤ np ∧ Hid (n = 17 + (layP (r.pairs.take q)).length) ∧ (n : Int) ≤ 134223889 ∧ wr = W0.drewN m) (fun _ j _ => np - (intOf j).toNat)
      case atStart => exact ⟨17, 0, 0, rfl, rfl, by omega, by show _ = _; simp [layP], by omega, rfl⟩
      case round =>
        obtain ⟨n, q, m, rfl, rfl, hq, HNN, hnb, rfl⟩ := hrel
        obtain ⟨x0, x1, x2, x3⟩ := cells4 HB0.out
        by_cases hqn : q < np
        · have hqn' : (q : Int) < np := by omega
          have hqs : q < r.pairs.length := by have := HNP.out; omega
          obtain ⟨b, off, e1, d1, d2⟩ := (H.out.prs.keepsN HK0.out).atP hqs
          simp only at e1
          subst e1
          have hsz := HPX.out.1 _ (getD_mem_lt p0 hqs)
          have HSN : Hid ((layP (r.pairs.take (q + 1))).length = (layP (r.pairs.take q)).length + 8 + (r.pairs.getD q p0).1.size + (r.pairs.getD q p0).2.size) := layP_snoc_len _ _ hqs
          generalize r.pairs.getD q p0 = s at d1 d2 hsz HSN
          obtain ⟨s1, s2⟩ := s
          simp only at d1 d2 hsz HSN
          have hz1 : (s1.size : Int) ≤ 65535 := by omega
          have hz2 : (s2.size : Int) ≤ 65535 := by omega
          have HBQ : Hid ((layP (r.pairs.take (q + 1))).length ≤ 134223872) := HBP.out (q + 1)
          have w1 : IntKind.i64.wrap ((n : Int) + 8) = (n : Int) + 8 := by rw [IntKind.wrap_i64]; omega
          have w2 : IntKind.i64.wrap ((n : Int) + 8 + (s1.size : Int)) = (n : Int) + 8 + (s1.size : Int) := by rw [IntKind.wrap_i64]; omega
          have w3 : IntKind.i64.wrap ((n : Int) + 8 + (s1.size : Int) + (s2.size : Int)) = (n : Int) + 8 + (s1.size : Int) + (s2.size : Int) := by rw [IntKind.wrap_i64]; omega
          go_wp2_with fail
          go_quiet (fail)
          go_wp2_with fail
          go_roundw
          case rel => exact ⟨n + 8 + s1.size + s2.size, q + 1, _, by go_num, by go_num, by omega, by show _ = _; rw [HSN.out, HNN.out]; omega, by have := HBQ.out; have := HSN.out; have := HNN.out; omega, rfl⟩
          case measure => simp [intOf]; omega
        · have hqn' : ¬ (q : Int) < np := by omega
          have hqe : r.pairs.take q = r.pairs := List.take_of_length_le (by have := HNP.out; omega)
          rw [hqe] at HNN
          go_wp2_with fail
          go_meet
          case rel => exact ⟨n, rfl, HNN, hnb, m, rfl⟩
    case rest =>
    obtain ⟨n0, rfl, HN0, hn0b, m0, rfl⟩ := hcut
    go_wp2_with fail
    go_loop [3, 5] (fun s j => ∃ n q : Nat, s = .int .i64 (n : Nat) ∧ j = .int .i64 (q : Nat) ∧ q ≤ nk ∧ Hid (n = n0 + (txtsBody (natss (r.keys.take q))).length) ∧ (n : Int) ≤ 201335825) (fun _ j => nk - (intOf j).toNat)
    case atStart => exact ⟨n0, 0, rfl, rfl, by omega, by show _ = _; simp [natss, txtsBody], by omega⟩
    case round =>
      obtain ⟨n, q, rfl, rfl, hq, HNN, hnb⟩ := hrel
      obtain ⟨x0, x1, x2, x3⟩ := cells4 HB0.out
      by_cases hqn : q < nk
      · have hqn' : (q : Int) < nk := by omega
        have hqs : q < r.keys.length := by have := HNK.out; omega
        obtain ⟨b, off, e1, d1⟩ := (H.out.kys.keepsN HK0.out).at hqs
        simp only at e1
        subst e1
        have hsz := HPX.out.2 _ (getD_mem_lt e0 hqs)
        have HSN : Hid ((txtsBody (natss (r.keys.take (q + 1)))).length = (txtsBody (natss (r.keys.take q))).length + 4 + (r.keys.getD q e0).size) := keys_snoc_len _ _ hqs
        generalize r.keys.getD q e0 = s1 at d1 hsz HSN
        have hz1 : (s1.size : Int) ≤ 65535 := by omega
        have HBQ : Hid ((txtsBody (natss (r.keys.take (q + 1)))).length ≤ 67111936) := HBK.out (q + 1)
        go_wp2_with fail
        go_round
        case rel => exact ⟨n + 4 + s1.size, q + 1, by go_num, by go_num, by omega, by show _ = _; rw [HSN.out, HNN.out]; omega, by have := HBQ.out; have := HSN.out; have := HNN.out; omega⟩
        case measure => simp [intOf]; omega
      · have hqn' : ¬ (q : Int) < nk := by omega
        have hqe : r.keys.take q = r.keys := List.take_of_length_le (by have := HNK.out; omega)
        rw [hqe] at HNN
        go_wp2_with fail
        go_ret
        refine ⟨⟨n, rfl, ?_, by omega⟩, HK0.out.drewN _⟩
        show _ = _
        rw [body_1 HKD.out.symm, HNN.out, HN0.out]
        simp only [List.length_append, px_length, num_length]
        omega
  · rw [← HKD.out] at hk
    subst hk
    have hnp0 : np = 0 := by rw [HNP.out, hps]; rfl
    have hnk0 : nk = 0 := by rw [HNK.out, hks]; rfl
    subst hnp0 hnk0
    go_enter Tryd.func34, Tryd.ntmps34
    go_wp2_with fail
    go_loop [3, 4] (fun s j => s = .int .i64 9 ∧ j = .int .i64 0) (fun _ _ => 0)
    case atStart => exact ⟨rfl, rfl⟩
    case round =>
      obtain ⟨rfl, rfl⟩ := hrel
      go_wp2_with fail
      go_loop [3, 5] (fun s j => s = .int .i64 9 ∧ j = .int .i64 0) (fun _ _ => 0)
      case atStart => exact ⟨rfl, rfl⟩
      case round =>
        obtain ⟨rfl, rfl⟩ := hrel
        go_wp2_with fail
        go_ret
        refine ⟨⟨9, rfl, ?_, by omega⟩, HK0.out⟩
        show _ = _
        rw [body_2 HKD.out.symm, List.length_append, num_length, num_length]

set_option maxRecDepth 20000 in
set_option maxHeartbeats 2000000 in
theorem dBuild_any (w : World) (k : Int) (i : Nat) (op : Option Addr) (np cp : Nat) (ok : Option Addr) (nk ck : Nat) (r : Rec) (h : IsC w ⟨k, i, op, np, cp, ok, nk, ck⟩ r) :
    Calls Tryd.prog 20 #[.agg #[.int .i64 k, .int .u64 (i : Nat), .slice op np cp, .slice ok nk ck]] w (TellsB w (encB r) (encE r)) := by
  have H : Hid (IsC w ⟨k, i, op, np, cp, ok, nk, ck⟩ r) := h
  clear h
  have hk0 : Keeps no w (w.alloc (.cells #[.int .i64 k, .int .u64 (i : Nat), .slice op np cp, .slice ok nk ck] 30)) := (Keeps.refl _ _).alloc _
  go_enter Tryd.func20, Tryd.ntmps20
  go_wp2_with fail
  refine (rMay_any _ k i op np cp ok nk ck r (H.out.keepsN hk0)).mono ?_
  rintro e w1 ⟨rfl, hk1⟩
  have HK1 : Hid (Keeps no w w1) := hk0.trans hk1
  have hb1 := hk1.at (blk_new w _) (fun h => h)
  have HB1 : Hid (w1.heap[w.heap.size]? = some (.cells #[.int .i64 k, .int .u64 (i : Nat), .slice op np cp, .slice ok nk ck] 30 (0, 0))) := hb1
  obtain ⟨x0, x1, x2, x3⟩ := cells4 hb1
  clear hb1 hk0 hk1
  generalize w.heap.size = A at HB1 x0 x1 x2 x3 ⊢
  cases hm : may r
  · have HE1 : Hid (encE r = 1 ∧ encB r = []) := encE_bad hm
    clear hm
    go_wp2_with fail
    go_ret2
    refine ⟨none, 0, 0, ?_, ?_, ?_, new_none _, HK1.out⟩
    · rw [HE1.out.1]; rfl
    · show _ = _; rw [HE1.out.2]; rfl
    · rw [HE1.out.2]; exact owns_nil _
  · have HM : Hid (may r = true) := hm
    clear hm
    go_wp2_with fail
    refine (dLong_any w1 k i op np cp ok nk ck r (H.out.keepsN HK1.out) HM.out).mono ?_
    rintro e w2 ⟨⟨n, rfl, HNN, hnb⟩, hk2⟩
    have HK2 : Hid (Keeps no w w2) := HK1.out.trans hk2
    have hb2 := hk2.at HB1.out (fun h => h)
    clear x0 x1 x2 x3 hk2
    obtain ⟨x0, x1, x2, x3⟩ := cells4 hb2
    clear hb2
    by_cases hl : 1048576 < n
    · have hl' : (n : Int) > 1048576 := by omega
      have HE1 : Hid (encE r = 3 ∧ encB r = []) := encE_long HM.out (by rw [← HNN.out]; exact hl)
      clear hl
      go_wp2_with fail
      go_ret2
      refine ⟨none, 0, 0, ?_, ?_, ?_, new_none _, HK2.out⟩
      · rw [HE1.out.1]; rfl
      · show _ = _; rw [HE1.out.2]; rfl
      · rw [HE1.out.2]; exact owns_nil _
    · have hl' : ¬ (n : Int) > 1048576 := by omega
      have HE1 : Hid (encE r = 0 ∧ encB r = enc r) := encE_ok HM.out (by rw [← HNN.out]; omega)
      have HBL : Hid ((body r).length ≤ 1048576) := by show _ ≤ _; rw [← HNN.out]; omega
      clear hl
      go_wp2_with fail
      refine (dPayload_any w2 k i op np cp ok nk ck r (H.out.keepsN HK2.out) HM.out).mono ?_
      rintro e w3 ⟨o3, n3, c3, rfl, hn3, hown3, hnew3, hk3⟩
      have HK3 : Hid (Keeps no w w3) := HK2.out.trans hk3
      have HO3 : Hid (Owns w3 o3 c3 (body r)) := hown3
      have hn3b : (n3 : Int) ≤ 1048576 := by have := hn3.out; have := HBL.out; omega
      clear hown3 hnew3 hk3
      go_wp2_with fail
      refine (dNumber_any w3 none 0 0 [] n3 4 rfl (owns_nil _) (by omega) (by omega) (by omega)).mono ?_
      rintro e w4 ⟨o4, c4, n4, rfl, hn4, hown4, hfr4, hk4⟩
      have H4 : Hid (Hs w o4 n4 c4 (num 4 n3) w4 ∧ Keeps no w3 w4 ∧ New w3 o4) := ⟨(⟨owns_nil _, rfl, new_none _, HK3.out⟩ : Hs w none 0 0 [] w3).app hn4.out hown4 hfr4 hk4, (hfr4.new hk4 (new_none w3) (Keeps.refl no w3)).2, (hfr4.new hk4 (new_none w3) (Keeps.refl no w3)).1⟩
      have HR4 : Hid (BRow w4 o3 (body r)) := (HO3.out.row (body_byt r) (by have := HBL.out; omega)).keeps H4.out.2.1 (fun _ _ h => h)
      have hn4b : (n4 : Int) ≤ 4 := by have := H4.out.1.n; rw [num_length] at this; omega
      clear hown4 hfr4 hk4 hn4
      go_wp2_with fail
      refine (dCrc_any w4 o3 n3 c3 (body r) hn3.out HR4.out).mono ?_
      rintro e wq ⟨rfl, hwq⟩
      subst wq
      have hslt := sum_body r
      obtain ⟨S, hS⟩ : ∃ S, S = Crc.sum (body r) := ⟨_, rfl⟩
      rw [← hS] at hslt ⊢
      have HS : Hid (S = Crc.sum (body r)) := hS
      clear hS
      go_wp2_with fail
      refine (dNumber_any w4 o4 n4 c4 (num 4 n3) S 4 H4.out.1.n H4.out.1.own (by omega) (by omega) (by omega)).mono ?_
      rintro e w5 ⟨o5, c5, n5, rfl, hn5, hown5, hfr5, hk5⟩
      have H5 : Hid (Hs w o5 n5 c5 (num 4 n3 ++ num 4 S) w5) := H4.out.1.app hn5.out hown5 hfr5 hk5
      have HR5 : Hid (BRow w5 o3 (body r)) := (HO3.out.row (body_byt r) (by have := HBL.out; omega)).keeps (hfr5.new hk5 H4.out.2.2 H4.out.2.1).2 (fun _ _ h => h)
      have hn5b : (n5 : Int) ≤ 8 := by have := H5.out.n; rw [List.length_append, num_length, num_length] at this; omega
      clear hown5 hfr5 hk5 hn5
      go_wp2_with (at_builtin; go_must (refine wpList_appB rfl _ _ rfl o5 n5 c5 (num 4 n3 ++ num 4 S) rfl H5.out.n H5.out.own o3 n3 c3 (body r) rfl hn3.out HO3.out.cap.2 HR5.out (by omega) ?_); intro o6 c6 w6 ho6 hfr6 hk6)
      go_ret2
      have h6 := H5.out.app (n' := n5 + n3) (by rw [List.length_append, ← H5.out.n, ← hn3.out]) ho6 hfr6 hk6
      have ee : num 4 n3 ++ num 4 S ++ body r = enc r := by unfold enc; rw [HS.out, hn3.out, List.append_assoc]
      rw [ee] at h6
      refine ⟨o6, n5 + n3, c6, ?_, ?_, ?_, h6.new, h6.kp⟩
      · rw [HE1.out.1]; rfl
      · show _ = _; rw [HE1.out.2]; exact h6.n
      · rw [HE1.out.2]; exact h6.own
end Go.Proofs.YtdalheeifgampaaDoor
