import Derived.Test.YtclheacjhkoocaaP3
import Derived.Deep.OwnRows
namespace Go.Proofs.Ytclheacjhkoocaa
open Go.RowKit
open Pk
set_option linter.unusedVariables false
set_option linter.unusedSimpArgs false

theorem row_zeros (w : World) (Z : Array Value) (n : Nat) (hz : ∀ j, j < n → Z[j]? = some (.int .u8 0)) (hn : n ≤ 9223372036854775807) : Row (w.alloc (.cells Z 5)) (some ⟨w.heap.size, 0, none⟩) (List.replicate n 0) := by
  refine ⟨by intro c hc; have := List.eq_of_mem_replicate hc; omega, by simpa using hn, .inr ⟨_, _, rfl, fun j hj => ?_⟩⟩
  rw [cell_of_blk (blk_new w _)]
  simp at hj
  rw [Nat.zero_add, hz j hj]
  simp [hj]
theorem zeros_at (n j : Nat) (hj : j < n) : (madeCells #[Value.int .u8 0] n)[j]? = some (.int .u8 0) := by
  have : j % 1 = 0 := Nat.mod_one j
  simp [madeCells, hj, this]
theorem text_size (n : Nat) : (text (List.replicate n 0)).size = n := by
  rw [← nats_length, nats_text _ (by intro c hc; have := List.eq_of_mem_replicate hc; omega), List.length_replicate]
theorem zeros_any (n : Nat) (hn : n ≤ 140737488355328) (i : Int) (hi : i = (n : Nat)) : ∃ (Z : Array Value) (S : ByteArray), (∀ w : World, (Instr.makeSlice 23 (.int .i64 i) (.int .i64 i)).run Try.prog w = .ok (.slice (some ⟨w.heap.size, 0, none⟩) n n) (w.alloc (.cells Z 5))) ∧
    (∀ w : World, (convert 23 9 (.slice (some ⟨w.heap.size, 0, none⟩) n n)).run Try.prog (w.alloc (.cells Z 5)) = .ok (.string S) (w.alloc (.cells Z 5)) ∧ True) ∧ S.size = n := by
  subst hi
  exact ⟨madeCells #[.int .u8 0] n, text (List.replicate n 0), fun w => run_make_row' (P := Try.prog) 23 5 (.int .u8 0) 1 Try.underlying23 info5 rfl .i64 .i64 n (by omega) (by omega) w, fun w => ⟨run_text _ _ (List.replicate n 0) _ _ (by rw [List.length_replicate]) (row_zeros w _ _ (fun j hj => zeros_at n j hj) (by omega)), trivial⟩, text_size n⟩

set_option maxRecDepth 100000 in
set_option maxHeartbeats 0 in
theorem packStays_any (w : World) (limit : Int) (h1 : -9223372036854775808 ≤ limit) (h2 : limit ≤ 9223372036854775807) (ob : Option Addr) (cb : Nat) (bs : List Nat) (hb : Sl w ob cb bs) (hlid : bs.length ≤ 140737488355328)
    (o : Option Addr) (cap : Nat) (ps : List OpV) (hs : Script w o ps) (o2 : Option Addr) (cap2 : Nat) (qs : List OpV) (hs2 : Script w o2 qs)
    (hall : newsLen ps ≤ 70368744177664) (hall2 : newsLen qs ≤ 70368744177664) (hbp : ∀ p ∈ ps, 4 + bodyLen (natss p.ss) ≤ 140737488355328) (hbq : ∀ p ∈ qs, 4 + bodyLen (natss p.ss) ≤ 140737488355328) :
    Calls Try.prog 4 #[.int .i64 limit, .slice ob bs.length cb, .slice o ps.length cap, .slice o2 qs.length cap2] w fun e w' => e = .returned (.bool true) ∧ Keeps (fun _ => False) w w' := by
  obtain ⟨n, hn⟩ : ∃ n, n = ps.length := ⟨_, rfl⟩
  obtain ⟨n2, hn2⟩ : ∃ n2, n2 = qs.length := ⟨_, rfl⟩
  rw [← hn, ← hn2]
  have HN : Hid (n = ps.length) := hn
  have HN2 : Hid (n2 = qs.length) := hn2
  have hn5 : n ≤ 140737488351232 := by have := hs.len; omega
  have hn25 : n2 ≤ 140737488351232 := by have := hs2.len; omega
  clear hn hn2
  have HALL : Hid (newsLen ps ≤ 70368744177664) := hall
  have HALL2 : Hid (newsLen qs ≤ 70368744177664) := hall2
  obtain ⟨nb, hnb⟩ : ∃ nb, nb = bs.length := ⟨_, rfl⟩
  rw [← hnb]
  have HNB : Hid (nb = bs.length) := hnb
  have hnb5 : nb ≤ 140737488355328 := by omega
  clear hall hall2 hnb
  go_enter Try.func4, Try.ntmps4
  go_wp2_with fail
  refine (newWriter_any limit w h1 h2).mono ?_
  rintro e w1 ⟨rfl, hW1, hk1⟩
  obtain ⟨a, ha⟩ : ∃ a, a = w.heap.size := ⟨_, rfl⟩
  rw [← ha] at hW1 ⊢
  have HA : Hid (a = w.heap.size) := ha
  clear ha
  have hb1 := hb.keeps hk1 (fun _ _ h => h)
  go_wp2_with fail
  refine (newReader_any w1 ob _ cb bs HNB.out hb1 hlid).mono ?_
  rintro e w2 ⟨b, oR, cR, rfl, hR2, hf2, hk2⟩
  have hW2 := hW1.keeps hk2 (fun _ _ h => h)
  have hal := lt_of_block hW1.blk
  go_wp2_with fail
  refine (known_any w2).mono ?_
  rintro e w3 ⟨rfl, hk3⟩
  have HT3 : Hid (Two w w3 a none 0 limit.toNat [] 0 b oR cR bs 0) := by
    refine Two.keep (wr := w2) ⟨hW2, hR2, ?_, fun x hx => Nat.le_trans hk1.size (hf2 x hx), ?_, hk1.trans hk2⟩ hk3
    · rintro x (rfl | ⟨y, h, _⟩); exact Nat.le_of_eq HA.out.symm; cases h
    · rintro x (rfl | ⟨y, h, _⟩) hx
      · have := hf2 _ hx; omega
      · cases h
  clear hk1 hk2 hk3 hW1 hW2 hR2 hb hb1 hf2 hal
  go_wp2_with fail
  go_loopw [11] (fun i wr => ∃ (k : Nat) (oa : Option Addr) (ca : Nat) (ws : List Nat) (we : Nat) (oQ : Option Addr) (cQ : Nat) (rs : List Nat) (re : Nat), k ≤ n ∧ i = .int .i64 k ∧ ws.length ≤ newsLen (ps.take k) ∧ Two w wr a oa ca limit.toNat ws we b oQ cQ rs re) (fun i _ => n - (intOf i).toNat)
  case atStart => exact ⟨0, none, 0, [], 0, oR, cR, bs, 0, by omega, rfl, by simp, HT3.out⟩
  case round =>
    obtain ⟨k, oa, ca, ws, we, oQ, cQ, rs, re, hk, rfl, hwl, hT⟩ := hrel
    clear HT3
    by_cases hlt : k < n
    · have hks : k < ps.length := by have := HN.out; omega
      have hsr := hs.keeps hT.K
      have hpok := hsr.ok _ (getD_mem ps k hks)
      have hpok0 := hs.ok _ (getD_mem ps k hks)
      have hbk := hbp _ (getD_mem ps k hks)
      rcases hsr.row with h0 | ⟨bb, off, rfl, hc⟩
      · rw [h0] at hks; simp at hks
      have hck := hc k hks
      obtain ⟨p, hp⟩ : ∃ p, p = ps.getD k op0 := ⟨_, rfl⟩
      have hns : newsLen (ps.take (k + 1)) = newsLen (ps.take k) + p.news.length := by
        rw [List.take_succ_eq_append_getElem hks, newsLen_append, hp]
        simp [newsLen, hks]
      have hnt := newsLen_take ps (k + 1)
      rw [← hp] at hpok hpok0 hbk hck
      have HNL : Hid (ws.length + p.news.length ≤ newsLen (ps.take (k + 1)) ∧ newsLen (ps.take (k + 1)) ≤ 70368744177664) := ⟨by omega, by have := HALL.out; omega⟩
      clear hns hnt hp hc hwl
      have d0 : wr.cell? ⟨bb, off + k * 6, none⟩ = some (.int .i64 p.kind) := hck 0 (by omega)
      have d1 : wr.cell? ⟨bb, off + k * 6 + 1, none⟩ = some (.int .u64 (p.v : Nat)) := hck 1 (by omega)
      have d2 : wr.cell? ⟨bb, off + k * 6 + 2, none⟩ = some (.string p.s) := hck 2 (by omega)
      have d3 : wr.cell? ⟨bb, off + k * 6 + 3, none⟩ = some (.slice p.ol p.ss.length p.cl) := hck 3 (by omega)
      have d4 : wr.cell? ⟨bb, off + k * 6 + 4, none⟩ = some (.int .i64 p.N) := hck 4 (by omega)
      have d5 : wr.cell? ⟨bb, off + k * 6 + 5, none⟩ = some (.int .i64 p.M) := hck 5 (by omega)
      clear hck
      have hTa := hT.keep (w' := wr.alloc (.cells #[.int .i64 p.kind, .int .u64 (p.v : Nat), .string p.s, .slice p.ol p.ss.length p.cl, .int .i64 p.N, .int .i64 p.M] 34)) ((Keeps.refl _ _).alloc _)
      have hpa : p.ok (wr.alloc (.cells #[.int .i64 p.kind, .int .u64 (p.v : Nat), .string p.s, .slice p.ol p.ss.length p.cl, .int .i64 p.N, .int .i64 p.M] 34)) := hpok.keeps ((Keeps.refl (fun _ => False) _).alloc _) (fun _ _ _ h => h)
      have HFL : Hid (∀ x, footW a oa x → x < wr.heap.size) := hT.W.lt
      have HFR : Hid (∀ x, footW b oQ x → x < wr.heap.size) := hT.R.lt
      have hblk := blk_new wr (.cells #[.int .i64 p.kind, .int .u64 (p.v : Nat), .string p.s, .slice p.ol p.ss.length p.cl, .int .i64 p.N, .int .i64 p.M] 34)
      go_wp2_with fail
      refine (wLen_any _ a oa ca limit.toNat ws we hTa.W).mono ?_
      rintro e w4 ⟨rfl, rfl⟩
      go_wp2_with fail
      refine (rLeft_any _ b oQ cQ rs re hTa.R).mono ?_
      rintro e w4 ⟨rfl, rfl⟩
      go_wp2_with fail
      refine (rErr_any _ b oQ cQ rs re hTa.R).mono ?_
      rintro e w4 ⟨rfl, rfl⟩
      have HAP : Hid (∀ q, inO p.ol q → p.ss ≠ [] → ¬ footW a oa q) := fun q hq h0 hf => by have := hT.fa q hf; have := hpok0.live q hq h0; omega
      have HLID : Hid ((lay limit.toNat (ws, we) p.news).1.length ≤ 140737488355328) := by
        have := lay_len limit.toNat (ws, we) p.news
        have := HNL.out
        show _ ≤ _
        simp only at *
        omega
      clear d0 d1 d2 d3 d4 d5
      go_wp2_with fail
      refine (write_any _ a oa ca limit.toNat ws we p hpa HAP.out hTa.W (.inl (by omega)) HLID.out).mono ?_
      rintro e w4 ⟨rfl, hst4⟩
      have hk4 : Keeps (footW a oa) (wr.alloc (.cells #[.int .i64 p.kind, .int .u64 (p.v : Nat), .string p.s, .slice p.ol p.ss.length p.cl, .int .i64 p.N, .int .i64 p.M] 34)) w4 := by obtain ⟨_, _, _, _, hk⟩ := hst4; exact hk
      have hblk4 := hk4.at hblk (fun hf => by have := HFL.out _ hf; omega)
      obtain ⟨oa4, ca4, hT4⟩ := hTa.write hst4
      have F1 := lay_same limit.toNat (ws, we) p.news
      have F2 := lay_grows limit.toNat (ws, we) p.news
      have F4 := lay_len limit.toNat (ws, we) p.news
      generalize lay limit.toNat (ws, we) p.news = st at hT4 F1 F2 F4
      obtain ⟨ws4, we4⟩ := st
      simp only at hT4 F1 F2 F4
      have F3 := hT4.W.fit
      have F1' : Hid (we4 ≠ 0 → ws4.length = ws.length) := fun h => by rw [F1 h]
      have HF4 : Hid (ws4.length ≤ newsLen (ps.take (k + 1))) := by have := HNL.out; show _ ≤ _; omega
      clear F1 F4 hst4 hk4 hTa hT hblk HLID
      go_wp2_with fail
      refine (wOut_any w4 a oa4 ca4 limit.toNat ws4 we4 hT4.W).mono ?_
      rintro e w5 ⟨hk5, hout⟩
      obtain ⟨oX, nX, cX, rfl⟩ : ∃ oX nX cX, e = .returned (.tuple #[.slice oX nX cX, .int .i64 (we4 : Nat)]) := by
        rcases hout with ⟨_, rfl⟩ | ⟨h0, oX, cX, rfl, _⟩
        · exact ⟨_, _, _, rfl⟩
        · exact ⟨_, _, _, by rw [h0]; rfl⟩
      have hT5 := hT4.keep hk5
      have hblk5 := hk5.at hblk4 (fun h => h)
      have g0 : w5.cell? ⟨wr.heap.size, 0, none⟩ = some (.int .i64 p.kind) := cell_of_blk hblk5 0
      have g1 : w5.cell? ⟨wr.heap.size, 1, none⟩ = some (.int .u64 (p.v : Nat)) := cell_of_blk hblk5 1
      have g2 : w5.cell? ⟨wr.heap.size, 2, none⟩ = some (.string p.s) := cell_of_blk hblk5 2
      have g3 : w5.cell? ⟨wr.heap.size, 3, none⟩ = some (.slice p.ol p.ss.length p.cl) := cell_of_blk hblk5 3
      have g4 : w5.cell? ⟨wr.heap.size, 4, none⟩ = some (.int .i64 p.N) := cell_of_blk hblk5 4
      have g5 : w5.cell? ⟨wr.heap.size, 5, none⟩ = some (.int .i64 p.M) := cell_of_blk hblk5 5
      clear hout hk5 hT4 hblk4 hblk5 hpa
      have F5 : ¬ max limit 0 < (ws4.length : Int) := by omega
      have F6 : ¬ (ws4.length : Int) < (ws.length : Nat) := by omega
      have hn1 := hpok.n1
      have hn2 := hpok.n2
      have hm1 := hpok.m1
      have hm2 := hpok.m2
      obtain ⟨E5, hE5⟩ : ∃ E5 : Prop, E5 = (we4 = 0) := ⟨_, rfl⟩
      by_cases hwe : we4 = 0
      all_goals first
        | (have hwe' : ((we4 : Nat) : Int) = 0 := (by omega); skip)
        | (have hwe' : ¬ ((we4 : Nat) : Int) = 0 := (by omega); have hE := F1'.out hwe)
      all_goals clear hwe hE5
      all_goals go_upto_region 14 with (go_at_call 17; go_must (refine (wLen_any _ a oa4 ca4 limit.toNat ws4 we4 hT5.W).mono ?_); rintro e w6 ⟨rfl, rfl⟩)
      all_goals
        go_wp2_with fail
        refine (calls_any _ b oQ cQ rs re p hn1 hn2 hm1 hm2 hT5.R).mono ?_
        rintro e w6 ⟨rfl, hst6⟩
        obtain ⟨oQ6, cQ6, hT6⟩ := hT5.read hst6
        have G := tame_rst p (rs, re)
        generalize p.rst (rs, re) = st at hT6 G
        obtain ⟨rs6, re6⟩ := st
        obtain ⟨G1, G2, G3⟩ := G
        simp only at hT6 G1 G2 G3
        have HG1 : Hid (re6 ≠ 0 → rs6.length = rs.length) := fun h => by rw [G1 h]
        have HG3 : Hid (re ≠ 0 → re6 = re) := fun h => (Prod.mk.inj (G3 h)).2
        have G4 : ¬ ((rs.length : Nat) : Int) < rs6.length := by omega
        clear G1 G3 hst6 g0 g1 g2 g3 g4 g5 hT5
      all_goals by_cases hre6 : re6 = 0
      all_goals by_cases hre : re = 0
      all_goals first
        | (have q1 : ((re6 : Nat) : Int) = 0 := (by omega); have q2 : ((re : Nat) : Int) = 0 := (by omega); skip)
        | (have q1 : ((re6 : Nat) : Int) = 0 := (by omega); have q2 : ¬ ((re : Nat) : Int) = 0 := (by omega); have q3 := HG3.out hre; skip)
        | (have q1 : ¬ ((re6 : Nat) : Int) = 0 := (by omega); have q4 := HG1.out hre6; have q2 : ((re : Nat) : Int) = 0 := (by omega); skip)
        | (have q1 : ¬ ((re6 : Nat) : Int) = 0 := (by omega); have q4 := HG1.out hre6; have q2 : ¬ ((re : Nat) : Int) = 0 := (by omega); have q3 := HG3.out hre)
      all_goals clear hre6 hre
      all_goals go_wp2_with (first
        | (go_at_call 18; go_must (refine (rLeft_any _ b oQ6 cQ6 rs6 re6 hT6.R).mono ?_); rintro e w7 ⟨rfl, rfl⟩)
        | (go_at_call 19; go_must (refine (rErr_any _ b oQ6 cQ6 rs6 re6 hT6.R).mono ?_); rintro e w7 ⟨rfl, rfl⟩))
      all_goals
        go_roundw
        case rel => exact ⟨k + 1, oa4, ca4, ws4, we4, oQ6, cQ6, rs6, re6, by omega, by go_num, HF4.out, hT6⟩
        case measure => simp [intOf]; omega
    · have HWL : Hid (ws.length ≤ 70368744177664) := by
        have := newsLen_take ps k
        have := HALL.out
        show _ ≤ _
        omega
      clear hwl
      have hfit := hT.W.fit
      have hle : ((ws.length : Nat) : Int) ≤ max limit 0 := by omega
      go_upto_region 17 with fail
      go_cut [122] from 114 to 122 (fun s wc => ∃ B : Bool, s = .bool B ∧ wc = wr ∧ (B = true → limit < 1048576))
      case first =>
        go_wp2_with (go_at_call 17; go_must (refine (wLen_any _ a oa ca limit.toNat ws we hT.W).mono ?_); rintro e w6 ⟨rfl, rfl⟩)
        go_meet
        case rel => exact ⟨_, rfl, rfl, fun h => of_decide_eq_true h⟩
      case rest =>
      obtain ⟨B, rfl, rfl, hB⟩ := hcut
      clear h1 h2
      go_upto_if 122 with fail
      go_cut [] from 123 to 126 (fun wd => ∃ oa ca ws we, Two w wd a oa ca limit.toNat ws we b oQ cQ rs re ∧ ws.length ≤ 70368746799104)
      case first =>
        cases B with
        | true =>
          have hl := hB rfl
          obtain ⟨Z, S, hmk, hZ, hS⟩ := zeros_any 1048576 (by omega) 1048576 rfl
          have hcv := (hZ wc).1
          have hkz : Keeps (fun _ => False) wc (wc.alloc (.cells Z 5)) := (Keeps.refl _ _).alloc _
          have hTz := hT.keep hkz
          have hlidS : Hid ((lay limit.toNat (ws, we) (txt (nats S))).1.length ≤ 70368746799104) := by
            have := lay_len limit.toNat (ws, we) (txt (nats S))
            have := HWL.out
            rw [txt_length, nats_length, hS] at *
            show _ ≤ _
            simp only at *
            omega
          clear hZ
          go_wp2_with fail
          refine (wText_any _ a oa ca limit.toNat ws we S (by omega) hTz.W (by have := hlidS.out; omega)).mono ?_
          rintro e w7 ⟨rfl, hst7⟩
          obtain ⟨oa7, ca7, hT7⟩ := hTz.write hst7
          go_wp2_with fail
          go_meet
          case rel => exact ⟨oa7, ca7, _, _, hT7, hlidS.out⟩
        | false =>
          go_wp2_with fail
          go_meet
          case rel => exact ⟨oa, ca, ws, we, hT, by have := HWL.out; omega⟩
      case rest =>
        obtain ⟨oa1, ca1, ws1, we1, hT1, hwl1⟩ := hcut
        clear hT hfit hle HWL
        go_wp2_with fail
        refine (rU64_any _ b oQ cQ rs re hT1.R).mono ?_
        rintro e w7 ⟨rfl, hst7⟩
        obtain ⟨oQ7, cQ7, hT7⟩ := hT1.read hst7
        generalize (rnum 8 (rs, re)).2 = st at hT7
        obtain ⟨rs7, re7⟩ := st
        simp only at hT7
        have HT7 : Hid (Two w w7 a oa1 ca1 limit.toNat ws1 we1 b oQ7 cQ7 rs7 re7) := hT7
        clear hst7 hT1 hT7
        go_wp2_with fail
        go_loopw [18] (fun i wr => ∃ (j : Nat) (oQ : Option Addr) (cQ : Nat) (rs : List Nat) (re : Nat), j ≤ 131072 ∧ i = .int .i64 j ∧ Two w wr a oa1 ca1 limit.toNat ws1 we1 b oQ cQ rs re) (fun i _ => 131072 - (intOf i).toNat)
        case atStart => exact ⟨0, oQ7, cQ7, rs7, re7, by omega, rfl, HT7.out⟩
        case round =>
          obtain ⟨j, oQ2, cQ2, rs2, re2, hj, rfl, hT2⟩ := hrel
          have HJ : Hid (j ≤ 131072) := hj
          have hjb : (j : Int) ≤ 140737488355328 := by omega
          clear HT7 hj
          go_upto_region 21 with fail
          go_cut [140] from 129 to 144 (fun s wc => ∃ B : Bool, s = .bool B ∧ wc = wr ∧ (B = true → (j : Int) < 131072))
          case first =>
            by_cases hj2 : (j : Int) < 131072
            · by_cases hre : re2 = 0
              · subst hre
                by_cases hnb : (nb : Int) < 131072
                · go_wp2_with (go_at_call 19; go_must (refine (rErr_any _ b oQ2 cQ2 rs2 0 hT2.R).mono ?_); rintro e w8 ⟨rfl, rfl⟩)
                  go_meet
                  case rel => exact ⟨_, rfl, rfl, fun _ => hj2⟩
                · go_wp2_with (go_at_call 19; go_must (refine (rErr_any _ b oQ2 cQ2 rs2 0 hT2.R).mono ?_); rintro e w8 ⟨rfl, rfl⟩)
                  go_meet
                  case rel => exact ⟨_, rfl, rfl, fun _ => hj2⟩
              · have hre' : ¬ ((re2 : Nat) : Int) = 0 := by omega
                go_wp2_with (go_at_call 19; go_must (refine (rErr_any _ b oQ2 cQ2 rs2 re2 hT2.R).mono ?_); rintro e w8 ⟨rfl, rfl⟩)
                go_meet
                case rel => exact ⟨_, rfl, rfl, fun _ => hj2⟩
            · go_wp2_with fail
              go_meet
              case rel => exact ⟨false, rfl, rfl, fun h => by cases h⟩
          case rest =>
            obtain ⟨B, rfl, rfl, hB⟩ := hcut
            cases B with
            | true =>
              have hj3 := hB rfl
              go_wp2_with fail
              refine (rU8_any _ b oQ2 cQ2 rs2 re2 hT2.R).mono ?_
              rintro e w8 ⟨rfl, hst8⟩
              obtain ⟨oQ8, cQ8, hT8⟩ := hT2.read hst8
              go_wp2_with fail
              go_roundw
              case rel => exact ⟨j + 1, oQ8, cQ8, _, _, by have := HJ.out; omega, by go_num, hT8⟩
              case measure => simp [intOf]; omega
            | false =>
              clear hB HJ hjb
              go_wp2_with fail
              refine (wLen_any _ a oa1 ca1 limit.toNat ws1 we1 hT2.W).mono ?_
              rintro e w8 ⟨rfl, rfl⟩
              go_wp2_with fail
              refine (rLeft_any _ b oQ2 cQ2 rs2 re2 hT2.R).mono ?_
              rintro e w8 ⟨rfl, rfl⟩
              go_wp2_with fail
              refine (rErr_any _ b oQ2 cQ2 rs2 re2 hT2.R).mono ?_
              rintro e w8 ⟨rfl, rfl⟩
              go_wp2_with fail
              refine (wOut_any _ a oa1 ca1 limit.toNat ws1 we1 hT2.W).mono ?_
              rintro e w9 ⟨hk9, hout⟩
              obtain ⟨oX, nX, cX, rfl⟩ : ∃ oX nX cX, e = .returned (.tuple #[.slice oX nX cX, .int .i64 (we1 : Nat)]) := by
                rcases hout with ⟨_, rfl⟩ | ⟨h0, oX, cX, rfl, _⟩
                · exact ⟨_, _, _, rfl⟩
                · exact ⟨_, _, _, by rw [h0]; rfl⟩
              have HT9 : Hid (Two w w9 a oa1 ca1 limit.toNat ws1 we1 b oQ2 cQ2 rs2 re2) := hT2.keep hk9
              clear hout hk9 hT2
              go_wp2_with fail
              go_loopw [24] (fun i wr => ∃ (q : Nat) (oa : Option Addr) (ca : Nat) (oQ : Option Addr) (cQ : Nat), q ≤ n2 ∧ i = .int .i64 q ∧ Two w wr a oa ca limit.toNat ws1 we1 b oQ cQ rs2 re2) (fun i _ => n2 - (intOf i).toNat)
              case atStart => exact ⟨0, oa1, ca1, oQ2, cQ2, by omega, rfl, HT9.out⟩
              case round =>
                obtain ⟨q, oa3, ca3, oQ3, cQ3, hq, rfl, hT3⟩ := hrel
                clear HT9
                by_cases hlt3 : q < n2
                · by_cases hwe : we1 = 0
                  · subst hwe
                    go_wp2
                    go_ret
                    exact ⟨rfl, hT3.K⟩
                  · have hwe' : ¬ ((we1 : Nat) : Int) = 0 := by omega
                    by_cases hre : re2 = 0
                    · subst hre
                      go_wp2
                      go_ret
                      exact ⟨rfl, hT3.K⟩
                    · have hre' : ¬ ((re2 : Nat) : Int) = 0 := by omega
                      have hwe2 : (((we1 : Nat) : Int) != 0) = true := by simpa using hwe
                      have hre2 : (((re2 : Nat) : Int) != 0) = true := by simpa using hre
                      have hks : q < qs.length := by have := HN2.out; omega
                      have hsr := hs2.keeps hT3.K
                      have hpok := hsr.ok _ (getD_mem qs q hks)
                      have hpok0 := hs2.ok _ (getD_mem qs q hks)
                      have hbk := hbq _ (getD_mem qs q hks)
                      have hlive : ∀ b' off', o2 = some ⟨b', off', none⟩ → b' < w.heap.size := by
                        intro b' off' e'
                        rcases hs2.row with h0 | ⟨b2, off2, e2, hc'⟩
                        · rw [h0] at hks; simp at hks
                        · rw [e'] at e2; cases e2
                          exact World.block_lt_of_cell? w _ (hc' q hks 0 (by omega))
                      rcases hsr.row with h0 | ⟨bb, off, rfl, hc⟩
                      · rw [h0] at hks; simp at hks
                      have hck := hc q hks
                      have hbl := hlive _ _ rfl
                      obtain ⟨p, hp⟩ : ∃ p, p = qs.getD q op0 := ⟨_, rfl⟩
                      rw [← hp] at hpok hpok0 hbk hck
                      clear hp hc hlive
                      have d0 : wr.cell? ⟨bb, off + q * 6, none⟩ = some (.int .i64 p.kind) := hck 0 (by omega)
                      have d1 : wr.cell? ⟨bb, off + q * 6 + 1, none⟩ = some (.int .u64 (p.v : Nat)) := hck 1 (by omega)
                      have d2 : wr.cell? ⟨bb, off + q * 6 + 2, none⟩ = some (.string p.s) := hck 2 (by omega)
                      have d3 : wr.cell? ⟨bb, off + q * 6 + 3, none⟩ = some (.slice p.ol p.ss.length p.cl) := hck 3 (by omega)
                      have d4 : wr.cell? ⟨bb, off + q * 6 + 4, none⟩ = some (.int .i64 p.N) := hck 4 (by omega)
                      have d5 : wr.cell? ⟨bb, off + q * 6 + 5, none⟩ = some (.int .i64 p.M) := hck 5 (by omega)
                      clear hck
                      have HAP : Hid (∀ x, inO p.ol x → p.ss ≠ [] → ¬ footW a oa3 x) := fun x hx h0 hf => by have := hT3.fa x hf; have := hpok0.live x hx h0; omega
                      have hlay := lay_err limit.toNat ws1 p.news we1 hwe
                      have HLAY : Hid (lay limit.toNat (ws1, we1) p.news = (ws1, we1)) := hlay
                      have hbt : ¬ footW a oa3 bb := fun hf => by have := hT3.fa bb hf; omega
                      clear hlay
                      go_wp2_with fail
                      refine (write_any _ a oa3 ca3 limit.toNat ws1 we1 p hpok HAP.out hT3.W (.inl (by omega)) (by rw [HLAY.out]; show ws1.length ≤ _; omega)).mono ?_
                      rw [HLAY.out]
                      rintro e w10 ⟨rfl, hst10⟩
                      have hk10 : Keeps (footW a oa3) wr w10 := by obtain ⟨_, _, _, _, hk⟩ := hst10; exact hk
                      obtain ⟨oa10, ca10, hT10⟩ := hT3.write hst10
                      simp only at hT10
                      have g0 := hk10.cell d0 hbt
                      have g1 := hk10.cell d1 hbt
                      have g2 := hk10.cell d2 hbt
                      have g3 := hk10.cell d3 hbt
                      have g4 := hk10.cell d4 hbt
                      have g5 := hk10.cell d5 hbt
                      have hn1 := hpok.n1
                      have hn2 := hpok.n2
                      have hm1 := hpok.m1
                      have hm2 := hpok.m2
                      have HRST : Hid (p.rst (rs2, re2) = (rs2, re2)) := (tame_rst p (rs2, re2)).2.2 hre
                      clear d0 d1 d2 d3 d4 d5 hst10 hk10 hT3
                      go_wp2_with fail
                      refine (calls_any _ b oQ3 cQ3 rs2 re2 p hn1 hn2 hm1 hm2 hT10.R).mono ?_
                      rw [HRST.out]
                      rintro e w11 ⟨rfl, hst11⟩
                      obtain ⟨oQ11, cQ11, hT11⟩ := hT10.read hst11
                      simp only at hT11
                      clear g0 g1 g2 g3 g4 g5 hst11 hT10
                      go_wp2_with fail
                      refine (wOut_any _ a oa10 ca10 limit.toNat ws1 we1 hT11.W).mono ?_
                      rintro e w12 ⟨hk12, hout⟩
                      obtain ⟨oY, nY, cY, rfl⟩ : ∃ oX nX cX, e = .returned (.tuple #[.slice oX nX cX, .int .i64 (we1 : Nat)]) := by
                        rcases hout with ⟨_, rfl⟩ | ⟨h0, oX, cX, rfl, _⟩
                        · exact ⟨_, _, _, rfl⟩
                        · exact ⟨_, _, _, by rw [h0]; rfl⟩
                      have hT12 := hT11.keep hk12
                      clear hout hk12 hT11
                      go_wp2_with fail
                      refine (wLen_any _ a oa10 ca10 limit.toNat ws1 we1 hT12.W).mono ?_
                      rintro e w13 ⟨rfl, rfl⟩
                      go_wp2_with fail
                      refine (rLeft_any _ b oQ11 cQ11 rs2 re2 hT12.R).mono ?_
                      rintro e w13 ⟨rfl, rfl⟩
                      go_wp2_with fail
                      refine (rErr_any _ b oQ11 cQ11 rs2 re2 hT12.R).mono ?_
                      rintro e w13 ⟨rfl, rfl⟩
                      have e8 : rnum 8 (rs2, re2) = (0, (rs2, re2)) := by simp [rnum, hre]
                      have e9 : rtext 9 (rs2, re2) = ([], (rs2, re2)) := by simp [rtext, hre]
                      have e10 : rtexts 9 9 (rs2, re2) = ([], (rs2, re2)) := by simp [rtexts, hre]
                      have e11 : rcount 9 (rs2, re2) = (0, (rs2, re2)) := by simp [rcount, hre]
                      have E8 : Hid (rnum 8 (rs2, re2) = (0, (rs2, re2))) := e8
                      have E9 : Hid (rtext 9 (rs2, re2) = ([], (rs2, re2))) := e9
                      have E10 : Hid (rtexts 9 9 (rs2, re2) = ([], (rs2, re2))) := e10
                      have E11 : Hid (rcount 9 (rs2, re2) = (0, (rs2, re2))) := e11
                      clear e8 e9 e10 e11
                      go_wp2_with fail
                      refine (rU64_any _ b oQ11 cQ11 rs2 re2 hT12.R).mono ?_
                      rw [E8.out]
                      rintro e w14 ⟨rfl, hst14⟩
                      obtain ⟨oQ14, cQ14, hT14⟩ := hT12.read hst14
                      simp only at hT14
                      clear hst14 hT12
                      go_wp2_with fail
                      refine (rText_any _ b oQ14 cQ14 rs2 re2 9 (by omega) (by omega) hT14.R).mono ?_
                      rw [E9.out]
                      rintro e w15 ⟨rfl, hst15⟩
                      obtain ⟨oQ15, cQ15, hT15⟩ := hT14.read hst15
                      simp only at hT15
                      rw [show text (([], (rs2, re2)) : List Nat × RS).1 = ⟨#[]⟩ from rfl]
                      clear hst15 hT14
                      go_wp2_with fail
                      refine (rTexts_any _ b oQ15 cQ15 rs2 re2 9 9 (by omega) (by omega) (by omega) (by omega) hT15.R).mono ?_
                      rw [E10.out]
                      rintro e w16 ⟨⟨oS, cS, nS, rfl, hnS, _, _, _, _⟩, hst16⟩
                      obtain rfl : nS = 0 := hnS.out
                      obtain ⟨oQ16, cQ16, hT16⟩ := hT15.read hst16
                      simp only at hT16
                      clear hst16 hT15 hnS
                      go_wp2_with fail
                      refine (rCount_any _ b oQ16 cQ16 rs2 re2 9 (by omega) (by omega) hT16.R).mono ?_
                      rw [E11.out]
                      rintro e w17 ⟨rfl, hst17⟩
                      obtain ⟨oQ17, cQ17, hT17⟩ := hT16.read hst17
                      simp only at hT17
                      clear hst17 hT16
                      go_wp2_with fail
                      go_roundw
                      case rel => exact ⟨q + 1, oa10, ca10, oQ17, cQ17, by omega, by go_num, hT17⟩
                      case measure => simp [intOf]; omega
                · go_wp2
                  go_ret
                  exact ⟨rfl, hT3.K⟩
end Go.Proofs.Ytclheacjhkoocaa
