/- RecordParses: its walk. -/
import Derived.Test.YtdalheeifgampabDoorE9
import Derived.Test.YtdalheeifgampabDoorD1
import Derived.Deep.RegionHeld3
namespace Go.Proofs.YtdalheeifgampabDoor
open Go.RowKit Go.Sort Orl Pk
set_option linter.unusedVariables false
set_option linter.unusedSimpArgs false

theorem Sl.atCE {w : World} {a : Option Addr} {c : Nat} {xs : List CV} (h : Sl CE w a c xs) {j : Nat} (hj : j < xs.length) : ∃ b off, a = some ⟨b, off, none⟩ ∧ w.cell? ⟨b, off + j * 4, none⟩ = some (.int .i64 (xs.getD j cv0).k) ∧ w.cell? ⟨b, off + j * 4 + 1, none⟩ = some (.int .u64 ((xs.getD j cv0).i : Nat)) ∧ w.cell? ⟨b, off + j * 4 + 2, none⟩ = some (.slice (xs.getD j cv0).op (xs.getD j cv0).np (xs.getD j cv0).cp) ∧ w.cell? ⟨b, off + j * 4 + 3, none⟩ = some (.slice (xs.getD j cv0).ok (xs.getD j cv0).nk (xs.getD j cv0).ck) := by
  rcases h.row with e | ⟨b, off, rfl, hc⟩
  · subst e; simp at hj
  · refine ⟨b, off, rfl, hc (j * 4) _ ?_, ?_, ?_, ?_⟩
    · have := cells_at okC cv0 xs j 0 hj (by decide)
      simpa [CE] using this
    all_goals rw [Nat.add_assoc]
    · refine hc (j * 4 + 1) _ ?_
      have := cells_at okC cv0 xs j 1 hj (by decide)
      simpa [CE] using this
    · refine hc (j * 4 + 2) _ ?_
      have := cells_at okC cv0 xs j 2 hj (by decide)
      simpa [CE] using this
    · refine hc (j * 4 + 3) _ ?_
      have := cells_at okC cv0 xs j 3 hj (by decide)
      simpa [CE] using this
theorem Owns.bslE {w : World} {o : Option Addr} {c : Nat} {bs : List Nat} (h : Owns w o c bs) (hb : ∀ x ∈ bs, x < 256) (hl : bs.length ≤ 9223372036854775807) : BSl w o c bs := ⟨h.row hb hl, h.cap.1, h.cap.2⟩
theorem owns_some {w : World} {o : Option Addr} {c : Nat} {X : List Nat} (h : Owns w o c X) (hX : X ≠ []) : ∃ g, o = some ⟨g, 0, none⟩ ∧ ∃ cur, w.heap[g]? = some (.cells cur 5 (0, 0)) ∧ X.length ≤ cur.size := by
  rcases h.shape with ⟨_, _, e⟩ | ⟨g, cur, e, hg, h1, h2, h3, _⟩
  · exact absurd e hX
  · exact ⟨g, e, cur, hg, by omega⟩
theorem Scn.keeps {S : Nat → Prop} {w w' w'' : World} {o : Option Addr} {c : Nat} {vs : List CV} {rs : List Rec} (h : Scn w w' o c vs rs) (hk : Keeps S w' w'') (hS : ∀ j, S j → j < w.heap.size) : Scn w w'' o c vs rs :=
  ⟨h.own.keeps hk (fun j hj hs => by have := h.new j hj; have := hS j hs; omega), h.new, h.len, fun j hj => (h.each j hj).keeps hk hS, h.sep⟩

set_option maxRecDepth 20000 in
set_option maxHeartbeats 4000000 in
theorem recordParses_any (w : World) (o : Option Addr) (n c : Nat) (b : List Nat) (hn : n = b.length) (hnb : (n : Int) ≤ 1048576) (hs : BSl w o c b) (ht : TabIn w) :
    Calls Tryd.prog 3 #[.slice o n c] w fun e w' => e = .returned (.bool true) ∧ Keeps no w w' := by
  have HN : Hid (n = b.length) := hn
  have HBY : Hid (∀ c ∈ b, c < 256) := hs.row.1
  have HS : Hid (∀ w', Keeps no w w' → BSl w' o c b) := fun w' hk => hs.keeps hk (fun _ _ h => h)
  have HXB : Hid (∀ x ∈ b ++ [165, 166], x < 256) := by
    intro x hx
    rcases List.mem_append.1 hx with h | h
    · exact HBY.out x h
    · simp at h; omega
  have HXL : Hid (n + 2 = (b ++ [165, 166]).length) := by show _ = _; rw [List.length_append, ← HN.out]; rfl
  have HXT : Hid ((b ++ [165, 166]).take n = b) := by show _ = _; rw [HN.out, List.take_left]
  clear hn hs
  go_enter Tryd.func3, Tryd.ntmps3
  go_wp2_with fail
  refine (alive_any _ ht).mono ?_
  rintro e w1 ⟨rfl, hk1⟩
  have HK1 : Hid (Keeps no w w1) := hk1
  clear hk1
  go_wp2_with fail
  refine (own_any w1 o n c b HN.out (by omega) (HS.out _ HK1.out)).mono ?_
  rintro e w2 ⟨o2, n2, c2, rfl, hn2, hown2, hnew2, hk2⟩
  have hn2n : n2 = n := by rw [hn2.out, ← HN.out]
  subst n2
  have H2 : Hid (Hs w1 o2 n c2 b w2) := ⟨hown2, HN.out, hnew2, hk2⟩
  have HLT2 : Hid (BRow (w2.alloc (.cells #[.int .u8 165, .int .u8 166] 5)) (some ⟨w2.heap.size, 0, none⟩) [165, 166]) := row_lit w2 [165, 166] (by intro x hx; simp at hx; omega) (by simp)
  have HK2 : Hid (Keeps no w2 (w2.alloc (.cells #[.int .u8 165, .int .u8 166] 5))) := (Keeps.refl _ _).alloc _
  clear hown2 hnew2 hk2
  go_wp2_with (at_builtin; go_must (refine wpList_appB rfl _ _ rfl o2 n c2 b rfl HN.out (H2.out.own.keeps HK2.out (fun _ _ h => h)) _ 2 2 [165, 166] rfl rfl (fun e => by cases e) HLT2.out (by omega) ?_); intro o3 c3 w3 ho hfr hk; have H3 : Hid (Hs w1 o3 (n + 2) c3 (b ++ [165, 166]) w3) := (⟨ho, HXL.out, (hfr.new hk H2.out.new (H2.out.kp.trans HK2.out)).1, (hfr.new hk H2.out.new (H2.out.kp.trans HK2.out)).2⟩ : Hs w1 o3 (n + 2) c3 (b ++ [165, 166]) w3); obtain ⟨g, rfl, hg⟩ := owns_some ho (by simp); have HG3 : Hid (∃ cur, w3.heap[g]? = some (.cells cur 5 (0, 0)) ∧ (b ++ [165, 166]).length ≤ cur.size) := hg; have HCT : Hid _ := cut_hk .i64 w3 (some ⟨g, 0, none⟩) c3 (b ++ [165, 166]) (n + 2) n HXL.out (by omega) (ho.bslE HXB.out (by have := HXL.out; omega)); have hct := HCT.out.1; clear ho hfr hk hg)
  have HS3 : Hid (BSl w3 (some ⟨g, 0, none⟩) c3 b) := by have := HCT.out.2; rw [HXT.out] at this; exact this
  have HK3 : Hid (Keeps no w w3) := HK1.out.trans H3.out.kp
  have HGW : Hid (w.heap.size ≤ g ∧ g < w3.heap.size) := ⟨by have h1 := H3.out.new g ⟨_, rfl, rfl⟩; have := HK1.out.size; omega, by obtain ⟨cur, h, _⟩ := HG3.out; exact lt_of_block h⟩
  refine (Parse_any w3 (some ⟨g, 0, none⟩) n c3 b HN.out (by omega) HS3.out (ht.keepsN HK3.out)).mono ?_
  rintro e w4 ⟨k, i, op, np, cp, ok, nk, ck, M, E, rfl, HP, hM, hE, hk4⟩
  have HK4 : Hid (Keeps no w3 (w4.alloc (.cells #[.int .i64 k, .int .u64 (i : Nat), .slice op np cp, .slice ok nk ck] 30))) := hk4.alloc _
  have HR4 : Hid (Got w3 (w4.alloc (.cells #[.int .i64 k, .int .u64 (i : Nat), .slice op np cp, .slice ok nk ck] 30)) ⟨k, i, op, np, cp, ok, nk, ck⟩ (parse b).1) := HP.out.1.keepsN ((Keeps.refl _ _).alloc _)
  have HB4 : Hid ((w4.alloc (.cells #[.int .i64 k, .int .u64 (i : Nat), .slice op np cp, .slice ok nk ck] 30)).heap[w4.heap.size]? = some (.cells #[.int .i64 k, .int .u64 (i : Nat), .slice op np cp, .slice ok nk ck] 30 (0, 0))) := blk_new w4 _
  have HZ4 : Hid (w3.heap.size ≤ w4.heap.size) := hk4.size
  have HME : Hid (M = (parse b).2.1 ∧ E = (parse b).2.2) := HP.out.2
  clear hk4 HP
  go_wp2_with fail
  obtain ⟨X, hX⟩ : ∃ X, X = w4.heap.size := ⟨_, rfl⟩
  rw [← hX] at HB4 HZ4 ⊢
  generalize w4.alloc (.cells #[.int .i64 k, .int .u64 (i : Nat), .slice op np cp, .slice ok nk ck] 30) = V4 at HK4 HR4 HB4 ⊢
  clear hX hct
  refine (Scan_any V4 (some ⟨g, 0, none⟩) n c3 b HN.out (by omega) (HS3.out.keeps HK4.out (fun _ _ h => h)) (ht.keepsN (HK3.out.trans HK4.out))).mono ?_
  rintro e w5 ⟨ol, nl, cl, at5, vs, rs, rfl, HSC, hnl, hat5, hk5⟩
  have HK5 : Hid (Keeps no V4 w5) := hk5
  clear hk5
  go_wp2_with fail
  refine (own_any w5 o n c b HN.out (by omega) (HS.out _ ((HK3.out.trans HK4.out).trans HK5.out))).mono ?_
  rintro e w6 ⟨o6, n6, c6, rfl, hn6, hown6, hnew6, hk6⟩
  have hn6n : n6 = n := by rw [hn6.out, ← HN.out]
  subst n6
  have H6 : Hid (Hs w5 o6 n c6 b w6) := ⟨hown6, HN.out, hnew6, hk6⟩
  have HLT6 : Hid (BRow (w6.alloc (.cells #[.int .u8 165, .int .u8 166] 5)) (some ⟨w6.heap.size, 0, none⟩) [165, 166]) := row_lit w6 [165, 166] (by intro x hx; simp at hx; omega) (by simp)
  have HK6 : Hid (Keeps no w6 (w6.alloc (.cells #[.int .u8 165, .int .u8 166] 5))) := (Keeps.refl _ _).alloc _
  clear hown6 hnew6 hk6
  go_wp2_with (at_builtin; go_must (refine wpList_appB rfl _ _ rfl o6 n c6 b rfl HN.out (H6.out.own.keeps HK6.out (fun _ _ h => h)) _ 2 2 [165, 166] rfl rfl (fun e => by cases e) HLT6.out (by omega) ?_); intro o7 c7 w7 ho hfr hk; have H7 : Hid (Hs w5 o7 (n + 2) c7 (b ++ [165, 166]) w7) := (⟨ho, HXL.out, (hfr.new hk H6.out.new (H6.out.kp.trans HK6.out)).1, (hfr.new hk H6.out.new (H6.out.kp.trans HK6.out)).2⟩ : Hs w5 o7 (n + 2) c7 (b ++ [165, 166]) w7); clear ho hfr hk)
  have HK7 : Hid (Keeps no V4 w7) := HK5.out.trans H7.out.kp
  have HFUL : Hid (BRow w7 (some ⟨g, 0, none⟩) (b ++ [165, 166])) := (H3.out.own.row HXB.out (by have := HXL.out; omega)).keeps (HK4.out.trans HK7.out) (fun _ _ h => h)
  refine (same_bytes w7 (some ⟨g, 0, none⟩) (n + 2) c3 o7 (n + 2) c7 (b ++ [165, 166]) (b ++ [165, 166]) HXL.out HXL.out HFUL.out (H7.out.own.row HXB.out (by have := HXL.out; omega))).mono ?_
  rw [decide_eq_true rfl]
  rintro e w' ⟨rfl, hw'⟩
  subst w'
  have HG7 : Hid (∃ cur, w7.heap[g]? = some (.cells cur 5 (0, 0)) ∧ n + 2 ≤ cur.size) := by obtain ⟨cur, h1, h2⟩ := HG3.out; exact ⟨cur, (HK4.out.trans HK7.out).at h1 (fun h => h), by rw [HXL.out]; exact h2⟩
  go_upto_block 0 with fail
  go_cut [10] from 46 to 54 (fun _ wc => Keeps (eqA g) w7 wc)
  case first =>
    go_wp2_with fail
    go_loopw [10] (fun j wr => ∃ q : Nat, j = .int .i64 (q : Nat) ∧ q ≤ n + 2 ∧ Hid ((∃ cur, wr.heap[g]? = some (.cells cur 5 (0, 0)) ∧ n + 2 ≤ cur.size) ∧ Keeps (eqA g) w7 wr)) (fun j _ => n + 2 - (intOf j).toNat)
    case atStart => exact ⟨0, rfl, by omega, HG7.out, Keeps.refl _ _⟩
    case round =>
      rename World => wq
      obtain ⟨q, rfl, hq, HQ⟩ := hrel
      by_cases hqn : q < n + 2
      · have hqn' : (q : Int) < (n : Int) + 2 := by omega
        obtain ⟨⟨cur, hc1, hc2⟩, hc3⟩ := HQ.out
        have hcl := cell_of_blk hc1 q
        rw [Array.getElem?_eq_getElem (by omega)] at hcl
        generalize cur[q]'(by omega) = z at hcl
        have fz := frozen_of_blk hc1 q
        have HQ2 : Hid ((∃ cur, (wq.setCell ⟨g, q, none⟩ (.int .u8 238)).heap[g]? = some (.cells cur 5 (0, 0)) ∧ n + 2 ≤ cur.size) ∧ Keeps (eqA g) w7 (wq.setCell ⟨g, q, none⟩ (.int .u8 238))) := ⟨⟨_, blk_set hc1 q _, by simpa using hc2⟩, hc3.setA q _⟩
        clear hc1 hc2 hc3
        go_wp2_with fail
        go_roundw
        case rel => exact ⟨q + 1, by go_num, by omega, HQ2⟩
        case measure => simp [intOf]; omega
      · have hqn' : ¬ (q : Int) < (n : Int) + 2 := by omega
        go_wp2_with fail
        go_meet
        case rel => exact HQ.out.2
  case rest =>
  rename World => w8
  have HK8 : Hid (Keeps (eqA g) w7 w8) := hcut
  clear hcut
  have HKW8 : Hid (Keeps no w w8) := (HK3.out.trans (HK4.out.trans HK7.out)).then HK8.out (fun j hj => .inr (by unfold eqA at hj; have := HGW.out; omega))
  have HGV : Hid (g < V4.heap.size) := by have := HGW.out; have := HK4.out.size; show _ < _; omega
  have HR8 : Hid (Got w3 w8 ⟨k, i, op, np, cp, ok, nk, ck⟩ (parse b).1) := (HR4.out.keepsN HK7.out).keeps HK8.out (fun j hj => by unfold eqA at hj; have := HGW.out; omega)
  have HSC8 : Hid (Scn V4 w8 ol cl vs rs) := (HSC.out.1.keepsN H7.out.kp).keeps HK8.out (fun j hj => by unfold eqA at hj; have := HGV.out; omega)
  have HB8 : Hid (w8.heap[X]? = some (.cells #[.int .i64 k, .int .u64 (i : Nat), .slice op np cp, .slice ok nk ck] 30 (0, 0))) := HK8.out.at (HK7.out.at HB4.out (fun h => h)) (by unfold eqA; have := HGW.out; have := HZ4.out; omega)
  clear HR4 HB4 HG7 HFUL H7 HG3 H3 H2 H6 HLT2 HLT6 HK2 HK6
  go_wp2_with fail
  refine (dParse_any w8 o n c b HN.out (by omega) (HS.out _ HKW8.out)).mono ?_
  rintro e w9 ⟨k', i', op', np', cp', ok', nk', ck', M', E', rfl, HP, hM', hE', hk9⟩
  have hMM : M' = M := by rw [HP.out.2.1, ← HME.out.1]
  have hEE : E' = E := by rw [HP.out.2.2, ← HME.out.2]
  subst M' E'
  have HK9 : Hid (Keeps no w8 (w9.alloc (.cells #[.int .i64 k', .int .u64 (i' : Nat), .slice op' np' cp', .slice ok' nk' ck'] 30))) := hk9.alloc _
  have HR9 : Hid (Got w8 (w9.alloc (.cells #[.int .i64 k', .int .u64 (i' : Nat), .slice op' np' cp', .slice ok' nk' ck'] 30)) ⟨k', i', op', np', cp', ok', nk', ck'⟩ (parse b).1) := HP.out.1.keepsN ((Keeps.refl _ _).alloc _)
  have HB9 : Hid ((w9.alloc (.cells #[.int .i64 k', .int .u64 (i' : Nat), .slice op' np' cp', .slice ok' nk' ck'] 30)).heap[w9.heap.size]? = some (.cells #[.int .i64 k', .int .u64 (i' : Nat), .slice op' np' cp', .slice ok' nk' ck'] 30 (0, 0))) := blk_new w9 _
  clear hk9 HP hM' hE'
  go_wp2_with fail
  obtain ⟨Y, hY⟩ : ∃ Y, Y = w9.heap.size := ⟨_, rfl⟩
  rw [← hY] at HB9 ⊢
  generalize w9.alloc (.cells #[.int .i64 k', .int .u64 (i' : Nat), .slice op' np' cp', .slice ok' nk' ck'] 30) = V9 at HK9 HR9 HB9 ⊢
  clear hY
  refine (dScan_any V9 o n c b HN.out (by omega) (HS.out _ (HKW8.out.trans HK9.out))).mono ?_
  rintro e w10 ⟨ol', nl', cl', at6, vs', rs', rfl, HSD, hnl', hat6, hk10⟩
  obtain ⟨hrs, htt⟩ := HSC.out.2.2.1.one (e := 0) (e' := 0) HSD.out.2.2.1 HSC.out.2.2.2 HSD.out.2.2.2
  subst hrs htt
  have hnn : nl' = nl := by rw [HSD.out.2.1, HSC.out.2.1]
  subst hnn
  have HK10 : Hid (Keeps no V9 w10) := hk10
  have HSD10 : Hid (Scn V9 w10 ol' cl' vs' rs ∧ Scn V4 w10 ol cl vs rs ∧ vs'.length = nl' ∧ vs.length = nl' ∧ rs.length = nl') := ⟨HSD.out.1, HSC8.out.keepsN (HK9.out.trans hk10), by rw [HSD.out.1.len]; exact HSD.out.2.1.symm, by rw [HSC.out.1.len]; exact HSC.out.2.1.symm, HSC.out.2.1.symm⟩
  have HC1 : Hid (IsC w10 ⟨k, i, op, np, cp, ok, nk, ck⟩ (parse b).1) := (HR8.out.keepsN (HK9.out.trans hk10)).isC
  have HC2 : Hid (IsC w10 ⟨k', i', op', np', cp', ok', nk', ck'⟩ (parse b).1) := (HR9.out.keepsN hk10).isC
  have HKW : Hid (Keeps no w w10) := (HKW8.out.trans HK9.out).trans hk10
  obtain ⟨x0, x1, x2, x3⟩ := cells4 (hk10.at (HK9.out.at HB8.out (fun h => h)) (fun h => h))
  obtain ⟨y0, y1, y2, y3⟩ := cells4 (hk10.at HB9.out (fun h => h))
  clear hk10 HSD HSC HSC8 HR8 HR9 HB8 HB9
  go_wp2_with fail
  refine (sameR_any w10 k i op np cp ok nk ck _ HC1.out k' i' op' np' cp' ok' nk' ck' _ HC2.out).mono ?_
  rintro e w11 ⟨⟨B1, rfl, hB1⟩, hk11⟩
  have hB1t : B1 = true := hB1.out.2 rfl
  subst hB1t
  have HK11 : Hid (Keeps no w10 w11) := hk11
  clear hk11 hB1 x0 x1 x2 x3 y0 y1 y2 y3
  go_wp2_with fail
  go_loopw [16] (fun j wr => ∃ J : Nat, j = .int .i64 (J : Nat) ∧ J ≤ nl' ∧ Hid (Keeps no w10 wr)) (fun j _ => nl' - (intOf j).toNat)
  case atStart => exact ⟨0, rfl, by omega, HK11⟩
  case round =>
    rename World => wq
    clear HK11
    obtain ⟨J, rfl, hJ, HKJ⟩ := hrel
    by_cases hJn : J < nl'
    · have hJn' : (J : Int) < nl' := by omega
      obtain ⟨b1, off1, rfl, d0, d1, d2, d3⟩ := (HSD10.out.2.1.own.sl.keepsN HKJ.out).atCE (j := J) (by have := HSD10.out; omega)
      obtain ⟨b2, off2, rfl, g0, g1, g2, g3⟩ := (HSD10.out.1.own.sl.keepsN HKJ.out).atCE (j := J) (by have := HSD10.out; omega)
      have HC1 : Hid (IsC wq (vs.getD J cv0) (rs.getD J c0)) := ((HSD10.out.2.1.each J (by have := HSD10.out; omega)).keepsN HKJ.out).isC
      have HC2 : Hid (IsC wq (vs'.getD J cv0) (rs.getD J c0)) := ((HSD10.out.1.each J (by have := HSD10.out; omega)).keepsN HKJ.out).isC
      generalize vs.getD J cv0 = v1 at d0 d1 d2 d3 HC1
      generalize vs'.getD J cv0 = v2 at g0 g1 g2 g3 HC2
      generalize rs.getD J c0 = rr at HC1 HC2
      obtain ⟨k1, i1, op1, np1, cp1, ok1, nk1, ck1⟩ := v1
      obtain ⟨k2, i2, op2, np2, cp2, ok2, nk2, ck2⟩ := v2
      simp only at d0 d1 d2 d3 g0 g1 g2 g3
      go_wp2_with fail
      go_region_held3 (fun w' => w'.cell? ⟨b1, off1 + J * 4, none⟩ = some (.int .i64 k1) ∧ w'.cell? ⟨b1, off1 + J * 4 + 1, none⟩ = some (.int .u64 (i1 : Nat)) ∧ w'.cell? ⟨b1, off1 + J * 4 + 2, none⟩ = some (.slice op1 np1 cp1) ∧ w'.cell? ⟨b1, off1 + J * 4 + 3, none⟩ = some (.slice ok1 nk1 ck1) ∧ w'.cell? ⟨b2, off2 + J * 4, none⟩ = some (.int .i64 k2) ∧ w'.cell? ⟨b2, off2 + J * 4 + 1, none⟩ = some (.int .u64 (i2 : Nat)) ∧ w'.cell? ⟨b2, off2 + J * 4 + 2, none⟩ = some (.slice op2 np2 cp2) ∧ w'.cell? ⟨b2, off2 + J * 4 + 3, none⟩ = some (.slice ok2 nk2 ck2)) (go_keep) ((go_at_call 11; refine (sameR_any _ k1 i1 op1 np1 cp1 ok1 nk1 ck1 rr (HC1.out.keepsN (Keeps.refl no wq).drew) k2 i2 op2 np2 cp2 ok2 nk2 ck2 rr (HC2.out.keepsN (Keeps.refl no wq).drew)).mono ?_; rintro e w9 ⟨⟨B1, rfl, hB1⟩, hk9⟩; have hB1t : B1 = true := hB1.out.2 rfl; subst hB1t; have HK9 : Hid (Keeps no wq w9) := (Keeps.refl no wq).drew.trans hk9; have d0' := HK9.out.cellN d0; have d1' := HK9.out.cellN d1; have d2' := HK9.out.cellN d2; have d3' := HK9.out.cellN d3; have g0' := HK9.out.cellN g0; have g1' := HK9.out.cellN g1; have g2' := HK9.out.cellN g2; have g3' := HK9.out.cellN g3; clear hB1 hk9))
      go_wp2_with fail
      go_roundw
      case rel => exact ⟨J + 1, by go_num, by omega, HKJ.out.trans HK9.out⟩
      case measure => simp [intOf]; omega
    · have hJn' : ¬ (J : Int) < nl' := by omega
      go_wp2_with fail
      go_ret
      exact ⟨rfl, HKW.out.trans HKJ.out⟩
end Go.Proofs.YtdalheeifgampabDoor
