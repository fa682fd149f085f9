/- The document's Mend. -/
import Derived.Test.YtodblodbeobgeaaD4
namespace Go.Proofs.Ytodblodbeobgeaa
open Go.RowKit Go.Sort Orl
set_option linter.unusedVariables false
set_option linter.unusedSimpArgs false

/-- the version that is held in a cell of the call's own -/
def HeldV (w : World) (B : Nat) (v : Ver) (wr wi : World) : Prop := ∃ r : RV, wi.heap[B]? = some (.cells #[.string r.key, .int .u64 (r.id : Nat), .string r.val, .slice r.o r.n r.c] 32 (0, 0)) ∧ (∀ X, Keeps no w X → VerOf X r v) ∧ Keeps no wr wi
set_option maxRecDepth 10000 in
set_option maxHeartbeats 1000000 in
theorem dMend_any (w : World) (o : Option Addr) (n c : Nat) (rs : List RV) (vs : List Ver) (og : Option Addr) (ng cg : Nat) (rg : List RV) (gs : List Ver) (hn : n = vs.length) (hng : ng = gs.length) (hf : FitL vs) (hfg : FitL gs) (hv : Vers w o c rs vs) (hg : Vers w og cg rg gs) :
    Calls Try.prog 24 #[.slice o n c, .slice og ng cg] w fun e w' => ∃ u, e = .returned u ∧ MendTo w vs gs u w' := by
  have HN : Hid (n = vs.length ∧ ng = gs.length) := ⟨hn, hng⟩
  have hA : (n : Int) ≤ 2199023255500 := by have := hf.len; omega
  have hG : (ng : Int) ≤ 2199023255500 := by have := hfg.len; omega
  have HF : Hid (FitL vs ∧ FitL gs) := ⟨hf, hfg⟩
  have HV : Hid (Vers w o c rs vs ∧ Vers w og cg rg gs) := ⟨hv, hg⟩
  have HND : Hid (Calls Try.prog 16 #[.slice o n c] w fun e w' => ∃ u, e = .returned u ∧ NeedTo w vs u w') := dNeeds_any w o n c rs vs hn hf hv
  clear hn hng hf hfg hv hg
  go_enter Try.func24, Try.ntmps24
  go_wp2_with fail
  refine Calls.mono HND.out ?_
  rintro e w1 ⟨u, rfl, hu⟩
  clear HND
  rcases hu with ⟨hfb, rfl, hk⟩ | ⟨hfb, ow, nw, cw, rfl, hnw, how, hnew, hk⟩
  · have HK1 : Hid (Keeps no w w1 ∧ formedB vs = false) := ⟨hk, hfb⟩
    clear hk hfb
    go_wp2_with fail
    go_ret2
    exact ⟨_, rfl, .inl ⟨HK1.out.2, rfl, HK1.out.1⟩⟩
  · have HK1 : Hid (Keeps no w w1 ∧ formedB vs = true ∧ nw = (needsV vs).length ∧ Own WE w1 ow cw (needsV vs) ∧ (needsV vs).length ≤ 1024) := ⟨hk, hfb, hnw, how, Nat.le_trans (needs_len vs) ((formedB_iff vs).1 hfb).most⟩
    clear hk hfb hnw how hnew
    go_wp2_with fail
    go_loopw [8, 9] (fun s8 s9 wr => ∃ (i : Nat) (u : Value), i ≤ n ∧ s9 = .int .i64 i ∧ s8 = u ∧ Hid (∃ m o n c rs, mendTo vs gs i = some m ∧ u = .slice o n c ∧ n = i ∧ NewVs w1 o c rs m wr)) (fun _ s9 _ => n - (intOf s9).toNat)
    case atStart => exact ⟨0, _, by omega, rfl, rfl, [], none, 0, 0, [], rfl, rfl, rfl, NewVs.nil _⟩
    case round =>
      rename World => wr
      obtain ⟨i, u, hi, rfl, rfl, HL⟩ := hrel
      obtain ⟨m, oo, no', co, ro, hm, rfl, hno, hnv⟩ := HL.out
      have HO : Hid (mendTo vs gs i = some m ∧ no' = i ∧ NewVs w1 oo co ro m wr ∧ m.length = i) := ⟨hm, hno, hnv, by
        have := mapM_length _ _ hm; rw [this, List.length_take]; have := HN.out.1; omega⟩
      clear HL hm hno hnv
      by_cases hlt : i < n
      · have hlt' : (i : Int) < n := by omega
        have hil : i < vs.length := by have := HN.out.1; omega
        have HKR : Hid (Keeps no w wr) := HK1.out.1.trans HO.out.2.2.1.kp
        obtain ⟨b, off, hob, d0, d1, d2, d3⟩ := (HV.out.1.keepsN HKR.out).sl.atV (j := i) (by rw [HV.out.1.len]; exact hil)
        subst hob
        have HY0 : Hid (∀ X, Keeps no w X → VerOf X (rs.getD i r0) (vs.getD i v0)) := fun X hX => (HV.out.1.keepsN hX).each i hil
        have HYM : Hid (vs.getD i v0 ∈ vs ∧ (rs.getD i r0).key = (vs.getD i v0).key ∧ mendTo vs gs (i + 1) = ((vs.take i) ++ [vs.getD i v0]).mapM (placeV vs gs) ∧ FitV (vs.getD i v0)) := ⟨getD_mem_lt v0 hil, ((HV.out.1).each i hil).key, by unfold mendTo; rw [take_succ_getD vs i v0 hil], HF.out.1.at hil⟩
        have hwt := wanted_any wr ow nw cw (needsV vs) (rs.getD i r0).key HK1.out.2.2.1 HK1.out.2.2.2.2 (HK1.out.2.2.2.1.keepsN HO.out.2.2.1.kp).sl
        have HWT : Hid (Calls Try.prog 37 #[.slice ow nw cw, .string (rs.getD i r0).key] wr fun e w' => e = .returned (.int .u64 (wantedV (needsV vs) (rs.getD i r0).key : Nat)) ∧ w' = wr) := hwt
        clear hwt
        have HPC : Hid (placeV vs gs (vs.getD i v0) = if fndB (wantedV (needsV vs) (vs.getD i v0).key) (vs.getD i v0) gs 0 = true then some (curV (wantedV (needsV vs) (vs.getD i v0).key) (vs.getD i v0) gs 0) else none) := place_cur ((formedB_iff vs).1 HK1.out.2.1) HYM.out.1
        rw [HYM.out.2.1] at HWT
        generalize rs.getD i r0 = r at d0 d1 d2 d3 HY0 HYM HWT
        generalize vs.getD i v0 = y at HY0 HYM HWT HPC
        have hrk := HYM.out.2.1
        obtain ⟨rk, ri, rv, ro1, rn, rc⟩ := r
        simp only at d0 d1 d2 d3 hrk
        have HYQ : Hid (y ∈ vs ∧ mendTo vs gs (i + 1) = ((vs.take i) ++ [y]).mapM (placeV vs gs) ∧ FitV y) := ⟨HYM.out.1, HYM.out.2.2.1, HYM.out.2.2.2⟩
        clear HYM
        rw [← hrk] at HWT HPC
        have HRK : Hid (rk = y.key) := hrk
        clear hrk
        have HWB : Hid (wantedV (needsV vs) rk < 18446744073709551616) := by
          show _ < _
          rw [HRK.out, needs_nodup ((formedB_iff vs).1 HK1.out.2.1) HYQ.out.1]
          split
          · rename_i h
            rcases most_at vs y with e | ⟨x, hx, _, e⟩
            · rw [e]; exact HYQ.out.2.2.id
            · rw [← e]; exact (HF.out.1.each x hx).id
          · omega
        generalize wantedV (needsV vs) rk = I at HWT HPC HWB
        have hI64 : I < 18446744073709551616 := HWB.out
        have HOW : Hid (∀ (wi : World), Keeps no wr wi → ∀ (r : RV) {v : Ver}, FitV v ∧ VerOf wi r v → Calls Try.prog 38 #[.agg #[.string r.key, .int .u64 (r.id : Nat), .string r.val, .slice r.o r.n r.c]] wi fun e w' => ∃ u, e = .returned u ∧ GiveV wi v u w') := fun wi _ r v h => dOwn_any wi r v h.1 h.2
        by_cases hI0 : I = 0
        · subst hI0
          have HMN : Hid (mendTo vs gs (i + 1) = some (m ++ [y])) := by
            show _ = _
            rw [HYQ.out.2.1]
            refine mapM_snoc _ _ _ HO.out.1 ?_
            rw [HPC.out]; rfl
          go_wp2_with fail
          refine Calls.mono HWT.out ?_
          rintro e wq ⟨rfl, hwq⟩
          subst wq
          clear HWT
          have hbk := blk_new wr (.cells #[.string rk, .int .u64 (ri : Nat), .string rv, .slice ro1 rn rc] 32)
          have hk3 : Keeps no wr (wr.alloc (.cells #[.string rk, .int .u64 (ri : Nat), .string rv, .slice ro1 rn rc] 32)) := (Keeps.refl _ _).alloc _
          have HB3 : Hid (Keeps no wr (wr.alloc (.cells #[.string rk, .int .u64 (ri : Nat), .string rv, .slice ro1 rn rc] 32)) ∧ (wr.alloc (.cells #[.string rk, .int .u64 (ri : Nat), .string rv, .slice ro1 rn rc] 32)).heap[wr.heap.size]? = some (.cells #[.string rk, .int .u64 (ri : Nat), .string rv, .slice ro1 rn rc] 32 (0, 0))) := ⟨hk3, hbk⟩
          clear hbk hk3
          go_wp2_with fail
          clear d0 d1 d2 d3
          generalize wr.alloc (.cells #[.string rk, .int .u64 (ri : Nat), .string rv, .slice ro1 rn rc] 32) = w3 at HB3 ⊢
          generalize wr.heap.size = B at HB3 ⊢
          go_loopw [12, 13] (fun s12 s13 wi => ∃ (j : Nat), j ≤ ng ∧ s13 = .int .i64 ((j : Int) - 1) ∧ s12 = .bool true ∧ Hid (Keeps no w3 wi)) (fun _ s13 _ => ((intOf s13) + 1).toNat)
          case atStart => exact ⟨ng, by omega, rfl, rfl, Keeps.refl _ _⟩
          case round =>
            rename World => wi
            obtain ⟨j, hj, rfl, rfl, HKI⟩ := hrel
            cases j with
            | succ k =>
              have e1 : ((k + 1 : Nat) : Int) - 1 = (k : Int) := by omega
              rw [e1]
              have hk' : (k : Int) < ng := by omega
              clear e1
              go_wp2_with fail
              refine wp_region_quiet_below (by kernel_rfl) (by kernel_rfl) ?_
              repeat (go_big_quiet_step (fail))
              refine wpQuiet_nil ?_
              intro _ hw'
              obtain ⟨⟨dq, osq⟩, rfl⟩ := hw'
              have K2 : Hid (Keeps no wi (Sort.grow (redrawn wi dq) osq)) := keeps_grown ..
              generalize Sort.grow (redrawn wi dq) osq = u1 at K2 ⊢
              clear hk'
              go_wp2_with fail
              go_roundw
              case rel => exact ⟨k, by omega, by go_num, rfl, HKI.out.trans K2.out⟩
              case measure => first | (simp [intOf]; done) | (simp [intOf]; omega)
            | zero =>
              have e1 : ((0 : Nat) : Int) - 1 = -1 := by omega
              rw [e1]
              clear e1
              have hb := HKI.out.at HB3.out.2 id
              obtain ⟨x0, x1, x2, x3⟩ := cells4 hb
              have HHK : Hid (Keeps no wr wi) := HB3.out.1.trans HKI.out
              obtain ⟨r, hr⟩ : ∃ r : RV, r = ⟨rk, ri, rv, ro1, rn, rc⟩ := ⟨_, rfl⟩
              have HHV : Hid (FitV y ∧ VerOf wi ⟨rk, ri, rv, ro1, rn, rc⟩ y) := ⟨HYQ.out.2.2, HY0.out wi (HKR.out.trans HHK.out)⟩
              clear hr hb
              go_wp2_with fail
              refine Calls.mono (HOW.out wi HHK.out ⟨rk, ri, rv, ro1, rn, rc⟩ HHV.out) ?_
              rintro e w5 ⟨_, rfl, o5, n5, c5, rfl, hn5, ho5, hnw5, hk5⟩
              have HW5 : Hid (NewVs w1 oo co ro m w5) := HO.out.2.2.1.keepsN (HHK.out.trans hk5)
              obtain ⟨r5, hr5⟩ : ∃ r5 : RV, r5 = ⟨y.key, y.id, y.val, o5, n5, c5⟩ := ⟨_, rfl⟩
              have HV5 : Hid (VerN w5 ⟨y.key, y.id, y.val, o5, n5, c5⟩ y ∧ New w1 o5) := ⟨⟨rfl, rfl, rfl, hn5.out, ho5⟩, hnw5.of_le (Nat.le_trans HO.out.2.2.1.kp.size HHK.out.size)⟩
              have HRL : Hid (no' = ro.length ∧ ro.length ≤ 1024) := by
                have h1 := HO.out.2.2.1.len
                have h2 := HO.out.2.1
                have h3 := HO.out.2.2.2
                have h4 := ((formedB_iff vs).1 HK1.out.2.1).most
                have h5 := HN.out.1
                exact ⟨by omega, by omega⟩
              clear hn5 ho5 hnw5 hk5 hr5
              generalize y.key = ck at HV5 ⊢
              generalize y.id = ci at HV5 ⊢
              generalize y.val = cv at HV5 ⊢
              go_wp2_with (at_builtin; refine wpList_app okV rfl _ _ rfl _ _ _ ro rfl HRL.out.1 (HW5.out.own.keepsN ((Keeps.refl _ _).alloc _)) _ _ _ [⟨ck, ci, cv, o5, n5, c5⟩] rfl rfl (fun h => by cases h) (own_oneV w5 ⟨ck, ci, cv, o5, n5, c5⟩).row (by have := HRL.out.2; simp [VE]; omega) (by have := HRL.out.2; simp; omega) ?_; intro os6 cs6 ws6 hos6 haps6)
              go_roundw
              case rel =>
                refine ⟨i + 1, _, by omega, by go_num, rfl, m ++ [y], os6, _, cs6, ro ++ [⟨ck, ci, cv, o5, n5, c5⟩], HMN.out, rfl, ?_, ?_⟩
                · have := HO.out.2.1; omega
                · have h1 := HW5.out.keepsN ((Keeps.refl no w5).alloc (.cells #[.string ck, .int .u64 (ci : Nat), .string cv, .slice o5 n5 c5] 32))
                  exact h1.push (HV5.out.1.keepsN ((Keeps.refl _ _).alloc _)) HV5.out.2 hos6 haps6
              case measure => first | (simp [intOf]; done) | (simp [intOf]; omega)
        · have hI1 : ((I : Int) == 0) = false := by simp; omega
          have hI2 : ((I : Int) != 0) = true := by simp; omega
          have hI3 : ¬ (I : Int) = 0 := by omega
          go_wp2_with fail
          refine Calls.mono HWT.out ?_
          rintro e wq ⟨rfl, hwq⟩
          subst wq
          clear HWT
          have hbk := blk_new wr (.cells #[.string rk, .int .u64 (ri : Nat), .string rv, .slice ro1 rn rc] 32)
          have hk3 : Keeps no wr (wr.alloc (.cells #[.string rk, .int .u64 (ri : Nat), .string rv, .slice ro1 rn rc] 32)) := (Keeps.refl _ _).alloc _
          have hnk : Keeps no wr wr := Keeps.refl _ _
          have HB3 : Hid (HeldV w wr.heap.size y wr (wr.alloc (.cells #[.string rk, .int .u64 (ri : Nat), .string rv, .slice ro1 rn rc] 32))) := ⟨⟨rk, ri, rv, ro1, rn, rc⟩, hbk, HY0.out, hk3⟩
          clear hbk hk3 hnk
          have HRD : Hid (∀ X, Keeps no wr X → X.cell? ⟨b, off + i * 4, none⟩ = some (.string rk)) := fun X hX => hX.cellN d0
          go_wp2_with fail
          clear d0 d1 d2 d3
          generalize wr.alloc (.cells #[.string rk, .int .u64 (ri : Nat), .string rv, .slice ro1 rn rc] 32) = w3 at HB3 ⊢
          generalize hBB : wr.heap.size = B at HB3 ⊢
          have HBB : Hid (wr.heap.size = B) := hBB
          clear hBB
          go_loopw [12, 13] (fun s12 s13 wi => ∃ (j : Nat) (F : Bool), j ≤ ng ∧ s13 = .int .i64 ((j : Int) - 1) ∧ s12 = .bool F ∧ Hid (F = fndB I y gs j) ∧ Hid (HeldV w B (curV I y gs j) wr wi)) (fun _ s13 _ => ((intOf s13) + 1).toNat)
          case atStart =>
            refine ⟨ng, false, by omega, rfl, rfl, ?_, ?_⟩
            · show false = _; unfold fndB; rw [if_neg hI0, List.drop_eq_nil_of_le (by have := HN.out.2; omega)]; rfl
            · have e : curV I y gs ng = y := by unfold curV; rw [if_neg hI0, List.drop_eq_nil_of_le (by have := HN.out.2; omega)]; rfl
              show HeldV w B (curV I y gs ng) wr w3
              rw [e]; exact HB3.out
          case round =>
            rename World => wi
            obtain ⟨j, F, hj, rfl, rfl, HFD, HHE⟩ := hrel
            cases j with
            | succ k =>
              have e1 : ((k + 1 : Nat) : Int) - 1 = (k : Int) := by omega
              rw [e1]
              have hk' : (k : Int) < ng := by omega
              clear e1
              have hkg : k < gs.length := by have := HN.out.2; omega
              have HWI : Hid (Keeps no w wi) := by
                obtain ⟨_, _, _, h⟩ := HHE.out
                exact HKR.out.trans h
              have HKW : Hid (Keeps no wr wi) := by
                obtain ⟨_, _, _, h⟩ := HHE.out
                exact h
              have HCS := cur_succ I y gs k hkg
              have HCS' : Hid (curV I y gs k = (if I ≠ 0 ∧ hitB I y.key (gs.getD k v0) = true then gs.getD k v0 else curV I y gs (k + 1)) ∧ fndB I y gs k = (if I ≠ 0 ∧ hitB I y.key (gs.getD k v0) = true then true else fndB I y gs (k + 1))) := HCS
              clear HCS
              obtain ⟨bg, offg, hog, x0, x1, x2, x3⟩ := (HV.out.2.keepsN HWI.out).sl.atV (j := k) (by rw [HV.out.2.len]; exact hkg)
              have HG0 : Hid (∀ X, Keeps no w X → VerOf X (rg.getD k r0) (gs.getD k v0)) := fun X hX => (HV.out.2.keepsN hX).each k hkg
              have hgk := (HG0.out w (Keeps.refl _ _)).key
              have hgi := (HG0.out w (Keeps.refl _ _)).id
              have HFG : Hid (FitV (gs.getD k v0)) := HF.out.2.at hkg
              generalize rg.getD k r0 = rr at x0 x1 x2 x3 HG0 hgk hgi
              generalize gs.getD k v0 = g at HG0 hgk hgi HCS' HFG
              obtain ⟨gk, gi, gv, go1, gn, gc⟩ := rr
              simp only at x0 x1 x2 x3 hgk hgi
              have HGE : Hid (gk = g.key ∧ gi = g.id) := ⟨hgk, hgi⟩
              have hgi64 : gi < 18446744073709551616 := by rw [hgi]; exact HFG.out.id
              clear hgk hgi hkg
              subst hog
              have y0 := HRD.out wi HKW.out
              have z0 := cell_regrown x0
              have z1 := cell_regrown x1
              have q0 := cell_regrown y0
              by_cases h3 : gk = rk
              · have e3 : (gk.toList == rk.toList) = true := by rw [tx_eq]; simpa using h3
                by_cases h4 : gi = I
                · have HH : Hid (hitB I y.key g = true) := by
                    show _ = _
                    unfold hitB
                    rw [← HGE.out.1, ← HGE.out.2, ← HRK.out, h3, h4]; simp
                  have HC2 : Hid (curV I y gs k = g ∧ fndB I y gs k = true) := ⟨by rw [HCS'.out.1, if_pos ⟨hI0, HH.out⟩], by rw [HCS'.out.2, if_pos ⟨hI0, HH.out⟩]⟩
                  have H4 : Hid (gi = I) := h4
                  have e4 : ((gi : Int) == (I : Int)) = true := by simp; omega
                  clear h3 h4 HCS'
                  have HX9 : Hid (∀ X, Keeps no wi X → X.cell? ⟨bg, offg + k * 4, none⟩ = some (.string gk) ∧ X.cell? ⟨bg, offg + k * 4 + 1, none⟩ = some (.int .u64 (gi : Nat)) ∧ X.cell? ⟨bg, offg + k * 4 + 2, none⟩ = some (.string gv) ∧ X.cell? ⟨bg, offg + k * 4 + 3, none⟩ = some (.slice go1 gn gc)) := fun X hX => ⟨hX.cellN x0, hX.cellN x1, hX.cellN x2, hX.cellN x3⟩
                  go_wp2_with fail
                  refine wp_region_quiet_below (by kernel_rfl) (by kernel_rfl) ?_
                  repeat (go_big_quiet_step (fail))
                  refine wpQuiet_nil ?_
                  intro _ hw'
                  obtain ⟨⟨dq, osq⟩, rfl⟩ := hw'
                  have K2 : Hid (Keeps no wi (Sort.grow (redrawn wi dq) osq)) := keeps_grown ..
                  generalize Sort.grow (redrawn wi dq) osq = u1 at K2 ⊢
                  clear x0 x1 x2 x3 y0 z0 z1 q0 e3
                  obtain ⟨x0, x1, x2, x3⟩ := HX9.out u1 K2.out
                  obtain ⟨r7, hb7, _, hk7⟩ := HHE.out
                  have hb8 := K2.out.at hb7 id
                  obtain ⟨t0, t1, t2, t3⟩ := cells4 hb8
                  have f0 := frozen_of_blk hb8 0
                  have f1 := frozen_of_blk hb8 1
                  have f2 := frozen_of_blk hb8 2
                  have f3 := frozen_of_blk hb8 3
                  have hS4 := set4 (b0 := .string gk) (b1 := .int .u64 (gi : Nat)) (b2 := .string gv) (b3 := .slice go1 gn gc) hb8
                  have HS4 : Hid (((((u1.setCell ⟨B, 0, none⟩ (.string gk)).setCell ⟨B, 1, none⟩ (.int .u64 (gi : Nat))).setCell ⟨B, 2, none⟩ (.string gv)).setCell ⟨B, 3, none⟩ (.slice go1 gn gc)).heap[B]? = some (.cells #[.string gk, .int .u64 (gi : Nat), .string gv, .slice go1 gn gc] 32 (0, 0)) ∧ Keeps no wr ((((u1.setCell ⟨B, 0, none⟩ (.string gk)).setCell ⟨B, 1, none⟩ (.int .u64 (gi : Nat))).setCell ⟨B, 2, none⟩ (.string gv)).setCell ⟨B, 3, none⟩ (.slice go1 gn gc))) := ⟨hS4.1, (HKW.out.trans K2.out).then hS4.2 (fun q hq => .inr (by have := HBB.out; unfold eqB at hq; omega))⟩
                  clear hb7 hb8 hk7 hS4
                  go_wp2_with fail
                  go_roundw
                  case rel =>
                    refine ⟨k, true, by omega, by go_num, rfl, HC2.out.2.symm, ?_⟩
                    show HeldV w B (curV I y gs k) wr _
                    rw [HC2.out.1]
                    exact ⟨⟨gk, gi, gv, go1, gn, gc⟩, HS4.out.1, HG0.out, HS4.out.2⟩
                  case measure => first | (simp [intOf]; done) | (simp [intOf]; omega)
                · have HC2 : Hid (curV I y gs k = curV I y gs (k + 1) ∧ fndB I y gs k = fndB I y gs (k + 1)) := by
                    have hh : ¬ (I ≠ 0 ∧ hitB I y.key g = true) := fun h => by
                      have := h.2; unfold hitB at this; rw [← HGE.out.2] at this; simp [h4] at this
                    exact ⟨by rw [HCS'.out.1, if_neg hh], by rw [HCS'.out.2, if_neg hh]⟩
                  have e4 : ((gi : Int) == (I : Int)) = false := by simp; omega
                  have e4' : ¬ (gi : Int) = (I : Int) := by omega
                  clear h3 h4 HCS'
                  go_wp2_with fail
                  refine wp_region_quiet_below (by kernel_rfl) (by kernel_rfl) ?_
                  repeat (go_big_quiet_step (fail))
                  refine wpQuiet_nil ?_
                  intro _ hw'
                  obtain ⟨⟨dq, osq⟩, rfl⟩ := hw'
                  have K2 : Hid (Keeps no wi (Sort.grow (redrawn wi dq) osq)) := keeps_grown ..
                  generalize Sort.grow (redrawn wi dq) osq = u1 at K2 ⊢
                  clear x0 x1 x2 x3 y0 z0 z1 q0 e3 e4 e4'
                  go_wp2_with fail
                  go_roundw
                  case rel =>
                    refine ⟨k, F, by omega, by go_num, rfl, HFD.out.trans HC2.out.2.symm, ?_⟩
                    show HeldV w B (curV I y gs k) wr _
                    rw [HC2.out.1]
                    obtain ⟨r7, hb7, hv7, hk7⟩ := HHE.out
                    exact ⟨r7, K2.out.at hb7 id, hv7, hk7.trans K2.out⟩
                  case measure => first | (simp [intOf]; done) | (simp [intOf]; omega)
              · have e3 : (gk.toList == rk.toList) = false := by rw [tx_eq]; simpa using h3
                have HC2 : Hid (curV I y gs k = curV I y gs (k + 1) ∧ fndB I y gs k = fndB I y gs (k + 1)) := by
                  have hh : ¬ (I ≠ 0 ∧ hitB I y.key g = true) := fun h => by
                    have := h.2; unfold hitB at this; rw [← HGE.out.1, ← HRK.out] at this; simp [h3] at this
                  exact ⟨by rw [HCS'.out.1, if_neg hh], by rw [HCS'.out.2, if_neg hh]⟩
                clear h3 HCS'
                go_wp2_with fail
                refine wp_region_quiet_below (by kernel_rfl) (by kernel_rfl) ?_
                repeat (go_big_quiet_step (fail))
                refine wpQuiet_nil ?_
                intro _ hw'
                obtain ⟨⟨dq, osq⟩, rfl⟩ := hw'
                have K2 : Hid (Keeps no wi (Sort.grow (redrawn wi dq) osq)) := keeps_grown ..
                generalize Sort.grow (redrawn wi dq) osq = u1 at K2 ⊢
                clear x0 x1 x2 x3 y0 z0 z1 q0 e3
                go_wp2_with fail
                go_roundw
                case rel =>
                  refine ⟨k, F, by omega, by go_num, rfl, HFD.out.trans HC2.out.2.symm, ?_⟩
                  show HeldV w B (curV I y gs k) wr _
                  rw [HC2.out.1]
                  obtain ⟨r7, hb7, hv7, hk7⟩ := HHE.out
                  exact ⟨r7, K2.out.at hb7 id, hv7, hk7.trans K2.out⟩
                case measure => first | (simp [intOf]; done) | (simp [intOf]; omega)
            | zero =>
              have e1 : ((0 : Nat) : Int) - 1 = -1 := by omega
              rw [e1]
              clear e1
              have HPC2 : Hid (placeV vs gs y = if F = true then some (curV I y gs 0) else none) := by show _ = _; rw [HPC.out, HFD.out]
              clear HPC HFD
              cases F with
              | false =>
                have HNO : Hid (mendV vs gs = none) := mapM_none_of _ _ ⟨y, HYQ.out.1, by rw [HPC2.out]; rfl⟩
                have HWI : Hid (Keeps no w wi) := by
                  obtain ⟨_, _, _, h⟩ := HHE.out
                  exact HKR.out.trans h
                go_wp2_with fail
                go_ret2
                exact ⟨_, rfl, .inr (.inl ⟨HK1.out.2.1, HNO.out, rfl, HWI.out⟩)⟩
              | true =>
                have HMN : Hid (mendTo vs gs (i + 1) = some (m ++ [curV I y gs 0])) := by
                  show _ = _
                  rw [HYQ.out.2.1]
                  refine mapM_snoc _ _ _ HO.out.1 ?_
                  rw [HPC2.out]; rfl
                have HFC : Hid (FitV (curV I y gs 0)) := by
                  show FitV _
                  unfold curV
                  rw [if_neg hI0, List.drop_zero]
                  cases hc : gs.find? (hitB I y.key) with
                  | none => exact HYQ.out.2.2
                  | some a => exact HF.out.2.each a (List.mem_of_find?_eq_some hc)
                generalize curV I y gs 0 = z at HMN HFC HHE
                obtain ⟨r, hb, hvr, hkr⟩ := HHE.out
                have HHK : Hid (Keeps no wr wi) := hkr
                have HHV : Hid (FitV z ∧ VerOf wi r z) := ⟨HFC.out, hvr wi (HKR.out.trans hkr)⟩
                obtain ⟨x0, x1, x2, x3⟩ := cells4 hb
                clear hb hvr hkr HHE HPC2
                go_wp2_with fail
                refine Calls.mono (HOW.out wi HHK.out r HHV.out) ?_
                rintro e w5 ⟨_, rfl, o5, n5, c5, rfl, hn5, ho5, hnw5, hk5⟩
                have HW5 : Hid (NewVs w1 oo co ro m w5) := HO.out.2.2.1.keepsN (HHK.out.trans hk5)
                obtain ⟨r5, hr5⟩ : ∃ r5 : RV, r5 = ⟨z.key, z.id, z.val, o5, n5, c5⟩ := ⟨_, rfl⟩
                have HV5 : Hid (VerN w5 ⟨z.key, z.id, z.val, o5, n5, c5⟩ z ∧ New w1 o5) := ⟨⟨rfl, rfl, rfl, hn5.out, ho5⟩, hnw5.of_le (Nat.le_trans HO.out.2.2.1.kp.size HHK.out.size)⟩
                have HRL : Hid (no' = ro.length ∧ ro.length ≤ 1024) := by
                  have h1 := HO.out.2.2.1.len
                  have h2 := HO.out.2.1
                  have h3 := HO.out.2.2.2
                  have h4 := ((formedB_iff vs).1 HK1.out.2.1).most
                  have h5 := HN.out.1
                  exact ⟨by omega, by omega⟩
                clear hn5 ho5 hnw5 hk5 hr5
                generalize z.key = ck at HV5 ⊢
                generalize z.id = ci at HV5 ⊢
                generalize z.val = cv at HV5 ⊢
                go_wp2_with (at_builtin; refine wpList_app okV rfl _ _ rfl _ _ _ ro rfl HRL.out.1 (HW5.out.own.keepsN ((Keeps.refl _ _).alloc _)) _ _ _ [⟨ck, ci, cv, o5, n5, c5⟩] rfl rfl (fun h => by cases h) (own_oneV w5 ⟨ck, ci, cv, o5, n5, c5⟩).row (by have := HRL.out.2; simp [VE]; omega) (by have := HRL.out.2; simp; omega) ?_; intro os6 cs6 ws6 hos6 haps6)
                go_roundw
                case rel =>
                  refine ⟨i + 1, _, by omega, by go_num, rfl, m ++ [z], os6, _, cs6, ro ++ [⟨ck, ci, cv, o5, n5, c5⟩], HMN.out, rfl, ?_, ?_⟩
                  · have := HO.out.2.1; omega
                  · have h1 := HW5.out.keepsN ((Keeps.refl no w5).alloc (.cells #[.string ck, .int .u64 (ci : Nat), .string cv, .slice o5 n5 c5] 32))
                    exact h1.push (HV5.out.1.keepsN ((Keeps.refl _ _).alloc _)) HV5.out.2 hos6 haps6
                case measure => first | (simp [intOf]; done) | (simp [intOf]; omega)
      · have hlt' : ¬ (i : Int) < n := by omega
        have HFI : Hid (mendV vs gs = some m ∧ no' = m.length ∧ NewVs w1 oo co ro m wr) := by
          have h := HO.out
          have hi2 : i = vs.length := by have := HN.out.1; omega
          refine ⟨?_, by omega, h.2.2.1⟩
          have := h.1
          unfold mendTo at this
          rwa [hi2, List.take_length] at this
        clear HO
        go_wp2_with fail
        go_ret2
        exact ⟨_, rfl, .inr (.inr ⟨HK1.out.2.1, m, oo, no', co, ro, HFI.out.1, rfl, HFI.out.2.1, HFI.out.2.2.older HK1.out.1⟩)⟩
end Go.Proofs.Ytodblodbeobgeaa
