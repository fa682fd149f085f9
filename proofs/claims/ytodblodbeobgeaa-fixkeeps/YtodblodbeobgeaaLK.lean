/- FixKeeps. -/
import Derived.Test.YtodblodbeobgeaaKA
import Derived.Deep.CutBlock
import Derived.Deep.CutRange
namespace Go.Proofs.Ytodblodbeobgeaa
open Go.RowKit Go.Sort Orl
set_option linter.unusedVariables false
set_option linter.unusedSimpArgs false

/-- got: what the first i wants name -/
def GotK (w : World) (ms : List Int) (vs : List Ver) (i : Nat) (u : Value) (wr : World) : Prop := ∃ o n c rs gs, u = .slice o n c ∧ n = gs.length ∧ gs.length = i ∧ NewVs w o c rs gs wr ∧ (∀ g ∈ gs, FitV g ∧ Made (KM ms) VM ms.length g) ∧ (∀ k, k < i → ∃ g ∈ gs, g.key = ((needsV vs).getD k w0').1 ∧ g.id = ((needsV vs).getD k w0').2)
set_option maxRecDepth 10000 in
set_option maxHeartbeats 4000000 in
theorem fixKeeps_any (w : World) (om : Option Addr) (nm cm : Nat) (ms : List Int) (read : Int) (op : Option Addr) (np cp : Nat) (ps : List Int) (hnm : nm = ms.length) (hnp : np = ps.length) (hml : ms.length ≤ 17592186044000) (hpl : ps.length ≤ 17592186044000) (hI : ∀ z ∈ ms, I64 z) (hP : ∀ z ∈ ps, I64 z) (hr : I64 read) (hs : Sl ZE w om cm ms) (hp : Sl ZE w op cp ps) :
    Calls Try.prog 7 #[.slice om nm cm, .int .i64 read, .slice op np cp] w fun e w' => e = .returned (.bool true) ∧ Keeps no w w' := by
  obtain ⟨M, hM⟩ : ∃ M : Nat, M = min nm 20 := ⟨_, rfl⟩
  have hmin : min (nm : Int) 20 = (M : Int) := by omega
  obtain ⟨hcut, hs2⟩ := cutZ_h w om cm ms nm M (M : Int) rfl hnm (by omega) hs
  have hnm' : (nm : Int) ≤ 17592186044000 := by omega
  have hM20 : (M : Int) ≤ 20 := by omega
  obtain ⟨mt, hmt⟩ : ∃ mt, mt = ms.take M := ⟨_, rfl⟩
  have hml2 : M = mt.length := by rw [hmt, List.length_take]; omega
  rw [← hmt] at hs2
  have hI2 : ∀ z ∈ mt, I64 z := fun z hz => hI z (List.mem_of_mem_take (by rw [← hmt]; exact hz))
  have HB0 : Hid (∀ X, Keeps no w X → Calls Try.prog 9 #[.slice om M cm, .int .i64 read, .int .i64 0, .slice op np cp] X fun e w' => ∃ u, e = .returned u ∧ GiveVs X (broughtV mt read 0 ps) u w') :=
    fun X hX => brought_any X om M cm mt read 0 op np cp ps hml2 hnp (by omega) hpl hI2 hP hr ⟨by omega, by omega⟩ (hs2.keepsN hX) (hp.keepsN hX)
  have HRD : Hid (Rd mt (broughtV mt read 0 ps)) := rd_of mt (by omega) _ _ _
  have HMS : Hid (M = mt.length ∧ (∀ z ∈ mt, I64 z) ∧ Sl ZE w om cm mt ∧ mt.length ≤ 60) := ⟨hml2, hI2, hs2, by omega⟩
  clear hnm hnp hml hpl hI hP hs hs2 hp hM hmt hml2 hI2
  generalize broughtV mt read 0 ps = vs at HB0 HRD
  go_enter Try.func7, Try.ntmps7
  go_wp2_with fail
  refine Calls.mono (HB0.out _ (Keeps.refl _ _)) ?_
  rintro e w1 ⟨_, rfl, o, n, c, rs, rfl, hn, hv⟩
  have HV : Hid (n = vs.length ∧ NewVs w o c rs vs w1) := ⟨hn, hv⟩
  clear hn hv
  go_wp2_with fail
  refine Calls.mono (HB0.out _ HV.out.2.kp) ?_
  rintro e w2 ⟨_, rfl, o2, n2, c2, rs2, rfl, hn2, hv2⟩
  have hnn2 : n2 = n := by rw [hn2]; exact HV.out.1.symm
  clear hn2
  subst n2
  have HV2 : Hid (NewVs w o c rs vs w2 ∧ NewVs w1 o2 c2 rs2 vs w2) := ⟨HV.out.2.keepsN hv2.kp, hv2⟩
  have hn8 : (n : Int) ≤ 8 := by have := HRD.out.len; have := HV.out.1; omega
  have hn1 : (1 : Int) ≤ n := by have := HRD.out.pos; have := HV.out.1; omega
  clear hv2 HB0
  have HND : Hid (Calls Try.prog 13 #[.slice o n c] w2 fun e w' => ∃ u, e = .returned u ∧ NeedTo w2 vs u w') := pNeeds_any w2 o n c rs vs HV.out.1 HRD.out.fit HV2.out.1.vers
  go_wp2_with fail
  refine Calls.mono HND.out ?_
  rintro e w3 ⟨u, rfl, hu⟩
  clear HND
  rcases hu with ⟨hb, _⟩ | ⟨_, ow, nw, cw, rfl, hnw, how, hww, hk3⟩
  · rw [(formedB_iff vs).2 HRD.out.formed] at hb; cases hb
  have HV3 : Hid (NewVs w o c rs vs w3 ∧ NewVs w1 o2 c2 rs2 vs w3 ∧ nw = (needsV vs).length ∧ Own WE w3 ow cw (needsV vs)) := ⟨HV2.out.1.keepsN hk3, HV2.out.2.keepsN hk3, hnw, how⟩
  have hnw8 : (nw : Int) ≤ 8 := by have := needs_len vs; have := HRD.out.len; omega
  clear hnw how hww hk3 HV2
  go_wp2_with fail
  refine (known_any w3).mono ?_
  rintro e w4 ⟨rfl, hk4⟩
  have HV4 : Hid (NewVs w o c rs vs w4 ∧ NewVs w1 o2 c2 rs2 vs w4 ∧ nw = (needsV vs).length ∧ Own WE w4 ow cw (needsV vs)) := ⟨HV3.out.1.keepsN hk4, HV3.out.2.1.keepsN hk4, HV3.out.2.2.1, HV3.out.2.2.2.keepsN hk4⟩
  clear HV3 hk4
  go_wp2_with fail
  go_loopw [11, 12] (fun s11 s12 wr => ∃ i : Nat, i ≤ nw ∧ s12 = .int .i64 i ∧ Hid (GotK w4 mt vs i s11 wr)) (fun _ s12 _ => nw - (intOf s12).toNat)
  case atStart => exact ⟨0, by omega, rfl, none, 0, 0, [], [], rfl, rfl, rfl, NewVs.nil _, by simp, fun k hk => by omega⟩
  case round =>
    rename World => wr
    obtain ⟨i, hi, rfl, HGT⟩ := hrel
    obtain ⟨og, ng, cg, rg, gs, hu, hng, hgl, hgv, hgn, hgw⟩ := HGT.out
    subst hu
    have HG : Hid (ng = gs.length ∧ gs.length = i ∧ NewVs w4 og cg rg gs wr ∧ (∀ g ∈ gs, FitV g ∧ Made (KM mt) VM mt.length g) ∧ (∀ k, k < i → ∃ g ∈ gs, g.key = ((needsV vs).getD k w0').1 ∧ g.id = ((needsV vs).getD k w0').2)) := ⟨hng, hgl, hgv, hgn, hgw⟩
    clear HGT hng hgl hgv hgn hgw
    by_cases hlt : i < nw
    · have hlt' : (i : Int) < nw := by omega
      have hil : i < (needsV vs).length := by have := HV4.out.2.2.1; omega
      obtain ⟨N, hN, hp2, hp1, hps⟩ := HRD.out.want hil
      have HWR : Hid (Keeps no w4 wr ∧ Keeps no w wr) := ⟨HG.out.2.2.1.kp, HV4.out.1.kp.trans HG.out.2.2.1.kp⟩
      obtain ⟨bw, offw, how, d0, d1⟩ := (HV4.out.2.2.2.keepsN HWR.out.1).sl.atW hil
      have HPE : Hid (∃ q, q = (needsV vs).getD i w0') := ⟨_, rfl⟩
      obtain ⟨p, hpe⟩ : ∃ p, p = (needsV vs).getD i w0' := ⟨_, rfl⟩
      rw [← hpe] at d0 d1 hp1 hp2 hps
      have HPE : Hid (p = (needsV vs).getD i w0') := hpe
      clear hpe
      obtain ⟨px, pi⟩ := p
      simp only at d0 d1 hp1 hp2 hps
      subst how
      have HPI : Hid (pi = 65536 * (N + 1) ∧ px.size = 1 ∧ N < mt.length ∧ px ∈ KM mt N) := ⟨hp2, hps, hN, hp1⟩
      have hNM : (N : Int) < M := by have := HMS.out.1; omega
      have hq : (pi : Int) / 65536 = (N : Int) + 1 := by omega
      have hN20 : (N : Int) < 20 := by omega
      have hpi : (pi : Int) ≤ 3932160 := by omega
      have hN0 : ¬ (N : Int) < 0 := by omega
      have hNM' : ¬ (M : Int) ≤ (N : Int) := by omega
      clear hil hN hp2 hp1 hps
      have HMD : Hid (Calls Try.prog 19 #[.slice om M cm, .int .i64 ((N : Nat) : Int), .string px] wr fun e w' => ∃ u, e = .returned u ∧ GiveV wr (madeV mt N px) u w') := made_any wr om M cm mt N px HMS.out.1 HPI.out.2.2.1 HMS.out.2.2.2 (by have := HPI.out.2.1; omega) HMS.out.2.1 (HMS.out.2.2.1.keepsN HWR.out.2)
      go_wp2_with fail
      refine Calls.mono HMD.out ?_
      rintro e w5 ⟨_, rfl, o5, n5, c5, rfl, hn5, ho5, hnw5, hk5⟩
      have H5 : Hid (NewVs w4 og cg rg gs w5 ∧ VerN w5 ⟨px, 65536 * (N + 1), VM N px, o5, n5, c5⟩ (madeV mt N px) ∧ New w4 o5) := ⟨HG.out.2.2.1.keepsN hk5, ⟨rfl, rfl, rfl, hn5.out, ho5⟩, hnw5.of_le HWR.out.1.size⟩
      have HRL : Hid (ng = rg.length ∧ rg.length ≤ 24) := by
        have h1 := HG.out.2.2.1.len
        have h2 := HG.out.1
        have h3 := HG.out.2.1
        exact ⟨by omega, by omega⟩
      clear HMD hn5 ho5 hnw5 hk5
      go_wp2_with (at_builtin; refine wpList_app okV rfl _ _ rfl _ _ _ rg rfl HRL.out.1 (H5.out.1.own.keepsN ((Keeps.refl _ _).alloc _)) _ _ _ [⟨px, 65536 * (N + 1), VM N px, o5, n5, c5⟩] rfl rfl (fun h => by cases h) (own_oneV w5 ⟨px, 65536 * (N + 1), VM N px, o5, n5, c5⟩).row (by have := HRL.out.2; simp [VE]; omega) (by have := HRL.out.2; simp; omega) ?_; intro os6 cs6 ws6 hos6 haps6)
      go_roundw
      case rel =>
        have h1 := H5.out.1.keepsN ((Keeps.refl no w5).alloc (.cells #[.string px, .int .u64 ((65536 * (N + 1) : Nat) : Int), .string (VM N px), .slice o5 n5 c5] 32))
        refine ⟨i + 1, by omega, by go_num, os6, _, cs6, _, gs ++ [madeV mt N px], rfl, ?_, ?_, h1.push (H5.out.2.1.keepsN ((Keeps.refl _ _).alloc _)) H5.out.2.2 hos6 haps6, ?_, ?_⟩
        · rw [List.length_append, ← HG.out.1]; rfl
        · have := HG.out.2.1; rw [List.length_append]; simp; omega
        · intro g hg
          rcases List.mem_append.1 hg with hg | hg
          · exact HG.out.2.2.2.1 g hg
          · rcases List.mem_cons.1 hg with rfl | hg
            · exact ⟨made_fit (by have := HPI.out.2.2.1; have := HMS.out.2.2.2; omega) (by have := HPI.out.2.1; omega), N, HPI.out.2.2.1, HPI.out.2.2.2, rfl⟩
            · cases hg
        · intro k hk
          by_cases e : k = i
          · rw [e, ← HPE.out]
            exact ⟨madeV mt N px, List.mem_append_right _ (by simp), rfl, HPI.out.1.symm⟩
          · obtain ⟨g, hg, h3⟩ := HG.out.2.2.2.2 k (by omega)
            exact ⟨g, List.mem_append_left _ hg, h3⟩
      case measure => simp [intOf]; omega
    · have hlt' : ¬ (i : Int) < nw := by omega
      have HME : Hid (mendV vs gs = some (vs.map (mendW (KM mt) VM vs))) := mend_eq HRD.out.ofw (fun g hg => (HG.out.2.2.2.1 g hg).2) (fun p hp => by
        obtain ⟨k, hk, rfl⟩ := List.getElem_of_mem hp
        obtain ⟨g, hg, h1, h2⟩ := HG.out.2.2.2.2 k (by have := HV4.out.2.2.1; omega)
        exact ⟨g, hg, by simpa [hk] using h1, by simpa [hk] using h2⟩)
      have HMI : Hid (Md mt vs (vs.map (mendW (KM mt) VM vs))) := md_of HMS.out.2.2.2 HRD.out
      generalize vs.map (mendW (KM mt) VM vs) = m at HME HMI
      have hng8 : (ng : Int) ≤ 8 := by have := HG.out.1; have := HG.out.2.1; omega
      have HGF : Hid (ng = gs.length ∧ FitL gs ∧ NewVs w4 og cg rg gs wr) := ⟨HG.out.1, ⟨by have := HG.out.2.1; omega, fun v hv => (HG.out.2.2.2.1 v hv).1⟩, HG.out.2.2.1⟩
      have HLK : Hid (Lk w wr o c vs 0 rs wr) := by
        have h := HV4.out.1.keepsN HG.out.2.2.1.kp
        exact ⟨h.own, h.len, h.each, h.newO, h.newK, fun j hj => by omega, Keeps.refl _ _⟩
      have HWN : Hid (NewVs w1 o2 c2 rs2 vs wr) := HV4.out.2.1.keepsN HG.out.2.2.1.kp
      have HNL : Hid (nw = (needsV vs).length ∧ n = vs.length) := ⟨HV4.out.2.2.1, HV.out.1⟩
      have HKW : Hid (Keeps no w wr) := HV4.out.1.kp.trans HG.out.2.2.1.kp
      have HVO : Hid (∀ k, inO o k → k < w1.heap.size) := fun k hk => HV.out.2.own.lt k hk
      have HNO : Hid (New w o) := HV.out.2.newO
      have HW14 : Hid (w1.heap.size ≤ w4.heap.size) := HV4.out.2.1.kp.size
      clear HG HV4 HV hlt' hi
      go_wp2_with fail
      go_loopw [14] (fun s14 wl => ∃ i : Nat, i ≤ n ∧ s14 = .int .i64 i ∧ Hid (∃ rs1, Lk w wr o c vs i rs1 wl)) (fun s14 _ => n - (intOf s14).toNat)
      case atStart => exact ⟨0, by omega, rfl, _, HLK.out⟩
      case round =>
        clear HLK
        rename World => wl
        obtain ⟨i, hi, rfl, HT⟩ := hrel
        by_cases hlt2 : i < n
        · have hlt2' : (i : Int) < n := by omega
          have hil : i < vs.length := by have := HNL.out.2; omega
          obtain ⟨rs1, hlk⟩ := HT.out
          have hv := hlk.each i hil
          obtain ⟨g, off, hob, d0, d1, d2, d3⟩ := hlk.own.sl.atV (j := i) (by rw [hlk.len]; exact hil)
          have hoff : off = 0 := by
            rcases hlk.own.shape with ⟨e, _⟩ | ⟨g', cur, e, _⟩
            · rw [e] at hob; cases hob
            · rw [e] at hob; cases hob; rfl
          subst hoff
          subst hob
          obtain ⟨rr, hrr⟩ : ∃ rr, rr = rs1.getD i r0 := ⟨_, rfl⟩
          rw [← hrr] at d3 hv
          have HRR : Hid (rs1.getD i r0 = rr) := hrr.symm
          have HLQ : Hid (Lk w wr (some ⟨g, 0, none⟩) c vs i rs1 wl ∧ (vs.getD i v0).keys = (vs.getD i v0).keys ∧ i < vs.length) := ⟨hlk, rfl, hil⟩
          have HKY0 : Hid (Own TE wl rr.o rr.c (vs.getD i v0).keys ∧ rr.n = (vs.getD i v0).keys.length ∧ (vs.getD i v0).keys.length ≤ 8796093022000) := ⟨hv.own, hv.n, (HRD.out.fit.at hil).len⟩
          obtain ⟨ky, hky⟩ : ∃ ky, ky = (vs.getD i v0).keys := ⟨_, rfl⟩
          have HLQ2 : Hid (Lk w wr (some ⟨g, 0, none⟩) c vs i rs1 wl ∧ (vs.getD i v0).keys = ky ∧ i < vs.length) := ⟨hlk, hky.symm, hil⟩
          rw [← hky] at HKY0
          simp only [Nat.zero_add] at d3
          have HKW2 : Hid (Keeps (inO (some ⟨g, 0, none⟩)) wr wl ∧ w.heap.size ≤ wl.heap.size) := ⟨hlk.kp, Nat.le_trans HKW.out.size hlk.kp.size⟩
          clear hrr hlk hv HLQ hky d0 d1 d2 HT hil
          obtain ⟨rk, ri, rv, ro, rn, rc⟩ := rr
          simp only at d3 HKY0
          have HD3 : Hid (wl.cell? ⟨g, i * 4 + 3, none⟩ = some (.slice ro rn rc)) := d3
          have hrn : (rn : Int) ≤ 8796093022000 := by have := HKY0.out.2; omega
          clear d3
          as_aux_lemma =>
          go_wp2_with fail
          refine wp_region_held_drew (S := fun _ => True) (by kernel_rfl) ?_ (fun hHeld => ?_)
          · trivial
          refine wpAnyH_take (i := 0) (v := ?_) (by simp only [List.getElem?_toArray, List.getElem?_cons_succ, List.getElem?_cons_zero]; rfl) (by kernel_rfl) (by kernel_rfl) (by kernel_rfl) (by exact fun _ _ _ h => h) (Or.inl ⟨by rfl, ?_⟩) (by assumption) ?_
          rotate_left
          · (intro _ hSw; (try dsimp only at hSw); go_simp; (try with_reducible rfl))
          try simp only [Act.put, List.setIfInBounds_toArray, List.set_cons_zero, List.set_cons_succ]
          refine wpAnyH_take (i := 1) (v := ?_) (by simp only [List.getElem?_toArray, List.getElem?_cons_succ, List.getElem?_cons_zero]; rfl) (by kernel_rfl) (by kernel_rfl) (by kernel_rfl) (by exact fun _ _ _ h => h) (Or.inl ⟨by rfl, ?_⟩) (by assumption) ?_
          rotate_left
          · (intro _ hSw; (try dsimp only at hSw); go_simp; (try with_reducible rfl))
          try simp only [Act.put, List.setIfInBounds_toArray, List.set_cons_zero, List.set_cons_succ]
          refine wpAnyH_take (i := 2) (v := ?_) (by simp only [List.getElem?_toArray, List.getElem?_cons_succ, List.getElem?_cons_zero]; rfl) (by kernel_rfl) (by kernel_rfl) (by kernel_rfl) (by exact fun _ _ _ h => h) (Or.inl ⟨by rfl, ?_⟩) (by assumption) ?_
          rotate_left
          · (intro _ hSw; (try dsimp only at hSw); go_simp; (try with_reducible rfl))
          try simp only [Act.put, List.setIfInBounds_toArray, List.set_cons_zero, List.set_cons_succ]
          refine wpAnyH_take (i := 3) (v := ?_) (by simp only [List.getElem?_toArray, List.getElem?_cons_succ, List.getElem?_cons_zero]; rfl) (by kernel_rfl) (by kernel_rfl) (by kernel_rfl) (by exact fun _ _ _ h => h) (Or.inl ⟨by rfl, ?_⟩) (by assumption) ?_
          rotate_left
          · (intro _ hSw; (try dsimp only at hSw); go_simp; (try with_reducible rfl))
          try simp only [Act.put, List.setIfInBounds_toArray, List.set_cons_zero, List.set_cons_succ]
          refine wpAnyH_take (i := 4) (v := ?_) (by simp only [List.getElem?_toArray, List.getElem?_cons_succ, List.getElem?_cons_zero]; rfl) (by kernel_rfl) (by kernel_rfl) (by kernel_rfl) (by exact fun _ _ _ h => h) (Or.inl ⟨by rfl, ?_⟩) (by assumption) ?_
          rotate_left
          · (intro _ hSw; (try dsimp only at hSw); go_simp; (try with_reducible rfl))
          try simp only [Act.put, List.setIfInBounds_toArray, List.set_cons_zero, List.set_cons_succ]
          refine wpAnyH_take (i := 5) (v := ?_) (by simp only [List.getElem?_toArray, List.getElem?_cons_succ, List.getElem?_cons_zero]; rfl) (by kernel_rfl) (by kernel_rfl) (by kernel_rfl) (by exact fun _ _ _ h => h) (Or.inl ⟨by rfl, ?_⟩) (by assumption) ?_
          rotate_left
          · (intro _ hSw; (try dsimp only at hSw); go_simp; (try with_reducible rfl))
          try simp only [Act.put, List.setIfInBounds_toArray, List.set_cons_zero, List.set_cons_succ]
          refine wpAnyH_take (i := 10) (v := ?_) (by simp only [List.getElem?_toArray, List.getElem?_cons_succ, List.getElem?_cons_zero]; rfl) (by kernel_rfl) (by kernel_rfl) (by kernel_rfl) (by exact fun _ _ _ h => h) (Or.inl ⟨by rfl, ?_⟩) (by assumption) ?_
          rotate_left
          · (intro _ hSw; (try dsimp only at hSw); go_simp; (try with_reducible rfl))
          try simp only [Act.put, List.setIfInBounds_toArray, List.set_cons_zero, List.set_cons_succ]
          refine wpAnyH_take (i := 11) (v := ?_) (by simp only [List.getElem?_toArray, List.getElem?_cons_succ, List.getElem?_cons_zero]; rfl) (by kernel_rfl) (by kernel_rfl) (by kernel_rfl) (by exact fun _ _ _ h => h) (Or.inl ⟨by rfl, ?_⟩) (by assumption) ?_
          rotate_left
          · (intro _ hSw; (try dsimp only at hSw); go_simp; (try with_reducible rfl))
          try simp only [Act.put, List.setIfInBounds_toArray, List.set_cons_zero, List.set_cons_succ]
          refine wpAnyH_take (i := 12) (v := ?_) (by simp only [List.getElem?_toArray, List.getElem?_cons_succ, List.getElem?_cons_zero]; rfl) (by kernel_rfl) (by kernel_rfl) (by kernel_rfl) (by exact fun _ _ _ h => h) (Or.inl ⟨by rfl, ?_⟩) (by assumption) ?_
          rotate_left
          · (intro _ hSw; (try dsimp only at hSw); go_simp; (try with_reducible rfl))
          try simp only [Act.put, List.setIfInBounds_toArray, List.set_cons_zero, List.set_cons_succ]
          refine wpAnyH_take (i := 13) (v := ?_) (by simp only [List.getElem?_toArray, List.getElem?_cons_succ, List.getElem?_cons_zero]; rfl) (by kernel_rfl) (by kernel_rfl) (by kernel_rfl) (by exact fun _ _ _ h => h) (Or.inl ⟨by rfl, ?_⟩) (by assumption) ?_
          rotate_left
          · (intro _ hSw; (try dsimp only at hSw); go_simp; (try with_reducible rfl))
          try simp only [Act.put, List.setIfInBounds_toArray, List.set_cons_zero, List.set_cons_succ]
          have HC : Hid (Keeps no wl wl.drew) := (Keeps.refl no _).drew
          generalize wl.drew = z0 at HC ⊢
          refine wpAnyH_ready (rs := [6, 8, 14]) (by kernel_rfl) (by simp) ?_
          refine AllReadyH.cons (by simp only [List.getElem?_toArray, List.getElem?_cons_succ, List.getElem?_cons_zero]; rfl) (fun Kq hKq => ?_) (AllReadyH.cons (by simp only [List.getElem?_toArray, List.getElem?_cons_succ, List.getElem?_cons_zero]; rfl) (fun Kq hKq => ?_) (AllReadyH.cons (by simp only [List.getElem?_toArray, List.getElem?_cons_succ, List.getElem?_cons_zero]; rfl) (fun Kq hKq => ?_) AllReadyH.nil))
          · have hz := HC.out.cellN HD3.out
            go_simp
            clear hz
            refine hKq.out _ _ ?_ (fun hHeldN => ?_)
            · trivial
            clear hKq Kq hHeld
            have hHeld := hHeldN
            clear hHeldN
            refine wpAnyH_ready (rs := [7, 8, 14]) (by kernel_rfl) (by simp) ?_
            refine AllReadyH.cons (by simp only [List.getElem?_toArray, List.getElem?_cons_succ, List.getElem?_cons_zero]; rfl) (fun Kq hKq => ?_) (AllReadyH.cons (by simp only [List.getElem?_toArray, List.getElem?_cons_succ, List.getElem?_cons_zero]; rfl) (fun Kq hKq => ?_) (AllReadyH.cons (by simp only [List.getElem?_toArray, List.getElem?_cons_succ, List.getElem?_cons_zero]; rfl) (fun Kq hKq => ?_) AllReadyH.nil))
            · refine step_app1 okT rfl (.const (.slice none 0 0)) (.tmp 101) rfl none 0 0 [] rfl rfl (own_nil _) ro rn rc ky rfl HKY0.out.2.1 HKY0.out.1.sl.nil (HKY0.out.1.keepsN HC.out).row (by have := HKY0.out.2.2; simp [TE]; omega) (by have := HKY0.out.2.2; simp; omega) ?_
              intro oa ca z1 ho7 ha7
              have HA : Hid (Own TE z1 oa ca ky ∧ New wl oa) := ⟨by simpa using ho7, (ha7.new (new_none _) HC.out).1⟩
              have HC2 : Hid (Keeps no wl z1) := (ha7.new (new_none _) HC.out).2
              clear HC ho7 ha7
              have HC : Hid (Keeps no wl z1) := HC2.out
              clear HC2
              refine hKq.out _ _ ?_ (fun hHeldN => ?_)
              · trivial
              clear hKq Kq hHeld
              have hHeld := hHeldN
              clear hHeldN
              refine wpAnyH_ready (rs := [8, 14]) (by kernel_rfl) (by simp) ?_
              refine AllReadyH.cons (by simp only [List.getElem?_toArray, List.getElem?_cons_succ, List.getElem?_cons_zero]; rfl) (fun Kq hKq => ?_) (AllReadyH.cons (by simp only [List.getElem?_toArray, List.getElem?_cons_succ, List.getElem?_cons_zero]; rfl) (fun Kq hKq => ?_) AllReadyH.nil)
              · go_simp
                have HB : Hid (Row TE (z1.alloc (.cells #[.string ⟨#[115, 112, 97, 114, 101]⟩] 9)) (some ⟨z1.heap.size, 0, none⟩) [sp]) := (own_one z1 sp).row
                have HC2 : Hid (Keeps no wl (z1.alloc (.cells #[.string ⟨#[115, 112, 97, 114, 101]⟩] 9))) := HC.out.alloc _
                clear HC
                have HC : Hid (Keeps no wl (z1.alloc (.cells #[.string ⟨#[115, 112, 97, 114, 101]⟩] 9))) := HC2.out
                clear HC2
                have HA2 : Hid (Own TE (z1.alloc (.cells #[.string ⟨#[115, 112, 97, 114, 101]⟩] 9)) oa ca ky ∧ New wl oa) := ⟨HA.out.1.keepsN ((Keeps.refl no z1).alloc _), HA.out.2⟩
                clear HA
                have HA : Hid (Own TE (z1.alloc (.cells #[.string ⟨#[115, 112, 97, 114, 101]⟩] 9)) oa ca ky ∧ New wl oa) := HA2.out
                clear HA2
                generalize (z1.alloc (.cells #[.string ⟨#[115, 112, 97, 114, 101]⟩] 9)) = z2 at HB HC HA ⊢
                refine hKq.out _ _ ?_ (fun hHeldN => ?_)
                · trivial
                clear hKq Kq hHeld
                have hHeld := hHeldN
                clear hHeldN
                refine wpAnyH_ready (rs := [9, 14]) (by kernel_rfl) (by simp) ?_
                refine AllReadyH.cons (by simp only [List.getElem?_toArray, List.getElem?_cons_succ, List.getElem?_cons_zero]; rfl) (fun Kq hKq => ?_) (AllReadyH.cons (by simp only [List.getElem?_toArray, List.getElem?_cons_succ, List.getElem?_cons_zero]; rfl) (fun Kq hKq => ?_) AllReadyH.nil)
                · refine step_app1 okT rfl (.tmp 102) (.tmp 103) rfl oa _ ca ky rfl (by have := HKY0.out.2.1; omega) HA.out.1 (some ⟨z1.heap.size, 0, none⟩) 1 1 [sp] rfl rfl (fun h => by cases h) HB.out (by have := HKY0.out.2.2; simp [TE]; omega) (by have := HKY0.out.2.2; simp; omega) ?_
                  intro o9 c9 z3 ho9 ha9
                  have HF : Hid (Own TE z3 o9 c9 (ky ++ [sp]) ∧ New wl o9) := ⟨ho9, (ha9.new HA.out.2 HC.out).1⟩
                  have HC2 : Hid (Keeps no wl z3) := (ha9.new HA.out.2 HC.out).2
                  clear HC ho9 ha9 HA HB
                  have HC : Hid (Keeps no wl z3) := HC2.out
                  clear HC2
                  refine hKq.out _ _ ?_ (fun hHeldN => ?_)
                  · trivial
                  clear hKq Kq hHeld
                  have hHeld := hHeldN
                  clear hHeldN
                  refine wpAnyH_ready (rs := [14]) (by kernel_rfl) (by simp) ?_
                  refine AllReadyH.cons (by simp only [List.getElem?_toArray, List.getElem?_cons_succ, List.getElem?_cons_zero]; rfl) (fun Kq hKq => ?_) AllReadyH.nil
                  have hz := HC.out.cellN HD3.out
                  go_simp
                  clear hz
                  refine hKq.out _ _ ?_ (fun hHeldN => ?_)
                  · trivial
                  clear hKq Kq hHeld
                  have hHeld := hHeldN
                  clear hHeldN
                  refine wpAnyH_take (i := 15) (v := ?_) (by simp only [List.getElem?_toArray, List.getElem?_cons_succ, List.getElem?_cons_zero]; rfl) (by kernel_rfl) (by kernel_rfl) (by kernel_rfl) (by exact fun _ _ _ h => h) (Or.inl ⟨by rfl, ?_⟩) (by assumption) ?_
                  rotate_left
                  · (intro _ hSw; (try dsimp only at hSw); go_simp; (try with_reducible rfl))
                  try simp only [Act.put, List.setIfInBounds_toArray, List.set_cons_zero, List.set_cons_succ]
                  have hrc : rn ≤ c9 := by have h1 := HF.out.1.cap.1; have h2 := HKY0.out.2.1; rw [List.length_append] at h1; omega
                  have hrc2 : (rn : Int) ≤ (c9 : Int) := by omega
                  refine wpAnyH_take (i := 16) (v := ?_) (by simp only [List.getElem?_toArray, List.getElem?_cons_succ, List.getElem?_cons_zero]; rfl) (by kernel_rfl) (by kernel_rfl) (by kernel_rfl) (by exact fun _ _ _ h => h) (Or.inl ⟨by rfl, ?_⟩) (by assumption) ?_
                  rotate_left
                  · (intro _ hSw; (try dsimp only at hSw); go_simp; (try with_reducible rfl))
                  try simp only [Act.put, List.setIfInBounds_toArray, List.set_cons_zero, List.set_cons_succ]
                  refine wpAnyH_take (i := 17) (v := ?_) (by simp only [List.getElem?_toArray, List.getElem?_cons_succ, List.getElem?_cons_zero]; rfl) (by kernel_rfl) (by kernel_rfl) (by kernel_rfl) (by exact fun _ _ _ h => h) (Or.inl ⟨by rfl, ?_⟩) (by assumption) ?_
                  rotate_left
                  · (intro _ hSw; (try dsimp only at hSw); go_simp; (try with_reducible rfl))
                  try simp only [Act.put, List.setIfInBounds_toArray, List.set_cons_zero, List.set_cons_succ]
                  refine wpAnyH_take (i := 18) (v := ?_) (by simp only [List.getElem?_toArray, List.getElem?_cons_succ, List.getElem?_cons_zero]; rfl) (by kernel_rfl) (by kernel_rfl) (by kernel_rfl) (by exact fun _ _ _ h => h) (Or.inl ⟨by rfl, ?_⟩) (by assumption) ?_
                  rotate_left
                  · (intro _ hSw; (try dsimp only at hSw); go_simp; (try with_reducible rfl))
                  try simp only [Act.put, List.setIfInBounds_toArray, List.set_cons_zero, List.set_cons_succ]
                  have hz := HC.out.cellN HD3.out
                  obtain ⟨g2, eg, hfz, hlk2⟩ := HLQ2.out.1.set HLQ2.out.2.2 (o9 := o9) (c9 := c9) (by rw [HLQ2.out.2.1]; exact HF.out.1) (fun q hq => Nat.le_trans HKW2.out.2 (HF.out.2 q hq)) HC.out
                  have hgg : g2 = g := by cases eg; rfl
                  subst g2
                  have f3 := hfz (i * 4 + 3)
                  rw [HRR.out] at hlk2
                  have HN : Hid (Lk w wr (some ⟨g, 0, none⟩) c vs (i + 1) (rs1.set i ⟨rk, ri, rv, o9, rn, c9⟩) (z3.setCell ⟨g, i * 4 + 3, none⟩ (.slice o9 rn c9))) := hlk2
                  clear hlk2 eg hfz
                  refine wpAnyH_ready (rs := [19]) (by kernel_rfl) (by simp) ?_
                  refine AllReadyH.cons (by simp only [List.getElem?_toArray, List.getElem?_cons_succ, List.getElem?_cons_zero]; rfl) (fun Kq hKq => ?_) AllReadyH.nil
                  go_simp
                  refine hKq.out _ _ ?_ (fun hHeldN => ?_)
                  · trivial
                  clear hKq Kq hHeld
                  have hHeld := hHeldN
                  clear hHeldN
                  refine wpAnyH_done (by kernel_rfl) ?_ _
                  clear hHeld
                  go_wp2_with fail
                  go_roundw
                  case rel => exact ⟨i + 1, by omega, by go_num, _, HN.out⟩
                  case measure => simp [intOf]; omega
                · have hz := HC.out.cellN HD3.out
                  go_simp
                  clear hz
                  refine hKq.out _ _ ?_ (fun hHeldN => ?_)
                  · trivial
                  clear hKq Kq hHeld
                  have hHeld := hHeldN
                  clear hHeldN
                  refine wpAnyH_take (i := 15) (v := ?_) (by simp only [List.getElem?_toArray, List.getElem?_cons_succ, List.getElem?_cons_zero]; rfl) (by kernel_rfl) (by kernel_rfl) (by kernel_rfl) (by exact fun _ _ _ h => h) (Or.inl ⟨by rfl, ?_⟩) (by assumption) ?_
                  rotate_left
                  · (intro _ hSw; (try dsimp only at hSw); go_simp; (try with_reducible rfl))
                  try simp only [Act.put, List.setIfInBounds_toArray, List.set_cons_zero, List.set_cons_succ]
                  refine wpAnyH_ready (rs := [9]) (by kernel_rfl) (by simp) ?_
                  refine AllReadyH.cons (by simp only [List.getElem?_toArray, List.getElem?_cons_succ, List.getElem?_cons_zero]; rfl) (fun Kq hKq => ?_) AllReadyH.nil
                  refine step_app1 okT rfl (.tmp 102) (.tmp 103) rfl oa _ ca ky rfl (by have := HKY0.out.2.1; omega) HA.out.1 (some ⟨z1.heap.size, 0, none⟩) 1 1 [sp] rfl rfl (fun h => by cases h) HB.out (by have := HKY0.out.2.2; simp [TE]; omega) (by have := HKY0.out.2.2; simp; omega) ?_
                  intro o9 c9 z3 ho9 ha9
                  have HF : Hid (Own TE z3 o9 c9 (ky ++ [sp]) ∧ New wl o9) := ⟨ho9, (ha9.new HA.out.2 HC.out).1⟩
                  have HC2 : Hid (Keeps no wl z3) := (ha9.new HA.out.2 HC.out).2
                  clear HC ho9 ha9 HA HB
                  have HC : Hid (Keeps no wl z3) := HC2.out
                  clear HC2
                  refine hKq.out _ _ ?_ (fun hHeldN => ?_)
                  · trivial
                  clear hKq Kq hHeld
                  have hHeld := hHeldN
                  clear hHeldN
                  have hrc : rn ≤ c9 := by have h1 := HF.out.1.cap.1; have h2 := HKY0.out.2.1; rw [List.length_append] at h1; omega
                  have hrc2 : (rn : Int) ≤ (c9 : Int) := by omega
                  refine wpAnyH_take (i := 16) (v := ?_) (by simp only [List.getElem?_toArray, List.getElem?_cons_succ, List.getElem?_cons_zero]; rfl) (by kernel_rfl) (by kernel_rfl) (by kernel_rfl) (by exact fun _ _ _ h => h) (Or.inl ⟨by rfl, ?_⟩) (by assumption) ?_
                  rotate_left
                  · (intro _ hSw; (try dsimp only at hSw); go_simp; (try with_reducible rfl))
                  try simp only [Act.put, List.setIfInBounds_toArray, List.set_cons_zero, List.set_cons_succ]
                  refine wpAnyH_take (i := 17) (v := ?_) (by simp only [List.getElem?_toArray, List.getElem?_cons_succ, List.getElem?_cons_zero]; rfl) (by kernel_rfl) (by kernel_rfl) (by kernel_rfl) (by exact fun _ _ _ h => h) (Or.inl ⟨by rfl, ?_⟩) (by assumption) ?_
                  rotate_left
                  · (intro _ hSw; (try dsimp only at hSw); go_simp; (try with_reducible rfl))
                  try simp only [Act.put, List.setIfInBounds_toArray, List.set_cons_zero, List.set_cons_succ]
                  refine wpAnyH_take (i := 18) (v := ?_) (by simp only [List.getElem?_toArray, List.getElem?_cons_succ, List.getElem?_cons_zero]; rfl) (by kernel_rfl) (by kernel_rfl) (by kernel_rfl) (by exact fun _ _ _ h => h) (Or.inl ⟨by rfl, ?_⟩) (by assumption) ?_
                  rotate_left
                  · (intro _ hSw; (try dsimp only at hSw); go_simp; (try with_reducible rfl))
                  try simp only [Act.put, List.setIfInBounds_toArray, List.set_cons_zero, List.set_cons_succ]
                  have hz := HC.out.cellN HD3.out
                  obtain ⟨g2, eg, hfz, hlk2⟩ := HLQ2.out.1.set HLQ2.out.2.2 (o9 := o9) (c9 := c9) (by rw [HLQ2.out.2.1]; exact HF.out.1) (fun q hq => Nat.le_trans HKW2.out.2 (HF.out.2 q hq)) HC.out
                  have hgg : g2 = g := by cases eg; rfl
                  subst g2
                  have f3 := hfz (i * 4 + 3)
                  rw [HRR.out] at hlk2
                  have HN : Hid (Lk w wr (some ⟨g, 0, none⟩) c vs (i + 1) (rs1.set i ⟨rk, ri, rv, o9, rn, c9⟩) (z3.setCell ⟨g, i * 4 + 3, none⟩ (.slice o9 rn c9))) := hlk2
                  clear hlk2 eg hfz
                  refine wpAnyH_ready (rs := [19]) (by kernel_rfl) (by simp) ?_
                  refine AllReadyH.cons (by simp only [List.getElem?_toArray, List.getElem?_cons_succ, List.getElem?_cons_zero]; rfl) (fun Kq hKq => ?_) AllReadyH.nil
                  go_simp
                  refine hKq.out _ _ ?_ (fun hHeldN => ?_)
                  · trivial
                  clear hKq Kq hHeld
                  have hHeld := hHeldN
                  clear hHeldN
                  refine wpAnyH_done (by kernel_rfl) ?_ _
                  clear hHeld
                  go_wp2_with fail
                  go_roundw
                  case rel => exact ⟨i + 1, by omega, by go_num, _, HN.out⟩
                  case measure => simp [intOf]; omega
              · have hz := HC.out.cellN HD3.out
                go_simp
                clear hz
                refine hKq.out _ _ ?_ (fun hHeldN => ?_)
                · trivial
                clear hKq Kq hHeld
                have hHeld := hHeldN
                clear hHeldN
                refine wpAnyH_take (i := 15) (v := ?_) (by simp only [List.getElem?_toArray, List.getElem?_cons_succ, List.getElem?_cons_zero]; rfl) (by kernel_rfl) (by kernel_rfl) (by kernel_rfl) (by exact fun _ _ _ h => h) (Or.inl ⟨by rfl, ?_⟩) (by assumption) ?_
                rotate_left
                · (intro _ hSw; (try dsimp only at hSw); go_simp; (try with_reducible rfl))
                try simp only [Act.put, List.setIfInBounds_toArray, List.set_cons_zero, List.set_cons_succ]
                refine wpAnyH_ready (rs := [8]) (by kernel_rfl) (by simp) ?_
                refine AllReadyH.cons (by simp only [List.getElem?_toArray, List.getElem?_cons_succ, List.getElem?_cons_zero]; rfl) (fun Kq hKq => ?_) AllReadyH.nil
                go_simp
                have HB : Hid (Row TE (z1.alloc (.cells #[.string ⟨#[115, 112, 97, 114, 101]⟩] 9)) (some ⟨z1.heap.size, 0, none⟩) [sp]) := (own_one z1 sp).row
                have HC2 : Hid (Keeps no wl (z1.alloc (.cells #[.string ⟨#[115, 112, 97, 114, 101]⟩] 9))) := HC.out.alloc _
                clear HC
                have HC : Hid (Keeps no wl (z1.alloc (.cells #[.string ⟨#[115, 112, 97, 114, 101]⟩] 9))) := HC2.out
                clear HC2
                have HA2 : Hid (Own TE (z1.alloc (.cells #[.string ⟨#[115, 112, 97, 114, 101]⟩] 9)) oa ca ky ∧ New wl oa) := ⟨HA.out.1.keepsN ((Keeps.refl no z1).alloc _), HA.out.2⟩
                clear HA
                have HA : Hid (Own TE (z1.alloc (.cells #[.string ⟨#[115, 112, 97, 114, 101]⟩] 9)) oa ca ky ∧ New wl oa) := HA2.out
                clear HA2
                generalize (z1.alloc (.cells #[.string ⟨#[115, 112, 97, 114, 101]⟩] 9)) = z2 at HB HC HA ⊢
                refine hKq.out _ _ ?_ (fun hHeldN => ?_)
                · trivial
                clear hKq Kq hHeld
                have hHeld := hHeldN
                clear hHeldN
                refine wpAnyH_ready (rs := [9]) (by kernel_rfl) (by simp) ?_
                refine AllReadyH.cons (by simp only [List.getElem?_toArray, List.getElem?_cons_succ, List.getElem?_cons_zero]; rfl) (fun Kq hKq => ?_) AllReadyH.nil
                refine step_app1 okT rfl (.tmp 102) (.tmp 103) rfl oa _ ca ky rfl (by have := HKY0.out.2.1; omega) HA.out.1 (some ⟨z1.heap.size, 0, none⟩) 1 1 [sp] rfl rfl (fun h => by cases h) HB.out (by have := HKY0.out.2.2; simp [TE]; omega) (by have := HKY0.out.2.2; simp; omega) ?_
                intro o9 c9 z3 ho9 ha9
                have HF : Hid (Own TE z3 o9 c9 (ky ++ [sp]) ∧ New wl o9) := ⟨ho9, (ha9.new HA.out.2 HC.out).1⟩
                have HC2 : Hid (Keeps no wl z3) := (ha9.new HA.out.2 HC.out).2
                clear HC ho9 ha9 HA HB
                have HC : Hid (Keeps no wl z3) := HC2.out
                clear HC2
                refine hKq.out _ _ ?_ (fun hHeldN => ?_)
                · trivial
                clear hKq Kq hHeld
                have hHeld := hHeldN
                clear hHeldN
                have hrc : rn ≤ c9 := by have h1 := HF.out.1.cap.1; have h2 := HKY0.out.2.1; rw [List.length_append] at h1; omega
                have hrc2 : (rn : Int) ≤ (c9 : Int) := by omega
                refine wpAnyH_take (i := 16) (v := ?_) (by simp only [List.getElem?_toArray, List.getElem?_cons_succ, List.getElem?_cons_zero]; rfl) (by kernel_rfl) (by kernel_rfl) (by kernel_rfl) (by exact fun _ _ _ h => h) (Or.inl ⟨by rfl, ?_⟩) (by assumption) ?_
                rotate_left
                · (intro _ hSw; (try dsimp only at hSw); go_simp; (try with_reducible rfl))
                try simp only [Act.put, List.setIfInBounds_toArray, List.set_cons_zero, List.set_cons_succ]
                refine wpAnyH_take (i := 17) (v := ?_) (by simp only [List.getElem?_toArray, List.getElem?_cons_succ, List.getElem?_cons_zero]; rfl) (by kernel_rfl) (by kernel_rfl) (by kernel_rfl) (by exact fun _ _ _ h => h) (Or.inl ⟨by rfl, ?_⟩) (by assumption) ?_
                rotate_left
                · (intro _ hSw; (try dsimp only at hSw); go_simp; (try with_reducible rfl))
                try simp only [Act.put, List.setIfInBounds_toArray, List.set_cons_zero, List.set_cons_succ]
                refine wpAnyH_take (i := 18) (v := ?_) (by simp only [List.getElem?_toArray, List.getElem?_cons_succ, List.getElem?_cons_zero]; rfl) (by kernel_rfl) (by kernel_rfl) (by kernel_rfl) (by exact fun _ _ _ h => h) (Or.inl ⟨by rfl, ?_⟩) (by assumption) ?_
                rotate_left
                · (intro _ hSw; (try dsimp only at hSw); go_simp; (try with_reducible rfl))
                try simp only [Act.put, List.setIfInBounds_toArray, List.set_cons_zero, List.set_cons_succ]
                have hz := HC.out.cellN HD3.out
                obtain ⟨g2, eg, hfz, hlk2⟩ := HLQ2.out.1.set HLQ2.out.2.2 (o9 := o9) (c9 := c9) (by rw [HLQ2.out.2.1]; exact HF.out.1) (fun q hq => Nat.le_trans HKW2.out.2 (HF.out.2 q hq)) HC.out
                have hgg : g2 = g := by cases eg; rfl
                subst g2
                have f3 := hfz (i * 4 + 3)
                rw [HRR.out] at hlk2
                have HN : Hid (Lk w wr (some ⟨g, 0, none⟩) c vs (i + 1) (rs1.set i ⟨rk, ri, rv, o9, rn, c9⟩) (z3.setCell ⟨g, i * 4 + 3, none⟩ (.slice o9 rn c9))) := hlk2
                clear hlk2 eg hfz
                refine wpAnyH_ready (rs := [19]) (by kernel_rfl) (by simp) ?_
                refine AllReadyH.cons (by simp only [List.getElem?_toArray, List.getElem?_cons_succ, List.getElem?_cons_zero]; rfl) (fun Kq hKq => ?_) AllReadyH.nil
                go_simp
                refine hKq.out _ _ ?_ (fun hHeldN => ?_)
                · trivial
                clear hKq Kq hHeld
                have hHeld := hHeldN
                clear hHeldN
                refine wpAnyH_done (by kernel_rfl) ?_ _
                clear hHeld
                go_wp2_with fail
                go_roundw
                case rel => exact ⟨i + 1, by omega, by go_num, _, HN.out⟩
                case measure => simp [intOf]; omega
            · go_simp
              have HB : Hid (Row TE (z0.alloc (.cells #[.string ⟨#[115, 112, 97, 114, 101]⟩] 9)) (some ⟨z0.heap.size, 0, none⟩) [sp]) := (own_one z0 sp).row
              have HC2 : Hid (Keeps no wl (z0.alloc (.cells #[.string ⟨#[115, 112, 97, 114, 101]⟩] 9))) := HC.out.alloc _
              clear HC
              have HC : Hid (Keeps no wl (z0.alloc (.cells #[.string ⟨#[115, 112, 97, 114, 101]⟩] 9))) := HC2.out
              clear HC2
              generalize (z0.alloc (.cells #[.string ⟨#[115, 112, 97, 114, 101]⟩] 9)) = z1 at HB HC ⊢
              refine hKq.out _ _ ?_ (fun hHeldN => ?_)
              · trivial
              clear hKq Kq hHeld
              have hHeld := hHeldN
              clear hHeldN
              refine wpAnyH_ready (rs := [7, 14]) (by kernel_rfl) (by simp) ?_
              refine AllReadyH.cons (by simp only [List.getElem?_toArray, List.getElem?_cons_succ, List.getElem?_cons_zero]; rfl) (fun Kq hKq => ?_) (AllReadyH.cons (by simp only [List.getElem?_toArray, List.getElem?_cons_succ, List.getElem?_cons_zero]; rfl) (fun Kq hKq => ?_) AllReadyH.nil)
              · refine step_app1 okT rfl (.const (.slice none 0 0)) (.tmp 101) rfl none 0 0 [] rfl rfl (own_nil _) ro rn rc ky rfl HKY0.out.2.1 HKY0.out.1.sl.nil (HKY0.out.1.keepsN HC.out).row (by have := HKY0.out.2.2; simp [TE]; omega) (by have := HKY0.out.2.2; simp; omega) ?_
                intro oa ca z2 ho7 ha7
                have HA : Hid (Own TE z2 oa ca ky ∧ New wl oa) := ⟨by simpa using ho7, (ha7.new (new_none _) HC.out).1⟩
                have HC2 : Hid (Keeps no wl z2) := (ha7.new (new_none _) HC.out).2
                have HB2 : Hid (Row TE z2 (some ⟨z0.heap.size, 0, none⟩) [sp]) := HB.out.keepsN ha7.none
                clear HB
                have HB : Hid (Row TE z2 (some ⟨z0.heap.size, 0, none⟩) [sp]) := HB2.out
                clear HC ho7 ha7
                have HC : Hid (Keeps no wl z2) := HC2.out
                clear HC2
                refine hKq.out _ _ ?_ (fun hHeldN => ?_)
                · trivial
                clear hKq Kq hHeld
                have hHeld := hHeldN
                clear hHeldN
                refine wpAnyH_ready (rs := [9, 14]) (by kernel_rfl) (by simp) ?_
                refine AllReadyH.cons (by simp only [List.getElem?_toArray, List.getElem?_cons_succ, List.getElem?_cons_zero]; rfl) (fun Kq hKq => ?_) (AllReadyH.cons (by simp only [List.getElem?_toArray, List.getElem?_cons_succ, List.getElem?_cons_zero]; rfl) (fun Kq hKq => ?_) AllReadyH.nil)
                · refine step_app1 okT rfl (.tmp 102) (.tmp 103) rfl oa _ ca ky rfl (by have := HKY0.out.2.1; omega) HA.out.1 (some ⟨z0.heap.size, 0, none⟩) 1 1 [sp] rfl rfl (fun h => by cases h) HB.out (by have := HKY0.out.2.2; simp [TE]; omega) (by have := HKY0.out.2.2; simp; omega) ?_
                  intro o9 c9 z3 ho9 ha9
                  have HF : Hid (Own TE z3 o9 c9 (ky ++ [sp]) ∧ New wl o9) := ⟨ho9, (ha9.new HA.out.2 HC.out).1⟩
                  have HC2 : Hid (Keeps no wl z3) := (ha9.new HA.out.2 HC.out).2
                  clear HC ho9 ha9 HA HB
                  have HC : Hid (Keeps no wl z3) := HC2.out
                  clear HC2
                  refine hKq.out _ _ ?_ (fun hHeldN => ?_)
                  · trivial
                  clear hKq Kq hHeld
                  have hHeld := hHeldN
                  clear hHeldN
                  refine wpAnyH_ready (rs := [14]) (by kernel_rfl) (by simp) ?_
                  refine AllReadyH.cons (by simp only [List.getElem?_toArray, List.getElem?_cons_succ, List.getElem?_cons_zero]; rfl) (fun Kq hKq => ?_) AllReadyH.nil
                  have hz := HC.out.cellN HD3.out
                  go_simp
                  clear hz
                  refine hKq.out _ _ ?_ (fun hHeldN => ?_)
                  · trivial
                  clear hKq Kq hHeld
                  have hHeld := hHeldN
                  clear hHeldN
                  refine wpAnyH_take (i := 15) (v := ?_) (by simp only [List.getElem?_toArray, List.getElem?_cons_succ, List.getElem?_cons_zero]; rfl) (by kernel_rfl) (by kernel_rfl) (by kernel_rfl) (by exact fun _ _ _ h => h) (Or.inl ⟨by rfl, ?_⟩) (by assumption) ?_
                  rotate_left
                  · (intro _ hSw; (try dsimp only at hSw); go_simp; (try with_reducible rfl))
                  try simp only [Act.put, List.setIfInBounds_toArray, List.set_cons_zero, List.set_cons_succ]
                  have hrc : rn ≤ c9 := by have h1 := HF.out.1.cap.1; have h2 := HKY0.out.2.1; rw [List.length_append] at h1; omega
                  have hrc2 : (rn : Int) ≤ (c9 : Int) := by omega
                  refine wpAnyH_take (i := 16) (v := ?_) (by simp only [List.getElem?_toArray, List.getElem?_cons_succ, List.getElem?_cons_zero]; rfl) (by kernel_rfl) (by kernel_rfl) (by kernel_rfl) (by exact fun _ _ _ h => h) (Or.inl ⟨by rfl, ?_⟩) (by assumption) ?_
                  rotate_left
                  · (intro _ hSw; (try dsimp only at hSw); go_simp; (try with_reducible rfl))
                  try simp only [Act.put, List.setIfInBounds_toArray, List.set_cons_zero, List.set_cons_succ]
                  refine wpAnyH_take (i := 17) (v := ?_) (by simp only [List.getElem?_toArray, List.getElem?_cons_succ, List.getElem?_cons_zero]; rfl) (by kernel_rfl) (by kernel_rfl) (by kernel_rfl) (by exact fun _ _ _ h => h) (Or.inl ⟨by rfl, ?_⟩) (by assumption) ?_
                  rotate_left
                  · (intro _ hSw; (try dsimp only at hSw); go_simp; (try with_reducible rfl))
                  try simp only [Act.put, List.setIfInBounds_toArray, List.set_cons_zero, List.set_cons_succ]
                  refine wpAnyH_take (i := 18) (v := ?_) (by simp only [List.getElem?_toArray, List.getElem?_cons_succ, List.getElem?_cons_zero]; rfl) (by kernel_rfl) (by kernel_rfl) (by kernel_rfl) (by exact fun _ _ _ h => h) (Or.inl ⟨by rfl, ?_⟩) (by assumption) ?_
                  rotate_left
                  · (intro _ hSw; (try dsimp only at hSw); go_simp; (try with_reducible rfl))
                  try simp only [Act.put, List.setIfInBounds_toArray, List.set_cons_zero, List.set_cons_succ]
                  have hz := HC.out.cellN HD3.out
                  obtain ⟨g2, eg, hfz, hlk2⟩ := HLQ2.out.1.set HLQ2.out.2.2 (o9 := o9) (c9 := c9) (by rw [HLQ2.out.2.1]; exact HF.out.1) (fun q hq => Nat.le_trans HKW2.out.2 (HF.out.2 q hq)) HC.out
                  have hgg : g2 = g := by cases eg; rfl
                  subst g2
                  have f3 := hfz (i * 4 + 3)
                  rw [HRR.out] at hlk2
                  have HN : Hid (Lk w wr (some ⟨g, 0, none⟩) c vs (i + 1) (rs1.set i ⟨rk, ri, rv, o9, rn, c9⟩) (z3.setCell ⟨g, i * 4 + 3, none⟩ (.slice o9 rn c9))) := hlk2
                  clear hlk2 eg hfz
                  refine wpAnyH_ready (rs := [19]) (by kernel_rfl) (by simp) ?_
                  refine AllReadyH.cons (by simp only [List.getElem?_toArray, List.getElem?_cons_succ, List.getElem?_cons_zero]; rfl) (fun Kq hKq => ?_) AllReadyH.nil
                  go_simp
                  refine hKq.out _ _ ?_ (fun hHeldN => ?_)
                  · trivial
                  clear hKq Kq hHeld
                  have hHeld := hHeldN
                  clear hHeldN
                  refine wpAnyH_done (by kernel_rfl) ?_ _
                  clear hHeld
                  go_wp2_with fail
                  go_roundw
                  case rel => exact ⟨i + 1, by omega, by go_num, _, HN.out⟩
                  case measure => simp [intOf]; omega
                · have hz := HC.out.cellN HD3.out
                  go_simp
                  clear hz
                  refine hKq.out _ _ ?_ (fun hHeldN => ?_)
                  · trivial
                  clear hKq Kq hHeld
                  have hHeld := hHeldN
                  clear hHeldN
                  refine wpAnyH_take (i := 15) (v := ?_) (by simp only [List.getElem?_toArray, List.getElem?_cons_succ, List.getElem?_cons_zero]; rfl) (by kernel_rfl) (by kernel_rfl) (by kernel_rfl) (by exact fun _ _ _ h => h) (Or.inl ⟨by rfl, ?_⟩) (by assumption) ?_
                  rotate_left
                  · (intro _ hSw; (try dsimp only at hSw); go_simp; (try with_reducible rfl))
                  try simp only [Act.put, List.setIfInBounds_toArray, List.set_cons_zero, List.set_cons_succ]
                  refine wpAnyH_ready (rs := [9]) (by kernel_rfl) (by simp) ?_
                  refine AllReadyH.cons (by simp only [List.getElem?_toArray, List.getElem?_cons_succ, List.getElem?_cons_zero]; rfl) (fun Kq hKq => ?_) AllReadyH.nil
                  refine step_app1 okT rfl (.tmp 102) (.tmp 103) rfl oa _ ca ky rfl (by have := HKY0.out.2.1; omega) HA.out.1 (some ⟨z0.heap.size, 0, none⟩) 1 1 [sp] rfl rfl (fun h => by cases h) HB.out (by have := HKY0.out.2.2; simp [TE]; omega) (by have := HKY0.out.2.2; simp; omega) ?_
                  intro o9 c9 z3 ho9 ha9
                  have HF : Hid (Own TE z3 o9 c9 (ky ++ [sp]) ∧ New wl o9) := ⟨ho9, (ha9.new HA.out.2 HC.out).1⟩
                  have HC2 : Hid (Keeps no wl z3) := (ha9.new HA.out.2 HC.out).2
                  clear HC ho9 ha9 HA HB
                  have HC : Hid (Keeps no wl z3) := HC2.out
                  clear HC2
                  refine hKq.out _ _ ?_ (fun hHeldN => ?_)
                  · trivial
                  clear hKq Kq hHeld
                  have hHeld := hHeldN
                  clear hHeldN
                  have hrc : rn ≤ c9 := by have h1 := HF.out.1.cap.1; have h2 := HKY0.out.2.1; rw [List.length_append] at h1; omega
                  have hrc2 : (rn : Int) ≤ (c9 : Int) := by omega
                  refine wpAnyH_take (i := 16) (v := ?_) (by simp only [List.getElem?_toArray, List.getElem?_cons_succ, List.getElem?_cons_zero]; rfl) (by kernel_rfl) (by kernel_rfl) (by kernel_rfl) (by exact fun _ _ _ h => h) (Or.inl ⟨by rfl, ?_⟩) (by assumption) ?_
                  rotate_left
                  · (intro _ hSw; (try dsimp only at hSw); go_simp; (try with_reducible rfl))
                  try simp only [Act.put, List.setIfInBounds_toArray, List.set_cons_zero, List.set_cons_succ]
                  refine wpAnyH_take (i := 17) (v := ?_) (by simp only [List.getElem?_toArray, List.getElem?_cons_succ, List.getElem?_cons_zero]; rfl) (by kernel_rfl) (by kernel_rfl) (by kernel_rfl) (by exact fun _ _ _ h => h) (Or.inl ⟨by rfl, ?_⟩) (by assumption) ?_
                  rotate_left
                  · (intro _ hSw; (try dsimp only at hSw); go_simp; (try with_reducible rfl))
                  try simp only [Act.put, List.setIfInBounds_toArray, List.set_cons_zero, List.set_cons_succ]
                  refine wpAnyH_take (i := 18) (v := ?_) (by simp only [List.getElem?_toArray, List.getElem?_cons_succ, List.getElem?_cons_zero]; rfl) (by kernel_rfl) (by kernel_rfl) (by kernel_rfl) (by exact fun _ _ _ h => h) (Or.inl ⟨by rfl, ?_⟩) (by assumption) ?_
                  rotate_left
                  · (intro _ hSw; (try dsimp only at hSw); go_simp; (try with_reducible rfl))
                  try simp only [Act.put, List.setIfInBounds_toArray, List.set_cons_zero, List.set_cons_succ]
                  have hz := HC.out.cellN HD3.out
                  obtain ⟨g2, eg, hfz, hlk2⟩ := HLQ2.out.1.set HLQ2.out.2.2 (o9 := o9) (c9 := c9) (by rw [HLQ2.out.2.1]; exact HF.out.1) (fun q hq => Nat.le_trans HKW2.out.2 (HF.out.2 q hq)) HC.out
                  have hgg : g2 = g := by cases eg; rfl
                  subst g2
                  have f3 := hfz (i * 4 + 3)
                  rw [HRR.out] at hlk2
                  have HN : Hid (Lk w wr (some ⟨g, 0, none⟩) c vs (i + 1) (rs1.set i ⟨rk, ri, rv, o9, rn, c9⟩) (z3.setCell ⟨g, i * 4 + 3, none⟩ (.slice o9 rn c9))) := hlk2
                  clear hlk2 eg hfz
                  refine wpAnyH_ready (rs := [19]) (by kernel_rfl) (by simp) ?_
                  refine AllReadyH.cons (by simp only [List.getElem?_toArray, List.getElem?_cons_succ, List.getElem?_cons_zero]; rfl) (fun Kq hKq => ?_) AllReadyH.nil
                  go_simp
                  refine hKq.out _ _ ?_ (fun hHeldN => ?_)
                  · trivial
                  clear hKq Kq hHeld
                  have hHeld := hHeldN
                  clear hHeldN
                  refine wpAnyH_done (by kernel_rfl) ?_ _
                  clear hHeld
                  go_wp2_with fail
                  go_roundw
                  case rel => exact ⟨i + 1, by omega, by go_num, _, HN.out⟩
                  case measure => simp [intOf]; omega
              · have hz := HC.out.cellN HD3.out
                go_simp
                clear hz
                refine hKq.out _ _ ?_ (fun hHeldN => ?_)
                · trivial
                clear hKq Kq hHeld
                have hHeld := hHeldN
                clear hHeldN
                refine wpAnyH_take (i := 15) (v := ?_) (by simp only [List.getElem?_toArray, List.getElem?_cons_succ, List.getElem?_cons_zero]; rfl) (by kernel_rfl) (by kernel_rfl) (by kernel_rfl) (by exact fun _ _ _ h => h) (Or.inl ⟨by rfl, ?_⟩) (by assumption) ?_
                rotate_left
                · (intro _ hSw; (try dsimp only at hSw); go_simp; (try with_reducible rfl))
                try simp only [Act.put, List.setIfInBounds_toArray, List.set_cons_zero, List.set_cons_succ]
                refine wpAnyH_ready (rs := [7]) (by kernel_rfl) (by simp) ?_
                refine AllReadyH.cons (by simp only [List.getElem?_toArray, List.getElem?_cons_succ, List.getElem?_cons_zero]; rfl) (fun Kq hKq => ?_) AllReadyH.nil
                refine step_app1 okT rfl (.const (.slice none 0 0)) (.tmp 101) rfl none 0 0 [] rfl rfl (own_nil _) ro rn rc ky rfl HKY0.out.2.1 HKY0.out.1.sl.nil (HKY0.out.1.keepsN HC.out).row (by have := HKY0.out.2.2; simp [TE]; omega) (by have := HKY0.out.2.2; simp; omega) ?_
                intro oa ca z2 ho7 ha7
                have HA : Hid (Own TE z2 oa ca ky ∧ New wl oa) := ⟨by simpa using ho7, (ha7.new (new_none _) HC.out).1⟩
                have HC2 : Hid (Keeps no wl z2) := (ha7.new (new_none _) HC.out).2
                have HB2 : Hid (Row TE z2 (some ⟨z0.heap.size, 0, none⟩) [sp]) := HB.out.keepsN ha7.none
                clear HB
                have HB : Hid (Row TE z2 (some ⟨z0.heap.size, 0, none⟩) [sp]) := HB2.out
                clear HC ho7 ha7
                have HC : Hid (Keeps no wl z2) := HC2.out
                clear HC2
                refine hKq.out _ _ ?_ (fun hHeldN => ?_)
                · trivial
                clear hKq Kq hHeld
                have hHeld := hHeldN
                clear hHeldN
                refine wpAnyH_ready (rs := [9]) (by kernel_rfl) (by simp) ?_
                refine AllReadyH.cons (by simp only [List.getElem?_toArray, List.getElem?_cons_succ, List.getElem?_cons_zero]; rfl) (fun Kq hKq => ?_) AllReadyH.nil
                refine step_app1 okT rfl (.tmp 102) (.tmp 103) rfl oa _ ca ky rfl (by have := HKY0.out.2.1; omega) HA.out.1 (some ⟨z0.heap.size, 0, none⟩) 1 1 [sp] rfl rfl (fun h => by cases h) HB.out (by have := HKY0.out.2.2; simp [TE]; omega) (by have := HKY0.out.2.2; simp; omega) ?_
                intro o9 c9 z3 ho9 ha9
                have HF : Hid (Own TE z3 o9 c9 (ky ++ [sp]) ∧ New wl o9) := ⟨ho9, (ha9.new HA.out.2 HC.out).1⟩
                have HC2 : Hid (Keeps no wl z3) := (ha9.new HA.out.2 HC.out).2
                clear HC ho9 ha9 HA HB
                have HC : Hid (Keeps no wl z3) := HC2.out
                clear HC2
                refine hKq.out _ _ ?_ (fun hHeldN => ?_)
                · trivial
                clear hKq Kq hHeld
                have hHeld := hHeldN
                clear hHeldN
                have hrc : rn ≤ c9 := by have h1 := HF.out.1.cap.1; have h2 := HKY0.out.2.1; rw [List.length_append] at h1; omega
                have hrc2 : (rn : Int) ≤ (c9 : Int) := by omega
                refine wpAnyH_take (i := 16) (v := ?_) (by simp only [List.getElem?_toArray, List.getElem?_cons_succ, List.getElem?_cons_zero]; rfl) (by kernel_rfl) (by kernel_rfl) (by kernel_rfl) (by exact fun _ _ _ h => h) (Or.inl ⟨by rfl, ?_⟩) (by assumption) ?_
                rotate_left
                · (intro _ hSw; (try dsimp only at hSw); go_simp; (try with_reducible rfl))
                try simp only [Act.put, List.setIfInBounds_toArray, List.set_cons_zero, List.set_cons_succ]
                refine wpAnyH_take (i := 17) (v := ?_) (by simp only [List.getElem?_toArray, List.getElem?_cons_succ, List.getElem?_cons_zero]; rfl) (by kernel_rfl) (by kernel_rfl) (by kernel_rfl) (by exact fun _ _ _ h => h) (Or.inl ⟨by rfl, ?_⟩) (by assumption) ?_
                rotate_left
                · (intro _ hSw; (try dsimp only at hSw); go_simp; (try with_reducible rfl))
                try simp only [Act.put, List.setIfInBounds_toArray, List.set_cons_zero, List.set_cons_succ]
                refine wpAnyH_take (i := 18) (v := ?_) (by simp only [List.getElem?_toArray, List.getElem?_cons_succ, List.getElem?_cons_zero]; rfl) (by kernel_rfl) (by kernel_rfl) (by kernel_rfl) (by exact fun _ _ _ h => h) (Or.inl ⟨by rfl, ?_⟩) (by assumption) ?_
                rotate_left
                · (intro _ hSw; (try dsimp only at hSw); go_simp; (try with_reducible rfl))
                try simp only [Act.put, List.setIfInBounds_toArray, List.set_cons_zero, List.set_cons_succ]
                have hz := HC.out.cellN HD3.out
                obtain ⟨g2, eg, hfz, hlk2⟩ := HLQ2.out.1.set HLQ2.out.2.2 (o9 := o9) (c9 := c9) (by rw [HLQ2.out.2.1]; exact HF.out.1) (fun q hq => Nat.le_trans HKW2.out.2 (HF.out.2 q hq)) HC.out
                have hgg : g2 = g := by cases eg; rfl
                subst g2
                have f3 := hfz (i * 4 + 3)
                rw [HRR.out] at hlk2
                have HN : Hid (Lk w wr (some ⟨g, 0, none⟩) c vs (i + 1) (rs1.set i ⟨rk, ri, rv, o9, rn, c9⟩) (z3.setCell ⟨g, i * 4 + 3, none⟩ (.slice o9 rn c9))) := hlk2
                clear hlk2 eg hfz
                refine wpAnyH_ready (rs := [19]) (by kernel_rfl) (by simp) ?_
                refine AllReadyH.cons (by simp only [List.getElem?_toArray, List.getElem?_cons_succ, List.getElem?_cons_zero]; rfl) (fun Kq hKq => ?_) AllReadyH.nil
                go_simp
                refine hKq.out _ _ ?_ (fun hHeldN => ?_)
                · trivial
                clear hKq Kq hHeld
                have hHeld := hHeldN
                clear hHeldN
                refine wpAnyH_done (by kernel_rfl) ?_ _
                clear hHeld
                go_wp2_with fail
                go_roundw
                case rel => exact ⟨i + 1, by omega, by go_num, _, HN.out⟩
                case measure => simp [intOf]; omega
            · have hz := HC.out.cellN HD3.out
              go_simp
              clear hz
              refine hKq.out _ _ ?_ (fun hHeldN => ?_)
              · trivial
              clear hKq Kq hHeld
              have hHeld := hHeldN
              clear hHeldN
              refine wpAnyH_take (i := 15) (v := ?_) (by simp only [List.getElem?_toArray, List.getElem?_cons_succ, List.getElem?_cons_zero]; rfl) (by kernel_rfl) (by kernel_rfl) (by kernel_rfl) (by exact fun _ _ _ h => h) (Or.inl ⟨by rfl, ?_⟩) (by assumption) ?_
              rotate_left
              · (intro _ hSw; (try dsimp only at hSw); go_simp; (try with_reducible rfl))
              try simp only [Act.put, List.setIfInBounds_toArray, List.set_cons_zero, List.set_cons_succ]
              refine wpAnyH_ready (rs := [7, 8]) (by kernel_rfl) (by simp) ?_
              refine AllReadyH.cons (by simp only [List.getElem?_toArray, List.getElem?_cons_succ, List.getElem?_cons_zero]; rfl) (fun Kq hKq => ?_) (AllReadyH.cons (by simp only [List.getElem?_toArray, List.getElem?_cons_succ, List.getElem?_cons_zero]; rfl) (fun Kq hKq => ?_) AllReadyH.nil)
              · refine step_app1 okT rfl (.const (.slice none 0 0)) (.tmp 101) rfl none 0 0 [] rfl rfl (own_nil _) ro rn rc ky rfl HKY0.out.2.1 HKY0.out.1.sl.nil (HKY0.out.1.keepsN HC.out).row (by have := HKY0.out.2.2; simp [TE]; omega) (by have := HKY0.out.2.2; simp; omega) ?_
                intro oa ca z1 ho7 ha7
                have HA : Hid (Own TE z1 oa ca ky ∧ New wl oa) := ⟨by simpa using ho7, (ha7.new (new_none _) HC.out).1⟩
                have HC2 : Hid (Keeps no wl z1) := (ha7.new (new_none _) HC.out).2
                clear HC ho7 ha7
                have HC : Hid (Keeps no wl z1) := HC2.out
                clear HC2
                refine hKq.out _ _ ?_ (fun hHeldN => ?_)
                · trivial
                clear hKq Kq hHeld
                have hHeld := hHeldN
                clear hHeldN
                refine wpAnyH_ready (rs := [8]) (by kernel_rfl) (by simp) ?_
                refine AllReadyH.cons (by simp only [List.getElem?_toArray, List.getElem?_cons_succ, List.getElem?_cons_zero]; rfl) (fun Kq hKq => ?_) AllReadyH.nil
                go_simp
                have HB : Hid (Row TE (z1.alloc (.cells #[.string ⟨#[115, 112, 97, 114, 101]⟩] 9)) (some ⟨z1.heap.size, 0, none⟩) [sp]) := (own_one z1 sp).row
                have HC2 : Hid (Keeps no wl (z1.alloc (.cells #[.string ⟨#[115, 112, 97, 114, 101]⟩] 9))) := HC.out.alloc _
                clear HC
                have HC : Hid (Keeps no wl (z1.alloc (.cells #[.string ⟨#[115, 112, 97, 114, 101]⟩] 9))) := HC2.out
                clear HC2
                have HA2 : Hid (Own TE (z1.alloc (.cells #[.string ⟨#[115, 112, 97, 114, 101]⟩] 9)) oa ca ky ∧ New wl oa) := ⟨HA.out.1.keepsN ((Keeps.refl no z1).alloc _), HA.out.2⟩
                clear HA
                have HA : Hid (Own TE (z1.alloc (.cells #[.string ⟨#[115, 112, 97, 114, 101]⟩] 9)) oa ca ky ∧ New wl oa) := HA2.out
                clear HA2
                generalize (z1.alloc (.cells #[.string ⟨#[115, 112, 97, 114, 101]⟩] 9)) = z2 at HB HC HA ⊢
                refine hKq.out _ _ ?_ (fun hHeldN => ?_)
                · trivial
                clear hKq Kq hHeld
                have hHeld := hHeldN
                clear hHeldN
                refine wpAnyH_ready (rs := [9]) (by kernel_rfl) (by simp) ?_
                refine AllReadyH.cons (by simp only [List.getElem?_toArray, List.getElem?_cons_succ, List.getElem?_cons_zero]; rfl) (fun Kq hKq => ?_) AllReadyH.nil
                refine step_app1 okT rfl (.tmp 102) (.tmp 103) rfl oa _ ca ky rfl (by have := HKY0.out.2.1; omega) HA.out.1 (some ⟨z1.heap.size, 0, none⟩) 1 1 [sp] rfl rfl (fun h => by cases h) HB.out (by have := HKY0.out.2.2; simp [TE]; omega) (by have := HKY0.out.2.2; simp; omega) ?_
                intro o9 c9 z3 ho9 ha9
                have HF : Hid (Own TE z3 o9 c9 (ky ++ [sp]) ∧ New wl o9) := ⟨ho9, (ha9.new HA.out.2 HC.out).1⟩
                have HC2 : Hid (Keeps no wl z3) := (ha9.new HA.out.2 HC.out).2
                clear HC ho9 ha9 HA HB
                have HC : Hid (Keeps no wl z3) := HC2.out
                clear HC2
                refine hKq.out _ _ ?_ (fun hHeldN => ?_)
                · trivial
                clear hKq Kq hHeld
                have hHeld := hHeldN
                clear hHeldN
                have hrc : rn ≤ c9 := by have h1 := HF.out.1.cap.1; have h2 := HKY0.out.2.1; rw [List.length_append] at h1; omega
                have hrc2 : (rn : Int) ≤ (c9 : Int) := by omega
                refine wpAnyH_take (i := 16) (v := ?_) (by simp only [List.getElem?_toArray, List.getElem?_cons_succ, List.getElem?_cons_zero]; rfl) (by kernel_rfl) (by kernel_rfl) (by kernel_rfl) (by exact fun _ _ _ h => h) (Or.inl ⟨by rfl, ?_⟩) (by assumption) ?_
                rotate_left
                · (intro _ hSw; (try dsimp only at hSw); go_simp; (try with_reducible rfl))
                try simp only [Act.put, List.setIfInBounds_toArray, List.set_cons_zero, List.set_cons_succ]
                refine wpAnyH_take (i := 17) (v := ?_) (by simp only [List.getElem?_toArray, List.getElem?_cons_succ, List.getElem?_cons_zero]; rfl) (by kernel_rfl) (by kernel_rfl) (by kernel_rfl) (by exact fun _ _ _ h => h) (Or.inl ⟨by rfl, ?_⟩) (by assumption) ?_
                rotate_left
                · (intro _ hSw; (try dsimp only at hSw); go_simp; (try with_reducible rfl))
                try simp only [Act.put, List.setIfInBounds_toArray, List.set_cons_zero, List.set_cons_succ]
                refine wpAnyH_take (i := 18) (v := ?_) (by simp only [List.getElem?_toArray, List.getElem?_cons_succ, List.getElem?_cons_zero]; rfl) (by kernel_rfl) (by kernel_rfl) (by kernel_rfl) (by exact fun _ _ _ h => h) (Or.inl ⟨by rfl, ?_⟩) (by assumption) ?_
                rotate_left
                · (intro _ hSw; (try dsimp only at hSw); go_simp; (try with_reducible rfl))
                try simp only [Act.put, List.setIfInBounds_toArray, List.set_cons_zero, List.set_cons_succ]
                have hz := HC.out.cellN HD3.out
                obtain ⟨g2, eg, hfz, hlk2⟩ := HLQ2.out.1.set HLQ2.out.2.2 (o9 := o9) (c9 := c9) (by rw [HLQ2.out.2.1]; exact HF.out.1) (fun q hq => Nat.le_trans HKW2.out.2 (HF.out.2 q hq)) HC.out
                have hgg : g2 = g := by cases eg; rfl
                subst g2
                have f3 := hfz (i * 4 + 3)
                rw [HRR.out] at hlk2
                have HN : Hid (Lk w wr (some ⟨g, 0, none⟩) c vs (i + 1) (rs1.set i ⟨rk, ri, rv, o9, rn, c9⟩) (z3.setCell ⟨g, i * 4 + 3, none⟩ (.slice o9 rn c9))) := hlk2
                clear hlk2 eg hfz
                refine wpAnyH_ready (rs := [19]) (by kernel_rfl) (by simp) ?_
                refine AllReadyH.cons (by simp only [List.getElem?_toArray, List.getElem?_cons_succ, List.getElem?_cons_zero]; rfl) (fun Kq hKq => ?_) AllReadyH.nil
                go_simp
                refine hKq.out _ _ ?_ (fun hHeldN => ?_)
                · trivial
                clear hKq Kq hHeld
                have hHeld := hHeldN
                clear hHeldN
                refine wpAnyH_done (by kernel_rfl) ?_ _
                clear hHeld
                go_wp2_with fail
                go_roundw
                case rel => exact ⟨i + 1, by omega, by go_num, _, HN.out⟩
                case measure => simp [intOf]; omega
              · go_simp
                have HB : Hid (Row TE (z0.alloc (.cells #[.string ⟨#[115, 112, 97, 114, 101]⟩] 9)) (some ⟨z0.heap.size, 0, none⟩) [sp]) := (own_one z0 sp).row
                have HC2 : Hid (Keeps no wl (z0.alloc (.cells #[.string ⟨#[115, 112, 97, 114, 101]⟩] 9))) := HC.out.alloc _
                clear HC
                have HC : Hid (Keeps no wl (z0.alloc (.cells #[.string ⟨#[115, 112, 97, 114, 101]⟩] 9))) := HC2.out
                clear HC2
                generalize (z0.alloc (.cells #[.string ⟨#[115, 112, 97, 114, 101]⟩] 9)) = z1 at HB HC ⊢
                refine hKq.out _ _ ?_ (fun hHeldN => ?_)
                · trivial
                clear hKq Kq hHeld
                have hHeld := hHeldN
                clear hHeldN
                refine wpAnyH_ready (rs := [7]) (by kernel_rfl) (by simp) ?_
                refine AllReadyH.cons (by simp only [List.getElem?_toArray, List.getElem?_cons_succ, List.getElem?_cons_zero]; rfl) (fun Kq hKq => ?_) AllReadyH.nil
                refine step_app1 okT rfl (.const (.slice none 0 0)) (.tmp 101) rfl none 0 0 [] rfl rfl (own_nil _) ro rn rc ky rfl HKY0.out.2.1 HKY0.out.1.sl.nil (HKY0.out.1.keepsN HC.out).row (by have := HKY0.out.2.2; simp [TE]; omega) (by have := HKY0.out.2.2; simp; omega) ?_
                intro oa ca z2 ho7 ha7
                have HA : Hid (Own TE z2 oa ca ky ∧ New wl oa) := ⟨by simpa using ho7, (ha7.new (new_none _) HC.out).1⟩
                have HC2 : Hid (Keeps no wl z2) := (ha7.new (new_none _) HC.out).2
                have HB2 : Hid (Row TE z2 (some ⟨z0.heap.size, 0, none⟩) [sp]) := HB.out.keepsN ha7.none
                clear HB
                have HB : Hid (Row TE z2 (some ⟨z0.heap.size, 0, none⟩) [sp]) := HB2.out
                clear HC ho7 ha7
                have HC : Hid (Keeps no wl z2) := HC2.out
                clear HC2
                refine hKq.out _ _ ?_ (fun hHeldN => ?_)
                · trivial
                clear hKq Kq hHeld
                have hHeld := hHeldN
                clear hHeldN
                refine wpAnyH_ready (rs := [9]) (by kernel_rfl) (by simp) ?_
                refine AllReadyH.cons (by simp only [List.getElem?_toArray, List.getElem?_cons_succ, List.getElem?_cons_zero]; rfl) (fun Kq hKq => ?_) AllReadyH.nil
                refine step_app1 okT rfl (.tmp 102) (.tmp 103) rfl oa _ ca ky rfl (by have := HKY0.out.2.1; omega) HA.out.1 (some ⟨z0.heap.size, 0, none⟩) 1 1 [sp] rfl rfl (fun h => by cases h) HB.out (by have := HKY0.out.2.2; simp [TE]; omega) (by have := HKY0.out.2.2; simp; omega) ?_
                intro o9 c9 z3 ho9 ha9
                have HF : Hid (Own TE z3 o9 c9 (ky ++ [sp]) ∧ New wl o9) := ⟨ho9, (ha9.new HA.out.2 HC.out).1⟩
                have HC2 : Hid (Keeps no wl z3) := (ha9.new HA.out.2 HC.out).2
                clear HC ho9 ha9 HA HB
                have HC : Hid (Keeps no wl z3) := HC2.out
                clear HC2
                refine hKq.out _ _ ?_ (fun hHeldN => ?_)
                · trivial
                clear hKq Kq hHeld
                have hHeld := hHeldN
                clear hHeldN
                have hrc : rn ≤ c9 := by have h1 := HF.out.1.cap.1; have h2 := HKY0.out.2.1; rw [List.length_append] at h1; omega
                have hrc2 : (rn : Int) ≤ (c9 : Int) := by omega
                refine wpAnyH_take (i := 16) (v := ?_) (by simp only [List.getElem?_toArray, List.getElem?_cons_succ, List.getElem?_cons_zero]; rfl) (by kernel_rfl) (by kernel_rfl) (by kernel_rfl) (by exact fun _ _ _ h => h) (Or.inl ⟨by rfl, ?_⟩) (by assumption) ?_
                rotate_left
                · (intro _ hSw; (try dsimp only at hSw); go_simp; (try with_reducible rfl))
                try simp only [Act.put, List.setIfInBounds_toArray, List.set_cons_zero, List.set_cons_succ]
                refine wpAnyH_take (i := 17) (v := ?_) (by simp only [List.getElem?_toArray, List.getElem?_cons_succ, List.getElem?_cons_zero]; rfl) (by kernel_rfl) (by kernel_rfl) (by kernel_rfl) (by exact fun _ _ _ h => h) (Or.inl ⟨by rfl, ?_⟩) (by assumption) ?_
                rotate_left
                · (intro _ hSw; (try dsimp only at hSw); go_simp; (try with_reducible rfl))
                try simp only [Act.put, List.setIfInBounds_toArray, List.set_cons_zero, List.set_cons_succ]
                refine wpAnyH_take (i := 18) (v := ?_) (by simp only [List.getElem?_toArray, List.getElem?_cons_succ, List.getElem?_cons_zero]; rfl) (by kernel_rfl) (by kernel_rfl) (by kernel_rfl) (by exact fun _ _ _ h => h) (Or.inl ⟨by rfl, ?_⟩) (by assumption) ?_
                rotate_left
                · (intro _ hSw; (try dsimp only at hSw); go_simp; (try with_reducible rfl))
                try simp only [Act.put, List.setIfInBounds_toArray, List.set_cons_zero, List.set_cons_succ]
                have hz := HC.out.cellN HD3.out
                obtain ⟨g2, eg, hfz, hlk2⟩ := HLQ2.out.1.set HLQ2.out.2.2 (o9 := o9) (c9 := c9) (by rw [HLQ2.out.2.1]; exact HF.out.1) (fun q hq => Nat.le_trans HKW2.out.2 (HF.out.2 q hq)) HC.out
                have hgg : g2 = g := by cases eg; rfl
                subst g2
                have f3 := hfz (i * 4 + 3)
                rw [HRR.out] at hlk2
                have HN : Hid (Lk w wr (some ⟨g, 0, none⟩) c vs (i + 1) (rs1.set i ⟨rk, ri, rv, o9, rn, c9⟩) (z3.setCell ⟨g, i * 4 + 3, none⟩ (.slice o9 rn c9))) := hlk2
                clear hlk2 eg hfz
                refine wpAnyH_ready (rs := [19]) (by kernel_rfl) (by simp) ?_
                refine AllReadyH.cons (by simp only [List.getElem?_toArray, List.getElem?_cons_succ, List.getElem?_cons_zero]; rfl) (fun Kq hKq => ?_) AllReadyH.nil
                go_simp
                refine hKq.out _ _ ?_ (fun hHeldN => ?_)
                · trivial
                clear hKq Kq hHeld
                have hHeld := hHeldN
                clear hHeldN
                refine wpAnyH_done (by kernel_rfl) ?_ _
                clear hHeld
                go_wp2_with fail
                go_roundw
                case rel => exact ⟨i + 1, by omega, by go_num, _, HN.out⟩
                case measure => simp [intOf]; omega
          · go_simp
            have HB : Hid (Row TE (z0.alloc (.cells #[.string ⟨#[115, 112, 97, 114, 101]⟩] 9)) (some ⟨z0.heap.size, 0, none⟩) [sp]) := (own_one z0 sp).row
            have HC2 : Hid (Keeps no wl (z0.alloc (.cells #[.string ⟨#[115, 112, 97, 114, 101]⟩] 9))) := HC.out.alloc _
            clear HC
            have HC : Hid (Keeps no wl (z0.alloc (.cells #[.string ⟨#[115, 112, 97, 114, 101]⟩] 9))) := HC2.out
            clear HC2
            generalize (z0.alloc (.cells #[.string ⟨#[115, 112, 97, 114, 101]⟩] 9)) = z1 at HB HC ⊢
            refine hKq.out _ _ ?_ (fun hHeldN => ?_)
            · trivial
            clear hKq Kq hHeld
            have hHeld := hHeldN
            clear hHeldN
            refine wpAnyH_ready (rs := [6, 14]) (by kernel_rfl) (by simp) ?_
            refine AllReadyH.cons (by simp only [List.getElem?_toArray, List.getElem?_cons_succ, List.getElem?_cons_zero]; rfl) (fun Kq hKq => ?_) (AllReadyH.cons (by simp only [List.getElem?_toArray, List.getElem?_cons_succ, List.getElem?_cons_zero]; rfl) (fun Kq hKq => ?_) AllReadyH.nil)
            · have hz := HC.out.cellN HD3.out
              go_simp
              clear hz
              refine hKq.out _ _ ?_ (fun hHeldN => ?_)
              · trivial
              clear hKq Kq hHeld
              have hHeld := hHeldN
              clear hHeldN
              refine wpAnyH_ready (rs := [7, 14]) (by kernel_rfl) (by simp) ?_
              refine AllReadyH.cons (by simp only [List.getElem?_toArray, List.getElem?_cons_succ, List.getElem?_cons_zero]; rfl) (fun Kq hKq => ?_) (AllReadyH.cons (by simp only [List.getElem?_toArray, List.getElem?_cons_succ, List.getElem?_cons_zero]; rfl) (fun Kq hKq => ?_) AllReadyH.nil)
              · refine step_app1 okT rfl (.const (.slice none 0 0)) (.tmp 101) rfl none 0 0 [] rfl rfl (own_nil _) ro rn rc ky rfl HKY0.out.2.1 HKY0.out.1.sl.nil (HKY0.out.1.keepsN HC.out).row (by have := HKY0.out.2.2; simp [TE]; omega) (by have := HKY0.out.2.2; simp; omega) ?_
                intro oa ca z2 ho7 ha7
                have HA : Hid (Own TE z2 oa ca ky ∧ New wl oa) := ⟨by simpa using ho7, (ha7.new (new_none _) HC.out).1⟩
                have HC2 : Hid (Keeps no wl z2) := (ha7.new (new_none _) HC.out).2
                have HB2 : Hid (Row TE z2 (some ⟨z0.heap.size, 0, none⟩) [sp]) := HB.out.keepsN ha7.none
                clear HB
                have HB : Hid (Row TE z2 (some ⟨z0.heap.size, 0, none⟩) [sp]) := HB2.out
                clear HC ho7 ha7
                have HC : Hid (Keeps no wl z2) := HC2.out
                clear HC2
                refine hKq.out _ _ ?_ (fun hHeldN => ?_)
                · trivial
                clear hKq Kq hHeld
                have hHeld := hHeldN
                clear hHeldN
                refine wpAnyH_ready (rs := [9, 14]) (by kernel_rfl) (by simp) ?_
                refine AllReadyH.cons (by simp only [List.getElem?_toArray, List.getElem?_cons_succ, List.getElem?_cons_zero]; rfl) (fun Kq hKq => ?_) (AllReadyH.cons (by simp only [List.getElem?_toArray, List.getElem?_cons_succ, List.getElem?_cons_zero]; rfl) (fun Kq hKq => ?_) AllReadyH.nil)
                · refine step_app1 okT rfl (.tmp 102) (.tmp 103) rfl oa _ ca ky rfl (by have := HKY0.out.2.1; omega) HA.out.1 (some ⟨z0.heap.size, 0, none⟩) 1 1 [sp] rfl rfl (fun h => by cases h) HB.out (by have := HKY0.out.2.2; simp [TE]; omega) (by have := HKY0.out.2.2; simp; omega) ?_
                  intro o9 c9 z3 ho9 ha9
                  have HF : Hid (Own TE z3 o9 c9 (ky ++ [sp]) ∧ New wl o9) := ⟨ho9, (ha9.new HA.out.2 HC.out).1⟩
                  have HC2 : Hid (Keeps no wl z3) := (ha9.new HA.out.2 HC.out).2
                  clear HC ho9 ha9 HA HB
                  have HC : Hid (Keeps no wl z3) := HC2.out
                  clear HC2
                  refine hKq.out _ _ ?_ (fun hHeldN => ?_)
                  · trivial
                  clear hKq Kq hHeld
                  have hHeld := hHeldN
                  clear hHeldN
                  refine wpAnyH_ready (rs := [14]) (by kernel_rfl) (by simp) ?_
                  refine AllReadyH.cons (by simp only [List.getElem?_toArray, List.getElem?_cons_succ, List.getElem?_cons_zero]; rfl) (fun Kq hKq => ?_) AllReadyH.nil
                  have hz := HC.out.cellN HD3.out
                  go_simp
                  clear hz
                  refine hKq.out _ _ ?_ (fun hHeldN => ?_)
                  · trivial
                  clear hKq Kq hHeld
                  have hHeld := hHeldN
                  clear hHeldN
                  refine wpAnyH_take (i := 15) (v := ?_) (by simp only [List.getElem?_toArray, List.getElem?_cons_succ, List.getElem?_cons_zero]; rfl) (by kernel_rfl) (by kernel_rfl) (by kernel_rfl) (by exact fun _ _ _ h => h) (Or.inl ⟨by rfl, ?_⟩) (by assumption) ?_
                  rotate_left
                  · (intro _ hSw; (try dsimp only at hSw); go_simp; (try with_reducible rfl))
                  try simp only [Act.put, List.setIfInBounds_toArray, List.set_cons_zero, List.set_cons_succ]
                  have hrc : rn ≤ c9 := by have h1 := HF.out.1.cap.1; have h2 := HKY0.out.2.1; rw [List.length_append] at h1; omega
                  have hrc2 : (rn : Int) ≤ (c9 : Int) := by omega
                  refine wpAnyH_take (i := 16) (v := ?_) (by simp only [List.getElem?_toArray, List.getElem?_cons_succ, List.getElem?_cons_zero]; rfl) (by kernel_rfl) (by kernel_rfl) (by kernel_rfl) (by exact fun _ _ _ h => h) (Or.inl ⟨by rfl, ?_⟩) (by assumption) ?_
                  rotate_left
                  · (intro _ hSw; (try dsimp only at hSw); go_simp; (try with_reducible rfl))
                  try simp only [Act.put, List.setIfInBounds_toArray, List.set_cons_zero, List.set_cons_succ]
                  refine wpAnyH_take (i := 17) (v := ?_) (by simp only [List.getElem?_toArray, List.getElem?_cons_succ, List.getElem?_cons_zero]; rfl) (by kernel_rfl) (by kernel_rfl) (by kernel_rfl) (by exact fun _ _ _ h => h) (Or.inl ⟨by rfl, ?_⟩) (by assumption) ?_
                  rotate_left
                  · (intro _ hSw; (try dsimp only at hSw); go_simp; (try with_reducible rfl))
                  try simp only [Act.put, List.setIfInBounds_toArray, List.set_cons_zero, List.set_cons_succ]
                  refine wpAnyH_take (i := 18) (v := ?_) (by simp only [List.getElem?_toArray, List.getElem?_cons_succ, List.getElem?_cons_zero]; rfl) (by kernel_rfl) (by kernel_rfl) (by kernel_rfl) (by exact fun _ _ _ h => h) (Or.inl ⟨by rfl, ?_⟩) (by assumption) ?_
                  rotate_left
                  · (intro _ hSw; (try dsimp only at hSw); go_simp; (try with_reducible rfl))
                  try simp only [Act.put, List.setIfInBounds_toArray, List.set_cons_zero, List.set_cons_succ]
                  have hz := HC.out.cellN HD3.out
                  obtain ⟨g2, eg, hfz, hlk2⟩ := HLQ2.out.1.set HLQ2.out.2.2 (o9 := o9) (c9 := c9) (by rw [HLQ2.out.2.1]; exact HF.out.1) (fun q hq => Nat.le_trans HKW2.out.2 (HF.out.2 q hq)) HC.out
                  have hgg : g2 = g := by cases eg; rfl
                  subst g2
                  have f3 := hfz (i * 4 + 3)
                  rw [HRR.out] at hlk2
                  have HN : Hid (Lk w wr (some ⟨g, 0, none⟩) c vs (i + 1) (rs1.set i ⟨rk, ri, rv, o9, rn, c9⟩) (z3.setCell ⟨g, i * 4 + 3, none⟩ (.slice o9 rn c9))) := hlk2
                  clear hlk2 eg hfz
                  refine wpAnyH_ready (rs := [19]) (by kernel_rfl) (by simp) ?_
                  refine AllReadyH.cons (by simp only [List.getElem?_toArray, List.getElem?_cons_succ, List.getElem?_cons_zero]; rfl) (fun Kq hKq => ?_) AllReadyH.nil
                  go_simp
                  refine hKq.out _ _ ?_ (fun hHeldN => ?_)
                  · trivial
                  clear hKq Kq hHeld
                  have hHeld := hHeldN
                  clear hHeldN
                  refine wpAnyH_done (by kernel_rfl) ?_ _
                  clear hHeld
                  go_wp2_with fail
                  go_roundw
                  case rel => exact ⟨i + 1, by omega, by go_num, _, HN.out⟩
                  case measure => simp [intOf]; omega
                · have hz := HC.out.cellN HD3.out
                  go_simp
                  clear hz
                  refine hKq.out _ _ ?_ (fun hHeldN => ?_)
                  · trivial
                  clear hKq Kq hHeld
                  have hHeld := hHeldN
                  clear hHeldN
                  refine wpAnyH_take (i := 15) (v := ?_) (by simp only [List.getElem?_toArray, List.getElem?_cons_succ, List.getElem?_cons_zero]; rfl) (by kernel_rfl) (by kernel_rfl) (by kernel_rfl) (by exact fun _ _ _ h => h) (Or.inl ⟨by rfl, ?_⟩) (by assumption) ?_
                  rotate_left
                  · (intro _ hSw; (try dsimp only at hSw); go_simp; (try with_reducible rfl))
                  try simp only [Act.put, List.setIfInBounds_toArray, List.set_cons_zero, List.set_cons_succ]
                  refine wpAnyH_ready (rs := [9]) (by kernel_rfl) (by simp) ?_
                  refine AllReadyH.cons (by simp only [List.getElem?_toArray, List.getElem?_cons_succ, List.getElem?_cons_zero]; rfl) (fun Kq hKq => ?_) AllReadyH.nil
                  refine step_app1 okT rfl (.tmp 102) (.tmp 103) rfl oa _ ca ky rfl (by have := HKY0.out.2.1; omega) HA.out.1 (some ⟨z0.heap.size, 0, none⟩) 1 1 [sp] rfl rfl (fun h => by cases h) HB.out (by have := HKY0.out.2.2; simp [TE]; omega) (by have := HKY0.out.2.2; simp; omega) ?_
                  intro o9 c9 z3 ho9 ha9
                  have HF : Hid (Own TE z3 o9 c9 (ky ++ [sp]) ∧ New wl o9) := ⟨ho9, (ha9.new HA.out.2 HC.out).1⟩
                  have HC2 : Hid (Keeps no wl z3) := (ha9.new HA.out.2 HC.out).2
                  clear HC ho9 ha9 HA HB
                  have HC : Hid (Keeps no wl z3) := HC2.out
                  clear HC2
                  refine hKq.out _ _ ?_ (fun hHeldN => ?_)
                  · trivial
                  clear hKq Kq hHeld
                  have hHeld := hHeldN
                  clear hHeldN
                  have hrc : rn ≤ c9 := by have h1 := HF.out.1.cap.1; have h2 := HKY0.out.2.1; rw [List.length_append] at h1; omega
                  have hrc2 : (rn : Int) ≤ (c9 : Int) := by omega
                  refine wpAnyH_take (i := 16) (v := ?_) (by simp only [List.getElem?_toArray, List.getElem?_cons_succ, List.getElem?_cons_zero]; rfl) (by kernel_rfl) (by kernel_rfl) (by kernel_rfl) (by exact fun _ _ _ h => h) (Or.inl ⟨by rfl, ?_⟩) (by assumption) ?_
                  rotate_left
                  · (intro _ hSw; (try dsimp only at hSw); go_simp; (try with_reducible rfl))
                  try simp only [Act.put, List.setIfInBounds_toArray, List.set_cons_zero, List.set_cons_succ]
                  refine wpAnyH_take (i := 17) (v := ?_) (by simp only [List.getElem?_toArray, List.getElem?_cons_succ, List.getElem?_cons_zero]; rfl) (by kernel_rfl) (by kernel_rfl) (by kernel_rfl) (by exact fun _ _ _ h => h) (Or.inl ⟨by rfl, ?_⟩) (by assumption) ?_
                  rotate_left
                  · (intro _ hSw; (try dsimp only at hSw); go_simp; (try with_reducible rfl))
                  try simp only [Act.put, List.setIfInBounds_toArray, List.set_cons_zero, List.set_cons_succ]
                  refine wpAnyH_take (i := 18) (v := ?_) (by simp only [List.getElem?_toArray, List.getElem?_cons_succ, List.getElem?_cons_zero]; rfl) (by kernel_rfl) (by kernel_rfl) (by kernel_rfl) (by exact fun _ _ _ h => h) (Or.inl ⟨by rfl, ?_⟩) (by assumption) ?_
                  rotate_left
                  · (intro _ hSw; (try dsimp only at hSw); go_simp; (try with_reducible rfl))
                  try simp only [Act.put, List.setIfInBounds_toArray, List.set_cons_zero, List.set_cons_succ]
                  have hz := HC.out.cellN HD3.out
                  obtain ⟨g2, eg, hfz, hlk2⟩ := HLQ2.out.1.set HLQ2.out.2.2 (o9 := o9) (c9 := c9) (by rw [HLQ2.out.2.1]; exact HF.out.1) (fun q hq => Nat.le_trans HKW2.out.2 (HF.out.2 q hq)) HC.out
                  have hgg : g2 = g := by cases eg; rfl
                  subst g2
                  have f3 := hfz (i * 4 + 3)
                  rw [HRR.out] at hlk2
                  have HN : Hid (Lk w wr (some ⟨g, 0, none⟩) c vs (i + 1) (rs1.set i ⟨rk, ri, rv, o9, rn, c9⟩) (z3.setCell ⟨g, i * 4 + 3, none⟩ (.slice o9 rn c9))) := hlk2
                  clear hlk2 eg hfz
                  refine wpAnyH_ready (rs := [19]) (by kernel_rfl) (by simp) ?_
                  refine AllReadyH.cons (by simp only [List.getElem?_toArray, List.getElem?_cons_succ, List.getElem?_cons_zero]; rfl) (fun Kq hKq => ?_) AllReadyH.nil
                  go_simp
                  refine hKq.out _ _ ?_ (fun hHeldN => ?_)
                  · trivial
                  clear hKq Kq hHeld
                  have hHeld := hHeldN
                  clear hHeldN
                  refine wpAnyH_done (by kernel_rfl) ?_ _
                  clear hHeld
                  go_wp2_with fail
                  go_roundw
                  case rel => exact ⟨i + 1, by omega, by go_num, _, HN.out⟩
                  case measure => simp [intOf]; omega
              · have hz := HC.out.cellN HD3.out
                go_simp
                clear hz
                refine hKq.out _ _ ?_ (fun hHeldN => ?_)
                · trivial
                clear hKq Kq hHeld
                have hHeld := hHeldN
                clear hHeldN
                refine wpAnyH_take (i := 15) (v := ?_) (by simp only [List.getElem?_toArray, List.getElem?_cons_succ, List.getElem?_cons_zero]; rfl) (by kernel_rfl) (by kernel_rfl) (by kernel_rfl) (by exact fun _ _ _ h => h) (Or.inl ⟨by rfl, ?_⟩) (by assumption) ?_
                rotate_left
                · (intro _ hSw; (try dsimp only at hSw); go_simp; (try with_reducible rfl))
                try simp only [Act.put, List.setIfInBounds_toArray, List.set_cons_zero, List.set_cons_succ]
                refine wpAnyH_ready (rs := [7]) (by kernel_rfl) (by simp) ?_
                refine AllReadyH.cons (by simp only [List.getElem?_toArray, List.getElem?_cons_succ, List.getElem?_cons_zero]; rfl) (fun Kq hKq => ?_) AllReadyH.nil
                refine step_app1 okT rfl (.const (.slice none 0 0)) (.tmp 101) rfl none 0 0 [] rfl rfl (own_nil _) ro rn rc ky rfl HKY0.out.2.1 HKY0.out.1.sl.nil (HKY0.out.1.keepsN HC.out).row (by have := HKY0.out.2.2; simp [TE]; omega) (by have := HKY0.out.2.2; simp; omega) ?_
                intro oa ca z2 ho7 ha7
                have HA : Hid (Own TE z2 oa ca ky ∧ New wl oa) := ⟨by simpa using ho7, (ha7.new (new_none _) HC.out).1⟩
                have HC2 : Hid (Keeps no wl z2) := (ha7.new (new_none _) HC.out).2
                have HB2 : Hid (Row TE z2 (some ⟨z0.heap.size, 0, none⟩) [sp]) := HB.out.keepsN ha7.none
                clear HB
                have HB : Hid (Row TE z2 (some ⟨z0.heap.size, 0, none⟩) [sp]) := HB2.out
                clear HC ho7 ha7
                have HC : Hid (Keeps no wl z2) := HC2.out
                clear HC2
                refine hKq.out _ _ ?_ (fun hHeldN => ?_)
                · trivial
                clear hKq Kq hHeld
                have hHeld := hHeldN
                clear hHeldN
                refine wpAnyH_ready (rs := [9]) (by kernel_rfl) (by simp) ?_
                refine AllReadyH.cons (by simp only [List.getElem?_toArray, List.getElem?_cons_succ, List.getElem?_cons_zero]; rfl) (fun Kq hKq => ?_) AllReadyH.nil
                refine step_app1 okT rfl (.tmp 102) (.tmp 103) rfl oa _ ca ky rfl (by have := HKY0.out.2.1; omega) HA.out.1 (some ⟨z0.heap.size, 0, none⟩) 1 1 [sp] rfl rfl (fun h => by cases h) HB.out (by have := HKY0.out.2.2; simp [TE]; omega) (by have := HKY0.out.2.2; simp; omega) ?_
                intro o9 c9 z3 ho9 ha9
                have HF : Hid (Own TE z3 o9 c9 (ky ++ [sp]) ∧ New wl o9) := ⟨ho9, (ha9.new HA.out.2 HC.out).1⟩
                have HC2 : Hid (Keeps no wl z3) := (ha9.new HA.out.2 HC.out).2
                clear HC ho9 ha9 HA HB
                have HC : Hid (Keeps no wl z3) := HC2.out
                clear HC2
                refine hKq.out _ _ ?_ (fun hHeldN => ?_)
                · trivial
                clear hKq Kq hHeld
                have hHeld := hHeldN
                clear hHeldN
                have hrc : rn ≤ c9 := by have h1 := HF.out.1.cap.1; have h2 := HKY0.out.2.1; rw [List.length_append] at h1; omega
                have hrc2 : (rn : Int) ≤ (c9 : Int) := by omega
                refine wpAnyH_take (i := 16) (v := ?_) (by simp only [List.getElem?_toArray, List.getElem?_cons_succ, List.getElem?_cons_zero]; rfl) (by kernel_rfl) (by kernel_rfl) (by kernel_rfl) (by exact fun _ _ _ h => h) (Or.inl ⟨by rfl, ?_⟩) (by assumption) ?_
                rotate_left
                · (intro _ hSw; (try dsimp only at hSw); go_simp; (try with_reducible rfl))
                try simp only [Act.put, List.setIfInBounds_toArray, List.set_cons_zero, List.set_cons_succ]
                refine wpAnyH_take (i := 17) (v := ?_) (by simp only [List.getElem?_toArray, List.getElem?_cons_succ, List.getElem?_cons_zero]; rfl) (by kernel_rfl) (by kernel_rfl) (by kernel_rfl) (by exact fun _ _ _ h => h) (Or.inl ⟨by rfl, ?_⟩) (by assumption) ?_
                rotate_left
                · (intro _ hSw; (try dsimp only at hSw); go_simp; (try with_reducible rfl))
                try simp only [Act.put, List.setIfInBounds_toArray, List.set_cons_zero, List.set_cons_succ]
                refine wpAnyH_take (i := 18) (v := ?_) (by simp only [List.getElem?_toArray, List.getElem?_cons_succ, List.getElem?_cons_zero]; rfl) (by kernel_rfl) (by kernel_rfl) (by kernel_rfl) (by exact fun _ _ _ h => h) (Or.inl ⟨by rfl, ?_⟩) (by assumption) ?_
                rotate_left
                · (intro _ hSw; (try dsimp only at hSw); go_simp; (try with_reducible rfl))
                try simp only [Act.put, List.setIfInBounds_toArray, List.set_cons_zero, List.set_cons_succ]
                have hz := HC.out.cellN HD3.out
                obtain ⟨g2, eg, hfz, hlk2⟩ := HLQ2.out.1.set HLQ2.out.2.2 (o9 := o9) (c9 := c9) (by rw [HLQ2.out.2.1]; exact HF.out.1) (fun q hq => Nat.le_trans HKW2.out.2 (HF.out.2 q hq)) HC.out
                have hgg : g2 = g := by cases eg; rfl
                subst g2
                have f3 := hfz (i * 4 + 3)
                rw [HRR.out] at hlk2
                have HN : Hid (Lk w wr (some ⟨g, 0, none⟩) c vs (i + 1) (rs1.set i ⟨rk, ri, rv, o9, rn, c9⟩) (z3.setCell ⟨g, i * 4 + 3, none⟩ (.slice o9 rn c9))) := hlk2
                clear hlk2 eg hfz
                refine wpAnyH_ready (rs := [19]) (by kernel_rfl) (by simp) ?_
                refine AllReadyH.cons (by simp only [List.getElem?_toArray, List.getElem?_cons_succ, List.getElem?_cons_zero]; rfl) (fun Kq hKq => ?_) AllReadyH.nil
                go_simp
                refine hKq.out _ _ ?_ (fun hHeldN => ?_)
                · trivial
                clear hKq Kq hHeld
                have hHeld := hHeldN
                clear hHeldN
                refine wpAnyH_done (by kernel_rfl) ?_ _
                clear hHeld
                go_wp2_with fail
                go_roundw
                case rel => exact ⟨i + 1, by omega, by go_num, _, HN.out⟩
                case measure => simp [intOf]; omega
            · have hz := HC.out.cellN HD3.out
              go_simp
              clear hz
              refine hKq.out _ _ ?_ (fun hHeldN => ?_)
              · trivial
              clear hKq Kq hHeld
              have hHeld := hHeldN
              clear hHeldN
              refine wpAnyH_take (i := 15) (v := ?_) (by simp only [List.getElem?_toArray, List.getElem?_cons_succ, List.getElem?_cons_zero]; rfl) (by kernel_rfl) (by kernel_rfl) (by kernel_rfl) (by exact fun _ _ _ h => h) (Or.inl ⟨by rfl, ?_⟩) (by assumption) ?_
              rotate_left
              · (intro _ hSw; (try dsimp only at hSw); go_simp; (try with_reducible rfl))
              try simp only [Act.put, List.setIfInBounds_toArray, List.set_cons_zero, List.set_cons_succ]
              refine wpAnyH_ready (rs := [6]) (by kernel_rfl) (by simp) ?_
              refine AllReadyH.cons (by simp only [List.getElem?_toArray, List.getElem?_cons_succ, List.getElem?_cons_zero]; rfl) (fun Kq hKq => ?_) AllReadyH.nil
              have hz := HC.out.cellN HD3.out
              go_simp
              clear hz
              refine hKq.out _ _ ?_ (fun hHeldN => ?_)
              · trivial
              clear hKq Kq hHeld
              have hHeld := hHeldN
              clear hHeldN
              refine wpAnyH_ready (rs := [7]) (by kernel_rfl) (by simp) ?_
              refine AllReadyH.cons (by simp only [List.getElem?_toArray, List.getElem?_cons_succ, List.getElem?_cons_zero]; rfl) (fun Kq hKq => ?_) AllReadyH.nil
              refine step_app1 okT rfl (.const (.slice none 0 0)) (.tmp 101) rfl none 0 0 [] rfl rfl (own_nil _) ro rn rc ky rfl HKY0.out.2.1 HKY0.out.1.sl.nil (HKY0.out.1.keepsN HC.out).row (by have := HKY0.out.2.2; simp [TE]; omega) (by have := HKY0.out.2.2; simp; omega) ?_
              intro oa ca z2 ho7 ha7
              have HA : Hid (Own TE z2 oa ca ky ∧ New wl oa) := ⟨by simpa using ho7, (ha7.new (new_none _) HC.out).1⟩
              have HC2 : Hid (Keeps no wl z2) := (ha7.new (new_none _) HC.out).2
              have HB2 : Hid (Row TE z2 (some ⟨z0.heap.size, 0, none⟩) [sp]) := HB.out.keepsN ha7.none
              clear HB
              have HB : Hid (Row TE z2 (some ⟨z0.heap.size, 0, none⟩) [sp]) := HB2.out
              clear HC ho7 ha7
              have HC : Hid (Keeps no wl z2) := HC2.out
              clear HC2
              refine hKq.out _ _ ?_ (fun hHeldN => ?_)
              · trivial
              clear hKq Kq hHeld
              have hHeld := hHeldN
              clear hHeldN
              refine wpAnyH_ready (rs := [9]) (by kernel_rfl) (by simp) ?_
              refine AllReadyH.cons (by simp only [List.getElem?_toArray, List.getElem?_cons_succ, List.getElem?_cons_zero]; rfl) (fun Kq hKq => ?_) AllReadyH.nil
              refine step_app1 okT rfl (.tmp 102) (.tmp 103) rfl oa _ ca ky rfl (by have := HKY0.out.2.1; omega) HA.out.1 (some ⟨z0.heap.size, 0, none⟩) 1 1 [sp] rfl rfl (fun h => by cases h) HB.out (by have := HKY0.out.2.2; simp [TE]; omega) (by have := HKY0.out.2.2; simp; omega) ?_
              intro o9 c9 z3 ho9 ha9
              have HF : Hid (Own TE z3 o9 c9 (ky ++ [sp]) ∧ New wl o9) := ⟨ho9, (ha9.new HA.out.2 HC.out).1⟩
              have HC2 : Hid (Keeps no wl z3) := (ha9.new HA.out.2 HC.out).2
              clear HC ho9 ha9 HA HB
              have HC : Hid (Keeps no wl z3) := HC2.out
              clear HC2
              refine hKq.out _ _ ?_ (fun hHeldN => ?_)
              · trivial
              clear hKq Kq hHeld
              have hHeld := hHeldN
              clear hHeldN
              have hrc : rn ≤ c9 := by have h1 := HF.out.1.cap.1; have h2 := HKY0.out.2.1; rw [List.length_append] at h1; omega
              have hrc2 : (rn : Int) ≤ (c9 : Int) := by omega
              refine wpAnyH_take (i := 16) (v := ?_) (by simp only [List.getElem?_toArray, List.getElem?_cons_succ, List.getElem?_cons_zero]; rfl) (by kernel_rfl) (by kernel_rfl) (by kernel_rfl) (by exact fun _ _ _ h => h) (Or.inl ⟨by rfl, ?_⟩) (by assumption) ?_
              rotate_left
              · (intro _ hSw; (try dsimp only at hSw); go_simp; (try with_reducible rfl))
              try simp only [Act.put, List.setIfInBounds_toArray, List.set_cons_zero, List.set_cons_succ]
              refine wpAnyH_take (i := 17) (v := ?_) (by simp only [List.getElem?_toArray, List.getElem?_cons_succ, List.getElem?_cons_zero]; rfl) (by kernel_rfl) (by kernel_rfl) (by kernel_rfl) (by exact fun _ _ _ h => h) (Or.inl ⟨by rfl, ?_⟩) (by assumption) ?_
              rotate_left
              · (intro _ hSw; (try dsimp only at hSw); go_simp; (try with_reducible rfl))
              try simp only [Act.put, List.setIfInBounds_toArray, List.set_cons_zero, List.set_cons_succ]
              refine wpAnyH_take (i := 18) (v := ?_) (by simp only [List.getElem?_toArray, List.getElem?_cons_succ, List.getElem?_cons_zero]; rfl) (by kernel_rfl) (by kernel_rfl) (by kernel_rfl) (by exact fun _ _ _ h => h) (Or.inl ⟨by rfl, ?_⟩) (by assumption) ?_
              rotate_left
              · (intro _ hSw; (try dsimp only at hSw); go_simp; (try with_reducible rfl))
              try simp only [Act.put, List.setIfInBounds_toArray, List.set_cons_zero, List.set_cons_succ]
              have hz := HC.out.cellN HD3.out
              obtain ⟨g2, eg, hfz, hlk2⟩ := HLQ2.out.1.set HLQ2.out.2.2 (o9 := o9) (c9 := c9) (by rw [HLQ2.out.2.1]; exact HF.out.1) (fun q hq => Nat.le_trans HKW2.out.2 (HF.out.2 q hq)) HC.out
              have hgg : g2 = g := by cases eg; rfl
              subst g2
              have f3 := hfz (i * 4 + 3)
              rw [HRR.out] at hlk2
              have HN : Hid (Lk w wr (some ⟨g, 0, none⟩) c vs (i + 1) (rs1.set i ⟨rk, ri, rv, o9, rn, c9⟩) (z3.setCell ⟨g, i * 4 + 3, none⟩ (.slice o9 rn c9))) := hlk2
              clear hlk2 eg hfz
              refine wpAnyH_ready (rs := [19]) (by kernel_rfl) (by simp) ?_
              refine AllReadyH.cons (by simp only [List.getElem?_toArray, List.getElem?_cons_succ, List.getElem?_cons_zero]; rfl) (fun Kq hKq => ?_) AllReadyH.nil
              go_simp
              refine hKq.out _ _ ?_ (fun hHeldN => ?_)
              · trivial
              clear hKq Kq hHeld
              have hHeld := hHeldN
              clear hHeldN
              refine wpAnyH_done (by kernel_rfl) ?_ _
              clear hHeld
              go_wp2_with fail
              go_roundw
              case rel => exact ⟨i + 1, by omega, by go_num, _, HN.out⟩
              case measure => simp [intOf]; omega
          · have hz := HC.out.cellN HD3.out
            go_simp
            clear hz
            refine hKq.out _ _ ?_ (fun hHeldN => ?_)
            · trivial
            clear hKq Kq hHeld
            have hHeld := hHeldN
            clear hHeldN
            refine wpAnyH_take (i := 15) (v := ?_) (by simp only [List.getElem?_toArray, List.getElem?_cons_succ, List.getElem?_cons_zero]; rfl) (by kernel_rfl) (by kernel_rfl) (by kernel_rfl) (by exact fun _ _ _ h => h) (Or.inl ⟨by rfl, ?_⟩) (by assumption) ?_
            rotate_left
            · (intro _ hSw; (try dsimp only at hSw); go_simp; (try with_reducible rfl))
            try simp only [Act.put, List.setIfInBounds_toArray, List.set_cons_zero, List.set_cons_succ]
            refine wpAnyH_ready (rs := [6, 8]) (by kernel_rfl) (by simp) ?_
            refine AllReadyH.cons (by simp only [List.getElem?_toArray, List.getElem?_cons_succ, List.getElem?_cons_zero]; rfl) (fun Kq hKq => ?_) (AllReadyH.cons (by simp only [List.getElem?_toArray, List.getElem?_cons_succ, List.getElem?_cons_zero]; rfl) (fun Kq hKq => ?_) AllReadyH.nil)
            · have hz := HC.out.cellN HD3.out
              go_simp
              clear hz
              refine hKq.out _ _ ?_ (fun hHeldN => ?_)
              · trivial
              clear hKq Kq hHeld
              have hHeld := hHeldN
              clear hHeldN
              refine wpAnyH_ready (rs := [7, 8]) (by kernel_rfl) (by simp) ?_
              refine AllReadyH.cons (by simp only [List.getElem?_toArray, List.getElem?_cons_succ, List.getElem?_cons_zero]; rfl) (fun Kq hKq => ?_) (AllReadyH.cons (by simp only [List.getElem?_toArray, List.getElem?_cons_succ, List.getElem?_cons_zero]; rfl) (fun Kq hKq => ?_) AllReadyH.nil)
              · refine step_app1 okT rfl (.const (.slice none 0 0)) (.tmp 101) rfl none 0 0 [] rfl rfl (own_nil _) ro rn rc ky rfl HKY0.out.2.1 HKY0.out.1.sl.nil (HKY0.out.1.keepsN HC.out).row (by have := HKY0.out.2.2; simp [TE]; omega) (by have := HKY0.out.2.2; simp; omega) ?_
                intro oa ca z1 ho7 ha7
                have HA : Hid (Own TE z1 oa ca ky ∧ New wl oa) := ⟨by simpa using ho7, (ha7.new (new_none _) HC.out).1⟩
                have HC2 : Hid (Keeps no wl z1) := (ha7.new (new_none _) HC.out).2
                clear HC ho7 ha7
                have HC : Hid (Keeps no wl z1) := HC2.out
                clear HC2
                refine hKq.out _ _ ?_ (fun hHeldN => ?_)
                · trivial
                clear hKq Kq hHeld
                have hHeld := hHeldN
                clear hHeldN
                refine wpAnyH_ready (rs := [8]) (by kernel_rfl) (by simp) ?_
                refine AllReadyH.cons (by simp only [List.getElem?_toArray, List.getElem?_cons_succ, List.getElem?_cons_zero]; rfl) (fun Kq hKq => ?_) AllReadyH.nil
                go_simp
                have HB : Hid (Row TE (z1.alloc (.cells #[.string ⟨#[115, 112, 97, 114, 101]⟩] 9)) (some ⟨z1.heap.size, 0, none⟩) [sp]) := (own_one z1 sp).row
                have HC2 : Hid (Keeps no wl (z1.alloc (.cells #[.string ⟨#[115, 112, 97, 114, 101]⟩] 9))) := HC.out.alloc _
                clear HC
                have HC : Hid (Keeps no wl (z1.alloc (.cells #[.string ⟨#[115, 112, 97, 114, 101]⟩] 9))) := HC2.out
                clear HC2
                have HA2 : Hid (Own TE (z1.alloc (.cells #[.string ⟨#[115, 112, 97, 114, 101]⟩] 9)) oa ca ky ∧ New wl oa) := ⟨HA.out.1.keepsN ((Keeps.refl no z1).alloc _), HA.out.2⟩
                clear HA
                have HA : Hid (Own TE (z1.alloc (.cells #[.string ⟨#[115, 112, 97, 114, 101]⟩] 9)) oa ca ky ∧ New wl oa) := HA2.out
                clear HA2
                generalize (z1.alloc (.cells #[.string ⟨#[115, 112, 97, 114, 101]⟩] 9)) = z2 at HB HC HA ⊢
                refine hKq.out _ _ ?_ (fun hHeldN => ?_)
                · trivial
                clear hKq Kq hHeld
                have hHeld := hHeldN
                clear hHeldN
                refine wpAnyH_ready (rs := [9]) (by kernel_rfl) (by simp) ?_
                refine AllReadyH.cons (by simp only [List.getElem?_toArray, List.getElem?_cons_succ, List.getElem?_cons_zero]; rfl) (fun Kq hKq => ?_) AllReadyH.nil
                refine step_app1 okT rfl (.tmp 102) (.tmp 103) rfl oa _ ca ky rfl (by have := HKY0.out.2.1; omega) HA.out.1 (some ⟨z1.heap.size, 0, none⟩) 1 1 [sp] rfl rfl (fun h => by cases h) HB.out (by have := HKY0.out.2.2; simp [TE]; omega) (by have := HKY0.out.2.2; simp; omega) ?_
                intro o9 c9 z3 ho9 ha9
                have HF : Hid (Own TE z3 o9 c9 (ky ++ [sp]) ∧ New wl o9) := ⟨ho9, (ha9.new HA.out.2 HC.out).1⟩
                have HC2 : Hid (Keeps no wl z3) := (ha9.new HA.out.2 HC.out).2
                clear HC ho9 ha9 HA HB
                have HC : Hid (Keeps no wl z3) := HC2.out
                clear HC2
                refine hKq.out _ _ ?_ (fun hHeldN => ?_)
                · trivial
                clear hKq Kq hHeld
                have hHeld := hHeldN
                clear hHeldN
                have hrc : rn ≤ c9 := by have h1 := HF.out.1.cap.1; have h2 := HKY0.out.2.1; rw [List.length_append] at h1; omega
                have hrc2 : (rn : Int) ≤ (c9 : Int) := by omega
                refine wpAnyH_take (i := 16) (v := ?_) (by simp only [List.getElem?_toArray, List.getElem?_cons_succ, List.getElem?_cons_zero]; rfl) (by kernel_rfl) (by kernel_rfl) (by kernel_rfl) (by exact fun _ _ _ h => h) (Or.inl ⟨by rfl, ?_⟩) (by assumption) ?_
                rotate_left
                · (intro _ hSw; (try dsimp only at hSw); go_simp; (try with_reducible rfl))
                try simp only [Act.put, List.setIfInBounds_toArray, List.set_cons_zero, List.set_cons_succ]
                refine wpAnyH_take (i := 17) (v := ?_) (by simp only [List.getElem?_toArray, List.getElem?_cons_succ, List.getElem?_cons_zero]; rfl) (by kernel_rfl) (by kernel_rfl) (by kernel_rfl) (by exact fun _ _ _ h => h) (Or.inl ⟨by rfl, ?_⟩) (by assumption) ?_
                rotate_left
                · (intro _ hSw; (try dsimp only at hSw); go_simp; (try with_reducible rfl))
                try simp only [Act.put, List.setIfInBounds_toArray, List.set_cons_zero, List.set_cons_succ]
                refine wpAnyH_take (i := 18) (v := ?_) (by simp only [List.getElem?_toArray, List.getElem?_cons_succ, List.getElem?_cons_zero]; rfl) (by kernel_rfl) (by kernel_rfl) (by kernel_rfl) (by exact fun _ _ _ h => h) (Or.inl ⟨by rfl, ?_⟩) (by assumption) ?_
                rotate_left
                · (intro _ hSw; (try dsimp only at hSw); go_simp; (try with_reducible rfl))
                try simp only [Act.put, List.setIfInBounds_toArray, List.set_cons_zero, List.set_cons_succ]
                have hz := HC.out.cellN HD3.out
                obtain ⟨g2, eg, hfz, hlk2⟩ := HLQ2.out.1.set HLQ2.out.2.2 (o9 := o9) (c9 := c9) (by rw [HLQ2.out.2.1]; exact HF.out.1) (fun q hq => Nat.le_trans HKW2.out.2 (HF.out.2 q hq)) HC.out
                have hgg : g2 = g := by cases eg; rfl
                subst g2
                have f3 := hfz (i * 4 + 3)
                rw [HRR.out] at hlk2
                have HN : Hid (Lk w wr (some ⟨g, 0, none⟩) c vs (i + 1) (rs1.set i ⟨rk, ri, rv, o9, rn, c9⟩) (z3.setCell ⟨g, i * 4 + 3, none⟩ (.slice o9 rn c9))) := hlk2
                clear hlk2 eg hfz
                refine wpAnyH_ready (rs := [19]) (by kernel_rfl) (by simp) ?_
                refine AllReadyH.cons (by simp only [List.getElem?_toArray, List.getElem?_cons_succ, List.getElem?_cons_zero]; rfl) (fun Kq hKq => ?_) AllReadyH.nil
                go_simp
                refine hKq.out _ _ ?_ (fun hHeldN => ?_)
                · trivial
                clear hKq Kq hHeld
                have hHeld := hHeldN
                clear hHeldN
                refine wpAnyH_done (by kernel_rfl) ?_ _
                clear hHeld
                go_wp2_with fail
                go_roundw
                case rel => exact ⟨i + 1, by omega, by go_num, _, HN.out⟩
                case measure => simp [intOf]; omega
              · go_simp
                have HB : Hid (Row TE (z0.alloc (.cells #[.string ⟨#[115, 112, 97, 114, 101]⟩] 9)) (some ⟨z0.heap.size, 0, none⟩) [sp]) := (own_one z0 sp).row
                have HC2 : Hid (Keeps no wl (z0.alloc (.cells #[.string ⟨#[115, 112, 97, 114, 101]⟩] 9))) := HC.out.alloc _
                clear HC
                have HC : Hid (Keeps no wl (z0.alloc (.cells #[.string ⟨#[115, 112, 97, 114, 101]⟩] 9))) := HC2.out
                clear HC2
                generalize (z0.alloc (.cells #[.string ⟨#[115, 112, 97, 114, 101]⟩] 9)) = z1 at HB HC ⊢
                refine hKq.out _ _ ?_ (fun hHeldN => ?_)
                · trivial
                clear hKq Kq hHeld
                have hHeld := hHeldN
                clear hHeldN
                refine wpAnyH_ready (rs := [7]) (by kernel_rfl) (by simp) ?_
                refine AllReadyH.cons (by simp only [List.getElem?_toArray, List.getElem?_cons_succ, List.getElem?_cons_zero]; rfl) (fun Kq hKq => ?_) AllReadyH.nil
                refine step_app1 okT rfl (.const (.slice none 0 0)) (.tmp 101) rfl none 0 0 [] rfl rfl (own_nil _) ro rn rc ky rfl HKY0.out.2.1 HKY0.out.1.sl.nil (HKY0.out.1.keepsN HC.out).row (by have := HKY0.out.2.2; simp [TE]; omega) (by have := HKY0.out.2.2; simp; omega) ?_
                intro oa ca z2 ho7 ha7
                have HA : Hid (Own TE z2 oa ca ky ∧ New wl oa) := ⟨by simpa using ho7, (ha7.new (new_none _) HC.out).1⟩
                have HC2 : Hid (Keeps no wl z2) := (ha7.new (new_none _) HC.out).2
                have HB2 : Hid (Row TE z2 (some ⟨z0.heap.size, 0, none⟩) [sp]) := HB.out.keepsN ha7.none
                clear HB
                have HB : Hid (Row TE z2 (some ⟨z0.heap.size, 0, none⟩) [sp]) := HB2.out
                clear HC ho7 ha7
                have HC : Hid (Keeps no wl z2) := HC2.out
                clear HC2
                refine hKq.out _ _ ?_ (fun hHeldN => ?_)
                · trivial
                clear hKq Kq hHeld
                have hHeld := hHeldN
                clear hHeldN
                refine wpAnyH_ready (rs := [9]) (by kernel_rfl) (by simp) ?_
                refine AllReadyH.cons (by simp only [List.getElem?_toArray, List.getElem?_cons_succ, List.getElem?_cons_zero]; rfl) (fun Kq hKq => ?_) AllReadyH.nil
                refine step_app1 okT rfl (.tmp 102) (.tmp 103) rfl oa _ ca ky rfl (by have := HKY0.out.2.1; omega) HA.out.1 (some ⟨z0.heap.size, 0, none⟩) 1 1 [sp] rfl rfl (fun h => by cases h) HB.out (by have := HKY0.out.2.2; simp [TE]; omega) (by have := HKY0.out.2.2; simp; omega) ?_
                intro o9 c9 z3 ho9 ha9
                have HF : Hid (Own TE z3 o9 c9 (ky ++ [sp]) ∧ New wl o9) := ⟨ho9, (ha9.new HA.out.2 HC.out).1⟩
                have HC2 : Hid (Keeps no wl z3) := (ha9.new HA.out.2 HC.out).2
                clear HC ho9 ha9 HA HB
                have HC : Hid (Keeps no wl z3) := HC2.out
                clear HC2
                refine hKq.out _ _ ?_ (fun hHeldN => ?_)
                · trivial
                clear hKq Kq hHeld
                have hHeld := hHeldN
                clear hHeldN
                have hrc : rn ≤ c9 := by have h1 := HF.out.1.cap.1; have h2 := HKY0.out.2.1; rw [List.length_append] at h1; omega
                have hrc2 : (rn : Int) ≤ (c9 : Int) := by omega
                refine wpAnyH_take (i := 16) (v := ?_) (by simp only [List.getElem?_toArray, List.getElem?_cons_succ, List.getElem?_cons_zero]; rfl) (by kernel_rfl) (by kernel_rfl) (by kernel_rfl) (by exact fun _ _ _ h => h) (Or.inl ⟨by rfl, ?_⟩) (by assumption) ?_
                rotate_left
                · (intro _ hSw; (try dsimp only at hSw); go_simp; (try with_reducible rfl))
                try simp only [Act.put, List.setIfInBounds_toArray, List.set_cons_zero, List.set_cons_succ]
                refine wpAnyH_take (i := 17) (v := ?_) (by simp only [List.getElem?_toArray, List.getElem?_cons_succ, List.getElem?_cons_zero]; rfl) (by kernel_rfl) (by kernel_rfl) (by kernel_rfl) (by exact fun _ _ _ h => h) (Or.inl ⟨by rfl, ?_⟩) (by assumption) ?_
                rotate_left
                · (intro _ hSw; (try dsimp only at hSw); go_simp; (try with_reducible rfl))
                try simp only [Act.put, List.setIfInBounds_toArray, List.set_cons_zero, List.set_cons_succ]
                refine wpAnyH_take (i := 18) (v := ?_) (by simp only [List.getElem?_toArray, List.getElem?_cons_succ, List.getElem?_cons_zero]; rfl) (by kernel_rfl) (by kernel_rfl) (by kernel_rfl) (by exact fun _ _ _ h => h) (Or.inl ⟨by rfl, ?_⟩) (by assumption) ?_
                rotate_left
                · (intro _ hSw; (try dsimp only at hSw); go_simp; (try with_reducible rfl))
                try simp only [Act.put, List.setIfInBounds_toArray, List.set_cons_zero, List.set_cons_succ]
                have hz := HC.out.cellN HD3.out
                obtain ⟨g2, eg, hfz, hlk2⟩ := HLQ2.out.1.set HLQ2.out.2.2 (o9 := o9) (c9 := c9) (by rw [HLQ2.out.2.1]; exact HF.out.1) (fun q hq => Nat.le_trans HKW2.out.2 (HF.out.2 q hq)) HC.out
                have hgg : g2 = g := by cases eg; rfl
                subst g2
                have f3 := hfz (i * 4 + 3)
                rw [HRR.out] at hlk2
                have HN : Hid (Lk w wr (some ⟨g, 0, none⟩) c vs (i + 1) (rs1.set i ⟨rk, ri, rv, o9, rn, c9⟩) (z3.setCell ⟨g, i * 4 + 3, none⟩ (.slice o9 rn c9))) := hlk2
                clear hlk2 eg hfz
                refine wpAnyH_ready (rs := [19]) (by kernel_rfl) (by simp) ?_
                refine AllReadyH.cons (by simp only [List.getElem?_toArray, List.getElem?_cons_succ, List.getElem?_cons_zero]; rfl) (fun Kq hKq => ?_) AllReadyH.nil
                go_simp
                refine hKq.out _ _ ?_ (fun hHeldN => ?_)
                · trivial
                clear hKq Kq hHeld
                have hHeld := hHeldN
                clear hHeldN
                refine wpAnyH_done (by kernel_rfl) ?_ _
                clear hHeld
                go_wp2_with fail
                go_roundw
                case rel => exact ⟨i + 1, by omega, by go_num, _, HN.out⟩
                case measure => simp [intOf]; omega
            · go_simp
              have HB : Hid (Row TE (z0.alloc (.cells #[.string ⟨#[115, 112, 97, 114, 101]⟩] 9)) (some ⟨z0.heap.size, 0, none⟩) [sp]) := (own_one z0 sp).row
              have HC2 : Hid (Keeps no wl (z0.alloc (.cells #[.string ⟨#[115, 112, 97, 114, 101]⟩] 9))) := HC.out.alloc _
              clear HC
              have HC : Hid (Keeps no wl (z0.alloc (.cells #[.string ⟨#[115, 112, 97, 114, 101]⟩] 9))) := HC2.out
              clear HC2
              generalize (z0.alloc (.cells #[.string ⟨#[115, 112, 97, 114, 101]⟩] 9)) = z1 at HB HC ⊢
              refine hKq.out _ _ ?_ (fun hHeldN => ?_)
              · trivial
              clear hKq Kq hHeld
              have hHeld := hHeldN
              clear hHeldN
              refine wpAnyH_ready (rs := [6]) (by kernel_rfl) (by simp) ?_
              refine AllReadyH.cons (by simp only [List.getElem?_toArray, List.getElem?_cons_succ, List.getElem?_cons_zero]; rfl) (fun Kq hKq => ?_) AllReadyH.nil
              have hz := HC.out.cellN HD3.out
              go_simp
              clear hz
              refine hKq.out _ _ ?_ (fun hHeldN => ?_)
              · trivial
              clear hKq Kq hHeld
              have hHeld := hHeldN
              clear hHeldN
              refine wpAnyH_ready (rs := [7]) (by kernel_rfl) (by simp) ?_
              refine AllReadyH.cons (by simp only [List.getElem?_toArray, List.getElem?_cons_succ, List.getElem?_cons_zero]; rfl) (fun Kq hKq => ?_) AllReadyH.nil
              refine step_app1 okT rfl (.const (.slice none 0 0)) (.tmp 101) rfl none 0 0 [] rfl rfl (own_nil _) ro rn rc ky rfl HKY0.out.2.1 HKY0.out.1.sl.nil (HKY0.out.1.keepsN HC.out).row (by have := HKY0.out.2.2; simp [TE]; omega) (by have := HKY0.out.2.2; simp; omega) ?_
              intro oa ca z2 ho7 ha7
              have HA : Hid (Own TE z2 oa ca ky ∧ New wl oa) := ⟨by simpa using ho7, (ha7.new (new_none _) HC.out).1⟩
              have HC2 : Hid (Keeps no wl z2) := (ha7.new (new_none _) HC.out).2
              have HB2 : Hid (Row TE z2 (some ⟨z0.heap.size, 0, none⟩) [sp]) := HB.out.keepsN ha7.none
              clear HB
              have HB : Hid (Row TE z2 (some ⟨z0.heap.size, 0, none⟩) [sp]) := HB2.out
              clear HC ho7 ha7
              have HC : Hid (Keeps no wl z2) := HC2.out
              clear HC2
              refine hKq.out _ _ ?_ (fun hHeldN => ?_)
              · trivial
              clear hKq Kq hHeld
              have hHeld := hHeldN
              clear hHeldN
              refine wpAnyH_ready (rs := [9]) (by kernel_rfl) (by simp) ?_
              refine AllReadyH.cons (by simp only [List.getElem?_toArray, List.getElem?_cons_succ, List.getElem?_cons_zero]; rfl) (fun Kq hKq => ?_) AllReadyH.nil
              refine step_app1 okT rfl (.tmp 102) (.tmp 103) rfl oa _ ca ky rfl (by have := HKY0.out.2.1; omega) HA.out.1 (some ⟨z0.heap.size, 0, none⟩) 1 1 [sp] rfl rfl (fun h => by cases h) HB.out (by have := HKY0.out.2.2; simp [TE]; omega) (by have := HKY0.out.2.2; simp; omega) ?_
              intro o9 c9 z3 ho9 ha9
              have HF : Hid (Own TE z3 o9 c9 (ky ++ [sp]) ∧ New wl o9) := ⟨ho9, (ha9.new HA.out.2 HC.out).1⟩
              have HC2 : Hid (Keeps no wl z3) := (ha9.new HA.out.2 HC.out).2
              clear HC ho9 ha9 HA HB
              have HC : Hid (Keeps no wl z3) := HC2.out
              clear HC2
              refine hKq.out _ _ ?_ (fun hHeldN => ?_)
              · trivial
              clear hKq Kq hHeld
              have hHeld := hHeldN
              clear hHeldN
              have hrc : rn ≤ c9 := by have h1 := HF.out.1.cap.1; have h2 := HKY0.out.2.1; rw [List.length_append] at h1; omega
              have hrc2 : (rn : Int) ≤ (c9 : Int) := by omega
              refine wpAnyH_take (i := 16) (v := ?_) (by simp only [List.getElem?_toArray, List.getElem?_cons_succ, List.getElem?_cons_zero]; rfl) (by kernel_rfl) (by kernel_rfl) (by kernel_rfl) (by exact fun _ _ _ h => h) (Or.inl ⟨by rfl, ?_⟩) (by assumption) ?_
              rotate_left
              · (intro _ hSw; (try dsimp only at hSw); go_simp; (try with_reducible rfl))
              try simp only [Act.put, List.setIfInBounds_toArray, List.set_cons_zero, List.set_cons_succ]
              refine wpAnyH_take (i := 17) (v := ?_) (by simp only [List.getElem?_toArray, List.getElem?_cons_succ, List.getElem?_cons_zero]; rfl) (by kernel_rfl) (by kernel_rfl) (by kernel_rfl) (by exact fun _ _ _ h => h) (Or.inl ⟨by rfl, ?_⟩) (by assumption) ?_
              rotate_left
              · (intro _ hSw; (try dsimp only at hSw); go_simp; (try with_reducible rfl))
              try simp only [Act.put, List.setIfInBounds_toArray, List.set_cons_zero, List.set_cons_succ]
              refine wpAnyH_take (i := 18) (v := ?_) (by simp only [List.getElem?_toArray, List.getElem?_cons_succ, List.getElem?_cons_zero]; rfl) (by kernel_rfl) (by kernel_rfl) (by kernel_rfl) (by exact fun _ _ _ h => h) (Or.inl ⟨by rfl, ?_⟩) (by assumption) ?_
              rotate_left
              · (intro _ hSw; (try dsimp only at hSw); go_simp; (try with_reducible rfl))
              try simp only [Act.put, List.setIfInBounds_toArray, List.set_cons_zero, List.set_cons_succ]
              have hz := HC.out.cellN HD3.out
              obtain ⟨g2, eg, hfz, hlk2⟩ := HLQ2.out.1.set HLQ2.out.2.2 (o9 := o9) (c9 := c9) (by rw [HLQ2.out.2.1]; exact HF.out.1) (fun q hq => Nat.le_trans HKW2.out.2 (HF.out.2 q hq)) HC.out
              have hgg : g2 = g := by cases eg; rfl
              subst g2
              have f3 := hfz (i * 4 + 3)
              rw [HRR.out] at hlk2
              have HN : Hid (Lk w wr (some ⟨g, 0, none⟩) c vs (i + 1) (rs1.set i ⟨rk, ri, rv, o9, rn, c9⟩) (z3.setCell ⟨g, i * 4 + 3, none⟩ (.slice o9 rn c9))) := hlk2
              clear hlk2 eg hfz
              refine wpAnyH_ready (rs := [19]) (by kernel_rfl) (by simp) ?_
              refine AllReadyH.cons (by simp only [List.getElem?_toArray, List.getElem?_cons_succ, List.getElem?_cons_zero]; rfl) (fun Kq hKq => ?_) AllReadyH.nil
              go_simp
              refine hKq.out _ _ ?_ (fun hHeldN => ?_)
              · trivial
              clear hKq Kq hHeld
              have hHeld := hHeldN
              clear hHeldN
              refine wpAnyH_done (by kernel_rfl) ?_ _
              clear hHeld
              go_wp2_with fail
              go_roundw
              case rel => exact ⟨i + 1, by omega, by go_num, _, HN.out⟩
              case measure => simp [intOf]; omega
        · have hlt2' : ¬ (i : Int) < n := by omega
          have HL2 : Hid (∃ rs1, Lk w wr o c vs n rs1 wl) := by
            have := HT.out
            rwa [show i = n by omega] at this
          clear HT hi
          obtain ⟨rs1, hlk⟩ := HL2.out
          have HL3 : Hid (Lk w wr o c vs n rs1 wl) := hlk
          clear HL2 hlk
          have HGO : Hid (Vo wl og cg rg gs ∧ Vo wl o2 c2 rs2 vs) := by
            have hO : ∀ k, inO o k → k < w1.heap.size := HVO.out
            refine ⟨HGF.out.2.2.vo.keeps HL3.out.kp (HGF.out.2.2.ge.mono fun i hi h => ?_), HWN.out.vo.keeps HL3.out.kp (HWN.out.ge.mono fun i hi h => ?_)⟩
            · have h1 := hO i h
              have h2 := HW14.out
              omega
            · have h1 := hO i h
              omega
          have HLB : Hid (n = rs1.length ∧ ng = rg.length) := ⟨by rw [HL3.out.len]; exact HNL.out.2, by rw [HGO.out.1.len]; exact HGF.out.1⟩
          go_upto_region 20 with (at_builtin; first | (refine wpList_app okV rfl _ _ rfl none 0 0 [] rfl rfl (own_nil _) o n c rs1 rfl HLB.out.1 HL3.out.own.sl.nil HL3.out.own.row (by have := HLB.out.1; simp [VE]; omega) (by have := HLB.out.1; simp; omega) ?_; intro oa ca wa hoa haa; have HA : Hid (Own VE wa oa ca rs1 ∧ New wl oa ∧ Keeps no wl wa) := ⟨by simpa using hoa, (haa.new (new_none _) (Keeps.refl _ _)).1, (haa.new (new_none _) (Keeps.refl _ _)).2⟩; clear hoa haa) | (refine wpList_app okV rfl _ _ rfl oa _ ca rs1 rfl (by have := HLB.out.1; omega) (HA.out.1.keepsN ((Keeps.refl _ _).alloc _)) (some ⟨wa.heap.size, 0, none⟩) 1 1 [rsp] rfl rfl (fun h => by cases h) (own_oneV wa rsp).row (by have := HLB.out.1; simp [VE]; omega) (by have := HLB.out.1; simp; omega) ?_; intro oi ci wi hoi hai; have HIN : Hid (Own VE wi oi ci (rs1 ++ [rsp]) ∧ New wl oi ∧ Keeps no wl wi) := ⟨hoi, (hai.new HA.out.2.1 (HA.out.2.2.alloc _)).1, (hai.new HA.out.2.1 (HA.out.2.2.alloc _)).2⟩; have hic : n + 1 ≤ ci := (by have h := HIN.out.1.cap.1; have := HLB.out.1; simp at h; omega); have hic2 : (n : Int) ≤ (ci : Int) := (by omega); have hic3 : (n : Int) + 1 ≤ (ci : Int) := (by omega); clear hoi hai HA))
          clear hlt2'
          obtain ⟨gi, hgi⟩ := spare_some HIN.out.1
          subst hgi
          have HGI : Hid (Vo wi og cg rg gs ∧ Vo wi o2 c2 rs2 vs ∧ Vo wi (some ⟨gi, 0, none⟩) ci rs1 vs) := ⟨HGO.out.1.keepsN HIN.out.2.2, HGO.out.2.keepsN HIN.out.2.2, HL3.out.vo.spare HIN.out.2.2 HIN.out.1⟩
          go_upto_region 21 with (at_builtin; first | (refine wpList_app okV rfl _ _ rfl none 0 0 [] rfl rfl (own_nil _) og ng cg rg rfl HLB.out.2 HGI.out.1.own.sl.nil HGI.out.1.own.row (by have := HLB.out.2; simp [VE]; omega) (by have := HLB.out.2; simp; omega) ?_; intro oa ca wa hoa haa; have HA : Hid (Own VE wa oa ca rg ∧ New wi oa ∧ Keeps no wi wa) := ⟨by simpa using hoa, (haa.new (new_none _) (Keeps.refl _ _)).1, (haa.new (new_none _) (Keeps.refl _ _)).2⟩; clear hoa haa) | (refine wpList_app okV rfl _ _ rfl oa _ ca rg rfl (by have := HLB.out.2; omega) (HA.out.1.keepsN ((Keeps.refl _ _).alloc _)) (some ⟨wa.heap.size, 0, none⟩) 1 1 [rsp] rfl rfl (fun h => by cases h) (own_oneV wa rsp).row (by have := HLB.out.2; simp [VE]; omega) (by have := HLB.out.2; simp; omega) ?_; intro oF cF wF hoF haF; have HFE : Hid (Own VE wF oF cF (rg ++ [rsp]) ∧ New wi oF ∧ Keeps no wi wF) := ⟨hoF, (haF.new HA.out.2.1 (HA.out.2.2.alloc _)).1, (haF.new HA.out.2.1 (HA.out.2.2.alloc _)).2⟩; have hfc : ng + 1 ≤ cF := (by have h := HFE.out.1.cap.1; have := HLB.out.2; simp at h; omega); have hfc2 : (ng : Int) ≤ (cF : Int) := (by omega); have hfc3 : (ng : Int) + 1 ≤ (cF : Int) := (by omega); clear hoF haF HA))
          obtain ⟨gf, hgf⟩ := spare_some HFE.out.1
          subst hgf
          have HF0 : Hid (Vo wF og cg rg gs ∧ Vo wF o2 c2 rs2 vs ∧ Vo wF (some ⟨gi, 0, none⟩) ci rs1 vs ∧ Vo wF (some ⟨gf, 0, none⟩) cF rg gs ∧ Own VE wF (some ⟨gi, 0, none⟩) ci (rs1 ++ [rsp]) ∧ Own VE wF (some ⟨gf, 0, none⟩) cF (rg ++ [rsp]) ∧ ∀ j, j < vs.length → Own TE wF (rs1.getD j r0).o (rs1.getD j r0).c ((vs.getD j v0).keys ++ [sp])) := ⟨HGI.out.1.keepsN HFE.out.2.2, HGI.out.2.1.keepsN HFE.out.2.2, HGI.out.2.2.keepsN HFE.out.2.2, HGI.out.1.spare HFE.out.2.2 HFE.out.1, HIN.out.1.keepsN HFE.out.2.2, HFE.out.1, fun j hj => ((HL3.out.sp j (by rw [HNL.out.2]; exact hj)).keepsN HIN.out.2.2).keepsN HFE.out.2.2⟩
          have HKF : Hid (Keeps (inO o) wr wF) := HL3.out.kp.trans (HIN.out.2.2.trans HFE.out.2.2).of_no
          clear HGI HIN HFE HGO HL3
          have HMX : Hid (∀ X, Keeps no wF X → Calls Try.prog 14 #[.slice (some ⟨gi, 0, none⟩) n ci, .slice (some ⟨gf, 0, none⟩) ng cF] X fun e w' => ∃ ox cx rx, e = .returned (.tuple #[.slice ox n cx, .int .i64 0]) ∧ NewVo X ox cx rx m w') := fun X hX => (pMendO_any X _ n ci rs1 vs _ ng cF rg gs HNL.out.2 HGF.out.1 HRD.out.fit HGF.out.2.1 (HF0.out.2.2.1.keepsN hX).vers (HF0.out.2.2.2.1.keepsN hX).vers).mono fun e w' ⟨u, he, h⟩ => by
            rcases h with ⟨hb, _⟩ | ⟨_, hm, _⟩ | ⟨_, m', o1, n1, c1, r1, hm, hu, hn1, hv1⟩
            · rw [(formedB_iff vs).2 HRD.out.formed] at hb; cases hb
            · rw [HME.out] at hm; cases hm
            · have hmm : m' = m := by rw [HME.out] at hm; cases hm; rfl
              subst m'
              have hnn : n1 = n := by rw [hn1, HMI.out.len]; exact HNL.out.2.symm
              exact ⟨o1, c1, r1, by rw [he, hu, hnn], hv1⟩
          go_wp2_with fail
          refine Calls.mono (HMX.out _ (Keeps.refl _ _)) ?_
          rintro e wx ⟨ox, cx, rx, rfl, hx⟩
          have HX : Hid (NewVo wF ox cx rx m wx) := hx
          clear hx
          go_wp2_with fail
          refine Calls.mono (HMX.out _ HX.out.kp) ?_
          rintro e wy ⟨oy, cy, ry, rfl, hy⟩
          have HY : Hid (NewVo wx oy cy ry m wy ∧ NewVo wF ox cx rx m wy) := ⟨hy, HX.out.keepsN hy.kp⟩
          clear hy
          have HND : Hid (Calls Try.prog 13 #[.slice (some ⟨gi, 0, none⟩) n ci] wy fun e w' => ∃ u, e = .returned u ∧ NeedTo wy vs u w') := pNeeds_any wy _ n ci rs1 vs HNL.out.2 HRD.out.fit (HF0.out.2.2.1.keepsN HY.out.2.kp).vers
          go_wp2_with fail
          refine Calls.mono HND.out ?_
          rintro e wu ⟨u, rfl, hu⟩
          clear HND
          rcases hu with ⟨hb, _⟩ | ⟨_, ou, nu, cu, rfl, hnu, hou, huu, hku⟩
          · rw [(formedB_iff vs).2 HRD.out.formed] at hb; cases hb
          have hnn : nu = nw := by rw [hnu]; exact HNL.out.1.symm
          clear hnu
          subst nu
          have HU : Hid (NewVo wx oy cy ry m wu ∧ NewVo wF ox cx rx m wu ∧ Own WE wu ou cu (needsV vs) ∧ New wy ou) := ⟨HY.out.1.keepsN hku, HY.out.2.keepsN hku, hou, huu⟩
          clear hou huu hku
          have HS1 : Hid (∀ X, Keeps no wu X → Calls Try.prog 22 #[.slice ox n cx, .slice oy n cy] X fun e w' => e = .returned (.bool true) ∧ Keeps no X w') := fun X hX => by
            have h := same_any X ox n cx oy n cy rx ry m m (by rw [HMI.out.len]; exact HNL.out.2) (by rw [HMI.out.len]; exact HNL.out.2) HMI.out.fit HMI.out.fit (HU.out.2.1.keepsN hX).vs.vers (HU.out.1.keepsN hX).vs.vers
            rw [decide_eq_true rfl] at h
            exact h
          have HS2 : Hid (∀ X, Keeps no wu X → Calls Try.prog 22 #[.slice (some ⟨gi, 0, none⟩) n ci, .slice o2 n c2] X fun e w' => e = .returned (.bool true) ∧ Keeps no X w') := fun X hX => by
            have h := same_any X _ n ci o2 n c2 rs1 rs2 vs vs HNL.out.2 HNL.out.2 HRD.out.fit HRD.out.fit (HF0.out.2.2.1.keepsN (HU.out.2.1.kp.trans hX)).vers (HF0.out.2.1.keepsN (HU.out.2.1.kp.trans hX)).vers
            rw [decide_eq_true rfl] at h
            exact h
          have HS3 : Hid (∀ X, Keeps no wu X → Calls Try.prog 22 #[.slice (some ⟨gf, 0, none⟩) ng cF, .slice og ng cg] X fun e w' => e = .returned (.bool true) ∧ Keeps no X w') := fun X hX => by
            have h := same_any X _ ng cF og ng cg rg rg gs gs HGF.out.1 HGF.out.1 HGF.out.2.1 HGF.out.2.1 (HF0.out.2.2.2.1.keepsN (HU.out.2.1.kp.trans hX)).vers (HF0.out.1.keepsN (HU.out.2.1.kp.trans hX)).vers
            rw [decide_eq_true rfl] at h
            exact h
          go_wp2_with fail
          refine Calls.mono (HS1.out _ (Keeps.refl _ _)) ?_
          rintro e ws1 ⟨rfl, hks1⟩
          have HK1 : Hid (Keeps no wu ws1) := hks1
          clear hks1
          go_wp2_with fail
          refine Calls.mono (HS2.out _ HK1.out) ?_
          rintro e ws2 ⟨rfl, hks2⟩
          have HK2 : Hid (Keeps no wu ws2) := HK1.out.trans hks2
          clear hks2 HK1
          go_wp2_with fail
          refine Calls.mono (HS3.out _ HK2.out) ?_
          rintro e ws3 ⟨rfl, hks3⟩
          have HK3 : Hid (Keeps no wu ws3) := HK2.out.trans hks3
          clear hks3 HK2 HS1 HS2 HS3
          have cI := own_spare (HF0.out.2.2.2.2.1.keepsN (HU.out.2.1.kp.trans HK3.out))
          have cG := own_spare (HF0.out.2.2.2.2.2.1.keepsN (HU.out.2.1.kp.trans HK3.out))
          rw [← HLB.out.1] at cI
          rw [← HLB.out.2] at cG
          have hlt9 : (n : Int) < (n : Int) + 1 := by omega
          have hlt10 : (ng : Int) < (ng : Int) + 1 := by omega
          have HMK : Hid (Calls Try.prog 14 #[.slice o2 n c2, .slice og ng cg] ws3 fun e w' => ∃ ok ck rk, e = .returned (.tuple #[.slice ok n ck, .int .i64 0]) ∧ NewVo ws3 ok ck rk m w') := (pMendO_any ws3 _ n c2 rs2 vs _ ng cg rg gs HNL.out.2 HGF.out.1 HRD.out.fit HGF.out.2.1 (HF0.out.2.1.keepsN (HU.out.2.1.kp.trans HK3.out)).vers (HF0.out.1.keepsN (HU.out.2.1.kp.trans HK3.out)).vers).mono fun e w' ⟨u, he, h⟩ => by
            rcases h with ⟨hb, _⟩ | ⟨_, hm, _⟩ | ⟨_, m', o1, n1, c1, r1, hm, hu, hn1, hv1⟩
            · rw [(formedB_iff vs).2 HRD.out.formed] at hb; cases hb
            · rw [HME.out] at hm; cases hm
            · have hmm : m' = m := by rw [HME.out] at hm; cases hm; rfl
              subst m'
              have hnn : n1 = n := by rw [hn1, HMI.out.len]; exact HNL.out.2.symm
              exact ⟨o1, c1, r1, by rw [he, hu, hnn], hv1⟩
          go_wp2_with fail
          refine Calls.mono HMK.out ?_
          rintro e wk ⟨ok, ck, rk, rfl, hk⟩
          have HK : Hid (NewVo ws3 ok ck rk m wk) := hk
          clear hk cI cG HMK
          go_wp2_with fail
          have hmn : m.length = n := by rw [HMI.out.len]; exact HNL.out.2.symm
          have HXK : Hid (NewVo wF ox cx rx m wk ∧ NewVo wx oy cy ry m wk ∧ Own WE wk ou cu (needsV vs) ∧ Keeps no ws3 wk) := ⟨(HU.out.2.1.keepsN HK3.out).keepsN HK.out.kp, (HU.out.1.keepsN HK3.out).keepsN HK.out.kp, (HU.out.2.2.1.keepsN HK3.out).keepsN HK.out.kp, HK.out.kp⟩
          have HLT : Hid ((∀ k, inO ox k → wF.heap.size ≤ k ∧ k < ws3.heap.size) ∧ (∀ j, j < m.length → ∀ k, inO (rx.getD j r0).o k ∨ inO (ry.getD j r0).o k → wF.heap.size ≤ k ∧ k < ws3.heap.size) ∧ (∀ j, j < m.length → ∀ k, inO (rx.getD j r0).o k → k < wx.heap.size) ∧ (∀ k, inO ou k → wF.heap.size ≤ k ∧ k < ws3.heap.size)) := by
            have h3 := HU.out.2.1.keepsN HK3.out
            have h4 := HU.out.1.keepsN HK3.out
            have h5 := HX.out.kp.size
            have h6 := HY.out.1.kp.size
            refine ⟨fun k hk => ⟨h3.newO k hk, h3.own.lt k hk⟩, ?_, fun j hj k hk => (HX.out.each j hj).own.lt k hk, fun k hk => ⟨?_, (HU.out.2.2.1.keepsN HK3.out).lt k hk⟩⟩
            · rintro j hj k (hk | hk)
              · exact ⟨h3.newK j hj k hk, (h3.each j hj).own.lt k hk⟩
              · exact ⟨Nat.le_trans h5 (h4.newK j hj k hk), (h4.each j hj).own.lt k hk⟩
            · have := HU.out.2.2.2 k hk
              omega
          have HOLD : Hid (∀ X, Keeps (Bk wF.heap.size ws3.heap.size wk.heap.size) wk X → Vo X o2 c2 rs2 vs ∧ Vo X (some ⟨gi, 0, none⟩) ci rs1 vs ∧ Vo X (some ⟨gf, 0, none⟩) cF rg gs ∧ Vo X ok ck rk m ∧ (∀ j, j < vs.length → Own TE X (rs1.getD j r0).o (rs1.getD j r0).c ((vs.getD j v0).keys ++ [sp]))) := by
            intro X hX
            have hk0 : Keeps no wF wk := HXK.out.1.kp
            have hsz := hk0.size
            have old : ∀ i, i < wF.heap.size → ¬ Bk wF.heap.size ws3.heap.size wk.heap.size i := fun i hi h => by
              rcases h with h | h <;> omega
            refine ⟨(HF0.out.2.1.keepsN hk0).keeps hX (HF0.out.2.1.lt.mono old), (HF0.out.2.2.1.keepsN hk0).keeps hX (HF0.out.2.2.1.lt.mono old), (HF0.out.2.2.2.1.keepsN hk0).keeps hX (HF0.out.2.2.2.1.lt.mono old), ?_, fun j hj => ((HF0.out.2.2.2.2.2.2 j hj).keepsN hk0).keeps hX (fun k hk => old k ((HF0.out.2.2.2.2.2.2 j hj).lt k hk))⟩
            have hlt := HK.out.vs.vo.lt
            have hge := HK.out.vs.ge
            refine HK.out.vs.vo.keeps hX ⟨fun k hk h => ?_, fun j hj k hk h => ?_⟩
            · have h1 := hlt.1 k hk
              have h2 := hge.1 k hk
              rcases h with h | h <;> omega
            · have h1 := hlt.2 j hj k hk
              have h2 := hge.2 j hj k hk
              rcases h with h | h <;> omega
          have HKB : Hid (∀ X, Keeps (Bk wF.heap.size ws3.heap.size wk.heap.size) wk X → Keeps no w X) := by
            intro X hX
            have h1 : Keeps no w wF := HKW.out.then HKF.out (fun q hq => .inr (HNO.out q hq))
            exact (h1.trans HXK.out.1.kp).then hX (fun q hq => .inr (by
              have a := h1.size
              have b := HXK.out.1.kp.size
              rcases hq with h | h <;> omega))
          clear HX HY HU HK3 HK
          have hgx : ∃ gx, ox = some ⟨gx, 0, none⟩ := by
            rcases HXK.out.1.own.shape with ⟨_, _, e⟩ | ⟨g, _, e, _⟩
            · have := HXK.out.1.len; rw [e, hmn] at this; simp at this; omega
            · exact ⟨g, e⟩
          obtain ⟨gx, hgx⟩ := hgx
          subst hgx
          have hgy : ∃ gy, oy = some ⟨gy, 0, none⟩ := by
            rcases HXK.out.2.1.own.shape with ⟨_, _, e⟩ | ⟨g, _, e, _⟩
            · have := HXK.out.2.1.len; rw [e, hmn] at this; simp at this; omega
            · exact ⟨g, e⟩
          obtain ⟨gy, hgy⟩ := hgy
          subst hgy
          have HMN : Hid (m.length = n) := hmn
          clear hmn
          go_loopw [25, 26] (fun s25 s26 wq => ∃ i : Nat, i ≤ n ∧ s26 = .int .i64 i ∧ ∃ oL nL cL, s25 = .slice oL nL cL ∧ Hid (nL = 2 * i) ∧ Hid (Own XE wq oL cL (LY rx ry m i) ∧ New wk oL ∧ Keeps no wk wq)) (fun _ s26 _ => n - (intOf s26).toNat)
          case atStart => exact ⟨0, by omega, rfl, none, 0, 0, rfl, rfl, own_nil _, new_none _, Keeps.refl _ _⟩
          case round =>
            rename World => wq
            obtain ⟨i, hi, rfl, oL, nL, cL, rfl, HNL2, HL0⟩ := hrel
            have HLL : Hid (nL = 2 * i ∧ Own XE wq oL cL (LY rx ry m i) ∧ New wk oL ∧ Keeps no wk wq) := ⟨HNL2.out, HL0.out.1, HL0.out.2.1, HL0.out.2.2⟩
            clear HNL2 HL0
            by_cases hlt3 : i < n
            · have hlt3' : (i : Int) < n := by omega
              have him : i < m.length := by have := HMN.out; omega
              have hx0 := HXK.out.1.keepsN HLL.out.2.2.2
              have hy0 := HXK.out.2.1.keepsN HLL.out.2.2.2
              obtain ⟨b1, off1, e1, d0, d1, d2, d3⟩ := hx0.own.sl.atV (j := i) (by rw [hx0.len]; exact him)
              obtain ⟨b2, off2, e2, f0, f1, f2, f3⟩ := hy0.own.sl.atV (j := i) (by rw [hy0.len]; exact him)
              have hb1 : b1 = gx ∧ off1 = 0 := by cases e1; exact ⟨rfl, rfl⟩
              have hb2 : b2 = gy ∧ off2 = 0 := by cases e2; exact ⟨rfl, rfl⟩
              obtain ⟨rfl, rfl⟩ := hb1
              obtain ⟨rfl, rfl⟩ := hb2
              simp only [Nat.zero_add] at d3 f3
              have hvx := hx0.each i him
              have hvy := hy0.each i him
              obtain ⟨xo, hxo⟩ : ∃ xo, (rx.getD i r0).o = xo := ⟨_, rfl⟩
              obtain ⟨xn, hxn⟩ : ∃ xn, (rx.getD i r0).n = xn := ⟨_, rfl⟩
              obtain ⟨xc, hxc⟩ : ∃ xc, (rx.getD i r0).c = xc := ⟨_, rfl⟩
              obtain ⟨yo, hyo⟩ : ∃ yo, (ry.getD i r0).o = yo := ⟨_, rfl⟩
              obtain ⟨yn, hyn⟩ : ∃ yn, (ry.getD i r0).n = yn := ⟨_, rfl⟩
              obtain ⟨yc, hyc⟩ : ∃ yc, (ry.getD i r0).c = yc := ⟨_, rfl⟩
              rw [hxo, hxn, hxc] at d3
              rw [hyo, hyn, hyc] at f3
              have HXY : Hid ((⟨(rx.getD i r0).o, (rx.getD i r0).c, (m.getD i v0).keys⟩ : LS Tx) = ⟨xo, xc, (m.getD i v0).keys⟩ ∧ (⟨(ry.getD i r0).o, (ry.getD i r0).c, (m.getD i v0).keys⟩ : LS Tx) = ⟨yo, yc, (m.getD i v0).keys⟩ ∧ xn = (m.getD i v0).keys.length ∧ yn = (m.getD i v0).keys.length) := ⟨by rw [hxo, hxc], by rw [hyo, hyc], by rw [← hxn]; exact hvx.n, by rw [← hyn]; exact hvy.n⟩
              have HCL : Hid (∀ X, Keeps no wq X → X.cell? ⟨b1, i * 4 + 3, none⟩ = some (.slice xo xn xc) ∧ X.cell? ⟨b2, i * 4 + 3, none⟩ = some (.slice yo yn yc)) := fun X hX => ⟨hX.cellN d3, hX.cellN f3⟩
              have HCA : Hid (∀ X Y o', Keeps no wq X → Ap X oL o' Y → Y.cell? ⟨b1, i * 4 + 3, none⟩ = some (.slice xo xn xc) ∧ Y.cell? ⟨b2, i * 4 + 3, none⟩ = some (.slice yo yn yc)) := by
                intro X Y o' hX hA
                have hk : Keeps (inO oL) X Y := by rcases hA with ⟨_, k⟩ | ⟨_, k⟩; exact k; exact k.of_no
                have hne : VE.e ≠ XE.e := by decide
                obtain ⟨y0, y1⟩ := HCL.out X hX
                exact ⟨hk.cell y0 (own_apart hne hx0.own HLL.out.2.1 b1 ⟨_, rfl, rfl⟩), hk.cell y1 (own_apart hne hy0.own HLL.out.2.1 b2 ⟨_, rfl, rfl⟩)⟩
              have HTX : Hid (Row XE ((wq.alloc (.cells #[.slice xo xn xc, .slice yo yn yc] 30)).drew) (some ⟨wq.heap.size, 0, none⟩) [⟨xo, xc, (m.getD i v0).keys⟩, ⟨yo, yc, (m.getD i v0).keys⟩]) := by
                have h := (own_twoX wq ⟨xo, xc, (m.getD i v0).keys⟩ ⟨yo, yc, (m.getD i v0).keys⟩).row
                simp only at h
                rw [← HXY.out.2.2.1] at h
                rw [show (Value.slice yo xn yc) = Value.slice yo yn yc by rw [HXY.out.2.2.1, HXY.out.2.2.2]] at h
                exact h.keepsN ((Keeps.refl no _).drew)
              have hi8 : i < 8 := by omega
              clear hx0 hy0 hvx hvy hxo hxn hxc hyo hyn hyc d0 d1 d2 d3 f0 f1 f2 f3 e1 e2 him
              as_aux_lemma =>
              go_wp2_with fail
              refine wp_region_held_drew (S := fun X => X.cell? ⟨b1, i * 4 + 3, none⟩ = some (.slice xo xn xc) ∧ X.cell? ⟨b2, i * 4 + 3, none⟩ = some (.slice yo yn yc)) (by kernel_rfl) ?_ (fun hHeld => ?_)
              · exact HCL.out _ ((Keeps.refl no _).drew)
              refine wpAnyH_take (i := 0) (v := ?_) (by simp only [List.getElem?_toArray, List.getElem?_cons_succ, List.getElem?_cons_zero]; rfl) (by kernel_rfl) (by kernel_rfl) (by kernel_rfl) (by exact fun _ _ _ h => h) (Or.inl ⟨by rfl, ?_⟩) (by assumption) ?_
              rotate_left
              · (intro _ hSw; (try dsimp only at hSw); go_simp; (try with_reducible rfl))
              try simp only [Act.put, List.setIfInBounds_toArray, List.set_cons_zero, List.set_cons_succ]
              refine wpAnyH_take (i := 1) (v := ?_) (by simp only [List.getElem?_toArray, List.getElem?_cons_succ, List.getElem?_cons_zero]; rfl) (by kernel_rfl) (by kernel_rfl) (by kernel_rfl) (by exact fun _ _ _ h => h) (Or.inl ⟨by rfl, ?_⟩) (by assumption) ?_
              rotate_left
              · (intro _ hSw; (try dsimp only at hSw); go_simp; (try with_reducible rfl))
              try simp only [Act.put, List.setIfInBounds_toArray, List.set_cons_zero, List.set_cons_succ]
              refine wpAnyH_take (i := 2) (v := ?_) (by simp only [List.getElem?_toArray, List.getElem?_cons_succ, List.getElem?_cons_zero]; rfl) (by kernel_rfl) (by kernel_rfl) (by kernel_rfl) (by exact fun _ _ _ h => h) (Or.inl ⟨by rfl, ?_⟩) (by assumption) ?_
              rotate_left
              · (intro _ hSw; (try dsimp only at hSw); go_simp; (try with_reducible rfl))
              try simp only [Act.put, List.setIfInBounds_toArray, List.set_cons_zero, List.set_cons_succ]
              refine wpAnyH_take (i := 3) (v := ?_) (by simp only [List.getElem?_toArray, List.getElem?_cons_succ, List.getElem?_cons_zero]; rfl) (by kernel_rfl) (by kernel_rfl) (by kernel_rfl) (by exact fun _ _ _ h => h) (Or.inl ⟨by rfl, ?_⟩) (by assumption) ?_
              rotate_left
              · (intro _ hSw; (try dsimp only at hSw); go_simp; (try with_reducible rfl))
              try simp only [Act.put, List.setIfInBounds_toArray, List.set_cons_zero, List.set_cons_succ]
              refine wpAnyH_take (i := 4) (v := ?_) (by simp only [List.getElem?_toArray, List.getElem?_cons_succ, List.getElem?_cons_zero]; rfl) (by kernel_rfl) (by kernel_rfl) (by kernel_rfl) (by exact fun _ _ _ h => h) (Or.inl ⟨by rfl, ?_⟩) (by assumption) ?_
              rotate_left
              · (intro _ hSw; (try dsimp only at hSw); go_simp; (try with_reducible rfl))
              try simp only [Act.put, List.setIfInBounds_toArray, List.set_cons_zero, List.set_cons_succ]
              refine wpAnyH_take (i := 5) (v := ?_) (by simp only [List.getElem?_toArray, List.getElem?_cons_succ, List.getElem?_cons_zero]; rfl) (by kernel_rfl) (by kernel_rfl) (by kernel_rfl) (by exact fun _ _ _ h => h) (Or.inl ⟨by rfl, ?_⟩) (by assumption) ?_
              rotate_left
              · (intro _ hSw; (try dsimp only at hSw); obtain ⟨z0, z1⟩ := hSw; go_simp; (try with_reducible rfl))
              try simp only [Act.put, List.setIfInBounds_toArray, List.set_cons_zero, List.set_cons_succ]
              refine wpAnyH_take (i := 6) (v := ?_) (by simp only [List.getElem?_toArray, List.getElem?_cons_succ, List.getElem?_cons_zero]; rfl) (by kernel_rfl) (by kernel_rfl) (by kernel_rfl) (by exact fun _ _ _ h => h) (Or.inl ⟨by rfl, ?_⟩) (by assumption) ?_
              rotate_left
              · (intro _ hSw; (try dsimp only at hSw); go_simp; (try with_reducible rfl))
              try simp only [Act.put, List.setIfInBounds_toArray, List.set_cons_zero, List.set_cons_succ]
              refine wpAnyH_take (i := 7) (v := ?_) (by simp only [List.getElem?_toArray, List.getElem?_cons_succ, List.getElem?_cons_zero]; rfl) (by kernel_rfl) (by kernel_rfl) (by kernel_rfl) (by exact fun _ _ _ h => h) (Or.inl ⟨by rfl, ?_⟩) (by assumption) ?_
              rotate_left
              · (intro _ hSw; (try dsimp only at hSw); go_simp; (try with_reducible rfl))
              try simp only [Act.put, List.setIfInBounds_toArray, List.set_cons_zero, List.set_cons_succ]
              refine wpAnyH_take (i := 8) (v := ?_) (by simp only [List.getElem?_toArray, List.getElem?_cons_succ, List.getElem?_cons_zero]; rfl) (by kernel_rfl) (by kernel_rfl) (by kernel_rfl) (by exact fun _ _ _ h => h) (Or.inl ⟨by rfl, ?_⟩) (by assumption) ?_
              rotate_left
              · (intro _ hSw; (try dsimp only at hSw); go_simp; (try with_reducible rfl))
              try simp only [Act.put, List.setIfInBounds_toArray, List.set_cons_zero, List.set_cons_succ]
              refine wpAnyH_take (i := 9) (v := ?_) (by simp only [List.getElem?_toArray, List.getElem?_cons_succ, List.getElem?_cons_zero]; rfl) (by kernel_rfl) (by kernel_rfl) (by kernel_rfl) (by exact fun _ _ _ h => h) (Or.inl ⟨by rfl, ?_⟩) (by assumption) ?_
              rotate_left
              · (intro _ hSw; (try dsimp only at hSw); go_simp; (try with_reducible rfl))
              try simp only [Act.put, List.setIfInBounds_toArray, List.set_cons_zero, List.set_cons_succ]
              refine wpAnyH_take (i := 10) (v := ?_) (by simp only [List.getElem?_toArray, List.getElem?_cons_succ, List.getElem?_cons_zero]; rfl) (by kernel_rfl) (by kernel_rfl) (by kernel_rfl) (by exact fun _ _ _ h => h) (Or.inl ⟨by rfl, ?_⟩) (by assumption) ?_
              rotate_left
              · (intro _ hSw; (try dsimp only at hSw); obtain ⟨z0, z1⟩ := hSw; go_simp; (try with_reducible rfl))
              try simp only [Act.put, List.setIfInBounds_toArray, List.set_cons_zero, List.set_cons_succ]
              refine wpAnyH_ready (rs := [11]) (by kernel_rfl) (by simp) ?_
              refine AllReadyH.cons (by simp only [List.getElem?_toArray, List.getElem?_cons_succ, List.getElem?_cons_zero]; rfl) (fun Kq hKq => ?_) AllReadyH.nil
              go_simp
              refine hKq.out _ _ ?_ (fun hHeldN => ?_)
              · exact HCL.out _ (((Keeps.refl no wq).alloc _).drew)
              clear hKq Kq hHeld
              have hHeld := hHeldN
              clear hHeldN
              refine wpAnyH_ready (rs := [12]) (by kernel_rfl) (by simp) ?_
              refine AllReadyH.cons (by simp only [List.getElem?_toArray, List.getElem?_cons_succ, List.getElem?_cons_zero]; rfl) (fun Kq hKq => ?_) AllReadyH.nil
              refine step_app1 okX rfl (.tmp 216) (.tmp 227) rfl oL nL cL (LY rx ry m i) rfl (by rw [LY_len]; exact HLL.out.1) (HLL.out.2.1.keepsN (((Keeps.refl no wq).alloc _).drew)) (some ⟨wq.heap.size, 0, none⟩) 2 2 [⟨xo, xc, (m.getD i v0).keys⟩, ⟨yo, yc, (m.getD i v0).keys⟩] rfl rfl (fun h => by cases h) HTX.out (by rw [LY_len]; simp [XE]; omega) (by rw [LY_len]; simp; omega) ?_
              intro o7 c7 w7 ho7 ha7
              refine hKq.out _ _ ?_ (fun hHeldN => ?_)
              · exact HCA.out _ _ _ (((Keeps.refl no wq).alloc _).drew) ha7
              clear hKq Kq hHeld
              have hHeld := hHeldN
              clear hHeldN
              refine wpAnyH_take (i := 13) (v := ?_) (by simp only [List.getElem?_toArray, List.getElem?_cons_succ, List.getElem?_cons_zero]; rfl) (by kernel_rfl) (by kernel_rfl) (by kernel_rfl) (by exact fun _ _ _ h => h) (Or.inl ⟨by rfl, ?_⟩) (by assumption) ?_
              rotate_left
              · (intro _ hSw; (try dsimp only at hSw); go_simp; (try with_reducible rfl))
              try simp only [Act.put, List.setIfInBounds_toArray, List.set_cons_zero, List.set_cons_succ]
              refine wpAnyH_done (by kernel_rfl) ?_ _
              have HN : Hid (Own XE w7 o7 c7 (LY rx ry m (i + 1)) ∧ New wk o7 ∧ Keeps no wk w7) := by
                have h := ha7.new HLL.out.2.2.1 (HLL.out.2.2.2.trans (((Keeps.refl no wq).alloc _).drew))
                refine ⟨?_, h.1, h.2⟩
                rw [LY_succ, HXY.out.1, HXY.out.2.1]
                exact ho7
              clear ha7 ho7 hHeld
              go_wp2_with fail
              go_roundw
              case rel => exact ⟨i + 1, by omega, by go_num, o7, _, c7, rfl, by have := HLL.out.1; show _ = _; omega, HN.out⟩
              case measure => simp [intOf]; omega
            · have hlt3' : ¬ (i : Int) < n := by omega
              have hin : i = m.length := by have := HMN.out; omega
              have HYF : Hid (nL = (LY rx ry m m.length).length ∧ nL ≤ 16 ∧ Own XE wq oL cL (LY rx ry m m.length) ∧ Keeps no wk wq) := by
                have h := HLL.out
                rw [hin] at h
                exact ⟨by rw [LY_len]; exact h.1, by have := h.1; have := HMN.out; omega, h.2.1, h.2.2.2⟩
              have HBM : Hid (∀ k, wq.heap.size ≤ k → (fun k => (∃ j, j < m.length ∧ (inO (rx.getD j r0).o k ∨ inO (ry.getD j r0).o k)) ∨ wk.heap.size ≤ k) k) := fun k hk => .inr (Nat.le_trans HLL.out.2.2.2.size hk)
              have HMR : Hid (Calls Try.prog 23 #[.slice oL nL cL] wq fun e w' => e = .returned (.bool true) ∧ Keeps (fun k => (∃ j, j < m.length ∧ (inO (rx.getD j r0).o k ∨ inO (ry.getD j r0).o k)) ∨ wk.heap.size ≤ k) wq w') := marked_any _ wq oL nL cL _ HYF.out.1 (by have := HYF.out.2.1; omega) HBM.out (half_of HXK.out.1 HXK.out.2.1 HLT.out.2.2.1 (fun j hj k hk => .inl ⟨j, hj, hk⟩) HYF.out.2.2.1 HYF.out.2.2.2) (fun j hj => by
                have hl := LY_len rx ry m m.length
                rw [hl] at hj
                have hb := (HMI.out.fit.at (show j / 2 < m.length by omega)).len
                rw [LY_at rx ry m m.length j hj]
                split
                · show (((m.getD (j / 2) v0).keys.length : Nat) : Int) ≤ _
                  omega
                · show (((m.getD (j / 2) v0).keys.length : Nat) : Int) ≤ _
                  omega)
              clear hin HBM HLL hi
              go_wp2_with fail
              refine Calls.mono HMR.out ?_
              rintro e wm ⟨rfl, hkm⟩
              have HM5 : Hid (Own VE wm (some ⟨gx, 0, none⟩) cx rx ∧ Own WE wm ou cu (needsV vs) ∧ Keeps (Bk wF.heap.size ws3.heap.size wk.heap.size) wk wm) := by
                have hkq := HYF.out.2.2.2
                have ox1 := HXK.out.1.own.keepsN hkq
                have ou1 := HXK.out.2.2.1.keepsN hkq
                refine ⟨ox1.keeps hkm ?_, ou1.keeps hkm ?_, hkq.of_no.trans (hkm.mono ?_)⟩
                · intro k hk hB
                  rcases hB with ⟨j, hj, h | h⟩ | h
                  · exact own_apart (by decide : TE.e ≠ VE.e) (HXK.out.1.each j hj).own HXK.out.1.own k h hk
                  · exact own_apart (by decide : TE.e ≠ VE.e) (HXK.out.2.1.each j hj).own HXK.out.1.own k h hk
                  · have := HXK.out.1.own.lt k hk; omega
                · intro k hk hB
                  rcases hB with ⟨j, hj, h | h⟩ | h
                  · exact own_apart (by decide : TE.e ≠ WE.e) (HXK.out.1.each j hj).own HXK.out.2.2.1 k h hk
                  · exact own_apart (by decide : TE.e ≠ WE.e) (HXK.out.2.1.each j hj).own HXK.out.2.2.1 k h hk
                  · have := HXK.out.2.2.1.lt k hk; omega
                · intro k hB
                  rcases hB with ⟨j, hj, h⟩ | h
                  · exact .inl (HLT.out.2.1 j hj k h)
                  · exact .inr h
              clear hkm HMR HYF
              go_wp2_with fail
              go_loopw [27] (fun s27 wq => ∃ i : Nat, i ≤ n ∧ s27 = .int .i64 i ∧ Hid (∃ rq : List RV, rq.length = n ∧ Own VE wq (some ⟨gx, 0, none⟩) cx rq ∧ Own WE wq ou cu (needsV vs) ∧ Keeps (Bk wF.heap.size ws3.heap.size wk.heap.size) wk wq)) (fun s27 _ => n - (intOf s27).toNat)
              case atStart => exact ⟨0, by omega, rfl, rx, by rw [HXK.out.1.len]; exact HMN.out, HM5.out.1, HM5.out.2.1, HM5.out.2.2⟩
              case round =>
                clear HM5
                rename World => w5
                obtain ⟨i, hi, rfl, HT⟩ := hrel
                obtain ⟨rq, hrl, hro, hru, hrk⟩ := HT.out
                have HR : Hid (rq.length = n ∧ Own VE w5 (some ⟨gx, 0, none⟩) cx rq ∧ Own WE w5 ou cu (needsV vs) ∧ Keeps (Bk wF.heap.size ws3.heap.size wk.heap.size) wk w5) := ⟨hrl, hro, hru, hrk⟩
                clear hrl hro hru hrk HT
                by_cases hlt4 : i < n
                · have hlt4' : (i : Int) < n := by omega
                  have hil : i < rq.length := by rw [HR.out.1]; exact hlt4
                  obtain ⟨b1, off1, e1, d0, _⟩ := HR.out.2.1.sl.atV (j := i) hil
                  have hb1 : b1 = gx ∧ off1 = 0 := by cases e1; exact ⟨rfl, rfl⟩
                  obtain ⟨rfl, rfl⟩ := hb1
                  simp only [Nat.zero_add] at d0
                  obtain ⟨g2, eg, hfz, ho2', hk2'⟩ := HR.out.2.1.storeF okV r0 i hil 0 (by decide) ⟨⟨#[63]⟩, (rq.getD i r0).id, (rq.getD i r0).val, (rq.getD i r0).o, (rq.getD i r0).n, (rq.getD i r0).c⟩ (.string ⟨#[63]⟩) rfl
                  have hgg : g2 = b1 := by cases eg; rfl
                  subst g2
                  have f0 := hfz (i * 4)
                  have H6 : Hid (∃ rq : List RV, rq.length = n ∧ Own VE (w5.setCell ⟨b1, i * 4, none⟩ (.string ⟨#[63]⟩)) (some ⟨b1, 0, none⟩) cx rq ∧ Own WE (w5.setCell ⟨b1, i * 4, none⟩ (.string ⟨#[63]⟩)) ou cu (needsV vs) ∧ Keeps (Bk wF.heap.size ws3.heap.size wk.heap.size) wk (w5.setCell ⟨b1, i * 4, none⟩ (.string ⟨#[63]⟩))) := by
                    have hk3 : Keeps (inO (some ⟨b1, 0, none⟩)) w5 (w5.setCell ⟨b1, i * 4, none⟩ (.string ⟨#[63]⟩)) := hk2'
                    refine ⟨_, by rw [List.length_set]; exact HR.out.1, ho2', HR.out.2.2.1.keeps hk3 (fun k h1 h2 => own_apart (by decide : WE.e ≠ VE.e) HR.out.2.2.1 HR.out.2.1 k h1 h2), HR.out.2.2.2.trans (hk3.mono fun k hk => .inl (HLT.out.1 k hk))⟩
                  clear ho2' hk2' hfz eg e1 hil HR
                  go_wp2_with fail
                  go_roundw
                  case rel => exact ⟨i + 1, by omega, by go_num, H6⟩
                  case measure => simp [intOf]; omega
                · have hlt4' : ¬ (i : Int) < n := by omega
                  go_upto_region 39 with (at_builtin; refine wpList_app okV rfl _ _ rfl (some ⟨gx, 0, none⟩) n cx rq rfl HR.out.1.symm (HR.out.2.1.keepsN ((Keeps.refl _ _).alloc _)) (some ⟨w5.heap.size, 0, none⟩) 1 1 [⟨⟨#[33]⟩, 0, ⟨#[]⟩, none, 0, 0⟩] rfl rfl (fun h => by cases h) (own_oneV w5 ⟨⟨#[33]⟩, 0, ⟨#[]⟩, none, 0, 0⟩).row (by have := HR.out.1; simp [VE]; omega) (by have := HR.out.1; simp; omega) ?_; intro oq cq w6 hoq haq; have H6 : Hid (Own WE w6 ou cu (needsV vs) ∧ Keeps (Bk wF.heap.size ws3.heap.size wk.heap.size) wk w6) := (by have hkq : Keeps (inO (some ⟨gx, 0, none⟩)) (w5.alloc (.cells #[.string ⟨#[33]⟩, .int .u64 0, .string ⟨#[]⟩, .slice none 0 0] 32)) w6 := (by rcases haq with ⟨_, k⟩ | ⟨_, k⟩; exact k; exact k.of_no); have ou5 := HR.out.2.2.1.keepsN ((Keeps.refl no w5).alloc (.cells #[.string ⟨#[33]⟩, .int .u64 0, .string ⟨#[]⟩, .slice none 0 0] 32)); exact ⟨ou5.keeps hkq (fun k h1 h2 => own_apart (by decide : WE.e ≠ VE.e) HR.out.2.2.1 HR.out.2.1 k h1 h2), (HR.out.2.2.2.alloc _).trans (hkq.mono fun k hk => .inl (HLT.out.1 k hk))⟩); clear hoq haq)
                  clear hlt4' HR hi
                  go_wp2_with fail
                  go_loopw [28] (fun s28 wq => ∃ i : Nat, i ≤ nw ∧ s28 = .int .i64 i ∧ Hid (∃ us : List Wn, us.length = nw ∧ Own WE wq ou cu us ∧ Keeps (Bk wF.heap.size ws3.heap.size wk.heap.size) wk wq)) (fun s28 _ => nw - (intOf s28).toNat)
                  case atStart => exact ⟨0, by omega, rfl, needsV vs, HNL.out.1.symm, H6.out.1, H6.out.2⟩
                  case round =>
                    clear H6
                    rename World => w7
                    obtain ⟨j, hj, rfl, HT⟩ := hrel
                    obtain ⟨us, hul, huo, huk⟩ := HT.out
                    have HR : Hid (us.length = nw ∧ Own WE w7 ou cu us ∧ Keeps (Bk wF.heap.size ws3.heap.size wk.heap.size) wk w7) := ⟨hul, huo, huk⟩
                    clear hul huo huk HT
                    by_cases hlt5 : j < nw
                    · have hlt5' : (j : Int) < nw := by omega
                      have hjl : j < us.length := by rw [HR.out.1]; exact hlt5
                      obtain ⟨b1, off1, e1, d0, _⟩ := HR.out.2.1.sl.atW (j := j) hjl
                      obtain ⟨g2, eg, hfz, ho2', hk2'⟩ := HR.out.2.1.storeF okW w0' j hjl 0 (by decide) (⟨#[63]⟩, (us.getD j w0').2) (.string ⟨#[63]⟩) rfl
                      have hgg : b1 = g2 ∧ off1 = 0 := by rw [eg] at e1; cases e1; exact ⟨rfl, rfl⟩
                      obtain ⟨rfl, rfl⟩ := hgg
                      simp only [Nat.zero_add] at d0
                      have f0 := hfz (j * 2)
                      have H8 : Hid (∃ us : List Wn, us.length = nw ∧ Own WE (w7.setCell ⟨b1, j * 2, none⟩ (.string ⟨#[63]⟩)) ou cu us ∧ Keeps (Bk wF.heap.size ws3.heap.size wk.heap.size) wk (w7.setCell ⟨b1, j * 2, none⟩ (.string ⟨#[63]⟩))) := by
                        have hk3 : Keeps (inO ou) w7 (w7.setCell ⟨b1, j * 2, none⟩ (.string ⟨#[63]⟩)) := hk2'
                        exact ⟨_, by rw [List.length_set]; exact HR.out.1, ho2', HR.out.2.2.trans (hk3.mono fun k hk => .inl (HLT.out.2.2.2 k hk))⟩
                      clear ho2' hk2' hfz eg hjl HR
                      subst e1
                      go_wp2_with fail
                      go_roundw
                      case rel => exact ⟨j + 1, by omega, by go_num, H8⟩
                      case measure => simp [intOf]; omega
                    · have hlt5' : ¬ (j : Int) < nw := by omega
                      have H8 : Hid (Keeps (Bk wF.heap.size ws3.heap.size wk.heap.size) wk w7) := HR.out.2.2
                      clear HR hj
                      go_wp2_with fail
                      go_loopw [29] (fun s29 wq => ∃ i : Nat, i ≤ n ∧ s29 = .int .i64 i ∧ Hid (Keeps (Bk wF.heap.size ws3.heap.size wk.heap.size) wk wq)) (fun s29 _ => n - (intOf s29).toNat)
                      case atStart => exact ⟨0, by omega, rfl, H8⟩
                      case round =>
                        clear H8
                        rename World => w8
                        obtain ⟨k, hk, rfl, HT⟩ := hrel
                        by_cases hlt6 : k < n
                        · have hlt6' : (k : Int) < n := by omega
                          have hkl : k < vs.length := by have := HNL.out.2; omega
                          obtain ⟨_, hin, _, _, hsp⟩ := HOLD.out w8 HT.out
                          obtain ⟨b1, off1, e1, d0, d1, d2, d3⟩ := hin.own.sl.atV (j := k) (by rw [hin.len]; exact hkl)
                          have hb1 : b1 = gi ∧ off1 = 0 := by cases e1; exact ⟨rfl, rfl⟩
                          obtain ⟨rfl, rfl⟩ := hb1
                          simp only [Nat.zero_add] at d3
                          have hv := hin.each k hkl
                          have hs2 := hsp k hkl
                          have hfl := (HRD.out.fit.at hkl).len
                          obtain ⟨b3, off3, e3, g3⟩ := hs2.sl.at (j := (vs.getD k v0).keys.length) (by simp)
                          have hoff3 : off3 = 0 := by
                            rcases hs2.shape with ⟨e', _⟩ | ⟨g', cur, e', _⟩
                            · rw [e'] at e3; cases e3
                            · rw [e'] at e3; cases e3; rfl
                          subst hoff3
                          rw [getD_app, if_neg (by omega), Nat.sub_self, Nat.zero_add] at g3
                          have hcap := hs2.cap.1
                          rw [List.length_append, List.length_singleton] at hcap
                          have hnl := hv.n
                          generalize (vs.getD k v0).keys.length = q at g3 hcap hnl hfl
                          obtain ⟨rr, hrr⟩ : ∃ rr, rr = rs1.getD k r0 := ⟨_, rfl⟩
                          rw [← hrr] at d3 e3 hcap hnl
                          obtain ⟨rk1, ri1, rv1, ro1, rn1, rc1⟩ := rr
                          simp only at d3 e3 hcap hnl
                          subst hnl
                          subst e3
                          have g4 : w8.cell? ⟨b3, rn1, none⟩ = some (.string ⟨#[115, 112, 97, 114, 101]⟩) := g3
                          have hq0 : (rn1 : Int) ≤ 8796093022000 := by omega
                          have hq1 : (rn1 : Int) + 1 ≤ (rc1 : Int) := by omega
                          have hq2 : (0 : Int) ≤ (rn1 : Int) + 1 := by omega
                          have hq3 : (rn1 : Int) < (rn1 : Int) + 1 := by omega
                          have hq4 : rn1 + 1 ≤ rc1 := hcap
                          clear hin hsp e1 d0 d1 d2 hv hs2 hfl g3 hcap hrr hkl
                          go_wp2_with fail
                          go_quiet (fail)
                          go_wp2_with fail
                          go_roundw
                          case rel => exact ⟨k + 1, by omega, by go_num, HT.out.drewN _⟩
                          case measure => simp [intOf]; omega
                        · have hlt6' : ¬ (k : Int) < n := by omega
                          obtain ⟨h1, h2, h3, h4, _⟩ := HOLD.out w8 HT.out
                          have HMZ : Hid (Calls Try.prog 14 #[.slice (some ⟨gi, 0, none⟩) n ci, .slice (some ⟨gf, 0, none⟩) ng cF] w8 fun e w' => ∃ ox cx rx, e = .returned (.tuple #[.slice ox n cx, .int .i64 0]) ∧ NewVo w8 ox cx rx m w') := (pMendO_any w8 _ n ci rs1 vs _ ng cF rg gs HNL.out.2 HGF.out.1 HRD.out.fit HGF.out.2.1 h2.vers h3.vers).mono fun e w' ⟨u, he, h⟩ => by
                            rcases h with ⟨hb, _⟩ | ⟨_, hm, _⟩ | ⟨_, m', o1, n1, c1, r1, hm, hu, hn1, hv1⟩
                            · rw [(formedB_iff vs).2 HRD.out.formed] at hb; cases hb
                            · rw [HME.out] at hm; cases hm
                            · have hmm : m' = m := by rw [HME.out] at hm; cases hm; rfl
                              subst m'
                              have hnn : n1 = n := by rw [hn1, HMI.out.len]; exact HNL.out.2.symm
                              exact ⟨o1, c1, r1, by rw [he, hu, hnn], hv1⟩
                          have HOV : Hid (Vo w8 o2 c2 rs2 vs ∧ Vo w8 (some ⟨gi, 0, none⟩) ci rs1 vs ∧ Vo w8 ok ck rk m) := ⟨h1, h2, h4⟩
                          have HKE : Hid (Keeps no w w8) := HKB.out w8 HT.out
                          clear h1 h2 h3 h4 HT hk
                          go_wp2_with fail
                          refine Calls.mono HMZ.out ?_
                          rintro e w9 ⟨oz, cz, rz, rfl, hz⟩
                          have HZ : Hid (NewVo w8 oz cz rz m w9) := hz
                          clear hz HMZ
                          have HS1 : Hid (Calls Try.prog 22 #[.slice oz n cz, .slice ok n ck] w9 fun e w' => e = .returned (.bool true) ∧ Keeps no w9 w') := by
                            have h := same_any w9 oz n cz ok n ck rz rk m m HMN.out.symm HMN.out.symm HMI.out.fit HMI.out.fit HZ.out.vs.vers (HOV.out.2.2.keepsN HZ.out.kp).vers
                            rw [decide_eq_true rfl] at h
                            exact h
                          have HS2 : Hid (∀ X, Keeps no w9 X → Calls Try.prog 22 #[.slice (some ⟨gi, 0, none⟩) n ci, .slice o2 n c2] X fun e w' => e = .returned (.bool true) ∧ Keeps no X w') := fun X hX => by
                            have h := same_any X _ n ci o2 n c2 rs1 rs2 vs vs HNL.out.2 HNL.out.2 HRD.out.fit HRD.out.fit (HOV.out.2.1.keepsN (HZ.out.kp.trans hX)).vers (HOV.out.1.keepsN (HZ.out.kp.trans hX)).vers
                            rw [decide_eq_true rfl] at h
                            exact h
                          go_wp2_with fail
                          refine Calls.mono HS1.out ?_
                          rintro e wA ⟨rfl, hkA⟩
                          have HKA : Hid (Keeps no w9 wA) := hkA
                          clear hkA HS1
                          go_wp2_with fail
                          refine Calls.mono (HS2.out _ HKA.out) ?_
                          rintro e wB ⟨rfl, hkB⟩
                          have HKF2 : Hid (Keeps no w wB) := ((HKE.out.trans HZ.out.kp).trans HKA.out).trans hkB
                          clear hkB HS2
                          go_wp2_with fail
                          go_ret
                          exact ⟨by simp, HKF2.out⟩
end Go.Proofs.Ytodblodbeobgeaa
