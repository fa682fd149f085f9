/- FixMissing. -/
import Derived.Test.YtodblodbeobgeaaQ1
import Derived.Deep.CutBlock
import Derived.Deep.CutRange
namespace Go.Proofs.Ytodblodbeobgeaa
open Go.RowKit Go.Sort Orl
set_option linter.unusedVariables false
set_option linter.unusedSimpArgs false

/-- a world of writes, a read of it: all that the walks know of them -/
structure Rd (ms : List Int) (vs : List Ver) : Prop where
  fit : FitL vs
  formed : Formed vs
  pos : 1 ≤ vs.length
  len : vs.length ≤ 8
  ofw : ∀ v ∈ vs, OfW (KM ms) VM ms.length v
  key : ∀ v ∈ vs, v.key.size = 1
theorem rd_of (ms : List Int) (hm : ms.length ≤ 60) (read turn : Int) (ps : List Int) : Rd ms (broughtV ms read turn ps) := by
  have hl := setM_len read
  refine ⟨bro_fit ms (by omega) _ _ _, bro_formed _ _ _ _, by rw [bro_len]; omega, by rw [bro_len]; omega, bro_of _ _ _ _, ?_⟩
  intro v hv
  unfold broughtV broL at hv
  obtain ⟨i, _, rfl⟩ := List.mem_map.1 hv
  rw [(broV_of ms read turn ps i).1]
  exact setM_size read _ (getD_mem_lt e0 (Nat.mod_lt _ (by omega)))
/-- a want -/
theorem Rd.want {ms : List Int} {vs : List Ver} (h : Rd ms vs) {i : Nat} (hi : i < (needsV vs).length) : ∃ N, N < ms.length ∧ ((needsV vs).getD i w0').2 = 65536 * (N + 1) ∧ ((needsV vs).getD i w0').1 ∈ KM ms N ∧ ((needsV vs).getD i w0').1.size = 1 := by
  have hm : (needsV vs).getD i w0' ∈ needsV vs := getD_mem_lt w0' hi
  obtain ⟨N, h1, h2, h3⟩ := want_made h.ofw hm
  exact ⟨N, h1, h2, h3, KM_size ms N _ h3⟩
/-- got, among which P is not -/
def GotTo (w : World) (P : Wn) (i : Nat) (u : Value) (wr : World) : Prop := ∃ o n c rs gs, u = .slice o n c ∧ n = gs.length ∧ gs.length ≤ 3 * i ∧ NewVs w o c rs gs wr ∧ (∀ g ∈ gs, FitV g ∧ ¬ (g.key = P.1 ∧ g.id = P.2))
def gT : List Ver := [⟨⟨#[122, 122]⟩, 3, e0, []⟩, ⟨e0, 0, e0, []⟩]
theorem gT_fit : FitL gT := ⟨by simp [gT], fun v hv => by
  simp only [gT, List.mem_cons, List.not_mem_nil, or_false] at hv
  rcases hv with rfl | rfl
  · exact fit_x (by decide) (by decide) (by decide) (by simp) (by simp)
  · exact fit_x (by decide) (by decide) (by decide) (by simp) (by simp)⟩
theorem vers_two {w : World} {o : Option Addr} {c : Nat} {a b : RV} {x y : Ver} (h : Sl VE w o c [a, b]) (h1 : VerOf w a x) (h2 : VerOf w b y) : Vers w o c [a, b] [x, y] := ⟨h, rfl, fun j hj => by
  have : j = 0 ∨ j = 1 := by simp at hj; omega
  rcases this with rfl | rfl
  · exact h1
  · exact h2⟩
set_option maxRecDepth 10000 in
set_option maxHeartbeats 2000000 in
theorem fixMissing_any (w : World) (om : Option Addr) (nm cm : Nat) (ms : List Int) (read turn : Int) (op : Option Addr) (np cp : Nat) (ps : List Int) (drop : Int) (hnm : nm = ms.length) (hnp : np = ps.length) (hml : ms.length ≤ 17592186044000) (hpl : ps.length ≤ 17592186044000) (hI : ∀ z ∈ ms, I64 z) (hP : ∀ z ∈ ps, I64 z) (hr : I64 read) (ht : I64 turn) (hd : I64 drop) (hs : Sl ZE w om cm ms) (hp : Sl ZE w op cp ps) :
    Calls Try.prog 6 #[.slice om nm cm, .int .i64 read, .int .i64 turn, .slice op np cp, .int .i64 drop] w fun e w' => e = .returned (.bool true) ∧ Keeps no w w' := by
  obtain ⟨M, hM⟩ : ∃ M : Nat, M = min nm 60 := ⟨_, rfl⟩
  have hmin : min (nm : Int) 60 = (M : Int) := by omega
  obtain ⟨hcut, hs2⟩ := cutZ_h w om cm ms nm M (M : Int) rfl hnm (by omega) hs
  have hnm' : (nm : Int) ≤ 17592186044000 := by omega
  have hM60 : (M : Int) ≤ 60 := by omega
  obtain ⟨mt, hmt⟩ : ∃ mt, mt = ms.take M := ⟨_, rfl⟩
  have hml2 : M = mt.length := by rw [hmt, List.length_take]; omega
  rw [← hmt] at hs2
  have hI2 : ∀ z ∈ mt, I64 z := fun z hz => hI z (List.mem_of_mem_take (by rw [← hmt]; exact hz))
  have HB0 : Hid (Calls Try.prog 9 #[.slice om M cm, .int .i64 read, .int .i64 turn, .slice op np cp] w fun e w' => ∃ u, e = .returned u ∧ GiveVs w (broughtV mt read turn ps) u w') :=
    brought_any w om M cm mt read turn op np cp ps hml2 hnp (by omega) hpl hI2 hP hr ht hs2 hp
  have HRD : Hid (Rd mt (broughtV mt read turn ps)) := rd_of mt (by omega) _ _ _
  have HMS : Hid (M = mt.length ∧ (∀ z ∈ mt, I64 z) ∧ Sl ZE w om cm mt ∧ mt.length ≤ 60) := ⟨hml2, hI2, hs2, by omega⟩
  clear hnm hnp hml hpl hI hP hs hs2 hp hM hmt hml2 hI2
  generalize broughtV mt read turn ps = vs at HB0 HRD
  go_enter Try.func6, Try.ntmps6
  go_wp2_with fail
  refine Calls.mono HB0.out ?_
  rintro e w1 ⟨_, rfl, o, n, c, rs, rfl, hn, hv⟩
  have HV : Hid (n = vs.length ∧ NewVs w o c rs vs w1) := ⟨hn, hv⟩
  clear HB0 hn hv
  have HN : Hid (Calls Try.prog 13 #[.slice o n c] w1 fun e w' => ∃ u, e = .returned u ∧ NeedTo w1 vs u w') := pNeeds_any w1 o n c rs vs HV.out.1 HRD.out.fit HV.out.2.vers
  go_wp2_with fail
  refine Calls.mono HN.out ?_
  rintro e w2 ⟨u, rfl, hu⟩
  clear HN
  rcases hu with ⟨hb, _⟩ | ⟨_, ow, nw, cw, rfl, hnw, how, hww, hk2⟩
  · rw [(formedB_iff vs).2 HRD.out.formed] at hb; cases hb
  have HV2 : Hid (NewVs w o c rs vs w2 ∧ nw = (needsV vs).length ∧ Own WE w2 ow cw (needsV vs)) := ⟨HV.out.2.keepsN hk2, hnw, how⟩
  have hnw8 : (nw : Int) ≤ 8 := by have := needs_len vs; have := HRD.out.len; omega
  clear hnw how hww hk2
  go_wp2_with fail
  refine (known_any w2).mono ?_
  rintro e w3 ⟨rfl, hk3⟩
  have HV3 : Hid (NewVs w o c rs vs w3 ∧ nw = (needsV vs).length ∧ Own WE w3 ow cw (needsV vs)) := ⟨HV2.out.1.keepsN hk3, HV2.out.2.1, HV2.out.2.2.keepsN hk3⟩
  clear HV2 hk3
  by_cases hnw0 : nw = 0
  · subst hnw0
    have HWH : Hid (Whole vs) := (needs_nil vs).1 (List.length_eq_zero_iff.1 HV3.out.2.1.symm)
    have HG : Hid (Vers (w3.alloc (.cells #[.string ⟨#[122, 122]⟩, .int .u64 ((3 : Nat) : Int), .string e0, .slice none 0 0, .string e0, .int .u64 ((0 : Nat) : Int), .string e0, .slice none 0 0] 32)) (some ⟨w3.heap.size, 0, none⟩) 2 [⟨⟨#[122, 122]⟩, 3, e0, none, 0, 0⟩, ⟨e0, 0, e0, none, 0, 0⟩] gT) := vers_two (own_twoV w3 ⟨⟨#[122, 122]⟩, 3, e0, none, 0, 0⟩ ⟨e0, 0, e0, none, 0, 0⟩) ⟨rfl, rfl, rfl, rfl, (own_nil _).sl⟩ ⟨rfl, rfl, rfl, rfl, (own_nil _).sl⟩
    have HM : Hid (Calls Try.prog 14 #[.slice o n c, .slice (some ⟨w3.heap.size, 0, none⟩) 2 2] (w3.alloc (.cells #[.string ⟨#[122, 122]⟩, .int .u64 ((3 : Nat) : Int), .string e0, .slice none 0 0, .string e0, .int .u64 ((0 : Nat) : Int), .string e0, .slice none 0 0] 32)) fun e w' => ∃ u, e = .returned u ∧ MendP (w3.alloc (.cells #[.string ⟨#[122, 122]⟩, .int .u64 ((3 : Nat) : Int), .string e0, .slice none 0 0, .string e0, .int .u64 ((0 : Nat) : Int), .string e0, .slice none 0 0] 32)) vs gT u w') := pMend_any _ o n c rs vs _ 2 2 _ gT HV.out.1 rfl HRD.out.fit gT_fit (HV3.out.1.vers.keepsN ((Keeps.refl _ _).alloc _)) HG.out
    clear HG
    go_wp2_with fail
    refine Calls.mono HM.out ?_
    rintro e w4 ⟨u, rfl, hu⟩
    clear HM
    rcases hu with ⟨hb, _⟩ | ⟨_, hm, _⟩ | ⟨_, m, o1, n1, c1, r1, hm, rfl, hn1, hv1⟩
    · rw [(formedB_iff vs).2 HRD.out.formed] at hb; cases hb
    · rw [mend_cut vs gT HWH.out] at hm; cases hm
    · obtain rfl : vs = m := by rw [mend_cut vs gT HWH.out] at hm; cases hm; rfl
      have K4 := ((Keeps.refl no w3).alloc (.cells #[.string ⟨#[122, 122]⟩, .int .u64 ((3 : Nat) : Int), .string e0, .slice none 0 0, .string e0, .int .u64 ((0 : Nat) : Int), .string e0, .slice none 0 0] 32)).trans hv1.kp
      have HS : Hid (Calls Try.prog 22 #[.slice o1 n1 c1, .slice o n c] w4 fun e w' => e = .returned (.bool true) ∧ Keeps no w4 w') := by
        have h := same_any w4 o1 n1 c1 o n c r1 rs vs vs hn1 HV.out.1 HRD.out.fit HRD.out.fit hv1.vers (HV3.out.1.vers.keepsN K4)
        rw [decide_eq_true rfl] at h
        exact h
      have H4 : Hid (Keeps no w w4) := HV3.out.1.kp.trans K4
      clear hm hn1 hv1 K4
      go_wp2_with fail
      refine Calls.mono HS.out ?_
      rintro e w5 ⟨rfl, hk5⟩
      go_wp2_with fail
      go_ret
      exact ⟨rfl, H4.out.trans hk5⟩
  have hnw1 : (1 : Int) ≤ nw := by omega
  have hnw0' : ¬ (nw : Int) = 0 := by omega
  obtain ⟨G, hG⟩ : ∃ G, G = rst drop ((needsV vs).length - 1) := ⟨_, rfl⟩
  have hGl : G < (needsV vs).length := by have := rst_le drop ((needsV vs).length - 1); have := HV3.out.2.1; omega
  have HRS : Hid (∀ W, Calls Try.prog 12 #[.int .i64 drop, .int .i64 ((nw : Int) - 1)] W fun e w' => e = .returned (.int .i64 (G : Nat)) ∧ w' = W) := by
    intro W
    have h := rest_any drop ((needsV vs).length - 1) W hd (by have := HV3.out.2.1; omega)
    rw [← hG] at h
    rw [show ((nw : Int) - 1) = (((needsV vs).length - 1 : Nat) : Int) by have := HV3.out.2.1; omega]
    exact h
  have HGL : Hid (G < (needsV vs).length) := hGl
  have hG8 : (G : Int) < 8 := by have := HV3.out.2.1; omega
  clear hG hGl
  go_wp2_with fail
  refine (HRS.out _).mono ?_
  rintro e wq ⟨rfl, hwq⟩
  subst wq
  clear HRS
  go_wp2_with fail
  go_loopw [17, 18] (fun s17 s18 wr => ∃ i : Nat, i ≤ nw ∧ s18 = .int .i64 i ∧ Hid (GotTo w3 ((needsV vs).getD G w0') i s17 wr)) (fun _ s18 _ => nw - (intOf s18).toNat)
  case atStart => exact ⟨0, by omega, rfl, none, 0, 0, [], [], rfl, rfl, by simp, NewVs.nil _, by simp⟩
  case round =>
    rename World => wr
    obtain ⟨i, hi, rfl, HGT⟩ := hrel
    obtain ⟨og, ng, cg, rg, gs, hu, hng, hgl, hgv, hgn⟩ := HGT.out
    subst hu
    have HG : Hid (ng = gs.length ∧ gs.length ≤ 3 * i ∧ NewVs w3 og cg rg gs wr ∧ (∀ g ∈ gs, FitV g ∧ ¬ (g.key = ((needsV vs).getD G w0').1 ∧ g.id = ((needsV vs).getD G w0').2))) := ⟨hng, hgl, hgv, hgn⟩
    clear HGT hng hgl hgv hgn
    by_cases hlt : i < nw
    · have hlt' : (i : Int) < nw := by omega
      have hil : i < (needsV vs).length := by have := HV3.out.2.1; omega
      obtain ⟨N, hN, hp2, hp1, hps⟩ := HRD.out.want hil
      have HWR : Hid (Keeps no w3 wr ∧ Keeps no w wr) := ⟨HG.out.2.2.1.kp, HV3.out.1.kp.trans HG.out.2.2.1.kp⟩
      obtain ⟨bw, offw, how, d0, d1⟩ := (HV3.out.2.2.keepsN HWR.out.1).sl.atW hil
      have HNE : Hid (i ≠ G → ¬ ((needsV vs).getD i w0').1 = ((needsV vs).getD G w0').1) := fun h => needs_ne HRD.out.formed hil HGL.out h
      have HPG : Hid (∃ q, q = (needsV vs).getD i w0' ∧ (i = G → q = (needsV vs).getD G w0')) := ⟨_, rfl, fun h => by rw [h]⟩
      generalize (needsV vs).getD i w0' = p at d0 d1 hp1 hp2 hps HNE HPG
      have HPG2 : Hid (i = G → p = (needsV vs).getD G w0') := by
        obtain ⟨q, h1, h2⟩ := HPG.out
        exact fun h => h1 ▸ h2 h
      clear HPG
      obtain ⟨px, pi⟩ := p
      simp only at d0 d1 hp1 hp2 hps HNE
      subst how
      have HPI : Hid (pi = 65536 * (N + 1) ∧ px.size = 1 ∧ N < mt.length ∧ px ∈ KM mt N) := ⟨hp2, hps, hN, hp1⟩
      have hNM : (N : Int) < M := by have := HMS.out.1; omega
      have hq : (pi : Int) / 65536 = (N : Int) + 1 := by omega
      have hN60 : (N : Int) < 60 := by omega
      have hpi : (pi : Int) ≤ 3932160 := by omega
      have hN0 : ¬ (N : Int) < 0 := by omega
      have hNM' : ¬ (M : Int) ≤ (N : Int) := by omega
      clear hil hN hp2 hp1 hps
      have HMD : Hid (Calls Try.prog 19 #[.slice om M cm, .int .i64 ((N : Nat) : Int), .string px] wr fun e w' => ∃ u, e = .returned u ∧ GiveV wr (madeV mt N px) u w') := made_any wr om M cm mt N px HMS.out.1 HPI.out.2.2.1 HMS.out.2.2.2 (by have := HPI.out.2.1; omega) HMS.out.2.1 (HMS.out.2.2.1.keepsN HWR.out.2)
      by_cases hig : i = G
      · subst hig
        have HP : Hid ((px, pi) = (needsV vs).getD i w0') := HPG2.out rfl
        clear HPG2
        go_wp2_with fail
        refine Calls.mono HMD.out ?_
        rintro e w5 ⟨_, rfl, o5, n5, c5, rfl, hn5, ho5, hnw5, hk5⟩
        obtain ⟨pv, hpv⟩ : ∃ pv, pv = VM N px := ⟨_, rfl⟩
        have H5 : Hid (NewVs w3 og cg rg gs w5 ∧ n5 = (KM mt N).length ∧ Own TE w5 o5 c5 (KM mt N) ∧ New w3 o5 ∧ Keeps no wr w5 ∧ pv = VM N px) := ⟨HG.out.2.2.1.keepsN hk5, hn5.out, ho5, hnw5.of_le HWR.out.1.size, hk5, hpv⟩
        have e0 := hk5.cellN d0
        have hpi2 : (madeV mt N px).id = pi := HPI.out.1.symm
        have hkv : (madeV mt N px).key = px ∧ (madeV mt N px).val = pv := ⟨rfl, hpv.symm⟩
        rw [hpi2, hkv.1, hkv.2]
        clear HMD hn5 ho5 hnw5 hk5 hpi2 hkv d0 d1 hpv
        obtain ⟨q1, hcast, hq1⟩ : ∃ q : Nat, (pi : Int) + 1 = (q : Int) ∧ q = pi + 1 := ⟨pi + 1, by omega, rfl⟩
        have hq1b : (q1 : Int) ≤ 3932161 := by omega
        have HQ1 : Hid (q1 = pi + 1) := hq1
        clear hq1
        have hbk := blk_new w5 (.cells #[.string px, .int .u64 ((q1 : Nat) : Int), .string pv, .slice o5 n5 c5] 32)
        have HB : Hid ((w5.alloc (.cells #[.string px, .int .u64 ((q1 : Nat) : Int), .string pv, .slice o5 n5 c5] 32)).heap[w5.heap.size]? = some (.cells #[.string px, .int .u64 ((q1 : Nat) : Int), .string pv, .slice o5 n5 c5] 32 (0, 0)) ∧ Keeps no w5 (w5.alloc (.cells #[.string px, .int .u64 ((q1 : Nat) : Int), .string pv, .slice o5 n5 c5] 32))) := ⟨hbk, (Keeps.refl _ _).alloc _⟩
        clear hbk
        go_upto_region 21 with fail
        generalize hw6 : w5.alloc (.cells #[.string px, .int .u64 ((q1 : Nat) : Int), .string pv, .slice o5 n5 c5] 32) = w6 at HB ⊢
        clear hw6
        have HBB : Hid (w5.heap.size < w6.heap.size ∧ (∀ q, inO og q → q < w5.heap.size)) := ⟨lt_of_block HB.out.1, fun q hq => H5.out.1.own.lt q hq⟩
        generalize hBB : w5.heap.size = B at HB HBB ⊢
        have HBE : Hid (w5.heap.size = B) := hBB
        clear hBB
        have e6 := HB.out.2.cellN e0
        clear e0
        obtain ⟨x0, x1, x2, x3⟩ := cells4 HB.out.1
        have HBW : Hid (bw < w3.heap.size ∧ (∀ q, inO og q → w3.heap.size ≤ q)) := ⟨(HV3.out.2.2.lt bw ⟨_, rfl, rfl⟩), H5.out.1.newO⟩
        have HCL : Hid (∀ X, Keeps no w6 X → X.cell? ⟨B, 0, none⟩ = some (.string px) ∧ X.cell? ⟨B, 1, none⟩ = some (.int .u64 ((q1 : Nat) : Int)) ∧ X.cell? ⟨B, 2, none⟩ = some (.string pv) ∧ X.cell? ⟨B, 3, none⟩ = some (.slice o5 n5 c5) ∧ X.cell? ⟨bw, offw + i * 2, none⟩ = some (.string px)) := fun X hX => ⟨hX.cellN x0, hX.cellN x1, hX.cellN x2, hX.cellN x3, hX.cellN e6⟩
        have HCA : Hid (∀ X Y o', Keeps no w6 X → Ap X og o' Y → Y.cell? ⟨B, 0, none⟩ = some (.string px) ∧ Y.cell? ⟨B, 1, none⟩ = some (.int .u64 ((q1 : Nat) : Int)) ∧ Y.cell? ⟨B, 2, none⟩ = some (.string pv) ∧ Y.cell? ⟨B, 3, none⟩ = some (.slice o5 n5 c5) ∧ Y.cell? ⟨bw, offw + i * 2, none⟩ = some (.string px)) := by
          intro X Y o' hX hA
          have hk : Keeps (inO og) X Y := by rcases hA with ⟨_, k⟩ | ⟨_, k⟩; exact k; exact k.of_no
          have hB : ¬ inO og B := fun h => by have := HBB.out.2 B h; have := HBE.out; omega
          have hW : ¬ inO og bw := fun h => by have := HBW.out.2 bw h; have := HBW.out.1; omega
          obtain ⟨y0, y1, y2, y3, y4⟩ := HCL.out X hX
          exact ⟨hk.cell y0 hB, hk.cell y1 hB, hk.cell y2 hB, hk.cell y3 hB, hk.cell y4 hW⟩
        have HRL : Hid (ng = rg.length ∧ rg.length ≤ 24) := by
          have h1 := HG.out.2.2.1.len
          have h2 := HG.out.1
          have h3 := HG.out.2.1
          exact ⟨by omega, by omega⟩
        clear x0 x1 x2 x3 e6
        refine wp_region_held_drew (S := fun X => X.cell? ⟨B, 0, none⟩ = some (.string px) ∧ X.cell? ⟨B, 1, none⟩ = some (.int .u64 ((q1 : Nat) : Int)) ∧ X.cell? ⟨B, 2, none⟩ = some (.string pv) ∧ X.cell? ⟨B, 3, none⟩ = some (.slice o5 n5 c5) ∧ X.cell? ⟨bw, offw + i * 2, none⟩ = some (.string px)) (by kernel_rfl) ?_ (fun hHeld => ?_)
        · exact HCL.out _ (Keeps.refl _ _).drew
        refine wpAnyH_take (i := 0) (v := ?_) (by simp only [List.getElem?_toArray, List.getElem?_cons_succ, List.getElem?_cons_zero]; rfl) (by kernel_rfl) (by kernel_rfl) (by kernel_rfl) (by exact fun _ _ _ h => h) (Or.inl ⟨by rfl, ?_⟩) (by assumption) ?_
        rotate_left
        · (intro _ hSw; (try dsimp only at hSw); go_simp; (try with_reducible rfl))
        try simp only [Act.put, List.setIfInBounds_toArray, List.set_cons_zero, List.set_cons_succ]
        refine wpAnyH_take (i := 1) (v := ?_) (by simp only [List.getElem?_toArray, List.getElem?_cons_succ, List.getElem?_cons_zero]; rfl) (by kernel_rfl) (by kernel_rfl) (by kernel_rfl) (by exact fun _ _ _ h => h) (Or.inl ⟨by rfl, ?_⟩) (by assumption) ?_
        rotate_left
        · (intro _ hSw; (try dsimp only at hSw); obtain ⟨z0, z1, z2, z3, z4⟩ := hSw; go_simp; (try with_reducible rfl))
        try simp only [Act.put, List.setIfInBounds_toArray, List.set_cons_zero, List.set_cons_succ]
        refine wpAnyH_take (i := 2) (v := ?_) (by simp only [List.getElem?_toArray, List.getElem?_cons_succ, List.getElem?_cons_zero]; rfl) (by kernel_rfl) (by kernel_rfl) (by kernel_rfl) (by exact fun _ _ _ h => h) (Or.inl ⟨by rfl, ?_⟩) (by assumption) ?_
        rotate_left
        · (intro _ hSw; (try dsimp only at hSw); go_simp; (try with_reducible rfl))
        try simp only [Act.put, List.setIfInBounds_toArray, List.set_cons_zero, List.set_cons_succ]
        refine wpAnyH_take (i := 3) (v := ?_) (by simp only [List.getElem?_toArray, List.getElem?_cons_succ, List.getElem?_cons_zero]; rfl) (by kernel_rfl) (by kernel_rfl) (by kernel_rfl) (by exact fun _ _ _ h => h) (Or.inl ⟨by rfl, ?_⟩) (by assumption) ?_
        rotate_left
        · (intro _ hSw; (try dsimp only at hSw); go_simp; (try with_reducible rfl))
        try simp only [Act.put, List.setIfInBounds_toArray, List.set_cons_zero, List.set_cons_succ]
        refine wpAnyH_take (i := 4) (v := ?_) (by simp only [List.getElem?_toArray, List.getElem?_cons_succ, List.getElem?_cons_zero]; rfl) (by kernel_rfl) (by kernel_rfl) (by kernel_rfl) (by exact fun _ _ _ h => h) (Or.inl ⟨by rfl, ?_⟩) (by assumption) ?_
        rotate_left
        · (intro _ hSw; (try dsimp only at hSw); go_simp; (try with_reducible rfl))
        try simp only [Act.put, List.setIfInBounds_toArray, List.set_cons_zero, List.set_cons_succ]
        refine wpAnyH_take (i := 5) (v := ?_) (by simp only [List.getElem?_toArray, List.getElem?_cons_succ, List.getElem?_cons_zero]; rfl) (by kernel_rfl) (by kernel_rfl) (by kernel_rfl) (by exact fun _ _ _ h => h) (Or.inl ⟨by rfl, ?_⟩) (by assumption) ?_
        rotate_left
        · (intro _ hSw; (try dsimp only at hSw); go_simp; (try with_reducible rfl))
        try simp only [Act.put, List.setIfInBounds_toArray, List.set_cons_zero, List.set_cons_succ]
        refine wpAnyH_take (i := 6) (v := ?_) (by simp only [List.getElem?_toArray, List.getElem?_cons_succ, List.getElem?_cons_zero]; rfl) (by kernel_rfl) (by kernel_rfl) (by kernel_rfl) (by exact fun _ _ _ h => h) (Or.inl ⟨by rfl, ?_⟩) (by assumption) ?_
        rotate_left
        · (intro _ hSw; (try dsimp only at hSw); obtain ⟨z0, z1, z2, z3, z4⟩ := hSw; go_simp; (try with_reducible rfl))
        try simp only [Act.put, List.setIfInBounds_toArray, List.set_cons_zero, List.set_cons_succ]
        refine wpAnyH_take (i := 7) (v := ?_) (by simp only [List.getElem?_toArray, List.getElem?_cons_succ, List.getElem?_cons_zero]; rfl) (by kernel_rfl) (by kernel_rfl) (by kernel_rfl) (by exact fun _ _ _ h => h) (Or.inl ⟨by rfl, ?_⟩) (by assumption) ?_
        rotate_left
        · (intro _ hSw; (try dsimp only at hSw); go_simp; (try with_reducible rfl))
        try simp only [Act.put, List.setIfInBounds_toArray, List.set_cons_zero, List.set_cons_succ]
        refine wpAnyH_ready (rs := [8]) (by kernel_rfl) (by simp) ?_
        refine AllReadyH.cons (by simp only [List.getElem?_toArray, List.getElem?_cons_succ, List.getElem?_cons_zero]; rfl) (fun Kq hKq => ?_) AllReadyH.nil
        go_simp
        refine hKq.out _ _ ?_ (fun hHeldN => ?_)
        · exact HCL.out _ (((Keeps.refl no w6).alloc _).drew)
        clear hKq Kq hHeld
        have hHeld := hHeldN
        clear hHeldN
        refine wpAnyH_ready (rs := [9]) (by kernel_rfl) (by simp) ?_
        refine AllReadyH.cons (by simp only [List.getElem?_toArray, List.getElem?_cons_succ, List.getElem?_cons_zero]; rfl) (fun Kq hKq => ?_) AllReadyH.nil
        refine step_app1 okV rfl (.tmp 115) (.tmp 123) rfl og ng cg rg rfl HRL.out.1 (H5.out.1.own.keepsN (HB.out.2.trans (((Keeps.refl no w6).alloc _).drew))) (some ⟨w6.heap.size, 0, none⟩) 2 2 [⟨px, q1, pv, o5, n5, c5⟩, ⟨px, 0, e0, none, 0, 0⟩] rfl rfl (fun h => by cases h) ((own_twoV w6 ⟨px, q1, pv, o5, n5, c5⟩ ⟨px, 0, e0, none, 0, 0⟩).row.keepsN ((Keeps.refl no _).drew)) (by have := HRL.out.2; simp [VE]; omega) (by have := HRL.out.2; simp; omega) ?_
        intro o7 c7 w7 ho7 ha7
        refine hKq.out _ _ ?_ (fun hHeldN => ?_)
        · exact HCA.out _ _ _ (((Keeps.refl no w6).alloc _).drew) ha7
        clear hKq Kq hHeld
        have hHeld := hHeldN
        clear hHeldN
        refine wpAnyH_take (i := 10) (v := ?_) (by simp only [List.getElem?_toArray, List.getElem?_cons_succ, List.getElem?_cons_zero]; rfl) (by kernel_rfl) (by kernel_rfl) (by kernel_rfl) (by exact fun _ _ _ h => h) (Or.inl ⟨by rfl, ?_⟩) (by assumption) ?_
        rotate_left
        · (intro _ hSw; (try dsimp only at hSw); go_simp; (try with_reducible rfl))
        try simp only [Act.put, List.setIfInBounds_toArray, List.set_cons_zero, List.set_cons_succ]
        refine wpAnyH_done (by kernel_rfl) ?_ _
        have HW7 : Hid (Keeps no w6 ((w6.alloc (.cells #[.string px, .int .u64 ((q1 : Nat) : Int), .string pv, .slice o5 n5 c5, .string px, .int .u64 ((0 : Nat) : Int), .string e0, .slice none 0 0] 32)).drew) ∧ Ap ((w6.alloc (.cells #[.string px, .int .u64 ((q1 : Nat) : Int), .string pv, .slice o5 n5 c5, .string px, .int .u64 ((0 : Nat) : Int), .string e0, .slice none 0 0] 32)).drew) og o7 w7 ∧ Own VE w7 o7 c7 (rg ++ [⟨px, q1, pv, o5, n5, c5⟩, ⟨px, 0, e0, none, 0, 0⟩])) := ⟨((Keeps.refl no w6).alloc _).drew, ha7, ho7⟩
        clear ha7 ho7 hHeld
        have HN7 : Hid (NewVs w3 o7 c7 (rg ++ [⟨px, q1, pv, o5, n5, c5⟩, ⟨px, 0, e0, none, 0, 0⟩]) (gs ++ [⟨px, q1, pv, KM mt N⟩, ⟨px, 0, Go.Proofs.Ytodblodbeobgeaa.e0, []⟩]) w7) := by
          have h1 := (H5.out.1.keepsN HB.out.2).keepsN HW7.out.1
          refine h1.pushL rfl ?_ HW7.out.2.2 HW7.out.2.1
          intro j hj
          have hj2 : j = 0 ∨ j = 1 := by simp at hj; omega
          rcases hj2 with rfl | rfl
          · exact ⟨⟨rfl, rfl, rfl, H5.out.2.1, (H5.out.2.2.1.keepsN HB.out.2).keepsN HW7.out.1⟩, H5.out.2.2.2.1⟩
          · exact ⟨⟨rfl, rfl, rfl, rfl, own_nil _⟩, new_none _⟩
        have HB7 : Hid (w7.heap[B]? = some (.cells #[.string px, .int .u64 ((q1 : Nat) : Int), .string pv, .slice o5 n5 c5] 32 (0, 0)) ∧ ¬ inO o7 B ∧ w3.heap.size ≤ B) := by
          have hb6 := HW7.out.1.at HB.out.1 id
          have hnB : ¬ inO og B := fun h => by have := HBB.out.2 B h; have := HBE.out; omega
          refine ⟨?_, ?_, ?_⟩
          · rcases HW7.out.2.1 with ⟨_, k⟩ | ⟨_, k⟩
            · exact k.at hb6 hnB
            · exact k.at hb6 id
          · rcases HW7.out.2.1 with ⟨e, _⟩ | ⟨⟨g, e, hg⟩, _⟩
            · rw [e]; exact hnB
            · rw [e]; rintro ⟨x, e1, e2⟩; cases e1; have := lt_of_block hb6; simp only at e2; omega
          · have h1 := HBE.out; have h2 := H5.out.1.kp.size; omega
        obtain ⟨y0, y1, y2, y3⟩ := cells4 HB7.out.1
        have f0 := frozen_of_blk HB7.out.1 0
        have f1 := frozen_of_blk HB7.out.1 1
        have hq1m : (q1 : Int) - 1 = (pi : Int) := by have := HQ1.out; omega
        have HK8 : Hid (Keeps (eqB B) w7 ((w7.setCell ⟨B, 1, none⟩ (.int .u64 (pi : Nat))).setCell ⟨B, 0, none⟩ (.string ⟨#[122, 122]⟩))) := ((Keeps.refl (eqB B) w7).setCell (p := ⟨B, 1, none⟩) (.inl (show eqB B B from rfl)) _).setCell (p := ⟨B, 0, none⟩) (.inl (show eqB B B from rfl)) _
        have HN8 : Hid (NewVs w3 o7 c7 (rg ++ [⟨px, q1, pv, o5, n5, c5⟩, ⟨px, 0, e0, none, 0, 0⟩]) (gs ++ [⟨px, q1, pv, KM mt N⟩, ⟨px, 0, Go.Proofs.Ytodblodbeobgeaa.e0, []⟩]) ((w7.setCell ⟨B, 1, none⟩ (.int .u64 (pi : Nat))).setCell ⟨B, 0, none⟩ (.string ⟨#[122, 122]⟩)) ∧ Own TE ((w7.setCell ⟨B, 1, none⟩ (.int .u64 (pi : Nat))).setCell ⟨B, 0, none⟩ (.string ⟨#[122, 122]⟩)) o5 c5 (KM mt N)) := by
          refine ⟨HN7.out.keepB HB7.out.1 HB7.out.2.1 HB7.out.2.2 HK8.out, ?_⟩
          have hj := HN7.out.each gs.length (by simp)
          rw [getD_app, getD_app, HG.out.2.2.1.len, if_neg (by omega), if_neg (by omega), Nat.sub_self] at hj
          exact hj.own.keeps HK8.out (fun q hq e => by unfold eqB at e; subst e; exact own_not hj.own HB7.out.1 (by decide) hq)
        have HROW : Hid (Row VE (((w7.setCell ⟨B, 1, none⟩ (.int .u64 (pi : Nat))).setCell ⟨B, 0, none⟩ (.string ⟨#[122, 122]⟩)).alloc (.cells #[.string ⟨#[122, 122]⟩, .int .u64 (pi : Nat), .string pv, .slice o5 n5 c5] 32)) (some ⟨w7.heap.size, 0, none⟩) [⟨⟨#[122, 122]⟩, pi, pv, o5, n5, c5⟩]) := by
          have h := (own_oneV ((w7.setCell ⟨B, 1, none⟩ (.int .u64 (pi : Nat))).setCell ⟨B, 0, none⟩ (.string ⟨#[122, 122]⟩)) ⟨⟨#[122, 122]⟩, pi, pv, o5, n5, c5⟩).row
          rw [World.size_setCell, World.size_setCell] at h
          exact h
        have HL7 : Hid (ng + 2 = (rg ++ [(⟨px, q1, pv, o5, n5, c5⟩ : RV), ⟨px, 0, e0, none, 0, 0⟩]).length ∧ (rg ++ [(⟨px, q1, pv, o5, n5, c5⟩ : RV), ⟨px, 0, e0, none, 0, 0⟩]).length ≤ 26) := by
          have h := HRL.out
          rw [List.length_append]
          exact ⟨by rw [← h.1]; rfl, by simp; omega⟩
        generalize (rg ++ [(⟨px, q1, pv, o5, n5, c5⟩ : RV), ⟨px, 0, e0, none, 0, 0⟩]) = l7 at HN8 HN7 HW7 HL7
        go_wp2_with (at_builtin; refine wpList_app okV rfl _ _ rfl _ _ _ l7 rfl HL7.out.1 (HN8.out.1.own.keepsN ((Keeps.refl _ _).alloc _)) _ _ _ [⟨⟨#[122, 122]⟩, pi, pv, o5, n5, c5⟩] rfl rfl (fun h => by cases h) HROW.out (by have := HL7.out.2; simp [VE]; omega) (by have := HL7.out.2; simp; omega) ?_; intro os6 cs6 ws6 hos6 haps6)
        go_roundw
        case rel =>
          have h1 := HN8.out.1.keepsN ((Keeps.refl no ((w7.setCell ⟨B, 1, none⟩ (.int .u64 (pi : Nat))).setCell ⟨B, 0, none⟩ (.string ⟨#[122, 122]⟩))).alloc (.cells #[.string ⟨#[122, 122]⟩, .int .u64 (pi : Nat), .string pv, .slice o5 n5 c5] 32))
          have hver : VerN (((w7.setCell ⟨B, 1, none⟩ (.int .u64 (pi : Nat))).setCell ⟨B, 0, none⟩ (.string ⟨#[122, 122]⟩)).alloc (.cells #[.string ⟨#[122, 122]⟩, .int .u64 (pi : Nat), .string pv, .slice o5 n5 c5] 32)) ⟨⟨#[122, 122]⟩, pi, pv, o5, n5, c5⟩ ⟨⟨#[122, 122]⟩, pi, pv, KM mt N⟩ := ⟨rfl, rfl, rfl, H5.out.2.1, HN8.out.2.keepsN ((Keeps.refl _ _).alloc _)⟩
          have hP := HP.out
          refine ⟨i + 1, by omega, by go_num, os6, _, cs6, _, (gs ++ [⟨px, q1, pv, KM mt N⟩, ⟨px, 0, Go.Proofs.Ytodblodbeobgeaa.e0, []⟩]) ++ [⟨⟨#[122, 122]⟩, pi, pv, KM mt N⟩], rfl, ?_, ?_, h1.push hver H5.out.2.2.2.1 hos6 haps6, ?_⟩
          · rw [List.length_append, List.length_append, ← HG.out.1]; rfl
          · have := HG.out.2.1; rw [List.length_append, List.length_append]; simp; omega
          · have hk1 : px.size ≤ 1000 := by have := HPI.out.2.1; omega
            have hfm := made_fit (ms := mt) (n := N) (k := px) (by have := HPI.out.2.2.1; have := HMS.out.2.2.2; omega) hk1
            have hpv : pv = VM N px := H5.out.2.2.2.2.2
            intro g hg
            rcases List.mem_append.1 hg with hg | hg
            · rcases List.mem_append.1 hg with hg | hg
              · exact HG.out.2.2.2 g hg
              · rcases List.mem_cons.1 hg with rfl | hg
                · refine ⟨⟨by show q1 < _; have := HQ1.out; omega, hfm.key, by show pv.size ≤ _; rw [hpv]; exact hfm.val, hfm.len, hfm.keys⟩, fun h => ?_⟩
                  rw [← hP] at h
                  have h2 : q1 = pi := h.2
                  have := HQ1.out; omega
                · rcases List.mem_cons.1 hg with rfl | hg
                  · refine ⟨bot_fit hk1, fun h => ?_⟩
                    rw [← hP] at h
                    have h2 : 0 = pi := h.2
                    have := HPI.out.1; omega
                  · cases hg
            · rcases List.mem_cons.1 hg with rfl | hg
              · refine ⟨⟨by show pi < _; omega, by show (⟨#[122, 122]⟩ : Tx).size ≤ _; decide, by show pv.size ≤ _; rw [hpv]; exact hfm.val, hfm.len, hfm.keys⟩, fun h => ?_⟩
                rw [← hP] at h
                have h2 : (⟨#[122, 122]⟩ : Tx) = px := h.1
                have h3 := HPI.out.2.1
                rw [← h2] at h3
                exact absurd h3 (by decide)
              · cases hg
        case measure => simp [intOf]; omega
      · have hig' : ¬ (i : Int) = (G : Int) := by omega
        have hig2 : ((i : Int) == (G : Int)) = false := by simp; omega
        have hig3 : ((i : Int) != (G : Int)) = true := by simp; omega
        have HNK := HNE.out hig
        have HNK' : Hid (¬ px = ((needsV vs).getD G w0').1) := HNK
        clear HNK HNE
        go_wp2_with fail
        refine Calls.mono HMD.out ?_
        rintro e w5 ⟨_, rfl, o5, n5, c5, rfl, hn5, ho5, hnw5, hk5⟩
        have H5 : Hid (NewVs w3 og cg rg gs w5 ∧ VerN w5 ⟨px, 65536 * (N + 1), VM N px, o5, n5, c5⟩ (madeV mt N px) ∧ New w3 o5) := ⟨HG.out.2.2.1.keepsN hk5, ⟨rfl, rfl, rfl, hn5.out, ho5⟩, hnw5.of_le HWR.out.1.size⟩
        have HRL : Hid (ng = rg.length ∧ rg.length ≤ 24) := by
          have h1 := HG.out.2.2.1.len
          have h2 := HG.out.1
          have h3 := HG.out.2.1
          exact ⟨by omega, by omega⟩
        clear HMD hn5 ho5 hnw5 hk5
        go_wp2_with (at_builtin; refine wpList_app okV rfl _ _ rfl _ _ _ rg rfl HRL.out.1 (H5.out.1.own.keepsN ((Keeps.refl _ _).alloc _)) _ _ _ [⟨px, 65536 * (N + 1), VM N px, o5, n5, c5⟩] rfl rfl (fun h => by cases h) (own_oneV w5 ⟨px, 65536 * (N + 1), VM N px, o5, n5, c5⟩).row (by have := HRL.out.2; simp [VE]; omega) (by have := HRL.out.2; simp; omega) ?_; intro os6 cs6 ws6 hos6 haps6)
        go_roundw
        case rel =>
          have h1 := H5.out.1.keepsN ((Keeps.refl no w5).alloc (.cells #[.string px, .int .u64 ((65536 * (N + 1) : Nat) : Int), .string (VM N px), .slice o5 n5 c5] 32))
          refine ⟨i + 1, by omega, by go_num, os6, _, cs6, _, gs ++ [madeV mt N px], rfl, ?_, ?_, h1.push (H5.out.2.1.keepsN ((Keeps.refl _ _).alloc _)) H5.out.2.2 hos6 haps6, ?_⟩
          · rw [List.length_append, ← HG.out.1]; rfl
          · have := HG.out.2.1; rw [List.length_append]; simp; omega
          · intro g hg
            rcases List.mem_append.1 hg with hg | hg
            · exact HG.out.2.2.2 g hg
            · rcases List.mem_cons.1 hg with rfl | hg
              · exact ⟨made_fit (by have := HPI.out.2.2.1; have := HMS.out.2.2.2; omega) (by have := HPI.out.2.1; omega), fun h => HNK'.out h.1⟩
              · cases hg
        case measure => simp [intOf]; omega
    · have hlt' : ¬ (i : Int) < nw := by omega
      have HM : Hid (Calls Try.prog 14 #[.slice o n c, .slice og ng cg] wr fun e w' => e = .returned (.tuple #[.slice none 0 0, .int .i64 110]) ∧ Keeps no wr w') := (pMend_any wr o n c rs vs og ng cg rg gs HV.out.1 HG.out.1 HRD.out.fit ⟨by have := HG.out.2.1; omega, fun v hv => (HG.out.2.2.2 v hv).1⟩ (HV3.out.1.vers.keepsN HG.out.2.2.1.kp) HG.out.2.2.1.vers).mono fun e w' ⟨u, he, h⟩ => by
        have hmn : mendV vs gs = none := mend_none (p := (needsV vs).getD G w0') (getD_mem_lt w0' HGL.out) (fun g hg => (HG.out.2.2.2 g hg).2)
        rcases h with ⟨hb, _⟩ | ⟨_, _, hu, hk⟩ | ⟨_, m, _, _, _, _, hm, _⟩
        · rw [(formedB_iff vs).2 HRD.out.formed] at hb; cases hb
        · exact ⟨by rw [he, hu], hk⟩
        · rw [hmn] at hm; cases hm
      have H4 : Hid (Keeps no w wr) := HV3.out.1.kp.trans HG.out.2.2.1.kp
      go_wp2_with fail
      refine Calls.mono HM.out ?_
      rintro e w5 ⟨rfl, hk5⟩
      go_wp2_with fail
      go_ret
      exact ⟨rfl, H4.out.trans hk5⟩
end Go.Proofs.Ytodblodbeobgeaa
