/- Receive. -/
import Derived.Test.YtghnhkhhpeoheaaGreatZ7
namespace Go.Proofs.YtghnhkhhpeoheaaGreat
open Go.RowKit Go.Sort Orl
set_option linter.unusedVariables false
set_option linter.unusedSimpArgs false

/-- behind an answer -/
theorem IsWr.answered {w : World} {p cp : Nat} {F : Nat → Prop} {s : WS} (h : IsWr w p cp F s) (hw : WfS s) (he : s.ended = 0) (hr : ¬ s.round = 0) {i : Nat} (hi : i < s.ps.length) {ro : Option Addr} {rn rc : Nat} {rz : List RZ} (hl : WrL w p cp F s.id (s.round : Nat) ro rn rc rz (qsIn s) (dsIn s)) :
    ∃ g, ro = some ⟨g, 0, none⟩ ∧ (∀ k, w.frozen? ⟨g, k, none⟩ = false) ∧ At10 w g 0 i (rz.getD i rz0) ∧ (WrL (w.setCells g (i * 10) (ZE.enc (doneZ (s.ps.getD i pp0).1))) p cp F s.id (s.round : Nat) ro rn rc (rz.set i (doneZ (s.ps.getD i pp0).1)) (qsIn { s with done := s.done.set i true }) (dsIn { s with done := s.done.set i true })) ∧ Keeps F w (w.setCells g (i * 10) (ZE.enc (doneZ (s.ps.getD i pp0).1))) := by
  have hd : dsIn s = s.done := by unfold dsIn; rw [if_neg hr]
  have hd2 : dsIn { s with done := s.done.set i true } = s.done.set i true := by unfold dsIn; rw [if_neg hr]
  have hq2 : qsIn { s with done := s.done.set i true } = qsIn s := rfl
  have hdl : s.done.length = s.ps.length := hw.done hr
  have hz := hl.zs
  rw [hd] at hz
  obtain ⟨g, e, hf, ha, hz', hB, hk⟩ := hz.setAns (by rw [qsIn_len]; exact hdl) (j := i) (by rw [qsIn_len]; exact hi)
  have hp : ((qsIn s).getD i q0).part = ((s.ps.getD i pp0).1 : Nat) := by
    rw [qsIn_at s hi]; unfold qIn; rw [if_neg hr]; rfl
  rw [hp] at hz' hB hk
  have hgF : F g := hl.foot g (.inl ⟨_, e, rfl⟩)
  have hkF : Keeps F w (w.setCells g (i * 10) (ZE.enc (doneZ (s.ps.getD i pp0).1))) := hk.mono (fun b ⟨x, e2, e3⟩ => by rw [e] at e2; cases e2; rw [← e3]; exact hgF)
  refine ⟨g, e, hf, ha, ⟨?_, hl.rn, by rw [hd2, hq2]; exact hz', by rw [hq2]; exact fun b hb => hl.foot b (hB b hb)⟩, hkF⟩
  refine hk.at hl.blk ?_
  rintro ⟨x, e2, e3⟩
  rw [e] at e2; cases e2
  obtain ⟨cur, hcur⟩ := hl.zs.own.tagO (i := g) ⟨_, e, rfl⟩
  simp only at e3
  rw [e3, hl.blk] at hcur
  injection hcur with e4; injection e4 with _ e4 _; cases e4
set_option maxRecDepth 10000 in
set_option maxHeartbeats 2000000 in
theorem wRecv_any (w : World) (p cp : Nat) (F : Nat → Prop) (s : WS) (m : Nat) (part k cl : Int) (req id : Nat) (v4 v5 v6 v7 : Option Addr) (n4 n5 n6 n7 c4 c5 c6 c7 : Nat) (h : IsWr w p cp F s) (hw : WfS s) (hc : IsCt w cp m) (hm : m < 18446744073709551616) (hcF : ¬ F cp) (hr : req < 18446744073709551616) (hi : id < 18446744073709551616) :
    Calls Tryz.prog 13 #[.pointer (some ⟨p, 0, none⟩), .int .i64 part, .agg #[.int .i64 k, .int .i64 cl, .int .u64 (req : Nat), .int .u64 (id : Nat), .slice v4 n4 c4, .slice v5 n5 c5, .slice v6 n6 c6, .slice v7 n7 c7]] w (TellTo w p cp F (recvS s m part k req id)) := by
  obtain ⟨ph, hph, d0, d2, HA⟩ : ∃ ph : Int, (0 ≤ ph ∧ ph ≤ 3) ∧ w.cell? ⟨p, 0, none⟩ = some (.int .u64 (s.id : Nat)) ∧ w.cell? ⟨p, 2, none⟩ = some (.int .i64 ph) ∧ Hid ((awB ph s.id k id = false → recvS s m part k req id = ⟨s, [], m⟩) ∧ (awB ph s.id k id = true → s.ended = 0 ∧ ph = (s.round : Nat) ∧ ¬ s.round = 0 ∧ recvS s m part k req id = match hitI s part req with
    | none => ⟨s, [], m⟩
    | some i => doneS s i m)) := by
    rcases h.2.2 with ⟨he, hb⟩ | ⟨he, ro, rn, rc, rz, hl⟩
    · refine ⟨3, by omega, by rw [cell_of_blk hb]; rfl, by rw [cell_of_blk hb]; rfl, fun _ => recv_end he m part k req id, fun hh => ?_⟩
      unfold awB at hh; simp at hh
    · have := awB_recv hw he m part k req id
      refine ⟨(s.round : Nat), by have := hw.round; omega, by rw [cell_of_blk hl.blk]; rfl, by rw [cell_of_blk hl.blk]; rfl, this.1, fun hh => ⟨he, rfl, (this.2 hh).1, (this.2 hh).2⟩⟩
  have HI : Hid (IsWr w p cp F s ∧ WfS s ∧ IsCt w cp m ∧ ¬ F cp ∧ m < 18446744073709551616) := ⟨h, hw, hc, hcF, hm⟩
  obtain ⟨U, hU⟩ : ∃ U, U = (w.alloc (.cells #[.int .i64 part] 3)).alloc (.cells #[.int .i64 k, .int .i64 cl, .int .u64 (req : Nat), .int .u64 (id : Nat), .slice v4 n4 c4, .slice v5 n5 c5, .slice v6 n6 c6, .slice v7 n7 c7] 45) := ⟨_, rfl⟩
  have hkU : Keeps no w U := by rw [hU]; exact ((Keeps.refl _ _).alloc _).alloc _
  have h2U := two_blk w (.cells #[.int .i64 part] 3) (.cells #[.int .i64 k, .int .i64 cl, .int .u64 (req : Nat), .int .u64 (id : Nat), .slice v4 n4 c4, .slice v5 n5 c5, .slice v6 n6 c6, .slice v7 n7 c7] 45)
  rw [← hU] at h2U
  have HAW : Hid (Calls Tryz.prog 35 #[.pointer (some ⟨p, 0, none⟩), aggR k cl req id v4 v5 v6 v7 n4 n5 n6 n7 c4 c5 c6 c7] U fun e w' => e = .returned (.bool (awB ph s.id k id)) ∧ Keeps no U w') := awaits_any U p s.id ph k cl req id v4 v5 v6 v7 n4 n5 n6 n7 c4 c5 c6 c7 (hkU.cellN d0) (hkU.cellN d2) hph
  unfold aggR at HAW
  have HU : Hid (Keeps no w U ∧ U.cell? ⟨w.heap.size, 0, none⟩ = some (.int .i64 part) ∧ U.cell? ⟨w.heap.size + 1, 2, none⟩ = some (.int .u64 (req : Nat))) := ⟨hkU, by rw [cell_of_blk h2U.1]; rfl, by rw [cell_of_blk h2U.2]; rfl⟩
  clear h hw hc hcF hm d0 d2 hkU h2U hr hi hph
  obtain ⟨b, hb⟩ : ∃ b, b = awB ph s.id k id := ⟨_, rfl⟩
  rw [← hb] at HAW HA
  clear hb
  go_enter Tryz.func13, Tryz.ntmps13
  go_wp2_with fail
  rw [← hU]
  clear hU
  refine HAW.out.mono ?_
  rintro e w1 ⟨rfl, hk1⟩
  have HK1 : Hid (Keeps no w w1 ∧ w1.cell? ⟨w.heap.size, 0, none⟩ = some (.int .i64 part) ∧ w1.cell? ⟨w.heap.size + 1, 2, none⟩ = some (.int .u64 (req : Nat))) := ⟨HU.out.1.trans hk1, hk1.cellN HU.out.2.1, hk1.cellN HU.out.2.2⟩
  clear hk1 HAW HU
  cases b with
  | false =>
    have HZ : Hid (recvS s m part k req id = ⟨s, [], m⟩) := HA.out.1 rfl
    clear HA
    go_wp2_with fail
    go_ret
    rw [HZ.out]
    exact tell_none HI.out.1 HI.out.2.2.1 HI.out.2.2.2.1 HK1.out.1
  | true =>
    obtain ⟨he, hphe, hr0, hrec⟩ := HA.out.2 rfl
    have HE : Hid (s.ended = 0 ∧ ¬ s.round = 0) := ⟨he, hr0⟩
    have h1 := HI.out.1.keeps HK1.out.1 (fun _ _ h => h)
    obtain ⟨ro, rn, rc, rz, hl⟩ : ∃ ro rn rc rz, WrL w1 p cp F s.id (s.round : Nat) ro rn rc rz (qsIn s) (dsIn s) := by
      rcases h1.2.2 with ⟨h0, _⟩ | ⟨_, h1⟩
      · exact absurd he h0
      · exact h1
    have q4 : w1.cell? ⟨p, 4, none⟩ = some (.slice ro rn rc) := by rw [cell_of_blk hl.blk]; rfl
    have hzl : rz.length = s.ps.length := by rw [hl.zs.len, qsIn_len]
    have HX : Hid (Calls Tryz.prog 36 #[.slice ro rn rc, .func (.func 37) #[] #[.pointer (some ⟨w.heap.size, 0, none⟩), .pointer (some ⟨w.heap.size + 1, 0, none⟩)]] w1 fun e w' => e = .returned (.int .i64 (idxZ (hitZ part req) rz)) ∧ Keeps no w1 w') := indexH_any w1 ro rn rc rz w.heap.size (w.heap.size + 1) part req (by rw [hl.rn, hl.zs.len]) (by rw [hzl]; exact HI.out.2.1.most) hl.zs.own HK1.out.2.1 HK1.out.2.2
    have HIX : Hid (idxZ (hitZ part req) rz = match hitI s part req with
      | some i => (i : Int)
      | none => -1) := hl.zs.hit hr0 part req
    have HL : Hid (WrL w1 p cp F s.id (s.round : Nat) ro rn rc rz (qsIn s) (dsIn s)) := hl
    have HRC : Hid (recvS s m part k req id = match hitI s part req with
      | none => ⟨s, [], m⟩
      | some i => doneS s i m) := hrec
    have HPH : Hid (ph = (s.round : Nat)) := hphe
    have HHI : Hid (∀ i, hitI s part req = some i → i < s.ps.length ∧ ((s.ps.getD i pp0).1 : Int) = part) := fun i hh => ⟨(hit_some hh).1, (hit_some hh).2.2.1⟩
    clear he hphe hr0 hrec h1 hl hzl HA
    generalize hitI s part req = oh at HIX HRC HHI
    generalize idxZ (hitZ part req) rz = z at HIX HX
    generalize hA : w.heap.size = A at *
    clear hA
    have qA := HK1.out.2.1
    cases oh with
    | none =>
      have hz : z = -1 := HIX.out
      subst hz
      have HZ : Hid (recvS s m part k req id = ⟨s, [], m⟩) := HRC.out
      clear HRC
      go_wp2_with fail
      refine HX.out.mono ?_
      rintro e w2 ⟨rfl, hk2⟩
      have HK2 : Hid (Keeps no w w2) := HK1.out.1.trans hk2
      clear hk2
      go_wp2_with fail
      go_ret
      rw [HZ.out]
      exact tell_none HI.out.1 HI.out.2.2.1 HI.out.2.2.2.1 HK2.out
    | some i =>
      have hz : z = (i : Int) := HIX.out
      subst hz
      have HRD : Hid (recvS s m part k req id = doneS s i m) := HRC.out
      clear HRC HIX
      obtain ⟨hil, hip⟩ := HHI.out i rfl
      have HIL : Hid (i < s.ps.length ∧ ((s.ps.getD i pp0).1 : Int) = part) := ⟨hil, hip⟩
      have hir : (i : Int) < rn := by have := HL.out.rn; rw [qsIn_len] at this; omega
      have hi64 : (rn : Int) ≤ 64 := by have := HL.out.rn; rw [qsIn_len] at this; have := HI.out.2.1.most; omega
      clear hil hip HHI
      go_wp2_with fail
      refine HX.out.mono ?_
      rintro e w2 ⟨rfl, hk2⟩
      have HK2 : Hid (Keeps no w w2) := HK1.out.1.trans hk2
      have hL2 : WrL w2 p cp F s.id (s.round : Nat) ro rn rc rz (qsIn s) (dsIn s) := ⟨hk2.at HL.out.blk (fun h => h), HL.out.rn, HL.out.zs.keepsN hk2, HL.out.foot⟩
      have hI2 := HI.out.1.keeps HK2.out (fun _ _ h => h)
      obtain ⟨g, hg, hfz, ha10, hL3, hk3⟩ := hI2.answered HI.out.2.1 HE.out.1 HE.out.2 HIL.out.1 hL2
      rw [HIL.out.2] at hL3 hk3
      have HL3 : Hid (WrL (w2.setCells g (i * 10) (ZE.enc (doneZ part))) p cp F s.id (s.round : Nat) ro rn rc (rz.set i (doneZ part)) (qsIn { s with done := s.done.set i true }) (dsIn { s with done := s.done.set i true })) := hL3
      have HK3 : Hid (Keeps F w2 (w2.setCells g (i * 10) (ZE.enc (doneZ part)))) := hk3
      have q4' := hk2.cellN q4
      have qA' := hk2.cellN qA
      obtain ⟨a0, a1, a2, a3, a4, a5, a6, a7, a8, a9⟩ := ha10
      simp only [Nat.zero_add] at a0 a1 a2 a3 a4 a5 a6 a7 a8 a9
      have f0 := hfz (i * 10)
      have f1 := hfz (i * 10 + 1)
      have f2 := hfz (i * 10 + 2)
      have f3 := hfz (i * 10 + 3)
      have f4 := hfz (i * 10 + 4)
      have f5 := hfz (i * 10 + 5)
      have f6 := hfz (i * 10 + 6)
      have f7 := hfz (i * 10 + 7)
      have f8 := hfz (i * 10 + 8)
      have f9 := hfz (i * 10 + 9)
      clear hk2 hL2 hI2 hfz hL3 hk3 HX q4 qA HL
      subst hg
      generalize rz.getD i rz0 = rr at a0 a1 a2 a3 a4 a5 a6 a7 a8 a9
      go_upto_region 6 with fail
      go_region
      change Exit.then _ _ _ _ (w2.setCells g (i * 10) (ZE.enc (doneZ part))).drew
      have HW : Hid (∀ W, W = (w2.setCells g (i * 10) (ZE.enc (doneZ part))).drew → WrL W p cp F s.id (s.round : Nat) (some ⟨g, 0, none⟩) rn rc (rz.set i (doneZ part)) (qsIn { s with done := s.done.set i true }) (dsIn { s with done := s.done.set i true }) ∧ Keeps F w W) := by
        have hL3 := HL3.out
        have hK3 := HK3.out
        generalize w2.setCells g (i * 10) (ZE.enc (doneZ part)) = X at hL3 hK3
        rintro W rfl
        have k0 : Keeps no X X.drew := (Keeps.refl _ _).drew
        exact ⟨⟨k0.at hL3.blk (fun h => h), hL3.rn, hL3.zs.keepsN k0, hL3.foot⟩, (HK2.out.of_no.trans hK3).drew⟩
      clear a0 a1 a2 a3 a4 a5 a6 a7 a8 a9 f0 f1 f2 f3 f4 f5 f6 f7 f8 f9 q4' qA' HL3 HK3 HK2
      generalize hW : (w2.setCells g (i * 10) (ZE.enc (doneZ part))).drew = W
      have HW2 : Hid (WrL W p cp F s.id (s.round : Nat) (some ⟨g, 0, none⟩) rn rc (rz.set i (doneZ part)) (qsIn { s with done := s.done.set i true }) (dsIn { s with done := s.done.set i true }) ∧ Keeps F w W) := HW.out W hW.symm
      clear hW HW
      obtain ⟨s1, hs1⟩ : ∃ s1, s1 = ({ s with done := s.done.set i true } : WS) := ⟨_, rfl⟩
      have hWf : WfS s1 := by rw [hs1]; exact HI.out.2.1.setD i s.ended HI.out.2.1.ended
      have HD : Hid (doneS s i m = if s1.done.all _root_.id = true then (if s1.round = 2 then ⟨{ s1 with ended := 1 }, [], m⟩ else ⟨askS s1 m, askedS (askS s1 m), numS s1 m⟩) else ⟨s1, [], m⟩) := by subst hs1; rfl
      have HS1 : Hid (WfS s1 ∧ s1.ended = 0 ∧ ¬ s1.round = 0 ∧ s1.id = s.id ∧ s1.round = s.round ∧ s1.done.length = s1.ps.length) := ⟨hWf, by rw [hs1]; exact HE.out.1, by rw [hs1]; exact HE.out.2, by rw [hs1], by rw [hs1], hWf.done (by rw [hs1]; exact HE.out.2)⟩
      rw [← hs1] at HW2
      clear hs1 hWf
      have hds : dsIn s1 = s1.done := by unfold dsIn; rw [if_neg HS1.out.2.2.1]
      have q4 : W.cell? ⟨p, 4, none⟩ = some (.slice (some ⟨g, 0, none⟩) rn rc) := by rw [cell_of_blk HW2.out.1.blk]; rfl
      have HQ2 : Hid (∀ X, Keeps no W X → X.cell? ⟨p, 2, none⟩ = some (.int .i64 (s.round : Nat)) ∧ X.cell? ⟨p, 0, none⟩ = some (.int .u64 (s.id : Nat)) ∧ X.cell? ⟨p, 4, none⟩ = some (.slice (some ⟨g, 0, none⟩) rn rc)) := fun X hX => ⟨hX.cellN (by rw [cell_of_blk HW2.out.1.blk]; rfl), hX.cellN (by rw [cell_of_blk HW2.out.1.blk]; rfl), hX.cellN q4⟩
      obtain ⟨rz1, hrz1⟩ : ∃ rz1, rz1 = rz.set i (doneZ part) := ⟨_, rfl⟩
      rw [← hrz1] at HW2
      clear hrz1
      have hzl : rz1.length = s1.ps.length := by rw [HW2.out.1.zs.len, qsIn_len]
      have HLN : Hid (rz1.length = s1.ps.length ∧ rn = rz1.length ∧ rz1.length ≤ 64) := ⟨hzl, by rw [HW2.out.1.zs.len]; exact HW2.out.1.rn, by rw [hzl]; exact HS1.out.1.most⟩
      have HCN : Hid (Calls Tryz.prog 38 #[.slice (some ⟨g, 0, none⟩) rn rc, .func (.func 39) #[] #[]] W fun e w' => e = .returned (.bool (!(s1.done.all _root_.id))) ∧ Keeps no W w') := by
        have h1 := containsO_any W _ rn rc rz1 HLN.out.2.1 HLN.out.2.2 HW2.out.1.zs.own
        have h2 := HW2.out.1.zs.open (by rw [hds, qsIn_len]; exact HS1.out.2.2.2.2.2)
        rw [hds] at h2
        rw [h2] at h1
        exact h1
      clear hds hzl
      have HCT : Hid (∀ X, Keeps F w X → IsCt X cp m) := fun X hX => HI.out.2.2.1.keeps hX HI.out.2.2.2.1
      generalize s1.done.all _root_.id = ball at HCN HD
      cases ball with
      | false =>
        have HDD : Hid (doneS s i m = ⟨s1, [], m⟩) := HD.out
        clear HD
        go_wp2_with fail
        refine HCN.out.mono ?_
        rintro e w3 ⟨rfl, hk3⟩
        have HK3 : Hid (Keeps no W w3) := hk3
        clear hk3
        go_wp2_with fail
        go_ret
        rw [HRD.out, HDD.out]
        have hkw : Keeps F w w3 := HW2.out.2.trans HK3.out.of_no
        refine tell_nil ⟨HI.out.1.1, fun j hj => Nat.lt_of_lt_of_le (HI.out.1.2.1 j hj) hkw.size, .inr ⟨HS1.out.2.1, some ⟨g, 0, none⟩, rn, rc, rz1, ?_⟩⟩ (HCT.out _ hkw) (hkw.mono (fun j hj => .inl hj))
        rw [HS1.out.2.2.2.1, HS1.out.2.2.2.2.1]
        exact ⟨HK3.out.at HW2.out.1.blk (fun h => h), HW2.out.1.rn, HW2.out.1.zs.keepsN HK3.out, HW2.out.1.foot⟩
      | true =>
        by_cases h2 : s.round = 2
        · have HDD : Hid (doneS s i m = ⟨{ s1 with ended := 1 }, [], m⟩) := by
            show _ = _
            rw [HD.out, if_pos rfl, if_pos (by rw [HS1.out.2.2.2.2.1]; exact h2)]
          have HEN : Hid (∀ X, Keeps no W X → Calls Tryz.prog 41 #[.pointer (some ⟨p, 0, none⟩), .int .i64 1] X fun e w' => e = .returned (.tuple #[]) ∧ w'.heap[p]? = some (.cells (wrC s.id .nilFunc 3 1 none 0 0) 72 (0, 0)) ∧ Keeps (fun i => i = p) X w') := fun X hX => end_any X p s.id (fnC cp) rfl _ 0 1 _ rn rc (hX.at HW2.out.1.blk (fun h => h))
          clear HD
          have HR2 : Hid (s.round = 2) := h2
          clear h2
          go_wp2_with fail
          refine HCN.out.mono ?_
          rintro e w3 ⟨rfl, hk3⟩
          obtain ⟨r2, r0, r4⟩ := HQ2.out w3 hk3
          rw [HR2.out] at r2
          have HK3 : Hid (Keeps no W w3) := hk3
          clear hk3
          go_wp2_with fail
          refine (HEN.out w3 HK3.out).mono ?_
          rintro e w4 ⟨rfl, hb4, hk4⟩
          have H4 : Hid (w4.heap[p]? = some (.cells (wrC s.id .nilFunc 3 1 none 0 0) 72 (0, 0)) ∧ Keeps F w w4) := ⟨hb4, (HW2.out.2.trans HK3.out.of_no).trans (hk4.mono (fun j e => by rw [e]; exact HI.out.1.1))⟩
          clear hb4 hk4
          go_wp2_with fail
          go_ret
          rw [HRD.out, HDD.out]
          refine tell_nil ⟨HI.out.1.1, fun j hj => Nat.lt_of_lt_of_le (HI.out.1.2.1 j hj) H4.out.2.size, .inl ⟨by show ¬ 1 = 0; omega, ?_⟩⟩ (HCT.out _ H4.out.2) (H4.out.2.mono (fun j hj => .inl hj))
          have := H4.out.1
          rw [← HS1.out.2.2.2.1] at this
          exact this
        · have hr1 : s.round = 1 := by have := HI.out.2.1.round; have := HE.out.2; omega
          have HDD : Hid (doneS s i m = ⟨askS s1 m, askedS (askS s1 m), numS s1 m⟩) := by
            show _ = _
            rw [HD.out, if_pos rfl, if_neg (by rw [HS1.out.2.2.2.2.1]; exact h2)]
          have HR1 : Hid (s.round = 1) := hr1
          clear HD h2 hr1
          have HCM : Hid (∀ X, Keeps no W X → Calls Tryz.prog 40 #[.pointer (some ⟨p, 0, none⟩)] X fun e w' => ∃ o n c, e = .returned (.slice o n c) ∧ Hid (n = rz1.length ∧ Own ZE w' o c (rz1.map (comZ s.id)) ∧ New X o ∧ Keeps no X w')) := fun X hX => commits_any X p s.id (some ⟨g, 0, none⟩) rn rc rz1 (HQ2.out X hX).2.1 (HQ2.out X hX).2.2 HI.out.2.1.hi (HW2.out.1.zs.own.keepsN hX) HLN.out.2.1 HLN.out.2.2
          have HAK : Hid (∀ X o n c, Keeps no W X → n = rz1.length → Own ZE X o c (rz1.map (comZ s.id)) → New W o → Calls Tryz.prog 33 #[.pointer (some ⟨p, 0, none⟩), .int .i64 2, .slice o n c] X (TellTo w p cp F ⟨askS s1 m, askedS (askS s1 m), numS s1 m⟩)) := by
            intro X o n c hX hn ho hnw
            have hkw : Keeps F w X := HW2.out.2.trans hX.of_no
            have hcp : cp < W.heap.size := Nat.lt_of_lt_of_le (lt_of_block HI.out.2.2.1) HW2.out.2.size
            have hrd : (askS s1 m).round = 2 := by show s1.round + 1 = 2; rw [HS1.out.2.2.2.2.1, HR1.out]
            have hF' : ∀ j, (F j ∨ inO o j) → F j ∨ w.heap.size ≤ j := fun j hj => hj.imp (fun h => h) (fun h => Nat.le_trans HW2.out.2.size (hnw j h))
            have := ask_any X p cp (fun j => F j ∨ inO o j) (s.round : Nat) _ rn rc (askS s1 m) m o n c (rz1.map (comZ s.id)) (rz1.map (comQ s.id)) (by
                rw [show (askS s1 m).id = s.id from HS1.out.2.2.2.1]
                exact hX.at HW2.out.1.blk (fun h => h)) (comZs ho HLN.out.1.symm) (by rw [List.length_map]; exact hn) (by
                rintro j (hj | ⟨q, hq, hj⟩)
                · exact .inr hj
                · rw [List.length_map] at hq
                  have e1 : (rz1.map (comZ s.id)).getD q rz0 = comZ s.id (rz1.getD q rz0) := by simp [List.getD_eq_getElem?_getD, hq]
                  rw [e1] at hj
                  rcases hj with ⟨x, e4, _⟩ | ⟨x, e4, _⟩ <;> cases e4) (.inl HI.out.1.1) (by
                rintro j (hj | hj)
                · exact Nat.lt_of_lt_of_le (HI.out.1.2.1 j hj) hkw.size
                · exact ho.lt j hj) (HCT.out X hkw) HI.out.2.2.2.2 (by
                rintro (hj | hj)
                · exact HI.out.2.2.2.1 hj
                · have := hnw cp hj; omega) (HS1.out.1.ask m (by rw [HS1.out.2.2.2.2.1, HR1.out]; omega)) HS1.out.2.1 rfl (.inr hrd) (by rw [List.length_map]; exact HLN.out.1) (by
                intro j hj
                rw [List.length_map] at hj
                have e2 : (rz1.map (comQ s.id)).getD j q0 = comQ s.id (rz1.getD j rz0) := by simp [List.getD_eq_getElem?_getD, hj]
                have e3 := HW2.out.1.zs.part j (by rw [← HW2.out.1.zs.len]; exact hj)
                rw [qsIn_at s1 (by rw [← HLN.out.1]; exact hj)] at e3
                unfold qIn at e3
                rw [if_neg HS1.out.2.2.1] at e3
                unfold qIn
                rw [if_neg (by rw [hrd]; omega), e2]
                unfold qAt comQ
                rw [hrd, if_neg (by omega), if_neg (by omega), if_neg (by omega), e3, show (askS s1 m).id = s.id from HS1.out.2.2.2.1]
                rfl)
            rw [hrd] at this
            refine this.mono ?_
            rintro e w' ⟨o2, n2, c2, rs, G, rfl, t⟩
            refine ⟨o2, n2, c2, rs, G, rfl, t.n, t.tq, fun j hj => Nat.le_trans hkw.size (t.new j hj), t.is, fun j hj => ?_, t.apart, t.ct, ?_⟩
            · rcases t.foot j hj with hj | hj
              · exact hF' j hj
              · exact .inr (Nat.le_trans hkw.size hj)
            · refine (hkw.mono (fun j hj => .inl hj)).then t.kp (fun j hj => ?_)
              rcases hj with hj | hj
              · rcases hF' j hj with hj | hj
                · exact .inl (.inl hj)
                · exact .inr hj
              · exact .inl (.inr hj)
          go_wp2_with fail
          refine HCN.out.mono ?_
          rintro e w3 ⟨rfl, hk3⟩
          obtain ⟨r2, r0, r4⟩ := HQ2.out w3 hk3
          rw [HR1.out] at r2
          have HK3 : Hid (Keeps no W w3) := hk3
          clear hk3
          go_wp2_with fail
          refine (HCM.out w3 HK3.out).mono ?_
          rintro e w4 ⟨o4, n4', c4', rfl, H4⟩
          have HAK4 : Hid (Calls Tryz.prog 33 #[.pointer (some ⟨p, 0, none⟩), .int .i64 2, .slice o4 n4' c4'] w4 (TellTo w p cp F ⟨askS s1 m, askedS (askS s1 m), numS s1 m⟩)) := HAK.out w4 o4 n4' c4' (HK3.out.trans H4.out.2.2.2) H4.out.1 H4.out.2.1 (H4.out.2.2.1.of_le HK3.out.size)
          go_wp2_with fail
          refine HAK4.out.mono ?_
          rintro e w5 ⟨o5, n5', c5', rs, G, rfl, t⟩
          have HT : Hid _ := t
          clear t
          go_wp2_with fail
          go_ret
          rw [HRD.out, HDD.out]
          exact ⟨o5, n5', c5', rs, G, rfl, HT.out⟩
end Go.Proofs.YtghnhkhhpeoheaaGreat
