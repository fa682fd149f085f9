import Derived.Test.YtclheacjhkoocaaL4
import Derived.Test.YtclheacjhkoocaaP1
namespace Go.Proofs.Ytclheacjhkoocaa
open Go.RowKit
open Pk
set_option linter.unusedVariables false
set_option linter.unusedSimpArgs false

/-- a script, as it lies in memory: what a reader asks of it -/
structure Script0 (w : World) (o : Option Addr) (ps : List OpV) : Prop where
  row : ps = [] ∨ ∃ b off, o = some ⟨b, off, none⟩ ∧ ∀ j, j < ps.length → ∀ k, k < 6 → w.cell? ⟨b, off + j * 6 + k, none⟩ = (ps.getD j op0).cells[k]?
  ok : ∀ p ∈ ps, (-9223372036854775808 ≤ p.N ∧ p.N ≤ 9223372036854775807) ∧ (-9223372036854775808 ≤ p.M ∧ p.M ≤ 9223372036854775807)
  len : ps.length ≤ 9223372036854775807
theorem Script0.keeps {w w' : World} {o : Option Addr} {ps : List OpV} (h : Script0 w o ps) (hk : Keeps (fun _ => False) w w') : Script0 w' o ps := by
  refine ⟨?_, h.ok, h.len⟩
  rcases h.row with h0 | ⟨b, off, rfl, hc⟩
  · exact .inl h0
  · refine .inr ⟨b, off, rfl, fun j hj k hk6 => ?_⟩
    have := hc j hj k hk6
    have hsz : (ps.getD j op0).cells.size = 6 := rfl
    rw [Array.getElem?_eq_getElem (by omega)] at this ⊢
    exact hk.cell this (fun h => h)

/-- the states of a reader over a script -/
def rsts (st : RS) (ps : List OpV) : RS := ps.foldl (fun st p => p.rst st) st
theorem rsts_snoc (st : RS) (ps : List OpV) (k : Nat) (h : k < ps.length) : rsts st (ps.take (k + 1)) = (ps.getD k op0).rst (rsts st (ps.take k)) := by
  rw [List.take_succ_eq_append_getElem h]
  unfold rsts
  rw [List.foldl_append]
  simp [h]

set_option maxRecDepth 10000 in
set_option maxHeartbeats 1000000 in
theorem packReads_any (w : World) (ob : Option Addr) (cb : Nat) (bs : List Nat) (hb : Sl w ob cb bs) (hlid : bs.length ≤ 140737488355328) (o : Option Addr) (cap : Nat) (ps : List OpV) (hs : Script0 w o ps) :
    Calls Try.prog 7 #[.slice ob bs.length cb, .slice o ps.length cap] w fun e w' => e = .returned (.bool true) ∧ Keeps (fun _ => False) w w' := by
  obtain ⟨n, hn⟩ : ∃ n, n = ps.length := ⟨_, rfl⟩
  rw [← hn]
  have HN : Hid (n = ps.length) := hn
  have hn5 : n ≤ 9223372036854775807 := by have := hs.len; omega
  clear hn
  go_enter Try.func7, Try.ntmps7
  go_wp2_with fail
  refine (newReader_any w ob _ cb bs rfl hb hlid).mono ?_
  rintro e w1 ⟨a, oa, ca, rfl, hR1, hf1, hk1⟩
  have hb1 := hb.keeps hk1 (fun _ _ h => h)
  go_wp2_with fail
  refine (refNewReader_any w1 ob _ cb bs rfl hb1 hlid).mono ?_
  rintro e w2 ⟨b, oV, cV, rfl, hV2, hf2, hk2⟩
  have hR2 := hR1.keeps hk2 (fun _ _ h => h)
  have HFA : Hid (∀ x, footW a oa x → w.heap.size ≤ x) := hf1
  have HFB : Hid (∀ x, footW b oV x → w.heap.size ≤ x) := fun x hx => Nat.le_trans hk1.size (hf2 x hx)
  have HD1 : Hid (¬ footW b oV a) := fun h => by have := hf2 a h; have := lt_of_block hR1.blk; omega
  have HD2 : Hid (¬ footW a oa b) := fun h => by have := hf2 b (.inl rfl); have := hR1.lt b h; omega
  go_wp2_with fail
  refine (known_any w2).mono ?_
  rintro e w3 ⟨rfl, hk3⟩
  have HR3 : Hid (IsR 68 w3 a oa ca bs 0) := hR2.keeps hk3 (fun _ _ h => h)
  have HV3 : Hid (IsR 87 w3 b oV cV bs 0) := hV2.keeps hk3 (fun _ _ h => h)
  have HK3 : Hid (Keeps (fun _ => False) w w3) := (hk1.trans hk2).trans hk3
  clear hk1 hk2 hk3 hR1 hR2 hV2 hb hb1 hf1 hf2
  go_wp2_with fail
  go_loopw [7] (fun i wr => ∃ (k : Nat) (oa' : Option Addr) (ca' : Nat) (oV' : Option Addr) (cV' : Nat), k ≤ n ∧ i = .int .i64 k ∧ IsR 68 wr a oa' ca' (rsts (bs, 0) (ps.take k)).1 (rsts (bs, 0) (ps.take k)).2 ∧ IsR 87 wr b oV' cV' (rsts (bs, 0) (ps.take k)).1 (rsts (bs, 0) (ps.take k)).2 ∧ SubO oa oa' ∧ SubO oV oV' ∧ Keeps (fun _ => False) w wr) (fun i _ => n - (intOf i).toNat)
  case atStart => exact ⟨0, oa, ca, oV, cV, by omega, rfl, HR3.out, HV3.out, SubO.refl _, SubO.refl _, HK3.out⟩
  case round =>
    obtain ⟨k, oa', ca', oV', cV', hk, rfl, hR, hV, hsa, hsv, hK⟩ := hrel
    clear HR3 HV3 HK3
    by_cases hlt : k < n
    · have hks : k < ps.length := by have := HN.out; omega
      have hsr := hs.keeps hK
      have hpok := hsr.ok _ (getD_mem ps k hks)
      have hws := rsts_snoc (bs, 0) ps k hks
      rcases hsr.row with h0 | ⟨bb, off, rfl, hc⟩
      · rw [h0] at hks; simp at hks
      have hck := hc k hks
      obtain ⟨p, hp⟩ : ∃ p, p = ps.getD k op0 := ⟨_, rfl⟩
      rw [← hp] at hpok hws hck
      generalize hst : rsts (bs, 0) (ps.take k) = st at hR hV hws
      obtain ⟨bs1, e0⟩ := st
      have HWS : Hid (rsts (bs, 0) (ps.take (k + 1)) = p.rst (bs1, e0)) := hws
      clear hws hst hp hc
      obtain ⟨⟨hn1, hn2⟩, hm1, hm2⟩ := hpok
      have d0 : wr.cell? ⟨bb, off + k * 6, none⟩ = some (.int .i64 p.kind) := hck 0 (by omega)
      have d1 : wr.cell? ⟨bb, off + k * 6 + 1, none⟩ = some (.int .u64 (p.v : Nat)) := hck 1 (by omega)
      have d2 : wr.cell? ⟨bb, off + k * 6 + 2, none⟩ = some (.string p.s) := hck 2 (by omega)
      have d3 : wr.cell? ⟨bb, off + k * 6 + 3, none⟩ = some (.slice p.ol p.ss.length p.cl) := hck 3 (by omega)
      have d4 : wr.cell? ⟨bb, off + k * 6 + 4, none⟩ = some (.int .i64 p.N) := hck 4 (by omega)
      have d5 : wr.cell? ⟨bb, off + k * 6 + 5, none⟩ = some (.int .i64 p.M) := hck 5 (by omega)
      clear hck
      go_wp2_with fail
      refine (read_any wr a oa' ca' b oV' cV' bs1 e0 p hn1 hn2 hm1 hm2 hR hV (fun h => HD1.out (foot_sub hsv _ h)) (fun h => HD2.out (foot_sub hsa _ h))).mono ?_
      rintro e w4 ⟨rfl, oa2, ca2, oV2, cV2, hR4, hV4, hsa2, hsv2, hk4⟩
      have HK4 : Hid (Keeps (fun _ => False) w w4) := hK.then hk4 (fun x hx => by
        rcases hx with rfl | rfl
        · exact .inr (HFA.out _ (.inl rfl))
        · exact .inr (HFB.out _ (.inl rfl)))
      clear d0 d1 d2 d3 d4 d5 hk4 hR hV
      generalize hst : p.rst (bs1, e0) = st at hR4 hV4 HWS
      obtain ⟨bs2, e2⟩ := st
      simp only at hR4 hV4
      clear hst
      go_wp2_with fail
      refine (rLeft_any w4 a oa2 ca2 bs2 e2 hR4).mono ?_
      rintro e w5 ⟨rfl, rfl⟩
      go_wp2_with fail
      refine (refLeft_any w5 b oV2 cV2 bs2 e2 hV4).mono ?_
      rintro e w6 ⟨rfl, rfl⟩
      go_wp2_with fail
      refine (rErr_any w6 a oa2 ca2 bs2 e2 hR4).mono ?_
      rintro e w7 ⟨rfl, rfl⟩
      go_wp2_with fail
      refine (refErr_any w7 b oV2 cV2 bs2 e2 hV4).mono ?_
      rintro e w8 ⟨rfl, rfl⟩
      go_wp2_with fail
      refine (rEnd_any w8 a oa2 ca2 bs2 e2 hR4).mono ?_
      rintro e w9 ⟨rfl, rfl⟩
      go_wp2_with fail
      refine (refEnd_any w9 b oV2 cV2 bs2 e2 hV4).mono ?_
      rintro e w10 ⟨rfl, rfl⟩
      go_wp2_with fail
      go_roundw
      case rel =>
        refine ⟨k + 1, oa2, ca2, oV2, cV2, by omega, by go_num, ?_, ?_, hsa.trans hsa2, hsv.trans hsv2, HK4.out⟩
        · rw [HWS.out]; exact hR4
        · rw [HWS.out]; exact hV4
      case measure => simp [intOf]; omega
    · generalize rsts (bs, 0) (ps.take k) = st at hR hV
      obtain ⟨bs2, e2⟩ := st
      simp only at hR hV
      go_wp2_with fail
      refine (rLeft_any wr a oa' ca' bs2 e2 hR).mono ?_
      rintro e w5 ⟨rfl, rfl⟩
      go_wp2_with fail
      refine (refLeft_any w5 b oV' cV' bs2 e2 hV).mono ?_
      rintro e w6 ⟨rfl, rfl⟩
      go_wp2_with fail
      refine (rErr_any w6 a oa' ca' bs2 e2 hR).mono ?_
      rintro e w7 ⟨rfl, rfl⟩
      go_wp2_with fail
      refine (refErr_any w7 b oV' cV' bs2 e2 hV).mono ?_
      rintro e w8 ⟨rfl, rfl⟩
      go_wp2_with fail
      refine (rEnd_any w8 a oa' ca' bs2 e2 hR).mono ?_
      rintro e w9 ⟨rfl, rfl⟩
      go_wp2_with fail
      refine (refEnd_any w9 b oV' cV' bs2 e2 hV).mono ?_
      rintro e w10 ⟨rfl, rfl⟩
      go_wp2
      go_ret
      exact ⟨rfl, hK⟩
end Go.Proofs.Ytclheacjhkoocaa
