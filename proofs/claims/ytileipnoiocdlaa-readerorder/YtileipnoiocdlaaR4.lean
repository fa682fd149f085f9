import Derived.Test.YtileipnoiocdlaaR1
import Derived.Laws.EntriesVeiled
/- The counter; the end of a read; what was read. -/
namespace Go.Proofs.Ytileipnoiocdlaa
open Go.RowKit Go.Sort Orl
set_option linter.unusedVariables false
set_option linter.unusedSimpArgs false

theorem keeps_one (w : World) (p i : Nat) (v : Value) : Keeps (fun k => k = p) w (w.setCell ⟨p, i, none⟩ v) := (Keeps.refl (fun k => k = p) w).setCell (p := ⟨p, i, none⟩) (.inl (show (fun k => k = p) p from rfl)) v
theorem blk_whole {w : World} {g : Nat} {cur : Array Value} {t : TypeId} {fz : Nat × Nat} (h : w.heap[g]? = some (.cells cur t fz)) (vs : List Value) (hl : cur.size = vs.length) : (w.setCells g 0 vs).heap[g]? = some (.cells vs.toArray t fz) := by
  obtain ⟨cur', h1, h2, h3⟩ := blk_setCells vs 0 h
  rw [h1]
  congr 2
  apply Array.ext_getElem?
  intro i
  rw [h3 i]
  by_cases hi : i < vs.length
  · rw [if_pos ⟨by omega, by omega, by omega⟩]; simp
  · rw [if_neg (by omega), Array.getElem?_eq_none (by omega), List.getElem?_toArray, List.getElem?_eq_none (by omega)]
theorem next_any (w : World) (cp fr st t : Nat) (ht : t ≤ 4611686018427387904) (h : IsCt w cp fr st t) :
    Calls Try.prog 8 #[.pointer (some ⟨cp, 0, none⟩)] w fun e w' => e = .returned (.int .u64 (numC fr st t : Nat)) ∧ IsCt w' cp fr st (t + 1) ∧ Keeps (fun i => i = cp) w w' := by
  have h0 := cell_of_blk h 0
  have h1 := cell_of_blk h 1
  have h2 := cell_of_blk h 2
  simp only [List.getElem?_toArray, List.getElem?_cons_succ, List.getElem?_cons_zero] at h0 h1 h2
  have f2 := frozen_of_blk h 2
  have htI : (t : Int) ≤ 4611686018427387904 := by omega
  have hcv : IntKind.u64.wrap (t : Int) = (t : Int) := by rw [IntKind.wrap_u64]; omega
  have hmul : IntKind.u64.wrap ((st : Int) * (t : Int)) = ((w64 (st * t) : Nat) : Int) := by
    rw [IntKind.wrap_u64]; unfold w64; rw [← Int.natCast_mul]; omega
  have hadd : IntKind.u64.wrap ((fr : Int) + ((w64 (st * t) : Nat) : Int)) = ((numC fr st t : Nat) : Int) := by
    rw [IntKind.wrap_u64]; unfold numC w64; omega
  have HH : Hid (∀ (W : World) (v : Value), Keeps no w W → v = .int .i64 ((t : Int) + 1) → IsCt (W.setCell ⟨cp, 2, none⟩ v) cp fr st (t + 1) ∧ Keeps (fun i => i = cp) w (W.setCell ⟨cp, 2, none⟩ v)) := by
    rintro W v k rfl
    refine ⟨?_, k.of_no.trans (keeps_one W cp 2 _)⟩
    have := blk_set (k.at h (fun h => h)) 2 (.int .i64 ((t : Int) + 1))
    simpa [IsCt] using this
  clear h ht
  generalize numC fr st t = N at hadd
  generalize w64 (st * t) = M at hmul hadd
  go_enter Try.func8, Try.ntmps8
  go_wp2_with fail
  go_quiet (fail)
  go_wp2_with fail
  go_ret
  exact ⟨rfl, (HH.out _ _ ((Keeps.refl no w).drewN _) rfl).1, (HH.out _ _ ((Keeps.refl no w).drewN _) rfl).2⟩
theorem rResult_any (w : World) (p cp : Nat) (F : Nat → Prop) (s : RS) (h : IsRd w p cp F s) :
    Calls Try.prog 16 #[.pointer (some ⟨p, 0, none⟩)] w fun e w' => e = .returned (.int .i64 (s.ended : Nat)) ∧ Keeps no w w' := by
  have hc : w.cell? ⟨p, 5, none⟩ = some (.int .i64 (s.ended : Nat)) := by
    rcases h.2.2 with ⟨_, vo, vc, vs, hb, _⟩ | ⟨he, no, nc, ro, rc, rz, co, cc, cs, vo, vc, vs, hl⟩
    · rw [cell_of_blk hb]; rfl
    · rw [cell_of_blk hl.blk, he]; rfl
  clear h
  go_enter Try.func16, Try.ntmps16
  go_wp2_with fail
  go_ret
  exact ⟨rfl, Keeps.refl _ _⟩
/-- the end of a read -/
def endS (s : RS) (r : Nat) (out : List Ver) : RS := { s with ended := r, out := out }
set_option maxRecDepth 10000 in
theorem end_any (w : World) (p cp : Nat) (C : Array Value) (z : Nat) (vo : Option Addr) (vn vc : Nat) (hC : C.size = 9) (hone : ∀ v ∈ C.toList, v.oneCell' = true) (hb : w.heap[p]? = some (.cells C 79 (0, 0))) :
    Calls Try.prog 40 #[.pointer (some ⟨p, 0, none⟩), .int .i64 (z : Nat), .slice vo vn vc] w fun e w' => e = .returned (.tuple #[]) ∧ w'.heap[p]? = some (.cells (rdC none 0 0 0 0 .nilFunc 3 z none 0 0 none 0 0 vo vn vc) 79 (0, 0)) ∧ Keeps (fun i => i = p) w w' := by
  obtain ⟨C⟩ := C
  match C, hC with
  | [c0, c1, c2, c3, c4, c5, c6, c7, c8], _ =>
    have b0 := cell_of_blk hb 0
    have b1 := cell_of_blk hb 1
    have b2 := cell_of_blk hb 2
    have b3 := cell_of_blk hb 3
    have b4 := cell_of_blk hb 4
    have b5 := cell_of_blk hb 5
    have b6 := cell_of_blk hb 6
    have b7 := cell_of_blk hb 7
    have b8 := cell_of_blk hb 8
    have f0 := frozen_of_blk hb 0
    have f1 := frozen_of_blk hb 1
    have f2 := frozen_of_blk hb 2
    have f3 := frozen_of_blk hb 3
    have f4 := frozen_of_blk hb 4
    have f5 := frozen_of_blk hb 5
    have f6 := frozen_of_blk hb 6
    have f7 := frozen_of_blk hb 7
    have f8 := frozen_of_blk hb 8
    simp only [List.getElem?_toArray, List.getElem?_cons_succ, List.getElem?_cons_zero] at b0 b1 b2 b3 b4 b5 b6 b7 b8
    have HE : Hid (∀ W, W = w.setCells p 0 [.slice none 0 0, .int .i64 0, .int .i64 0, .nilFunc, .int .i64 3, .int .i64 (z : Nat), .slice none 0 0, .slice none 0 0, .slice vo vn vc] → W.heap[p]? = some (.cells (rdC none 0 0 0 0 .nilFunc 3 z none 0 0 none 0 0 vo vn vc) 79 (0, 0)) ∧ Keeps (fun i => i = p) w W) := by
      rintro W rfl
      exact ⟨blk_whole hb _ rfl, keeps_setCells _ _ _⟩
    clear hb hone
    go_enter Try.func40, Try.ntmps40
    go_wp2_with fail
    go_end0
    have := HE.out _ rfl
    exact ⟨rfl, this⟩
end Go.Proofs.Ytileipnoiocdlaa
/- Give; Versions. -/
namespace Go.Proofs.Ytileipnoiocdlaa
open Go.RowKit Go.Sort Orl
set_option linter.unusedVariables false
set_option linter.unusedSimpArgs false

/-- what a reader keeps to -/
structure WfR (s : RS) : Prop where
  p1 : 1 ≤ s.parts
  p2 : s.parts ≤ 64
  cl : s.client ≤ 65535
  nk : valK s.names = true
  rd : s.round ≤ 2
  nml : s.nm.length ≤ 1024
  nmz : ∀ k ∈ s.nm, k.size ≤ 65535
  nmd : s.nm.Nodup
  cml : s.came.length = s.nm.length
  gl : s.got.length = s.nm.length
  ck : ∀ j, j < s.nm.length → (s.came.getD j v0).key = s.nm.getD j e0
  cf : FitL s.came
  ff : FitL s.first
  fl : s.first.length ≤ 1024
  of : FitL s.out
  ol : s.out.length ≤ 1024
  rl : s.round ≠ 0 → s.reqs.length = (psR s).length
  rz : ∀ r ∈ s.reqs, r < 18446744073709551616
  wl : s.round = 2 → s.nm = s.ws.map Prod.fst
  wz : ∀ p ∈ s.ws, p.2 < 18446744073709551616
  r0 : s.round = 0 → s.nm = []
  r1 : s.round ≤ 1 → s.first = []
theorem fitL_nil : FitL [] := ⟨by simp, fun v hv => by cases hv⟩
theorem WfR.endS {s : RS} (h : WfR s) (r : Nat) {out : List Ver} (ho : FitL out) (hl : out.length ≤ 1024) : WfR (endS s r out) :=
  ⟨h.p1, h.p2, h.cl, h.nk, h.rd, h.nml, h.nmz, h.nmd, h.cml, h.gl, h.ck, h.cf, h.ff, h.fl, ho, hl, h.rl, h.rz, h.wl, h.wz, h.r0, h.r1⟩
def giveS (s : RS) : RS := if s.ended = 0 then endS s 3 [] else s
theorem WfR.give {s : RS} (h : WfR s) : WfR (giveS s) := by
  unfold giveS; split
  · exact h.endS 3 fitL_nil (by simp)
  · exact h
theorem newR_wf {l : List Tx} {P C : Nat} (h : argB P C) (hv : valK l = true) : WfR (newR l P C) where
  p1 := by have := h.1; show 1 ≤ P; omega
  p2 := by have := h.2.1; show P ≤ 64; omega
  cl := by have := h.2.2.2; show C ≤ 65535; omega
  nk := hv
  rd := Nat.zero_le _
  nml := Nat.zero_le _
  nmz := fun k hk => by cases hk
  nmd := List.nodup_nil
  cml := rfl
  gl := rfl
  ck := fun j hj => by simp [newR] at hj
  cf := fitL_nil
  ff := fitL_nil
  fl := Nat.zero_le _
  of := fitL_nil
  ol := Nat.zero_le _
  rl := fun h => absurd rfl h
  rz := fun r hr => by cases hr
  wl := fun h => by cases h
  wz := fun p hp => by cases hp
  r0 := fun _ => rfl
  r1 := fun _ => rfl
/-- an ended reader in memory -/
theorem isEnd {w w' : World} {p cp : Nat} {F : Nat → Prop} {s : RS} (h : IsRd w p cp F s) {z : Nat} {out : List Ver} {vo : Option Addr} {vc : Nat} {vs : List RV} (hz : ¬ z = 0) (hb : w'.heap[p]? = some (.cells (rdC none 0 0 0 0 .nilFunc 3 z none 0 0 none 0 0 vo out.length vc) 79 (0, 0))) (hk : Keeps (fun i => i = p) w w') (hv : Vers w' vo vc vs out) (hf : ∀ i, VB vo vs out.length i → F i) : IsRd w' p cp F (endS s z out) ∧ Keeps F w w' :=
  ⟨⟨h.1, fun i hi => Nat.lt_of_lt_of_le (h.2.1 i hi) hk.size, .inl ⟨hz, vo, vc, vs, hb, hv, hf⟩⟩, hk.mono (fun i e => by rw [e]; exact h.1)⟩
theorem vb_nil {i : Nat} (h : VB none [] 0 i) : False := by
  rcases h with ⟨x, e, _⟩ | ⟨j, hj, _⟩
  · cases e
  · omega
theorem rGive_any (w : World) (p cp : Nat) (F : Nat → Prop) (s : RS) (h : IsRd w p cp F s) (hw : WfR s) :
    Calls Try.prog 21 #[.pointer (some ⟨p, 0, none⟩)] w fun e w' => e = .returned (.tuple #[]) ∧ IsRd w' p cp F (giveS s) ∧ Keeps F w w' := by
  rcases h.2.2 with ⟨he, vo, vc, vs, hb, _⟩ | ⟨he, no, nc, ro, rc, rz, co, cc, cs, vo, vc, vs, hl⟩
  · have c4 : w.cell? ⟨p, 4, none⟩ = some (.int .i64 3) := by rw [cell_of_blk hb]; rfl
    have HZ : Hid (IsRd w p cp F (giveS s)) := by show IsRd _ _ _ _ _; unfold giveS; rw [if_neg he]; exact h
    clear h hw hb he
    go_enter Try.func21, Try.ntmps21
    go_wp2_with fail
    go_end0
    exact ⟨rfl, HZ.out, Keeps.refl _ _⟩
  · have c4 : w.cell? ⟨p, 4, none⟩ = some (.int .i64 (s.round : Nat)) := by rw [cell_of_blk hl.blk]; rfl
    have HE : Hid (Calls Try.prog 40 #[.pointer (some ⟨p, 0, none⟩), .int .i64 3, .slice none 0 0] w fun e w' => e = .returned (.tuple #[]) ∧ IsRd w' p cp F (giveS s) ∧ Keeps F w w') := by
      refine (end_any w p cp _ 3 none 0 0 rfl (fun v hv => ?_) hl.blk).mono ?_
      · simp [rdC, fnC] at hv
        rcases hv with rfl | rfl | rfl | rfl | rfl | rfl | rfl | rfl | rfl <;> rfl
      · rintro e w' ⟨rfl, hb, hk⟩
        have hg : giveS s = endS s 3 [] := by unfold giveS; rw [if_pos he]
        rw [hg]
        exact ⟨rfl, isEnd h (by decide) hb hk (vers_nil _) (fun i hi => (vb_nil hi).elim)⟩
    have hrd : ((s.round : Nat) : Int) ≤ 2 := by have := hw.rd; omega
    generalize ((s.round : Nat) : Int) = R at c4 hrd
    clear h hw hl he
    go_enter Try.func21, Try.ntmps21
    go_wp2_with fail
    refine HE.out.mono ?_
    rintro e w' ⟨rfl, h1, h2⟩
    have HG : Hid (IsRd w' p cp F (giveS s) ∧ Keeps F w w') := ⟨h1, h2⟩
    clear h1 h2
    go_wp2_with fail
    go_end0
    exact ⟨rfl, HG.out⟩
/-! ### what was read -/
def readR (s : RS) : List Ver := if s.ended = 1 then s.out else []
theorem NewVo.nil (w : World) : NewVo w none 0 [] [] w := ⟨own_nil w, rfl, fun j hj => by simp at hj, new_none w, fun j hj => by simp at hj, fun i j _ hj => by simp at hj, Keeps.refl _ _⟩
theorem NewVo.push {w wr0 wr w' : World} {o o' : Option Addr} {c c' : Nat} {rs : List RV} {vs : List Ver} {r : RV} {v : Ver} (h : NewVo w o c rs vs wr0) (k : Keeps no wr0 wr) (hr : VerN wr r v) (hn : New wr0 r.o) (ho : Own VE w' o' c' (rs ++ [r])) (ha : Ap wr o o' w') : NewVo w o' c' (rs ++ [r]) (vs ++ [v]) w' := by
  have h1 := (h.keepsN k).vs.push hr (hn.of_le h.kp.size) ho ha
  refine ⟨h1.own, h1.len, h1.each, h1.newO, h1.newK, fun i j hij hj x h2 h3 => ?_, h1.kp⟩
  have hj' : j ≤ vs.length := by rw [List.length_append] at hj; have : [v].length = 1 := rfl; omega
  have gl : ∀ i, i < vs.length → (rs ++ [r]).getD i r0 = rs.getD i r0 := fun i hi => by
    rw [List.getD_eq_getElem?_getD, List.getD_eq_getElem?_getD, List.getElem?_append_left (by rw [h.len]; exact hi)]
  rw [gl i (by omega)] at h2
  by_cases e : j < vs.length
  · rw [gl j e] at h3; exact h.sep i j hij e x h2 h3
  · have hjl : j = rs.length := by rw [h.len]; omega
    have e2 : (rs ++ [r]).getD j r0 = r := by subst hjl; simp [List.getD_eq_getElem?_getD]
    rw [e2] at h3
    have := (h.each i (by omega)).own.lt x h2
    have := hn x h3
    omega
def VersTo (w : World) (vs : List Ver) (e : Ending) (w' : World) : Prop := ∃ o n c rs, e = .returned (.slice o n c) ∧ n = vs.length ∧ NewVo w o c rs vs w'
theorem versTo_nil (w : World) : VersTo w [] (.returned (.slice none 0 0)) w := ⟨none, 0, 0, [], rfl, rfl, NewVo.nil w⟩
theorem makeV (w : World) (n : Nat) (h : n ≤ 1024) : ∃ w', (Instr.makeSlice 40 (.int .i64 0) (.int .i64 (n : Int))).run Try.prog w = .ok (.slice (some ⟨w.heap.size, 0, none⟩) 0 n) w' ∧ Own VE w' (some ⟨w.heap.size, 0, none⟩) n [] ∧ Keeps no w w' := by
  obtain ⟨i0, hi, hz0, hz1, hz2⟩ := info_parts infoV
  obtain ⟨w', hr, ho, hg⟩ := run_make_own (P := Try.prog) w 0 40 46 i0 _ 4 Try.underlying40 hi hz0 hz1 .i64 .i64 n (by rw [hz2]; omega) (by unfold maxLen; omega) (Nat.zero_le _)
  exact ⟨w', hr, ho, (Keeps.refl _ _).grown hg (fun k hk => by cases hk)⟩
set_option maxRecDepth 10000 in
set_option maxHeartbeats 1000000 in
theorem rVersions_any (w : World) (p cp : Nat) (F : Nat → Prop) (s : RS) (h : IsRd w p cp F s) (hw : WfR s) :
    Calls Try.prog 15 #[.pointer (some ⟨p, 0, none⟩)] w (VersTo w (readR s)) := by
  have hc : w.cell? ⟨p, 5, none⟩ = some (.int .i64 (s.ended : Nat)) := by
    rcases h.2.2 with ⟨_, vo, vc, vs, hb, _⟩ | ⟨he, no, nc, ro, rc, rz, co, cc, cs, vo, vc, vs, hl⟩
    · rw [cell_of_blk hb]; rfl
    · rw [cell_of_blk hl.blk, he]; rfl
  by_cases h1 : s.ended = 1
  · obtain ⟨vo, vc, vs, hb, hv⟩ : ∃ vo vc vs, w.heap[p]? = some (.cells (rdC none 0 0 0 0 .nilFunc 3 s.ended none 0 0 none 0 0 vo s.out.length vc) 79 (0, 0)) ∧ Vers w vo vc vs s.out := by
      rcases h.2.2 with ⟨_, vo, vc, vs, hb, hv, _⟩ | ⟨he, _⟩
      · exact ⟨vo, vc, vs, hb, hv⟩
      · omega
    have hr : readR s = s.out := by unfold readR; rw [if_pos h1]
    rw [hr]
    rw [h1] at hc
    have c8 : w.cell? ⟨p, 8, none⟩ = some (.slice vo s.out.length vc) := by rw [cell_of_blk hb]; rfl
    have HV : Hid (Vers w vo vc vs s.out ∧ FitL s.out) := ⟨hv, hw.of⟩
    obtain ⟨n, hn⟩ : ∃ n, n = s.out.length := ⟨_, rfl⟩
    rw [← hn] at c8
    have HN : Hid (n = s.out.length) := hn
    have hnb : (n : Int) ≤ 1024 := by have := hw.ol; omega
    have hp : p < w.heap.size := h.2.1 p h.1
    obtain ⟨w1, hr1, ho1, hk1⟩ := makeV w n (by omega)
    have c8' := hk1.cellN c8
    clear h hw hb hv hn hr h1
    generalize s.out = vl at *
    go_enter Try.func15, Try.ntmps15
    go_wp2_with fail
    go_loopw [3, 22] (fun s3 s22 wr => ∃ (k : Nat) (o : Option Addr) (m c : Nat), k ≤ n ∧ s22 = .int .i64 k ∧ s3 = .slice o m c ∧ Hid (∃ rs, m = k ∧ NewVo w o c rs (vl.take k) wr)) (fun _ s22 _ => n - (intOf s22).toNat)
    case atStart => exact ⟨0, _, 0, _, by omega, rfl, rfl, [], rfl, ⟨ho1, rfl, fun j hj => by simp at hj, new_fresh _ _ (Nat.le_refl _) _, fun j hj => by simp at hj, fun i j _ hj => by simp at hj, hk1⟩⟩
    case round =>
      rename World => wr
      obtain ⟨k, o, m, c, hk, rfl, rfl, HR⟩ := hrel
      by_cases hlt : k < n
      · have hlt' : (k : Int) < n := by omega
        have hkl : k < vl.length := by rw [← HN.out]; exact hlt
        obtain ⟨rs, hm, hnv⟩ := HR.out
        obtain ⟨b, off, eo, d0, d1, d2, d3⟩ := (HV.out.1.sl.keepsN hnv.kp).atV (j := k) (by rw [HV.out.1.len]; exact hkl)
        have hver := (HV.out.1.each k hkl).keepsN hnv.kp
        have hfv := HV.out.2.at hkl
        have HX : Hid (vl.take (k + 1) = vl.take k ++ [vl.getD k v0]) := take_succ_getD vl k v0 hkl
        have HRN : Hid (m = k ∧ NewVo w o c rs (vl.take k) wr ∧ rs.length = k) := ⟨hm, hnv, by rw [hnv.len, List.length_take]; omega⟩
        generalize vl.getD k v0 = v at hver hfv HX
        generalize vs.getD k r0 = r at d0 d1 d2 d3 hver
        obtain ⟨rk, ri, rv, rro, rn, rcc⟩ := r
        obtain ⟨q0, q1, q2, q3, q4⟩ := hver
        simp only at d0 d1 d2 d3 q0 q1 q2 q3 q4
        have HVV : Hid (rk = v.key ∧ ri = v.id ∧ rv = v.val) := ⟨q0, q1, q2⟩
        have HCL : Hid (∀ X, Keeps no wr X → Calls Try.prog 35 #[.slice rro rn rcc] X fun e w' => ∃ u, e = .returned u ∧ Gives TE X v.keys u w') := fun X hX => tcl_any X rro rn rcc v.keys q3 (q4.keepsN hX) hfv.len
        have hkB : (k : Int) ≤ 1024 := by omega
        subst eo
        clear q0 q1 q2 q3 q4 hfv hm hnv HR hkl
        obtain ⟨B, hB⟩ : ∃ B, B = wr.heap.size := ⟨_, rfl⟩
        have HWA : Hid (∀ wa, wa = wr.alloc (.cells #[.string rk, .int .u64 (ri : Nat), .string rv, .slice rro rn rcc] 46) → wa.heap[B]? = some (.cells #[.string rk, .int .u64 (ri : Nat), .string rv, .slice rro rn rcc] 46 (0, 0)) ∧ Keeps no wr wa) := by
          rintro wa rfl
          exact ⟨by rw [hB]; exact blk_new wr _, (Keeps.refl _ _).alloc _⟩
        go_upto_region 7 with fail
        have hwa := HWA.out _ rfl
        rw [← hB]
        generalize wr.alloc (.cells #[.string rk, .int .u64 (ri : Nat), .string rv, .slice rro rn rcc] 46) = wa at hwa ⊢
        have HBA : Hid (wa.heap[B]? = some (.cells #[.string rk, .int .u64 (ri : Nat), .string rv, .slice rro rn rcc] 46 (0, 0)) ∧ Keeps no wr wa ∧ B = wr.heap.size) := ⟨hwa.1, hwa.2, hB⟩
        have a3 := cell_of_blk hwa.1 3
        simp only [List.getElem?_toArray, List.getElem?_cons_succ, List.getElem?_cons_zero] at a3
        clear hwa HWA hB d0 d1 d2 d3
        go_wp2_with fail
        refine (HCL.out wa HBA.out.2.1).mono ?_
        rintro e w3 ⟨u, rfl, o3, n3, c3, rfl, hn3, ho3, hw3, hk3⟩
        have hb3 := hk3.at HBA.out.1 (fun h => h)
        have HBB : Hid (∀ W, W = w3.setCell ⟨B, 3, none⟩ (.slice o3 n3 c3) → W.heap[B]? = some (.cells #[.string rk, .int .u64 (ri : Nat), .string rv, .slice o3 n3 c3] 46 (0, 0)) ∧ Own TE W o3 c3 v.keys ∧ Keeps no wr W) := by
          rintro W rfl
          refine ⟨blk_set hb3 3 _, ho3.keeps (keeps_one w3 B 3 _) (fun i hi e => ?_), (HBA.out.2.1.trans hk3).then (keeps_one w3 B 3 _) (fun i e => .inr (by rw [e]; have := HBA.out.2.2; omega))⟩
          obtain ⟨cur, hc⟩ := ho3.tag i hi
          rw [e, hb3] at hc
          injection hc with e1
          injection e1 with _ e1 _
          exact absurd e1 (by decide)
        have HN3 : Hid (n3 = v.keys.length ∧ New wr o3) := ⟨hn3.out, hw3.of_le HBA.out.2.1.size⟩
        have a3' := cell_of_blk hb3 3
        have f3' := frozen_of_blk hb3 3
        simp only [List.getElem?_toArray, List.getElem?_cons_succ, List.getElem?_cons_zero] at a3'
        clear hn3 ho3 hw3 hk3 hb3 a3
        go_upto_region 8 with fail
        have hW := HBB.out _ rfl
        generalize w3.setCell ⟨B, 3, none⟩ (.slice o3 n3 c3) = w4 at hW ⊢
        have H4 : Hid (Own TE w4 o3 c3 v.keys ∧ Keeps no wr w4) := hW.2
        have e0' := cell_of_blk hW.1 0
        have e1' := cell_of_blk hW.1 1
        have e2' := cell_of_blk hW.1 2
        have e3' := cell_of_blk hW.1 3
        simp only [List.getElem?_toArray, List.getElem?_cons_succ, List.getElem?_cons_zero] at e0' e1' e2' e3'
        have HRO : Hid (Row VE (w4.alloc (.cells #[.string rk, .int .u64 (ri : Nat), .string rv, .slice o3 n3 c3] 46)) (some ⟨w4.heap.size, 0, none⟩) [⟨rk, ri, rv, o3, n3, c3⟩]) := (lit_one (E := VE) w4 ⟨rk, ri, rv, o3, n3, c3⟩ #[.string rk, .int .u64 (ri : Nat), .string rv, .slice o3 n3 c3] rfl).row
        have HOA : Hid (Own VE (w4.alloc (.cells #[.string rk, .int .u64 (ri : Nat), .string rv, .slice o3 n3 c3] 46)) o c rs ∧ m = rs.length) := ⟨(HRN.out.2.1.own.keepsN H4.out.2).keepsN ((Keeps.refl _ _).alloc _), by rw [HRN.out.1, HRN.out.2.2]⟩
        have HBD : Hid ((rs.length + [(⟨rk, ri, rv, o3, n3, c3⟩ : RV)].length) * VE.nb ≤ 140737488355328 ∧ rs.length + [(⟨rk, ri, rv, o3, n3, c3⟩ : RV)].length ≤ 140737488355328) := by rw [HRN.out.2.2]; exact ⟨by simp [VE]; omega, by simp; omega⟩
        clear hW HBB a3' f3'
        go_wp2_with (at_builtin; refine wpList_app okV rfl _ _ rfl _ _ _ rs rfl HOA.out.2 HOA.out.1 _ _ _ [⟨rk, ri, rv, o3, n3, c3⟩] rfl rfl (fun h => by cases h) HRO.out HBD.out.1 HBD.out.2 ?_; intro o1 c1 w5 ho5 hap5)
        go_roundw
        case rel =>
          refine ⟨k + 1, o1, m + 1, c1, by omega, by go_num, rfl, rs ++ [⟨rk, ri, rv, o3, n3, c3⟩], by rw [HRN.out.1], ?_⟩
          rw [HX.out]
          exact HRN.out.2.1.push (H4.out.2.trans ((Keeps.refl _ _).alloc _)) ⟨HVV.out.1, HVV.out.2.1, HVV.out.2.2, HN3.out.1, H4.out.1.keepsN ((Keeps.refl _ _).alloc _)⟩ HN3.out.2 ho5 hap5
        case measure => simp [intOf]; omega
      · have hlt' : ¬ (k : Int) < n := by omega
        have HE : Hid (∃ rs, m = vl.length ∧ NewVo w o c rs vl wr) := by
          obtain ⟨rs, h1, h2⟩ := HR.out
          have e : k = vl.length := by have := HN.out; omega
          rw [e, List.take_length] at h2
          exact ⟨rs, by rw [h1, e], h2⟩
        clear HR
        go_wp2_with fail
        go_ret
        obtain ⟨rs, h1, h2⟩ := HE.out
        exact ⟨o, m, c, rs, rfl, h1, h2⟩
  · have hr : readR s = [] := by unfold readR; rw [if_neg h1]
    rw [hr]
    have h1' : ((s.ended : Nat) : Int) ≠ 1 := by omega
    generalize ((s.ended : Nat) : Int) = z at hc h1'
    have h1b : (z == 1) = false := by simpa using h1'
    clear h hw h1 hr
    go_enter Try.func15, Try.ntmps15
    go_wp2_with fail
    go_ret
    exact versTo_nil w
end Go.Proofs.Ytileipnoiocdlaa
/- A question told; Again. -/
namespace Go.Proofs.Ytileipnoiocdlaa
open Go.RowKit Go.Sort Orl
set_option linter.unusedVariables false
set_option linter.unusedSimpArgs false

theorem keeps_setCells' {S : Nat → Prop} {a w : World} {g : Nat} (vs : List Value) (o : Nat) (h : Keeps S a w) (hg : S g ∨ a.heap.size ≤ g) : Keeps S a (w.setCells g o vs) :=
  h.then (keeps_setCells vs o w) (fun i hi => by subst hi; exact hg)
/-- a question told: its lists are new -/
def ToldTo (w : World) (q : Qn) (e : Ending) (w' : World) : Prop := ∃ r, e = .returned (aggQ r) ∧ QNw w' r q ∧ New w r.ko ∧ New w r.wo ∧ Keeps no w w'
theorem getD_app {α : Type} (l m : List α) (d : α) (j : Nat) : (l ++ m).getD j d = if j < l.length then l.getD j d else m.getD (j - l.length) d := by
  simp only [List.getD_eq_getElem?_getD, List.getElem?_append]
  split <;> rfl
theorem post_size (a b c d e f g h i : Value) : (Try.prog.info? 44).map (·.size) = some (#[a, b, c, d, e, f, g, h, i] : Array Value).size := by
  show _ = some 9
  kernel_rfl
theorem two_blk (w : World) (a b : Obj) : ((w.alloc a).alloc b).heap[w.heap.size]? = some a ∧ ((w.alloc a).alloc b).heap[w.heap.size + 1]? = some b := by
  refine ⟨blk_alloc (blk_new w a) b, ?_⟩
  have h := blk_new (w.alloc a) b
  have e : (w.alloc a).heap.size = w.heap.size + 1 := by simp
  rwa [e] at h
set_option maxRecDepth 10000 in
set_option maxHeartbeats 1000000 in
theorem told_any (w : World) (r : RQ) (q : Qn) (h : QNw w r q) (hf : q.keys.length ≤ 1024 ∧ q.wants.length ≤ 1024) : Calls Try.prog 27 #[aggQ r] w (ToldTo w q) := by
  have HQ : Hid (QNw w r q ∧ q.keys.length ≤ 1024 ∧ q.wants.length ≤ 1024) := ⟨h, hf⟩
  clear h hf
  obtain ⟨x0, x1, x2, x3, xko, xkn, xkc, xwo, xwn, xwc⟩ := r
  unfold aggQ
  simp only
  have HP : Hid (∀ X, Keeps no w X → Calls Try.prog 35 #[.slice xko xkn xkc] X fun e w' => ∃ v, e = .returned v ∧ Gives TE X q.keys v w') := fun X hX => tcl_any X _ _ _ _ HQ.out.1.kn (HQ.out.1.ks.sl.keepsN hX) (by have := HQ.out.2.1; omega)
  have HT : Hid (∀ X, Keeps no w X → Calls Try.prog 45 #[.slice xwo xwn xwc] X fun e w' => ∃ v, e = .returned v ∧ Gives WE X q.wants v w') := fun X hX => wcl_any X _ _ _ _ HQ.out.1.wn (HQ.out.1.ws.sl.keepsN hX) (by have := HQ.out.2.2; omega)
  obtain ⟨B, hB⟩ : ∃ B, B = w.heap.size := ⟨_, rfl⟩
  go_enter Try.func27, Try.ntmps27
  go_wp2_with fail
  refine (HP.out _ (((Keeps.refl no w).alloc _).alloc _)).mono ?_
  rintro e w1 ⟨v, rfl, o1, n1, c1, rfl, hn1, ho1, hw1, hk1⟩
  have hb1 := hk1.at (two_blk w _ _).1 id
  have hb2 := hk1.at (two_blk w _ _).2 id
  have HK1 : Hid (Keeps no w w1) := (((Keeps.refl no w).alloc _).alloc _).trans hk1
  have HO1 : Hid (Own TE w1 o1 c1 q.keys ∧ New w o1 ∧ n1 = q.keys.length) := ⟨ho1, hw1.of_le (by simp; omega), hn1.out⟩
  clear hn1 ho1 hw1 hk1
  rw [← hB] at hb1 hb2 ⊢
  have c0 := cell_of_blk hb1 0
  have c1' := cell_of_blk hb1 1
  have c2 := cell_of_blk hb1 2
  have c3 := cell_of_blk hb1 3
  have c4 := cell_of_blk hb1 4
  have c5 := cell_of_blk hb1 5
  have c6 := cell_of_blk hb1 6
  have c7 := cell_of_blk hb1 7
  have f6 := frozen_of_blk hb1 6
  simp only [List.getElem?_toArray, List.getElem?_cons_succ, List.getElem?_cons_zero] at c0 c1' c2 c3 c4 c5 c6 c7
  have HB : Hid (B = w.heap.size) := hB
  have HB2 : Hid (w1.heap[B + 1]? = some (.cells #[.int .i64 0, .int .i64 0, .int .i64 0, .int .u64 0, .int .u64 0, .slice none 0 0, .slice none 0 0, .slice none 0 0, .slice none 0 0] 44 (0, 0))) := hb2
  have hb1' := blk_set hb1 6 (.slice o1 n1 c1)
  have HB1 : Hid ((w1.setCell ⟨B, 6, none⟩ (.slice o1 n1 c1)).heap[B]? = some (.cells #[.int .i64 x0, .int .i64 x1, .int .i64 x2, .int .u64 (x3 : Nat), .int .u64 0, .slice none 0 0, .slice o1 n1 c1, .slice xwo xwn xwc, .slice none 0 0] 44 (0, 0))) := by show _ = _; simpa using hb1'
  have HK2 : Hid (Keeps no w (w1.setCell ⟨B, 6, none⟩ (.slice o1 n1 c1)) ∧ Keeps (fun i => i = B) w1 (w1.setCell ⟨B, 6, none⟩ (.slice o1 n1 c1))) := ⟨HK1.out.setCell (.inr (by simp; omega)) _, keeps_one w1 B 6 _⟩
  clear hb1 hb2 hb1' hB
  go_wp2_with fail
  refine (HT.out _ HK2.out.1).mono ?_
  rintro e w3 ⟨v, rfl, o2, n2, d2, rfl, hn2, ho2, hw2, hk2⟩
  have hb3 := hk2.at HB1.out id
  have hb4 := hk2.at (HK2.out.2.at HB2.out (by simp)) id
  have HO2 : Hid (Own WE w3 o2 d2 q.wants ∧ New w o2 ∧ n2 = q.wants.length) := ⟨ho2, hw2.of_le HK2.out.1.size, hn2.out⟩
  have HO3 : Hid (Own TE w3 o1 c1 q.keys ∧ New w o1 ∧ n1 = q.keys.length) := by
    refine ⟨(HO1.out.1.keeps HK2.out.2 (fun i hi e => ?_)).keepsN hk2, HO1.out.2⟩
    subst e
    obtain ⟨x, e, hx⟩ := hi
    rcases HO1.out.1.shape with ⟨e2, _⟩ | ⟨g, cur, e2, hg, _⟩
    · rw [e2] at e; cases e
    · rw [e2] at e; cases e
      simp only at hx
      subst hx
      have := HB1.out
      rw [blk_set hg] at this
      injection this with this
      injection this with _ h1 _
      exact absurd h1 (by decide)
  have HK3 : Hid (Keeps no w w3) := HK2.out.1.trans hk2
  clear HO1 HK1 HB1 HB2 HK2 hn2 ho2 hw2 hk2 c0 c1' c2 c3 c4 c5 c6 c7 f6
  have c0 := cell_of_blk hb3 0
  have c1' := cell_of_blk hb3 1
  have c2 := cell_of_blk hb3 2
  have c3 := cell_of_blk hb3 3
  have c4 := cell_of_blk hb3 4
  have c5 := cell_of_blk hb3 5
  have c6 := cell_of_blk hb3 6
  have c7 := cell_of_blk hb3 7
  have c8 := cell_of_blk hb3 8
  have f7 := frozen_of_blk hb3 7
  simp only [List.getElem?_toArray, List.getElem?_cons_succ, List.getElem?_cons_zero] at c0 c1' c2 c3 c4 c5 c6 c7 c8
  have d0 := cell_of_blk hb4 0
  have d1 := cell_of_blk hb4 1
  have d2' := cell_of_blk hb4 2
  have d3 := cell_of_blk hb4 3
  have d4 := cell_of_blk hb4 4
  have d5 := cell_of_blk hb4 5
  have d6 := cell_of_blk hb4 6
  have d7 := cell_of_blk hb4 7
  have d8 := cell_of_blk hb4 8
  have g0 := frozen_of_blk hb4 0
  have g1 := frozen_of_blk hb4 1
  have g2 := frozen_of_blk hb4 2
  have g3 := frozen_of_blk hb4 3
  have g4 := frozen_of_blk hb4 4
  have g5 := frozen_of_blk hb4 5
  have g6 := frozen_of_blk hb4 6
  have g7 := frozen_of_blk hb4 7
  have g8 := frozen_of_blk hb4 8
  simp only [List.getElem?_toArray, List.getElem?_cons_succ, List.getElem?_cons_zero] at d0 d1 d2' d3 d4 d5 d6 d7 d8
  have HE : Hid (∀ vs, vs = [Value.int .i64 x0, .int .i64 x1, .int .i64 x2, .int .u64 (x3 : Nat), .int .u64 0, .slice none 0 0, .slice o1 n1 c1, .slice o2 n2 d2, .slice none 0 0] → ∀ W, W = (w3.setCell ⟨B, 7, none⟩ (.slice o2 n2 d2)).setCells (B + 1) 0 vs → W.heap[B + 1]? = some (.cells vs.toArray 44 (0, 0)) ∧ Keeps no w W ∧ Own TE W o1 c1 q.keys ∧ Own WE W o2 d2 q.wants) := by
    rintro vs rfl W rfl
    have k1 : Keeps (fun i => i = B ∨ i = B + 1) w3 ((w3.setCell ⟨B, 7, none⟩ (.slice o2 n2 d2)).setCells (B + 1) 0 [Value.int .i64 x0, .int .i64 x1, .int .i64 x2, .int .u64 (x3 : Nat), .int .u64 0, .slice none 0 0, .slice o1 n1 c1, .slice o2 n2 d2, .slice none 0 0]) :=
      keeps_setCells' _ _ ((keeps_one w3 B 7 _).mono (fun i hi => .inl hi)) (.inl (.inr rfl))
    have hx := blk_set_ne hb4 (p := ⟨B, 7, none⟩) (show B + 1 ≠ B by omega) (.slice o2 n2 d2)
    have tag : ∀ {α : Type} {E : El α} {o : Option Addr} {c : Nat} {xs : List α}, Own E w3 o c xs → E.e ≠ 44 → ∀ i, inO o i → ¬ (i = B ∨ i = B + 1) := by
      intro α E o c xs ho hne i hi e
      obtain ⟨x, e1, hx⟩ := hi
      rcases ho.shape with ⟨e2, _⟩ | ⟨g, cur, e2, hg, _⟩
      · rw [e2] at e1; cases e1
      · rw [e2] at e1; cases e1
        simp only at hx
        subst hx
        rcases e with rfl | rfl
        · rw [hg] at hb3; injection hb3 with h1; injection h1 with _ h1 _; exact hne h1
        · rw [hg] at hb4; injection hb4 with h1; injection h1 with _ h1 _; exact hne h1
    refine ⟨blk_whole hx _ rfl, HK3.out.then k1 (fun i hi => .inr ?_), HO3.out.1.keeps k1 (tag HO3.out.1 (by decide)), HO2.out.1.keeps k1 (tag HO2.out.1 (by decide))⟩
    have := HB.out
    rcases hi with rfl | rfl <;> omega
  clear hb3 hb4
  go_wp2_with fail
  have hE := HE.out _ rfl _ rfl
  (try simp only [Exit.inBlock, Exit.then])
  refine bodyPost_ret (results_row1 rfl _ _ (B + 1) _ rfl (run_loadVar_row _ _ _ _ _ _ _ hE.1 Try.underlying44 rfl (post_size _ _ _ _ _ _ _ _ _))) rfl ?_
  exact ⟨⟨x0, x1, x2, x3, o1, n1, c1, o2, n2, d2⟩, rfl, ⟨HQ.out.1.part, HQ.out.1.kind, HQ.out.1.client, HQ.out.1.req, HO3.out.2.2, hE.2.2.1, HO2.out.2.2, hE.2.2.2⟩, HO3.out.2.1, HO2.out.2.1, hE.2.1⟩
end Go.Proofs.Ytileipnoiocdlaa
