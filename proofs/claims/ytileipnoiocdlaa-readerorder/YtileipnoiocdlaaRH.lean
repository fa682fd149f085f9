import Derived.Test.YtileipnoiocdlaaRE
/- Which question a message answers. -/
namespace Go.Proofs.Ytileipnoiocdlaa
open Go.RowKit Go.Sort Orl
set_option linter.unusedVariables false
set_option linter.unusedSimpArgs false

def hitR (part : Int) (req : Nat) (q : Qn) : Bool := decide (q.part = part) && decide (q.req = req)
/-- where the first such one stands -/
def idxQ (g : Qn → Bool) (qs : List Qn) : Option Nat := (List.range qs.length).find? fun i => g (qs.getD i q0)
def optI : Option Nat → Int
  | some i => (i : Int)
  | none => -1
theorem idxQ_hit {g : Qn → Bool} {qs : List Qn} {k : Nat} (hk : k < qs.length) (h : ∀ j, j < k → g (qs.getD j q0) = false) (hg : g (qs.getD k q0) = true) : idxQ g qs = some k := by
  unfold idxQ
  rw [List.find?_range_eq_some]
  exact ⟨hg, List.mem_range.2 hk, fun j hj => by rw [h j hj]; rfl⟩
theorem idxQ_none {g : Qn → Bool} {qs : List Qn} (h : ∀ j, j < qs.length → g (qs.getD j q0) = false) : idxQ g qs = none := by
  unfold idxQ
  rw [List.find?_eq_none]
  intro j hj
  rw [h j (List.mem_range.1 hj)]; simp
theorem idxQ_some {g : Qn → Bool} {qs : List Qn} {k : Nat} (h : idxQ g qs = some k) : k < qs.length ∧ g (qs.getD k q0) = true := by
  unfold idxQ at h
  exact ⟨List.mem_range.1 (List.mem_of_find?_eq_some h), List.find?_some (p := fun i => g (qs.getD i q0)) h⟩
def aggRZ (r : RZ) : Value := .agg #[.int .i64 r.q.part, .int .i64 r.q.kind, .int .i64 r.q.client, .int .u64 (r.q.req : Nat), .int .u64 0, .slice none 0 0, .slice r.q.ko r.q.kn r.q.kc, .slice r.q.wo r.q.wn r.q.wc, .slice none 0 0, .map (some r.mb)]
set_option maxRecDepth 10000 in
theorem hitQ_any (w : World) (r : RZ) (A M : Nat) (part : Int) (req : Nat) (cA : w.cell? ⟨A, 0, none⟩ = some (.int .i64 part)) (cM : w.cell? ⟨M, 2, none⟩ = some (.int .u64 (req : Nat))) :
    Calls Try.prog 30 #[aggRZ r, .pointer (some ⟨A, 0, none⟩), .pointer (some ⟨M, 0, none⟩)] w fun e w' => e = .returned (.bool (decide (r.q.part = part) && decide (r.q.req = req))) ∧ Keeps no w w' := by
  obtain ⟨⟨x0, x1, x2, x3, xko, xkn, xkc, xwo, xwn, xwc⟩, mb⟩ := r
  unfold aggRZ
  simp only
  have cA' : ∀ o, (w.alloc o).cell? ⟨A, 0, none⟩ = some (.int .i64 part) := fun o => ((Keeps.refl no w).alloc o).cellN cA
  have cM' : ∀ o, (w.alloc o).cell? ⟨M, 2, none⟩ = some (.int .u64 (req : Nat)) := fun o => ((Keeps.refl no w).alloc o).cellN cM
  clear cA cM
  by_cases h1 : x0 = part
  · have h1' : (x0 == part) = true := by simpa using h1
    obtain ⟨b, hb⟩ : ∃ b, b = decide (x3 = req) := ⟨_, rfl⟩
    have hb1 : (((x3 : Nat) : Int) == ((req : Nat) : Int)) = b := by rw [hb]; by_cases e : x3 = req <;> simp [e]; omega
    have hb2 : (x3 == req) = b := by rw [hb]; by_cases e : x3 = req <;> simp [e]
    have HE : Hid ((decide (x0 = part) && decide (x3 = req)) = b) := by show _ = _; rw [hb, decide_eq_true h1]; rfl
    rw [HE.out]
    clear hb h1 HE
    go_enter Try.func30, Try.ntmps30
    go_wp2_with fail
    go_ret
    exact ⟨rfl, (Keeps.refl _ _).alloc _⟩
  · have h1' : (x0 == part) = false := by simpa using h1
    have HE : Hid ((decide (x0 = part) && decide (x3 = req)) = false) := by show _ = _; rw [decide_eq_false h1]; rfl
    rw [HE.out]
    clear h1 HE
    go_enter Try.func30, Try.ntmps30
    go_wp2_with fail
    go_ret
    exact ⟨rfl, (Keeps.refl _ _).alloc _⟩
set_option maxRecDepth 10000 in
set_option maxHeartbeats 1000000 in
theorem indexQ_any (w : World) (o : Option Addr) (n c : Nat) (rz : List RZ) (qs : List Qn) (A M : Nat) (part : Int) (req : Nat) (hn : n = qs.length) (hl : qs.length ≤ 64) (hs : Own RE w o c rz) (hrl : rz.length = qs.length) (hq : ∀ j, j < qs.length → (rz.getD j rz0).q.part = (qs.getD j q0).part ∧ (rz.getD j rz0).q.req = (qs.getD j q0).req) (cA : w.cell? ⟨A, 0, none⟩ = some (.int .i64 part)) (cM : w.cell? ⟨M, 2, none⟩ = some (.int .u64 (req : Nat))) :
    Calls Try.prog 29 #[.slice o n c, .func (.func 30) #[] #[.pointer (some ⟨A, 0, none⟩), .pointer (some ⟨M, 0, none⟩)]] w fun e w' => e = .returned (.int .i64 (optI (idxQ (hitR part req) qs))) ∧ Keeps no w w' := by
  have H : Hid (n = qs.length ∧ qs.length ≤ 64 ∧ Own RE w o c rz ∧ rz.length = qs.length ∧ ∀ j, j < qs.length → (rz.getD j rz0).q.part = (qs.getD j q0).part ∧ (rz.getD j rz0).q.req = (qs.getD j q0).req) := ⟨hn, hl, hs, hrl, hq⟩
  have HC : Hid (∀ X, Keeps no w X → ∀ r, Calls Try.prog 30 #[aggRZ r, .pointer (some ⟨A, 0, none⟩), .pointer (some ⟨M, 0, none⟩)] X fun e w' => e = .returned (.bool (decide (r.q.part = part) && decide (r.q.req = req))) ∧ Keeps no X w') := fun X hX r => hitQ_any X r A M part req (hX.cellN cA) (hX.cellN cM)
  have hnb : (n : Int) ≤ 64 := by omega
  clear hn hl hs hrl hq cA cM
  go_enter Try.func29, Try.ntmps29
  go_wp2_with fail
  go_loopw [5, 8] (fun _ i wr => ∃ j : Nat, j ≤ n ∧ i = .int .i64 j ∧ Hid ((∀ t, t < j → hitR part req (qs.getD t q0) = false) ∧ Keeps no w wr)) (fun _ i _ => n - (intOf i).toNat)
  case atStart => exact ⟨0, by omega, rfl, fun t ht => by omega, Keeps.refl _ _⟩
  case round =>
    obtain ⟨j, hj, rfl, HJ⟩ := hrel
    by_cases hlt : j < n
    · have hlt' : (j : Int) < n := by omega
      have hjl : j < qs.length := by rw [← H.out.1]; exact hlt
      obtain ⟨b, hob, hfz, ⟨a0, a1, a2, a3, a4, a5, a6, a7, a8⟩, a9⟩ := (H.out.2.2.1.keepsN HJ.out.2).atRE (j := j) (by rw [H.out.2.2.2.1]; exact hjl)
      simp only [Nat.zero_add] at a0 a1 a2 a3 a4 a5 a6 a7 a8 a9
      subst hob
      have hq := H.out.2.2.2.2 j hjl
      obtain ⟨x, hx⟩ : ∃ x, x = rz.getD j rz0 := ⟨_, rfl⟩
      rw [← hx] at a0 a1 a2 a3 a6 a7 a9 hq
      have HX : Hid (j < qs.length ∧ hitR part req (qs.getD j q0) = (decide (x.q.part = part) && decide (x.q.req = req))) := ⟨hjl, by unfold hitR; rw [hq.1, hq.2]⟩
      have HCX : Hid (∀ X, Keeps no w X → Calls Try.prog 30 #[aggRZ x, .pointer (some ⟨A, 0, none⟩), .pointer (some ⟨M, 0, none⟩)] X fun e w' => e = .returned (.bool (decide (x.q.part = part) && decide (x.q.req = req))) ∧ Keeps no X w') := fun X hX => HC.out X hX x
      unfold aggRZ at HCX
      clear hx hjl hfz hq
      obtain ⟨bg, hbg⟩ : ∃ bg, bg = (decide (x.q.part = part) && decide (x.q.req = req)) := ⟨_, rfl⟩
      rw [← hbg] at HCX HX
      clear hbg
      cases bg with
      | true =>
        go_wp2_with (go_at_call 30; refine (HCX.out _ HJ.out.2).mono ?_; rintro e w3 ⟨rfl, hk3⟩; have HK3 : Hid (Keeps no w w3) := HJ.out.2.trans hk3; clear hk3)
        go_ret
        have := idxQ_hit (g := hitR part req) HX.out.1 HJ.out.1 HX.out.2
        exact ⟨by rw [this]; rfl, HK3.out⟩
      | false =>
        go_wp2_with (go_at_call 30; refine (HCX.out _ HJ.out.2).mono ?_; rintro e w3 ⟨rfl, hk3⟩; have HK3 : Hid (Keeps no w w3) := HJ.out.2.trans hk3; clear hk3)
        go_roundw
        case rel =>
          refine ⟨j + 1, by omega, by go_num, fun t ht => ?_, HK3.out⟩
          by_cases e : t = j
          · rw [e]; exact HX.out.2
          · exact HJ.out.1 t (by omega)
        case measure => simp [intOf]; omega
    · have hlt' : ¬ (j : Int) < n := by omega
      go_wp2_with fail
      go_ret
      have := idxQ_none (g := hitR part req) (qs := qs) (fun t ht => HJ.out.1 t (by have := H.out.1; omega))
      exact ⟨by rw [this]; rfl, HJ.out.2⟩
end Go.Proofs.Ytileipnoiocdlaa
/- The end of a round. -/
namespace Go.Proofs.Ytileipnoiocdlaa
open Go.RowKit Go.Sort Orl
set_option linter.unusedVariables false
set_option linter.unusedSimpArgs false

theorem IsRd.wide {w : World} {p cp : Nat} {F G : Nat → Prop} {s : RS} (h : IsRd w p cp F s) (hG : ∀ i, F i → G i) (hl : ∀ i, G i → i < w.heap.size) : IsRd w p cp G s := by
  obtain ⟨h1, h2, h3⟩ := h
  refine ⟨hG _ h1, hl, ?_⟩
  rcases h3 with ⟨he, vo, vc, vs, hb, hv, hf⟩ | ⟨he, nmo, nc, ro, rc, rz, co, cc, cs, vo, vc, vs, h⟩
  · exact .inl ⟨he, vo, vc, vs, hb, hv, fun i hi => hG i (hf i hi)⟩
  · exact .inr ⟨he, nmo, nc, ro, rc, rz, co, cc, cs, vo, vc, vs, h.blk, h.nms, h.zs, h.cam, h.came, h.ver, fun i hi => ⟨hG i (h.fN i hi).1, (h.fN i hi).2⟩, fun i hi => ⟨hG i (h.fZ i hi).1, (h.fZ i hi).2⟩, fun i hi => ⟨hG i (h.fC i hi).1, (h.fC i hi).2⟩, fun i hi => ⟨hG i (h.fV i hi).1, (h.fV i hi).2⟩, h.cv⟩
theorem tell_end {w w1 w' : World} {p cp fr st : Nat} {F G : Nat → Prop} {s : RS} {t : Nat} (k1 : Keeps no w w1) (hG : ∀ i, G i → F i ∨ w.heap.size ≤ i) (k2 : Keeps G w1 w') (hI : IsRd w' p cp G s) (hc : IsCt w cp fr st t) (hcG : ¬ G cp) : TellTo w p cp fr st F ⟨s, [], t⟩ (.returned (.slice none 0 0)) w' := by
  have hk : Keeps F w w' := k1.of_no.then k2 hG
  exact ⟨none, 0, 0, [], G, rfl, rfl, tq_nil w', fun i hi => by rcases hi with ⟨x, e, _⟩ | ⟨j, hj, _⟩; cases e; simp at hj, hI, hG, fun i hi => by rcases hi with ⟨x, e, _⟩ | ⟨j, hj, _⟩; cases e; simp at hj, (hc.keeps k1 (fun h => h)).keeps k2 hcG, hk.mono (fun i h => .inl h)⟩
/-- the reader's end -/
theorem endR_any (w : World) (p cp : Nat) (F : Nat → Prop) (s : RS) (h : IsRd w p cp F s) (he : s.ended = 0) (z : Nat) (hz : ¬ z = 0) (out : List Ver) (vo : Option Addr) (vc : Nat) (vs : List RV) (hv : Vers w vo vc vs out) (hf : ∀ i, VB vo vs out.length i → F i ∧ i ≠ p) :
    Calls Try.prog 40 #[.pointer (some ⟨p, 0, none⟩), .int .i64 (z : Nat), .slice vo out.length vc] w fun e w' => e = .returned (.tuple #[]) ∧ IsRd w' p cp F (endS s z out) ∧ Keeps F w w' := by
  obtain ⟨nmo, nc, ro, rc, rz, co, cc, cs, vo1, vc1, vs1, hl⟩ : ∃ nmo nc ro rc rz co cc cs vo vc vs, RdL w p cp F s nmo nc ro rc rz co cc cs vo vc vs := by
    rcases h.2.2 with ⟨h0, _⟩ | ⟨_, h1⟩
    · exact absurd he h0
    · exact h1
  refine (end_any w p cp _ z vo out.length vc rfl (fun v hv => ?_) hl.blk).mono ?_
  · simp [rdC, fnC] at hv
    rcases hv with rfl | rfl | rfl | rfl | rfl | rfl | rfl | rfl | rfl <;> rfl
  · rintro e w' ⟨rfl, hb, hk⟩
    exact ⟨rfl, isEnd h hz hb hk (hv.keeps hk (fun i hi e => (hf i hi).2 e)) (fun i hi => (hf i hi).1)⟩
/-! ### behind the first round -/
theorem needs_sub (l : List Ver) (g : Ver → Nat) (c : Ver → Bool) : List.Sublist ((l.filterMap fun y => if c y = true then some ((y.key, g y) : Wn) else none).map Prod.fst) (l.map Ver.key) := by
  induction l with
  | nil => exact List.Sublist.refl _
  | cons a r ih =>
    rw [List.filterMap_cons]
    by_cases h : c a = true
    · simp only [h, if_true, List.map_cons]
      exact ih.cons_cons _
    · simp only [h, List.map_cons]
      exact ih.cons _
theorem needs_fst (l : List Ver) : List.Sublist ((needsV l).map Prod.fst) (l.map Ver.key) := by
  have h := needs_sub l (mostV l) (fun y => decide (y.id < mostV l y))
  simp only [decide_eq_true_eq] at h
  exact h
theorem came_keys {s : RS} (h : WfR s) : s.came.map Ver.key = s.nm := by
  apply List.ext_getElem
  · rw [List.length_map]; exact h.cml
  · intro i h1 h2
    have := h.ck i h2
    rw [List.length_map] at h1
    rw [List.getD_eq_getElem?_getD, List.getD_eq_getElem?_getD, List.getElem?_eq_getElem h1, List.getElem?_eq_getElem h2] at this
    rw [List.getElem_map]
    exact this
theorem most_lt {l : List Ver} (h : FitL l) {y : Ver} (hy : y ∈ l) : mostV l y < 18446744073709551616 := by
  rcases most_at l y with e | ⟨x, hx, _, e⟩
  · rw [e]; exact (h.each y hy).id
  · rw [← e]; exact (h.each x hx).id
theorem needs_ok {s : RS} (h : WfR s) : (needsV s.came).length ≤ 1024 ∧ (∀ p ∈ needsV s.came, p.1.size ≤ 65535 ∧ p.2 < 18446744073709551616) ∧ ((needsV s.came).map Prod.fst).Nodup := by
  have hs := needs_fst s.came
  rw [came_keys h] at hs
  refine ⟨by have := needs_len s.came; have := h.cml; have := h.nml; omega, fun p hp => ⟨?_, ?_⟩, hs.nodup h.nmd⟩
  · exact h.nmz _ (hs.subset (List.mem_map_of_mem hp))
  · obtain ⟨y, hy, _, rfl⟩ := (needs_mem s.came p).1 hp
    exact most_lt h.cf hy
/-- the end of the first round, in pure lists -/
noncomputable def endFO (s : RS) (fr st t : Nat) : Out :=
  if formedB s.came = false then ⟨endS s 2 [], [], t⟩
  else if needsV s.came = [] then ⟨endS s 1 s.came, [], t⟩
  else ⟨fetS s (needsV s.came) s.came fr st t, askedR (fetS s (needsV s.came) s.came fr st t), t + (psR (fetS s (needsV s.came) s.came fr st t)).length⟩
set_option maxRecDepth 10000 in
set_option maxHeartbeats 1000000 in
theorem endFirst_any (w : World) (p cp fr st : Nat) (F : Nat → Prop) (s : RS) (t : Nat) (h : IsRd w p cp F s) (hw : WfR s) (hc : IsCt w cp fr st t) (ht : t + 64 ≤ 4611686018427387904) (hcF : ¬ F cp) (he : s.ended = 0) :
    Calls Try.prog 33 #[.pointer (some ⟨p, 0, none⟩)] w (TellTo w p cp fr st F (endFO s fr st t)) := by
  obtain ⟨nmo, nc, ro, rc, rz, co, cc, cs, vo, vc, vs, hl⟩ : ∃ nmo nc ro rc rz co cc cs vo vc vs, RdL w p cp F s nmo nc ro rc rz co cc cs vo vc vs := by
    rcases h.2.2 with ⟨h0, _⟩ | ⟨_, h1⟩
    · exact absurd he h0
    · exact h1
  have c7 : w.cell? ⟨p, 7, none⟩ = some (.slice co s.came.length cc) := by rw [cell_of_blk hl.blk]; rfl
  have hcl : s.came.length ≤ 1024 := by rw [hw.cml]; exact hw.nml
  have HND : Hid (Calls Try.prog 48 #[.slice co s.came.length cc] w fun e w' => ∃ u, e = .returned u ∧ NeedTo w s.came u w') := pNeeds_any w co s.came.length cc cs s.came rfl hw.cf hl.came
  have HEN : Hid (∀ X, Keeps no w X → Calls Try.prog 40 #[.pointer (some ⟨p, 0, none⟩), .int .i64 2, .slice none 0 0] X fun e w' => e = .returned (.tuple #[]) ∧ IsRd w' p cp F (endS s 2 []) ∧ Keeps F X w') := fun X hX =>
    endR_any X p cp F s (h.keeps hX (fun _ _ => id)) he 2 (by decide) [] none 0 [] (vers_nil X) (fun i hi => (vb_nil hi).elim)
  have HEO : Hid (∀ X, Keeps no w X → Calls Try.prog 40 #[.pointer (some ⟨p, 0, none⟩), .int .i64 1, .slice co s.came.length cc] X fun e w' => e = .returned (.tuple #[]) ∧ IsRd w' p cp F (endS s 1 s.came) ∧ Keeps F X w') := fun X hX =>
    endR_any X p cp F s (h.keeps hX (fun _ _ => id)) he 1 (by decide) s.came co cc cs (hl.came.keepsN hX) hl.fC
  have HFE : Hid (∀ X o n c, Keeps no w X → n = (needsV s.came).length → Own WE X o c (needsV s.came) → New w o → Calls Try.prog 49 #[.pointer (some ⟨p, 0, none⟩), .slice o n c] (X.setCell ⟨p, 8, none⟩ (.slice co s.came.length cc)) (TellTo w p cp fr st F ⟨fetS s (needsV s.came) s.came fr st t, askedR (fetS s (needsV s.came) s.came fr st t), t + (psR (fetS s (needsV s.came) s.came fr st t)).length⟩)) := by
    intro X o n c hX hn ho hno
    have hlX := hl.keeps h.1 hX (fun _ _ => id)
    have k1 := keeps_one X p 8 (.slice co s.came.length cc)
    obtain ⟨n1, n2, n3⟩ := needs_ok hw
    have hp := h.2.1 p h.1
    have hb : (X.setCell ⟨p, 8, none⟩ (.slice co s.came.length cc)).heap[p]? = some (.cells (rdC nmo s.names.length nc s.parts s.client (fnC cp) s.round 0 ro (undone s).length rc co s.came.length cc co s.came.length cc) 79 (0, 0)) := by
      have := blk_set hlX.blk 8 (.slice co s.came.length cc)
      simpa [rdC] using this
    refine (fetch_any _ p cp fr st t F s s.round ro (undone s).length rc co s.came.length cc nmo nc co cc cs o n c (needsV s.came) s.came hb (hlX.nms.keeps k1 (fun i hi e => (hlX.fN i hi).2 e)) (hlX.came.keeps k1 (fun i hi e => (hlX.fC i hi).2 e)) h.1 hl.fN hl.fC (fun i hi => ?_) ((hc.keeps hX (fun h => h)).keeps k1 (fun e => hcF (e ▸ h.1))) ht hcF hn ((ho.keeps k1 (fun i hi e => ?_)).sl) hw he n1 n2 n3 hw.cf hcl).mono ?_
    · exact Nat.lt_of_lt_of_le (h.2.1 i hi) (show Keeps (fun i => i = p) w _ from hX.of_no.trans k1).size
    · have := hno i hi; omega
    · rintro e w' ⟨o, n, c, rs, G, rfl, T⟩
      have hkw : Keeps (fun i => i = p) w (X.setCell ⟨p, 8, none⟩ (.slice co s.came.length cc)) := hX.of_no.trans k1
      refine ⟨o, n, c, rs, G, rfl, T.n, T.tq, fun i hi => Nat.le_trans hkw.size (T.new i hi), T.is, fun i hi => (T.foot i hi).imp id (Nat.le_trans hkw.size), T.apart, T.ct, (hkw.mono (fun i e => .inl (by rw [e]; exact h.1))).trans T.kp⟩
  have HC : Hid (IsCt w cp fr st t ∧ ¬ F cp) := ⟨hc, hcF⟩
  have HCL : Hid (s.came.length ≤ 1024) := hcl
  have HCX : Hid (∀ X, Keeps no w X → X.cell? ⟨p, 7, none⟩ = some (.slice co s.came.length cc) ∧ (∃ u1 u2 u3, X.cell? ⟨p, 8, none⟩ = some (.slice u1 u2 u3)) ∧ X.frozen? ⟨p, 8, none⟩ = false) := fun X hX => by
    have hb := hX.at hl.blk (fun h => h)
    exact ⟨by rw [cell_of_blk hb]; rfl, ⟨_, _, _, by rw [cell_of_blk hb]; rfl⟩, frozen_of_blk hb 8⟩
  clear hl h hw hc ht hcF he
  have hO : endFO s fr st t = endFO s fr st t := rfl
  obtain ⟨b, hb⟩ : ∃ b, b = formedB s.came := ⟨_, rfl⟩
  obtain ⟨cn, hcn⟩ : ∃ cn, cn = s.came.length := ⟨_, rfl⟩
  rw [← hcn] at c7 hcl HND HEO HFE HCX
  clear hcn
  have hcnb : (cn : Int) ≤ 1024 := by omega
  by_cases hbf : formedB s.came = false
  · have HO : Hid (endFO s fr st t = ⟨endS s 2 [], [], t⟩) := by show _ = _; unfold endFO; rw [if_pos hbf]
    rw [HO.out]
    have HND2 : Hid (Calls Try.prog 48 #[.slice co cn cc] w fun e w' => e = .returned (.tuple #[.slice none 0 0, .int .i64 1]) ∧ Keeps no w w') := by
      refine Calls.mono HND.out ?_
      rintro e w' ⟨u, rfl, h | h⟩
      · exact ⟨by rw [h.2.1], h.2.2⟩
      · rw [hbf] at h; cases h.1
    clear HND HO hbf hO hb HEO HFE
    go_enter Try.func33, Try.ntmps33
    go_wp2_with fail
    refine Calls.mono HND2.out ?_
    rintro e w1 ⟨rfl, hk1⟩
    have HK1 : Hid (Keeps no w w1) := hk1
    clear hk1
    go_wp2_with fail
    refine (HEN.out w1 HK1.out).mono ?_
    rintro e w2 ⟨rfl, hI, hk2⟩
    have H2 : Hid (IsRd w2 p cp F (endS s 2 []) ∧ Keeps F w1 w2) := ⟨hI, hk2⟩
    clear hI hk2
    go_wp2_with fail
    go_ret
    exact tell_end HK1.out (fun i hi => .inl hi) H2.out.2 H2.out.1 HC.out.1 HC.out.2
  · have hbt : formedB s.came = true := by cases e : formedB s.came with | true => rfl | false => exact absurd e hbf
    have HND2 : Hid (Calls Try.prog 48 #[.slice co cn cc] w fun e w' => ∃ o n c, e = .returned (.tuple #[.slice o n c, .int .i64 0]) ∧ n = (needsV s.came).length ∧ Hid (Own WE w' o c (needsV s.came) ∧ New w o ∧ Keeps no w w')) := by
      refine Calls.mono HND.out ?_
      rintro e w' ⟨u, rfl, h | ⟨_, o, n, c, rfl, h1, h2, h3, h4⟩⟩
      · rw [hbt] at h; cases h.1
      · exact ⟨o, n, c, rfl, h1, h2, h3, h4⟩
    have hnl : (needsV s.came).length ≤ 1024 := Nat.le_trans (needs_len s.came) HCL.out
    by_cases hn0 : needsV s.came = []
    · have HO : Hid (endFO s fr st t = ⟨endS s 1 s.came, [], t⟩) := by show _ = _; unfold endFO; rw [if_neg hbf, if_pos hn0]
      rw [HO.out]
      rw [hn0] at HND2
      clear HND HO hbf hbt hO hb HFE HEN hnl hn0
      go_enter Try.func33, Try.ntmps33
      go_wp2_with fail
      refine Calls.mono HND2.out ?_
      rintro e w1 ⟨o, n, c, rfl, hn, HN1⟩
      have HK1 : Hid (Keeps no w w1) := HN1.out.2.2
      have hnz : ((n : Int) == 0) = true := by have e : n = 0 := hn; rw [e]; rfl
      clear hn HN1 HND2
      obtain ⟨d7, -, -⟩ := HCX.out w1 HK1.out
      go_wp2_with fail
      refine (HEO.out w1 HK1.out).mono ?_
      rintro e w2 ⟨rfl, hI, hk2⟩
      have H2 : Hid (IsRd w2 p cp F (endS s 1 s.came) ∧ Keeps F w1 w2) := ⟨hI, hk2⟩
      clear hI hk2
      go_wp2_with fail
      go_ret
      exact tell_end HK1.out (fun i hi => .inl hi) H2.out.2 H2.out.1 HC.out.1 HC.out.2
    · have HO : Hid (endFO s fr st t = ⟨fetS s (needsV s.came) s.came fr st t, askedR (fetS s (needsV s.came) s.came fr st t), t + (psR (fetS s (needsV s.came) s.came fr st t)).length⟩) := by show _ = _; unfold endFO; rw [if_neg hbf, if_neg hn0]
      rw [HO.out]
      have hnp : 0 < (needsV s.came).length := List.length_pos_iff.2 hn0
      have HNL : Hid (0 < (needsV s.came).length ∧ (needsV s.came).length ≤ 1024) := ⟨hnp, by omega⟩
      clear HND HO hbf hbt hO hb HEO HEN hnl hn0 hnp
      generalize (⟨fetS s (needsV s.came) s.came fr st t, askedR (fetS s (needsV s.came) s.came fr st t), t + (psR (fetS s (needsV s.came) s.came fr st t)).length⟩ : Out) = O at HFE ⊢
      go_enter Try.func33, Try.ntmps33
      go_wp2_with fail
      refine Calls.mono HND2.out ?_
      rintro e w1 ⟨o, n, c, rfl, hn, HN1⟩
      have HK1 : Hid (Keeps no w w1 ∧ n = (needsV s.came).length) := ⟨HN1.out.2.2, hn⟩
      have hnpos : ¬ (n : Int) = 0 := by have := HNL.out.1; omega
      have hnz : ((n : Int) == 0) = false := by simpa using hnpos
      have hnb : (n : Int) ≤ 1024 := by have := HNL.out.2; omega
      clear hn
      obtain ⟨d7, ⟨u1, u2, u3, d8⟩, f8⟩ := HCX.out w1 HK1.out.1
      go_wp2_with fail
      refine Calls.mono (HFE.out w1 o n c HK1.out.1 HK1.out.2 HN1.out.1 HN1.out.2.1) ?_
      rintro e w2 ⟨o2, n2, c2, rs, G, rfl, T⟩
      have HT : Hid _ := T
      clear T
      go_wp2_with fail
      go_ret
      exact ⟨o2, n2, c2, rs, G, rfl, HT.out⟩
end Go.Proofs.Ytileipnoiocdlaa
/- The end of the second round. -/
namespace Go.Proofs.Ytileipnoiocdlaa
open Go.RowKit Go.Sort Orl
set_option linter.unusedVariables false
set_option linter.unusedSimpArgs false

/-- the end of the second round, in pure lists -/
noncomputable def endS2 (s : RS) : RS :=
  if goneB s.came = true then endS s 2 []
  else if formedB s.first = true then (match mendV s.first s.came with
    | some m => endS s 1 m
    | none => endS s 2 [])
  else endS s 2 []
theorem endS2_end (s : RS) : ¬ (endS2 s).ended = 0 := by
  unfold endS2
  split
  · exact (by decide : ¬ (2 : Nat) = 0)
  · split
    · split
      · exact (by decide : ¬ (1 : Nat) = 0)
      · exact (by decide : ¬ (2 : Nat) = 0)
    · exact (by decide : ¬ (2 : Nat) = 0)
theorem place_mem {l got : List Ver} {y v : Ver} (hy : y ∈ l) (h : placeV l got y = some v) : v ∈ l ∨ v ∈ got := by
  unfold placeV at h
  split at h
  · exact .inr (List.mem_of_find?_eq_some h)
  · cases h; exact .inl hy
theorem mapM_mem {f : Ver → Option Ver} : ∀ {l m : List Ver}, l.mapM f = some m → m.length = l.length ∧ ∀ v ∈ m, ∃ y ∈ l, f y = some v
  | [], m, h => by
    simp at h; subst h; exact ⟨rfl, fun v hv => by cases hv⟩
  | a :: r, m, h => by
    rw [List.mapM_cons] at h
    cases e1 : f a with
    | none => rw [e1] at h; cases h
    | some b =>
      rw [e1] at h
      cases e2 : r.mapM f with
      | none => rw [e2] at h; cases h
      | some q =>
        rw [e2] at h
        have h : some (b :: q) = some m := h
        cases h
        obtain ⟨h1, h2⟩ := mapM_mem e2
        refine ⟨by simp [h1], fun v hv => ?_⟩
        rcases List.mem_cons.1 hv with rfl | hv
        · exact ⟨a, by simp, e1⟩
        · obtain ⟨y, hy, e⟩ := h2 v hv
          exact ⟨y, by simp [hy], e⟩
theorem mend_fit {l got m : List Ver} (h : mendV l got = some m) (hl : FitL l) (hg : FitL got) : FitL m ∧ m.length = l.length := by
  obtain ⟨h1, h2⟩ := mapM_mem h
  refine ⟨⟨by rw [h1]; exact hl.len, fun v hv => ?_⟩, h1⟩
  obtain ⟨y, hy, e⟩ := h2 v hv
  rcases place_mem hy e with h | h
  · exact hl.each v h
  · exact hg.each v h
theorem WfR.end2 {s : RS} (h : WfR s) : WfR (endS2 s) := by
  unfold endS2
  split
  · exact h.endS 2 fitL_nil (by simp)
  · split
    · split
      · rename_i m e
        obtain ⟨h1, h2⟩ := mend_fit e h.ff h.cf
        exact h.endS 1 h1 (by rw [h2]; exact h.fl)
      · exact h.endS 2 fitL_nil (by simp)
    · exact h.endS 2 fitL_nil (by simp)
theorem WfR.endF {s : RS} (h : WfR s) (fr st t : Nat) : WfR (endFO s fr st t).s := by
  unfold endFO
  split
  · exact h.endS 2 fitL_nil (by simp)
  · split
    · exact h.endS 1 h.cf (by rw [h.cml]; exact h.nml)
    · obtain ⟨n1, n2, n3⟩ := needs_ok h
      exact h.round (.inr rfl) (by rw [List.length_map]; exact n1) (fun k hk => by obtain ⟨q, hq, rfl⟩ := List.mem_map.1 hk; exact (n2 q hq).1) n3 h.cf (by rw [h.cml]; exact h.nml) (fun _ => rfl) (fun q hq => (n2 q hq).2) (fun e => by cases e)
def End2 (w : World) (p cp : Nat) (F : Nat → Prop) (s : RS) (e : Ending) (w' : World) : Prop := e = .returned (.tuple #[]) ∧ ∃ G, IsRd w' p cp G s ∧ (∀ i, G i → F i ∨ w.heap.size ≤ i) ∧ Keeps F w w'
theorem end2_of {w X w' : World} {p cp : Nat} {F : Nat → Prop} {s : RS} (hX : Keeps no w X) (hI : IsRd w' p cp F s) (hk : Keeps F X w') : End2 w p cp F s (.returned (.tuple #[])) w' := ⟨rfl, F, hI, fun i hi => .inl hi, hX.of_no.trans hk⟩
set_option maxRecDepth 10000 in
set_option maxHeartbeats 1000000 in
theorem endSecond_any (w : World) (p cp : Nat) (F : Nat → Prop) (s : RS) (h : IsRd w p cp F s) (hw : WfR s) (he : s.ended = 0) :
    Calls Try.prog 34 #[.pointer (some ⟨p, 0, none⟩)] w (End2 w p cp F (endS2 s)) := by
  obtain ⟨nmo, nc, ro, rc, rz, co, cc, cs, vo, vc, vs, hl⟩ : ∃ nmo nc ro rc rz co cc cs vo vc vs, RdL w p cp F s nmo nc ro rc rz co cc cs vo vc vs := by
    rcases h.2.2 with ⟨h0, _⟩ | ⟨_, h1⟩
    · exact absurd he h0
    · exact h1
  have c7 : w.cell? ⟨p, 7, none⟩ = some (.slice co s.came.length cc) := by rw [cell_of_blk hl.blk]; rfl
  have c8 : w.cell? ⟨p, 8, none⟩ = some (.slice vo s.first.length vc) := by rw [cell_of_blk hl.blk]; rfl
  have hcl : s.came.length ≤ 1024 := by rw [hw.cml]; exact hw.nml
  have HCN : Hid (Calls Try.prog 50 #[.slice co s.came.length cc, .func (.func 51) #[] #[]] w fun e w' => e = .returned (.bool (goneB s.came)) ∧ Keeps no w w') := containsG_any w co s.came.length cc cs s.came rfl hcl hl.came
  have HMD : Hid (∀ X, Keeps no w X → Calls Try.prog 52 #[.slice vo s.first.length vc, .slice co s.came.length cc] X fun e w' => ∃ u, e = .returned u ∧ MendO X s.first s.came u w') := fun X hX =>
    pMendO_any X vo s.first.length vc vs s.first co s.came.length cc cs s.came rfl rfl hw.ff hw.cf (hl.ver.keepsN hX) (hl.came.keepsN hX)
  have HEN : Hid (∀ X, Keeps no w X → Calls Try.prog 40 #[.pointer (some ⟨p, 0, none⟩), .int .i64 2, .slice none 0 0] X fun e w' => e = .returned (.tuple #[]) ∧ IsRd w' p cp F (endS s 2 []) ∧ Keeps F X w') := fun X hX =>
    endR_any X p cp F s (h.keeps hX (fun _ _ => id)) he 2 (by decide) [] none 0 [] (vers_nil X) (fun i hi => (vb_nil hi).elim)
  have HEO : Hid (∀ X0 X m o n c rs, Keeps no w X0 → n = m.length → NewVo X0 o c rs m X → Calls Try.prog 40 #[.pointer (some ⟨p, 0, none⟩), .int .i64 1, .slice o n c] X (End2 w p cp F (endS s 1 m))) := by
    intro X0 X m o n c rs h0 hn hv
    subst hn
    have hX := h0.trans hv.kp
    have hI : IsRd X p cp (fun i => F i ∨ (w.heap.size ≤ i ∧ i < X.heap.size)) s := (h.keeps hX (fun _ _ => id)).wide (fun i hi => .inl hi) (fun i hi => by
      rcases hi with hi | hi
      · have := h.2.1 i hi; have := hX.size; omega
      · exact hi.2)
    have hp := h.2.1 p h.1
    refine (endR_any X p cp _ s hI he 1 (by decide) m o c rs hv.vers (fun i hi => ?_)).mono ?_
    · have := hv.vb i hi
      have := h0.size
      exact ⟨.inr ⟨by omega, by omega⟩, by omega⟩
    · rintro e w' ⟨rfl, hI2, hk⟩
      exact ⟨rfl, _, hI2, fun i hi => hi.imp id (fun h => h.1), hX.of_no.then hk (fun i hi => hi.imp id (fun h => h.1))⟩
  have HCX : Hid (∀ X, Keeps no w X → X.cell? ⟨p, 7, none⟩ = some (.slice co s.came.length cc) ∧ X.cell? ⟨p, 8, none⟩ = some (.slice vo s.first.length vc)) := fun X hX => ⟨hX.cellN c7, hX.cellN c8⟩
  clear hl h hw he
  obtain ⟨cn, hcn⟩ : ∃ cn, cn = s.came.length := ⟨_, rfl⟩
  obtain ⟨vn, hvn⟩ : ∃ vn, vn = s.first.length := ⟨_, rfl⟩
  rw [← hcn] at c7 HCN HMD HCX
  rw [← hvn] at c8 HMD HCX
  clear hcn hvn hcl
  by_cases hg : goneB s.came = true
  · have HO : Hid (endS2 s = endS s 2 []) := by show _ = _; unfold endS2; rw [if_pos hg]
    rw [HO.out]
    rw [hg] at HCN
    clear HO hg HMD HEO
    go_enter Try.func34, Try.ntmps34
    go_wp2_with fail
    refine Calls.mono HCN.out ?_
    rintro e w1 ⟨rfl, hk1⟩
    have HK1 : Hid (Keeps no w w1) := hk1
    clear hk1
    go_wp2_with fail
    refine (HEN.out w1 HK1.out).mono ?_
    rintro e w2 ⟨rfl, hI, hk2⟩
    have H2 : Hid (End2 w p cp F (endS s 2 []) (.returned (.tuple #[])) w2) := end2_of HK1.out hI hk2
    clear hI hk2
    go_wp2_with fail
    first | go_end0 | go_ret
    exact H2.out
  · have hgf : goneB s.came = false := by cases e : goneB s.came with | false => rfl | true => exact absurd e hg
    rw [hgf] at HCN
    by_cases hm : ∃ m, formedB s.first = true ∧ mendV s.first s.came = some m
    · obtain ⟨m, hm1, hm2⟩ := hm
      have HO : Hid (endS2 s = endS s 1 m) := by show _ = _; unfold endS2; rw [if_neg hg, if_pos hm1, hm2]
      rw [HO.out]
      have HM2 : Hid (∀ X, Keeps no w X → Calls Try.prog 52 #[.slice vo vn vc, .slice co cn cc] X fun e w' => ∃ o n c, e = .returned (.tuple #[.slice o n c, .int .i64 0]) ∧ Hid (n = m.length ∧ ∃ rs, NewVo X o c rs m w')) := fun X hX => by
        refine (HMD.out X hX).mono ?_
        rintro e w' ⟨u, rfl, h | h | ⟨_, m', o, n, c, rs, h1, rfl, h2, h3⟩⟩
        · rw [hm1] at h; cases h.1
        · rw [hm2] at h; cases h.2.1
        · rw [hm2] at h1; cases h1
          exact ⟨o, n, c, rfl, h2, rs, h3⟩
      clear HO hg hgf hm1 hm2 HMD HEN
      go_enter Try.func34, Try.ntmps34
      go_wp2_with fail
      refine Calls.mono HCN.out ?_
      rintro e w1 ⟨rfl, hk1⟩
      have HK1 : Hid (Keeps no w w1) := hk1
      obtain ⟨d7, d8⟩ := HCX.out w1 hk1
      have HS : Hid (∀ X, Keeps no w1 X → X.cell? ⟨p, 7, none⟩ = some (.slice co cn cc) ∧ X.cell? ⟨p, 8, none⟩ = some (.slice vo vn vc)) := fun X hX => HCX.out X (HK1.out.trans hX)
      clear hk1 c7 c8 HCN
      go_upto_region 2 with fail
      go_region_held3 (fun X => X.cell? ⟨p, 7, none⟩ = some (.slice co cn cc) ∧ X.cell? ⟨p, 8, none⟩ = some (.slice vo vn vc)) (first | exact HS.out _ ((Keeps.refl no w1).drew) | exact HS.out _ (Keeps.refl no w1) | exact HS.out _ K2.out.1) ((go_at_call 52; refine (HM2.out _ (HK1.out.trans ((Keeps.refl no w1).drew))).mono ?_; rintro e w2 ⟨o, n, c, rfl, HR⟩; have K2 : Hid (Keeps no w1 w2 ∧ n = m.length ∧ ∃ rs, NewVo w1.drew o c rs m w2) := ⟨(Keeps.refl no w1).drew.trans (by obtain ⟨rs, h⟩ := HR.out.2; exact h.kp), HR.out⟩; clear HR))
      go_wp2_with fail
      have HEX : Hid (Calls Try.prog 40 #[.pointer (some ⟨p, 0, none⟩), .int .i64 1, .slice o n c] w2 (End2 w p cp F (endS s 1 m))) := by
        obtain ⟨_, h1, rs, h2⟩ := K2.out
        exact HEO.out _ _ m o n c rs (HK1.out.trans ((Keeps.refl no w1).drew)) h1 h2
      refine Calls.mono HEX.out ?_
      rintro e w3 ⟨rfl, h3⟩
      have H3 : Hid (End2 w p cp F (endS s 1 m) (.returned (.tuple #[])) w3) := ⟨rfl, h3⟩
      clear h3
      go_wp2_with fail
      first | go_end0 | go_ret
      exact H3.out
    · have HO : Hid (endS2 s = endS s 2 []) := by
        show _ = _
        unfold endS2
        rw [if_neg hg]
        split
        · rename_i h1
          cases e : mendV s.first s.came with
          | none => rfl
          | some m => exact absurd ⟨m, h1, e⟩ hm
        · rfl
      rw [HO.out]
      obtain ⟨z, hz, HM2⟩ : ∃ z : Int, (z = 1 ∨ z = 110) ∧ Hid (∀ X, Keeps no w X → Calls Try.prog 52 #[.slice vo vn vc, .slice co cn cc] X fun e w' => e = .returned (.tuple #[.slice none 0 0, .int .i64 z]) ∧ Keeps no X w') := by
        by_cases hf : formedB s.first = false
        · refine ⟨1, .inl rfl, fun X hX => (HMD.out X hX).mono ?_⟩
          rintro e w' ⟨u, rfl, h | h | h⟩
          · exact ⟨by rw [h.2.1], h.2.2⟩
          · rw [hf] at h; cases h.1
          · rw [hf] at h; cases h.1
        · refine ⟨110, .inr rfl, fun X hX => (HMD.out X hX).mono ?_⟩
          rintro e w' ⟨u, rfl, h | h | ⟨h1, m, _, _, _, _, h2, _⟩⟩
          · exact absurd h.1 hf
          · exact ⟨by rw [h.2.2.1], h.2.2.2⟩
          · exact absurd ⟨m, h1, h2⟩ hm
      have hzn : (z != 0) = true := by rcases hz with rfl | rfl <;> rfl
      have hzb : z ≤ 110 ∧ 1 ≤ z := by rcases hz with rfl | rfl <;> decide
      clear HO hg hgf hm HMD HEO hz
      go_enter Try.func34, Try.ntmps34
      go_wp2_with fail
      refine Calls.mono HCN.out ?_
      rintro e w1 ⟨rfl, hk1⟩
      have HK1 : Hid (Keeps no w w1) := hk1
      obtain ⟨d7, d8⟩ := HCX.out w1 hk1
      have HS : Hid (∀ X, Keeps no w1 X → X.cell? ⟨p, 7, none⟩ = some (.slice co cn cc) ∧ X.cell? ⟨p, 8, none⟩ = some (.slice vo vn vc)) := fun X hX => HCX.out X (HK1.out.trans hX)
      clear hk1 c7 c8 HCN
      go_upto_region 2 with fail
      go_region_held3 (fun X => X.cell? ⟨p, 7, none⟩ = some (.slice co cn cc) ∧ X.cell? ⟨p, 8, none⟩ = some (.slice vo vn vc)) (first | exact HS.out _ ((Keeps.refl no w1).drew) | exact HS.out _ (Keeps.refl no w1) | exact HS.out _ K2.out) ((go_at_call 52; refine (HM2.out _ (HK1.out.trans ((Keeps.refl no w1).drew))).mono ?_; rintro e w2 ⟨rfl, hk2⟩; have K2 : Hid (Keeps no w1 w2) := (Keeps.refl no w1).drew.trans hk2; clear hk2))
      go_wp2_with fail
      refine Calls.mono (HEN.out w2 (HK1.out.trans K2.out)) ?_
      rintro e w3 ⟨rfl, hI, hk3⟩
      have H3 : Hid (End2 w p cp F (endS s 2 []) (.returned (.tuple #[])) w3) := end2_of (HK1.out.trans K2.out) hI hk3
      clear hI hk3
      go_wp2_with fail
      first | go_end0 | go_ret
      exact H3.out
end Go.Proofs.Ytileipnoiocdlaa
