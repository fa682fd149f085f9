import Derived.Test.YtileipnoiocdlaaR4
/- Again. -/
namespace Go.Proofs.Ytileipnoiocdlaa
open Go.RowKit Go.Sort Orl
set_option linter.unusedVariables false
set_option linter.unusedSimpArgs false

/-- one question more told -/
theorem Tq.push {w wr w4 w5 : World} {o o5 : Option Addr} {c c5 : Nat} {rs : List RQ} {qs : List Qn} {r : RQ} {q : Qn} (h : Tq wr o c rs qs) (hN : ∀ i, TB o rs qs.length i → w.heap.size ≤ i) (hk : Keeps no w wr) (k4 : Keeps no wr w4) (hq : QNw w4 r q) (hko : New wr r.ko) (hwo : New wr r.wo) (ho : Own QE w5 o5 c5 (rs ++ [r])) (ha : Ap w4 o o5 w5) :
    Tq w5 o5 c5 (rs ++ [r]) (qs ++ [q]) ∧ (∀ i, TB o5 (rs ++ [r]) (qs ++ [q]).length i → w.heap.size ≤ i) ∧ Keeps no w w5 := by
  have hk5 : Keeps (inO o) w4 w5 := by
    rcases ha with ⟨_, k⟩ | ⟨_, k⟩
    · exact k
    · exact k.of_no
  have hw5 := ha.new (w0 := w) (fun i hi => hN i (.inl hi)) (hk.trans k4)
  have h4 := h.keepsN k4
  have nP : WE.e ≠ QE.e := by decide
  have nT : TE.e ≠ QE.e := by decide
  have eR : ∀ j, (rs ++ [r]).getD j rq0 = if j < qs.length then rs.getD j rq0 else [r].getD (j - qs.length) rq0 := fun j => by rw [getD_app, h.len]
  have eQ : ∀ j, (qs ++ [q]).getD j q0 = if j < qs.length then qs.getD j q0 else [q].getD (j - qs.length) q0 := fun j => by rw [getD_app]
  have hl : (qs ++ [q]).length = qs.length + 1 := by simp
  refine ⟨⟨ho, by simp [h.len], ?_, ?_, ?_⟩, ?_, hw5.2⟩
  · intro j hj
    rw [eR, eQ]
    by_cases e : j < qs.length
    · rw [if_pos e, if_pos e]
      exact (h4.each j e).keeps hk5 (fun i hi => hi.elim (own_apart nT (h4.each j e).ks h4.own i) (own_apart nP (h4.each j e).ws h4.own i))
    · rw [if_neg e, if_neg e, show j - qs.length = 0 by omega]
      exact hq.keeps hk5 (fun i hi => hi.elim (own_apart nT hq.ks h4.own i) (own_apart nP hq.ws h4.own i))
  · intro i j hij hj k
    rw [eR, eR, if_pos (show i < qs.length by omega)]
    by_cases e : j < qs.length
    · rw [if_pos e]; exact h.sepK i j hij e k
    · rw [if_neg e, show j - qs.length = 0 by omega]
      intro h1 h2
      have := (h.each i (by omega)).ks.lt k h1
      have := hko k h2
      omega
  · intro i j hij hj k
    rw [eR, eR, if_pos (show i < qs.length by omega)]
    by_cases e : j < qs.length
    · rw [if_pos e]; exact h.sepW i j hij e k
    · rw [if_neg e, show j - qs.length = 0 by omega]
      intro h1 h2
      have := (h.each i (by omega)).ws.lt k h1
      have := hwo k h2
      omega
  · rintro i (hi | ⟨j, hj, hi⟩)
    · exact hw5.1 i hi
    · rw [eR] at hi
      by_cases e : j < qs.length
      · rw [if_pos e] at hi; exact hN i (.inr ⟨j, e, hi⟩)
      · rw [if_neg e, show j - qs.length = 0 by omega] at hi
        rcases hi with hi | hi
        · exact Nat.le_trans hk.size (hko i hi)
        · exact Nat.le_trans hk.size (hwo i hi)
theorem askedR_len (s : RS) : (askedR s).length = (undone s).length := by simp [askedR]
theorem undone_lt {s : RS} {j : Nat} (hj : j < (undone s).length) : (undone s).getD j 0 < (psR s).length := by
  have h := getD_mem_lt 0 hj
  have := (List.mem_filter.1 h).1
  exact List.mem_range.1 this
theorem undone_le (s : RS) : (undone s).length ≤ (psR s).length := by
  unfold undone; exact Nat.le_trans (List.length_filter_le _ _) (by simp)
theorem askedR_at {s : RS} {j : Nat} (hj : j < (undone s).length) : (askedR s).getD j q0 = qAt s ((undone s).getD j 0) := by
  unfold askedR
  simp [List.getD_eq_getElem?_getD, hj]
theorem ps_le (s : RS) : (psR s).length ≤ s.parts := prt_len _ _ _ _
theorem ps_keys {s : RS} {i : Nat} (hi : i < (psR s).length) : ((psR s).getD i pp0).2.length ≤ s.nm.length ∧ (∀ k ∈ ((psR s).getD i pp0).2, k ∈ s.nm) ∧ ((psR s).getD i pp0).1 < s.parts ∧ ((psR s).getD i pp0).2 ≠ [] := by
  have h := getD_mem_lt pp0 hi
  have h2 := prt_mem s.parts idT s.nm s.parts _ h
  refine ⟨by rw [h2.2.1]; exact ownOf_length _ _ _ _, fun k hk => ?_, h2.1, h2.2.2⟩
  rw [h2.2.1] at hk
  exact (List.mem_filter.1 hk).1
theorem qAt_fit {s : RS} (h : WfR s) {i : Nat} (hi : i < (psR s).length) : (qAt s i).keys.length ≤ 1024 ∧ (qAt s i).wants.length ≤ 1024 := by
  have h1 := (ps_keys hi).1
  have h2 := h.nml
  unfold qAt
  constructor
  · simp only; split
    · omega
    · simp
  · simp only; split
    · simp
    · rw [List.length_map]; omega
set_option maxRecDepth 10000 in
set_option maxHeartbeats 1000000 in
theorem again_key (w : World) (p n : Nat) (ro : Option Addr) (rc : Nat) (rz : List RZ) (qs : List Qn) (c6 : w.cell? ⟨p, 6, none⟩ = some (.slice ro n rc)) (hnb : (n : Int) ≤ 64) (hz : Own RE w ro rc rz ∧ rz.length = n ∧ n = qs.length ∧ ∀ j, j < n → QNw w (rz.getD j rz0).q (qs.getD j q0) ∧ (qs.getD j q0).keys.length ≤ 1024 ∧ (qs.getD j q0).wants.length ≤ 1024) :
    Calls Try.prog 11 #[.pointer (some ⟨p, 0, none⟩)] w fun e w' => ∃ o n c rs, e = .returned (.slice o n c) ∧ Hid (n = qs.length ∧ Tq w' o c rs qs ∧ (∀ i, TB o rs qs.length i → w.heap.size ≤ i) ∧ Keeps no w w') := by
  have HZ : Hid (Own RE w ro rc rz ∧ rz.length = n ∧ n = qs.length ∧ ∀ j, j < n → QNw w (rz.getD j rz0).q (qs.getD j q0) ∧ (qs.getD j q0).keys.length ≤ 1024 ∧ (qs.getD j q0).wants.length ≤ 1024) := hz
  clear hz
  go_enter Try.func11, Try.ntmps11
  go_wp2_with fail
  go_loopw [3, 11] (fun s3 s11 wr => ∃ (k m : Nat) (o : Option Addr) (c : Nat), k ≤ n ∧ s11 = .int .i64 k ∧ s3 = .slice o m c ∧ Hid (∃ rs, m = k ∧ Tq wr o c rs (qs.take k) ∧ (∀ i, TB o rs (qs.take k).length i → w.heap.size ≤ i) ∧ Keeps no w wr)) (fun _ s11 _ => n - (intOf s11).toNat)
  case atStart => exact ⟨0, 0, none, 0, by omega, rfl, rfl, [], rfl, tq_nil w, fun i hi => by rcases hi with ⟨x, e, _⟩ | ⟨j, hj, _⟩; cases e; simp at hj, Keeps.refl _ _⟩
  case round =>
    rename World => wr
    obtain ⟨k, m, o, c, hk, rfl, rfl, HT⟩ := hrel
    by_cases hlt : k < n
    · have hlt' : (k : Int) < n := by omega
      have hlq : k < qs.length := by have := HZ.out.2.2.1; omega
      obtain ⟨rs, hm0, ht0, hN0, hk0⟩ := HT.out
      have HT2 : Hid (m = k ∧ Tq wr o c rs (qs.take k) ∧ (∀ i, TB o rs (qs.take k).length i → w.heap.size ≤ i) ∧ Keeps no w wr ∧ rs.length = k) := ⟨hm0, ht0, hN0, hk0, by rw [ht0.len, List.length_take]; omega⟩
      obtain ⟨b, hob, hfz, ⟨a0, a1, a2, a3, a4, a5, a6, a7, a8⟩, a9⟩ := (HZ.out.1.keepsN hk0).atRE (j := k) (by rw [HZ.out.2.1]; exact hlt)
      have hq := HZ.out.2.2.2 k hlt
      have HX : Hid (qs.take (k + 1) = qs.take k ++ [qs.getD k q0]) := take_succ_getD qs k q0 hlq
      simp only [Nat.zero_add] at a0 a1 a2 a3 a4 a5 a6 a7 a8 a9
      subst hob
      clear HT hm0 ht0 hN0 hk0 hfz hlq
      generalize qs.getD k q0 = q at hq HX
      generalize rz.getD k rz0 = r at a0 a1 a2 a3 a4 a5 a6 a7 a8 a9 hq
      obtain ⟨⟨x0, x1, x2, x3, xko, xkn, xkc, xwo, xwn, xwc⟩, mb⟩ := r
      simp only at a0 a1 a2 a3 a4 a5 a6 a7 a8 a9 hq
      have HQ : Hid (∀ X, Keeps no wr X → Calls Try.prog 27 #[.agg #[.int .i64 x0, .int .i64 x1, .int .i64 x2, .int .u64 (x3 : Nat), .int .u64 0, .slice none 0 0, .slice xko xkn xkc, .slice xwo xwn xwc, .slice none 0 0]] X (ToldTo X q)) := fun X hX => told_any X ⟨x0, x1, x2, x3, xko, xkn, xkc, xwo, xwn, xwc⟩ _ ((hq.1.keepsN HT2.out.2.2.2.1).keepsN hX) hq.2
      have hkB : (k : Int) ≤ 64 := by omega
      clear hq
      go_wp2_with (first | (go_at_call 27; go_loud (refine (HQ.out _ ((Keeps.refl _ _).alloc _)).mono ?_); rintro e w3 ⟨r3, rfl, hq3, hp3, ho3, hk3⟩; unfold aggQ; have H3 : Hid (QNw w3 r3 q ∧ New wr r3.ko ∧ New wr r3.wo ∧ Keeps no wr w3) := ⟨hq3, hp3.of_le (by simp), ho3.of_le (by simp), ((Keeps.refl _ _).alloc _).trans hk3⟩; clear hq3 hp3 ho3 hk3) | (at_builtin; go_loud (refine wpList_app okQ rfl _ _ rfl o m c rs rfl (by rw [HT2.out.2.2.2.2]; exact HT2.out.1) (HT2.out.2.1.own.keepsN (H3.out.2.2.2.alloc _)) _ _ _ [r3] rfl rfl (fun h => by cases h) (lit_one (E := QE) _ r3 _ rfl).row (by rw [HT2.out.2.2.2.2]; simp [QE]; omega) (by rw [HT2.out.2.2.2.2]; simp; omega) ?_); intro o5 c5 w5 ho5 hap5))
      go_roundw
      case rel =>
        obtain ⟨h1, h2, h3, h4, h5⟩ := HT2.out
        have := h2.push h3 h4 (H3.out.2.2.2.alloc _) (H3.out.1.keeps ((Keeps.refl no _).alloc _) (fun _ _ => id)) H3.out.2.1 H3.out.2.2.1 ho5 hap5
        refine ⟨k + 1, m + 1, o5, c5, by omega, by go_num, rfl, rs ++ [r3], by rw [h1], ?_⟩
        rw [HX.out]
        exact this
      case measure => simp [intOf]; omega
    · have hlt' : ¬ (k : Int) < n := by omega
      have HE : Hid (∃ rs, m = qs.length ∧ Tq wr o c rs qs ∧ (∀ i, TB o rs qs.length i → w.heap.size ≤ i) ∧ Keeps no w wr) := by
        obtain ⟨rs, h1, h2⟩ := HT.out
        have e : k = qs.length := by have := HZ.out.2.2.1; omega
        rw [e, List.take_length] at h2
        exact ⟨rs, by rw [h1, e], h2⟩
      clear HT
      go_wp2_with fail
      go_ret
      obtain ⟨rs, h1⟩ := HE.out
      exact ⟨o, m, c, rfl, rs, h1⟩
theorem rAgain_end {w : World} {p cp fr st : Nat} {F : Nat → Prop} {s : RS} {t : Nat} (h : IsRd w p cp F s) (hc : IsCt w cp fr st t) (he : ¬ s.ended = 0) :
    Calls Try.prog 11 #[.pointer (some ⟨p, 0, none⟩)] w (TellTo w p cp fr st F ⟨s, [], t⟩) := by
  obtain ⟨vo, vc, vs, hb⟩ : ∃ vo vc vs, w.heap[p]? = some (.cells (rdC none 0 0 0 0 .nilFunc 3 s.ended none 0 0 none 0 0 vo s.out.length vc) 79 (0, 0)) ∧ Vers w vo vc vs s.out := by
    rcases h.2.2 with ⟨_, vo, vc, vs, hb, hv, _⟩ | ⟨h0, _⟩
    · exact ⟨vo, vc, vs, hb, hv⟩
    · exact absurd h0 he
  have c6 : w.cell? ⟨p, 6, none⟩ = some (.slice none 0 0) := by rw [cell_of_blk hb.1]; rfl
  refine (again_key w p 0 none 0 [] [] c6 (by decide) ⟨own_nil w, rfl, rfl, fun j hj => by omega⟩).mono ?_
  rintro e w' ⟨o, n, c, rs, rfl, H⟩
  obtain ⟨h1, h2, h3, h4⟩ := H.out
  exact ⟨o, n, c, rs, F, rfl, h1, h2, h3, h.keeps h4 (fun _ _ => id), fun i hi => .inl hi, fun i hi hF => by have := h3 i hi; have := h.lt i hF; omega, hc.keeps h4 id, h4.of_no⟩
set_option maxRecDepth 10000 in
set_option maxHeartbeats 1000000 in
theorem rAgain_any (w : World) (p cp fr st : Nat) (F : Nat → Prop) (s : RS) (t : Nat) (h : IsRd w p cp F s) (hw : WfR s) (hc : IsCt w cp fr st t) (hcF : ¬ F cp) (he : s.ended = 0) :
    Calls Try.prog 11 #[.pointer (some ⟨p, 0, none⟩)] w (TellTo w p cp fr st F ⟨s, askedR s, t⟩) := by
  obtain ⟨nmo, nc, ro, rc, rz, co, cc, cs, vo, vc, vs, hl⟩ : ∃ nmo nc ro rc rz co cc cs vo vc vs, RdL w p cp F s nmo nc ro rc rz co cc cs vo vc vs := by
    rcases h.2.2 with ⟨h0, _⟩ | ⟨_, h1⟩
    · exact absurd he h0
    · exact h1
  have c6 : w.cell? ⟨p, 6, none⟩ = some (.slice ro (undone s).length rc) := by rw [cell_of_blk hl.blk]; rfl
  have HI : Hid (IsRd w p cp F s ∧ IsCt w cp fr st t ∧ ¬ F cp) := ⟨h, hc, hcF⟩
  obtain ⟨n, hn⟩ : ∃ n, n = (undone s).length := ⟨_, rfl⟩
  rw [← hn] at c6
  have hnb : (n : Int) ≤ 64 := by have := undone_le s; have := ps_le s; have := hw.p2; omega
  have hZ := hl.zs
  have HZ : Hid (Own RE w ro rc rz ∧ rz.length = n ∧ n = (askedR s).length ∧ ∀ j, j < n → QNw w (rz.getD j rz0).q ((askedR s).getD j q0) ∧ ((askedR s).getD j q0).keys.length ≤ 1024 ∧ ((askedR s).getD j q0).wants.length ≤ 1024) := by
    refine ⟨hZ.own, by rw [hZ.lenI, hn], by rw [askedR_len, hn], fun j hj => ?_⟩
    rw [hn] at hj
    refine ⟨hZ.each j hj, ?_⟩
    rw [askedR_at hj]
    exact qAt_fit hw (undone_lt hj)
  clear hl hZ h hc hcF hw hn he
  generalize askedR s = qs at HZ ⊢
  refine (again_key w p n ro rc rz qs c6 hnb HZ.out).mono ?_
  rintro e w' ⟨o, n, c, rs, rfl, H⟩
  obtain ⟨h1, h2, h3, h4⟩ := H.out
  exact ⟨o, n, c, rs, F, rfl, h1, h2, h3, HI.out.1.keeps h4 (fun _ _ => id), fun i hi => .inl hi, fun i hi hF => by have := h3 i hi; have := HI.out.1.lt i hF; omega, HI.out.2.1.keeps h4 id, h4.of_no⟩
end Go.Proofs.Ytileipnoiocdlaa
/- Versions' places; the messages of a round. -/
namespace Go.Proofs.Ytileipnoiocdlaa
open Go.RowKit Go.Sort Orl
set_option linter.unusedVariables false
set_option linter.unusedSimpArgs false

set_option maxRecDepth 10000 in
set_option maxHeartbeats 1000000 in
theorem bottoms_any (w : World) (a : Option Addr) (n c : Nat) (xs : List Tx) (hn : n = xs.length) (hl : xs.length ≤ 1024) (hs : Sl TE w a c xs) :
    Calls Try.prog 44 #[.slice a n c] w (VersTo w (xs.map botV')) := by
  have HA : Hid (n = xs.length ∧ Sl TE w a c xs) := ⟨hn, hs⟩
  have hA : (n : Int) ≤ 1024 := by omega
  obtain ⟨w1, hr1, ho1, hk1⟩ := makeV w n (by omega)
  clear hn hl hs
  go_enter Try.func44, Try.ntmps44
  go_wp2_with fail
  go_loopw [3, 11] (fun s3 i wr => ∃ (k : Nat) (o : Option Addr) (m d : Nat), k ≤ n ∧ i = .int .i64 k ∧ s3 = .slice o m d ∧ Hid (∃ rs, m = k ∧ NewVo w o d rs ((xs.map botV').take k) wr)) (fun _ i _ => n - (intOf i).toNat)
  case atStart => exact ⟨0, _, 0, _, by omega, rfl, rfl, [], rfl, ⟨ho1, rfl, fun j hj => by simp at hj, new_fresh _ _ (Nat.le_refl _) _, fun j hj => by simp at hj, fun i j _ hj => by simp at hj, hk1⟩⟩
  case round =>
    rename World => wr
    obtain ⟨k, o, m, d, hk, rfl, rfl, HR⟩ := hrel
    by_cases h2 : k < n
    · have hlt' : (k : Int) < n := by omega
      have hka : k < xs.length := by rw [← HA.out.1]; exact h2
      have hkm : k < (xs.map botV').length := by rw [List.length_map]; exact hka
      obtain ⟨rs, hm, hnv⟩ := HR.out
      obtain ⟨b1, off1, e1, d1⟩ := (HA.out.2.keepsN hnv.kp).at hka
      obtain ⟨x, hx⟩ : ∃ x, x = xs.getD k e0 := ⟨_, rfl⟩
      rw [← hx] at d1
      have HX : Hid ((xs.map botV').take (k + 1) = (xs.map botV').take k ++ [botV' x]) := by
        show _ = _
        rw [take_succ_getD _ k v0 hkm, hx]
        congr 1
        simp [List.getD_eq_getElem?_getD, hka]
      have HRN : Hid (m = k ∧ NewVo w o d rs ((xs.map botV').take k) wr ∧ rs.length = k) := ⟨hm, hnv, by rw [hnv.len, List.length_take]; omega⟩
      have hkB : (k : Int) ≤ 1024 := by omega
      have HRO : Hid (Row VE (wr.alloc (.cells #[.string x, .int .u64 0, .string ⟨#[]⟩, .slice none 0 0] 46)) (some ⟨wr.heap.size, 0, none⟩) [⟨x, 0, e0, none, 0, 0⟩]) := (lit_one (E := VE) wr ⟨x, 0, e0, none, 0, 0⟩ #[.string x, .int .u64 0, .string ⟨#[]⟩, .slice none 0 0] rfl).row
      have HOA : Hid (Own VE (wr.alloc (.cells #[.string x, .int .u64 0, .string ⟨#[]⟩, .slice none 0 0] 46)) o d rs ∧ m = rs.length) := ⟨hnv.own.keepsN ((Keeps.refl _ _).alloc _), by rw [hm, hnv.len, List.length_take]; omega⟩
      have HBD : Hid ((rs.length + [(⟨x, 0, e0, none, 0, 0⟩ : RV)].length) * VE.nb ≤ 140737488355328 ∧ rs.length + [(⟨x, 0, e0, none, 0, 0⟩ : RV)].length ≤ 140737488355328) := by rw [HRN.out.2.2]; exact ⟨by simp [VE]; omega, by simp; omega⟩
      subst e1
      clear hx hka hkm hm hnv HR
      go_wp2_with (at_builtin; refine wpList_app okV rfl _ _ rfl _ _ _ rs rfl HOA.out.2 HOA.out.1 _ _ _ [⟨x, 0, e0, none, 0, 0⟩] rfl rfl (fun h => by cases h) HRO.out HBD.out.1 HBD.out.2 ?_; intro o1 c1 w5 ho5 hap5)
      go_roundw
      case rel =>
        refine ⟨k + 1, o1, m + 1, c1, by omega, by go_num, rfl, rs ++ [⟨x, 0, e0, none, 0, 0⟩], by rw [HRN.out.1], ?_⟩
        rw [HX.out]
        exact HRN.out.2.1.push ((Keeps.refl _ _).alloc _) ⟨rfl, rfl, rfl, rfl, own_nil _⟩ (new_none _) ho5 hap5
      case measure => simp [intOf] <;> omega
    · have hlt' : ¬ (k : Int) < n := by omega
      have HE : Hid (∃ rs, m = (xs.map botV').length ∧ NewVo w o d rs (xs.map botV') wr) := by
        obtain ⟨rs, h1, h2⟩ := HR.out
        have e : k = (xs.map botV').length := by rw [List.length_map]; have := HA.out.1; omega
        rw [e, List.take_length] at h2
        exact ⟨rs, by rw [h1, e], h2⟩
      clear HR
      go_wp2_with fail
      go_ret
      obtain ⟨rs, h1, h2⟩ := HE.out
      exact ⟨o, m, d, rs, rfl, h1, h2⟩
/-! ### messages -/
theorem msg_size (a b c d e f g h : Value) : (Try.prog.info? 42).map (·.size) = some (#[a, b, c, d, e, f, g, h] : Array Value).size := by
  show _ = some 8
  kernel_rfl
def aggM (k cl : Int) (req : Nat) (ko : Option Addr) (kn kc : Nat) (wo : Option Addr) (wn wc : Nat) : Value := .agg #[.int .i64 k, .int .i64 cl, .int .u64 (req : Nat), .int .u64 0, .slice none 0 0, .slice ko kn kc, .slice wo wn wc, .slice none 0 0]
set_option maxRecDepth 10000 in
set_option maxHeartbeats 2000000 in
theorem msg1_any (w : World) (o : Option Addr) (n c : Nat) :
    Calls Try.prog 26 #[.slice o n c] w fun e w' => e = .returned (aggM 3 0 0 o n c none 0 0) ∧ Keeps no w w' := by
  unfold aggM
  go_enter Try.func26, Try.ntmps26
  go_wp2_with fail
  (try simp only [Exit.inBlock, Exit.then])
  refine bodyPost_ret (results_row1 rfl _ _ w.heap.size _ rfl (run_loadVar_row _ _ _ _ _ _ _ (blk_new w _) Try.underlying42 rfl (msg_size _ _ _ _ _ _ _ _))) rfl ?_
  exact ⟨rfl, (Keeps.refl _ _).alloc _⟩
/-- the wants of a round, as a map -/
def IdsOf (ws : List Wn) (ks : List Tx) (L : List (Tx × Nat)) : Prop := ∀ k ∈ ks, fnd k L = some (wantOf ws k).2
/-- a message under way -/
structure Mw (w wr : World) (B M : Nat) (wo : Option Addr) (wn wc : Nat) (xs : List Wn) : Prop where
  blk : wr.heap[M]? = some (.cells #[.int .i64 4, .int .i64 0, .int .u64 0, .int .u64 0, .slice none 0 0, .slice none 0 0, .slice wo wn wc, .slice none 0 0] 42 (0, 0))
  res : wr.heap[B]? = some (.cells #[.int .i64 0, .int .i64 0, .int .u64 0, .int .u64 0, .slice none 0 0, .slice none 0 0, .slice none 0 0, .slice none 0 0] 42 (0, 0))
  n : wn = xs.length
  own : Own WE wr wo wc xs
  new : New w wo
  kp : Keeps no w wr
theorem Mw.push {w wr W w5 w6 : World} {B M : Nat} {wo o5 : Option Addr} {wn wc c5 : Nat} {xs : List Wn} {x : Wn} (h : Mw w wr B M wo wn wc xs) (hBM : B ≠ M) (hM : w.heap.size ≤ M) (kW : Keeps no wr W) (ho : Own WE w5 o5 c5 (xs ++ [x])) (ha : Ap W wo o5 w5) (h6 : w6 = w5.setCell ⟨M, 6, none⟩ (.slice o5 (wn + 1) c5)) : Mw w w6 B M o5 (wn + 1) c5 (xs ++ [x]) := by
  subst h6
  have k5 : Keeps (inO wo) wr w5 := by
    rcases ha with ⟨_, k⟩ | ⟨_, k⟩
    · exact kW.of_no.trans k
    · exact (kW.trans k).of_no
  have tag : ∀ b cur, wr.heap[b]? = some (.cells cur 42 (0, 0)) → ¬ inO wo b := by
    intro b cur hb hi
    obtain ⟨c2, h2⟩ := h.own.tag b hi
    rw [hb] at h2; injection h2 with e; injection e with _ e _; exact absurd e (by decide)
  have b5 := k5.at h.blk (tag M _ h.blk)
  have r5 := k5.at h.res (tag B _ h.res)
  have hn := ha.new h.new (h.kp.trans kW)
  refine ⟨by simpa using blk_set b5 6 (.slice o5 (wn + 1) c5), blk_set_ne r5 (p := ⟨M, 6, none⟩) (show B ≠ M from hBM) _, by rw [List.length_append, ← h.n]; rfl, ho.keeps (keeps_one w5 M 6 _) (fun i hi e => ?_), hn.1, hn.2.then (keeps_one w5 M 6 _) (fun i e => .inr (by rw [e]; exact hM))⟩
  obtain ⟨c2, h2⟩ := ho.tag i hi
  rw [e, b5] at h2; injection h2 with e; injection e with _ e _; exact absurd e (by decide)
set_option maxRecDepth 10000 in
set_option maxHeartbeats 2000000 in
theorem msg2_any (w : World) (o : Option Addr) (n c : Nat) (ks : List Tx) (ws : List Wn) (ib mb : Nat) (L : List (Tx × Nat)) (hn : n = ks.length) (hl : ks.length ≤ 1024) (hz : ∀ k ∈ ks, k.size ≤ 65535) (hs : Sl TE w o c ks) (hi : w.cell? ⟨ib, 0, none⟩ = some (.map (some mb))) (hm : IsMp KT Vd w mb L) (hL : IdsOf ws ks L) :
    Calls Try.prog 65 #[.slice o n c, .pointer (some ⟨ib, 0, none⟩)] w fun e w' => ∃ wo wn wc, e = .returned (aggM 4 0 0 none 0 0 wo wn wc) ∧ Hid (wn = ks.length ∧ Own WE w' wo wc (ks.map (wantOf ws)) ∧ New w wo ∧ Keeps no w w') := by
  have HN : Hid (n = ks.length ∧ (∀ k ∈ ks, k.size ≤ 65535) ∧ Sl TE w o c ks ∧ IsMp KT Vd w mb L ∧ IdsOf ws ks L) := ⟨hn, hz, hs, hm, hL⟩
  have HI : Hid (∀ X, Keeps no w X → X.cell? ⟨ib, 0, none⟩ = some (.map (some mb))) := fun X k => k.cellN hi
  have hnb : (n : Int) ≤ 1024 := by omega
  obtain ⟨B, hB⟩ : ∃ B, B = w.heap.size := ⟨_, rfl⟩
  have HB : Hid (∀ W, W = (w.alloc (.cells #[.int .i64 0, .int .i64 0, .int .u64 0, .int .u64 0, .slice none 0 0, .slice none 0 0, .slice none 0 0, .slice none 0 0] 42)).alloc (.cells #[.int .i64 4, .int .i64 0, .int .u64 0, .int .u64 0, .slice none 0 0, .slice none 0 0, .slice none 0 0, .slice none 0 0] 42) → Mw w W B (B + 1) none 0 0 []) := by
    rintro W rfl
    have h2 := two_blk w (.cells #[.int .i64 0, .int .i64 0, .int .u64 0, .int .u64 0, .slice none 0 0, .slice none 0 0, .slice none 0 0, .slice none 0 0] 42) (.cells #[.int .i64 4, .int .i64 0, .int .u64 0, .int .u64 0, .slice none 0 0, .slice none 0 0, .slice none 0 0, .slice none 0 0] 42)
    rw [← hB] at h2
    exact ⟨h2.2, h2.1, rfl, own_nil _, new_none _, ((Keeps.refl _ _).alloc _).alloc _⟩
  have HBB : Hid (B = w.heap.size) := hB
  clear hn hl hz hs hm hL hi
  unfold aggM
  go_enter Try.func65, Try.ntmps65
  go_upto_region 2 with fail
  have h1 := HB.out _ rfl
  rw [← hB]
  generalize (w.alloc (.cells #[.int .i64 0, .int .i64 0, .int .u64 0, .int .u64 0, .slice none 0 0, .slice none 0 0, .slice none 0 0, .slice none 0 0] 42)).alloc (.cells #[.int .i64 4, .int .i64 0, .int .u64 0, .int .u64 0, .slice none 0 0, .slice none 0 0, .slice none 0 0, .slice none 0 0] 42) = w1 at h1 ⊢
  have H1 : Hid (Mw w w1 B (B + 1) none 0 0 []) := h1
  clear h1 HB hB
  go_wp2_with fail
  go_loopw [10] (fun s10 wr => ∃ k : Nat, k ≤ n ∧ s10 = .int .i64 k ∧ Hid (∃ wo wc, Mw w wr B (B + 1) wo k wc ((ks.take k).map (wantOf ws)))) (fun s10 _ => n - (intOf s10).toNat)
  case atStart => exact ⟨0, by omega, rfl, none, 0, H1.out⟩
  case round =>
    rename World => wr
    obtain ⟨k, hk, rfl, HR⟩ := hrel
    clear H1
    obtain ⟨wo, wc, hM⟩ := HR.out
    have HM : Hid (Mw w wr B (B + 1) wo k wc ((ks.take k).map (wantOf ws))) := hM
    have b0 := cell_of_blk hM.blk 0
    have b1 := cell_of_blk hM.blk 1
    have b2 := cell_of_blk hM.blk 2
    have b3 := cell_of_blk hM.blk 3
    have b4 := cell_of_blk hM.blk 4
    have b5 := cell_of_blk hM.blk 5
    have b6 := cell_of_blk hM.blk 6
    have b7 := cell_of_blk hM.blk 7
    simp only [List.getElem?_toArray, List.getElem?_cons_succ, List.getElem?_cons_zero] at b0 b1 b2 b3 b4 b5 b6 b7
    by_cases hlt : k < n
    · have hlt' : (k : Int) < n := by omega
      have hkl : k < ks.length := by rw [← HN.out.1]; exact hlt
      obtain ⟨b, off, eo, d0⟩ := (HN.out.2.2.1.keepsN hM.kp).at hkl
      have hkm := getD_mem_lt e0 hkl
      have HX : Hid ((ks.take (k + 1)).map (wantOf ws) = (ks.take k).map (wantOf ws) ++ [wantOf ws (ks.getD k e0)]) := by show _ = _; rw [take_succ_getD ks k e0 hkl, List.map_append]; rfl
      have hlk := lookTD (HN.out.2.2.2.1.keepsN hM.kp) (k := ks.getD k e0) (by have := HN.out.2.1 _ hkm; unfold maxLen; omega) (HN.out.2.2.2.2 _ hkm)
      have hwk : wantOf ws (ks.getD k e0) = (ks.getD k e0, (wantOf ws (ks.getD k e0)).2) := rfl
      generalize (wantOf ws (ks.getD k e0)).2 = v at hlk hwk
      rw [hwk] at HX
      generalize ks.getD k e0 = x at d0 hlk HX
      have hci := HI.out wr hM.kp
      have hBb : B + 1 < wr.heap.size := lt_of_block hM.blk
      have f6 := frozen_of_blk hM.blk 6
      have hkB : (k : Int) ≤ 1024 := by omega
      have HBD : Hid (k = ((ks.take k).map (wantOf ws)).length ∧ (((ks.take k).map (wantOf ws)).length + [((x, v) : Wn)].length) * WE.nb ≤ 140737488355328 ∧ ((ks.take k).map (wantOf ws)).length + [((x, v) : Wn)].length ≤ 140737488355328) := by
        have e : ((ks.take k).map (wantOf ws)).length = k := by rw [List.length_map, List.length_take]; omega
        rw [e]; exact ⟨rfl, by simp [WE]; omega, by simp; omega⟩
      have HRO : Hid (Row WE (wr.alloc (.cells #[.string x, .int .u64 (v : Nat)] 50)) (some ⟨wr.heap.size, 0, none⟩) [(x, v)]) := (lit_one (E := WE) wr (x, v) #[.string x, .int .u64 (v : Nat)] rfl).row
      have HOA : Hid (Own WE (wr.alloc (.cells #[.string x, .int .u64 (v : Nat)] 50)) wo wc ((ks.take k).map (wantOf ws))) := hM.own.keepsN ((Keeps.refl _ _).alloc _)
      have HC6 : Hid (∀ W o5 c5, Own WE W o5 c5 ((ks.take k).map (wantOf ws) ++ [(x, v)]) → Ap (wr.alloc (.cells #[.string x, .int .u64 (v : Nat)] 50)) wo o5 W → W.cell? ⟨B + 1, 6, none⟩ = some (.slice wo k wc) ∧ W.frozen? ⟨B + 1, 6, none⟩ = false ∧ Mw w (W.setCell ⟨B + 1, 6, none⟩ (.slice o5 (k + 1) c5)) B (B + 1) o5 (k + 1) c5 ((ks.take k).map (wantOf ws) ++ [(x, v)])) := by
        intro W o5 c5 ho5 hap5
        have kk : Keeps (inO wo) wr W := by
          rcases hap5 with ⟨_, k5⟩ | ⟨_, k5⟩
          · exact ((Keeps.refl (inO wo) wr).alloc _).trans k5
          · exact (((Keeps.refl no wr).alloc _).trans k5).of_no
        have hb := kk.at hM.blk (fun hi => by
          obtain ⟨c2, h2⟩ := hM.own.tag _ hi
          rw [hM.blk] at h2; injection h2 with e; injection e with _ e _; exact absurd e (by decide))
        refine ⟨?_, frozen_of_blk hb 6, HM.out.push (by omega) (by have := HBB.out; omega) ((Keeps.refl _ _).alloc _) ho5 hap5 rfl⟩
        rw [cell_of_blk hb]; rfl
      subst eo
      clear hM HR hkl hkm hwk
      go_wp2_with (at_builtin; refine wpList_app okW rfl _ _ rfl wo k wc ((ks.take k).map (wantOf ws)) rfl HBD.out.1 HOA.out (some ⟨wr.heap.size, 0, none⟩) 1 1 [(x, v)] rfl rfl (fun h => by cases h) HRO.out HBD.out.2.1 HBD.out.2.2 ?_; intro o5 c5 w5 ho5 hap5; obtain ⟨g6, gf6, hM5⟩ := HC6.out w5 o5 c5 ho5 hap5; have HM5 : Hid (Mw w (w5.setCell ⟨B + 1, 6, none⟩ (.slice o5 (k + 1) c5)) B (B + 1) o5 (k + 1) c5 ((ks.take k).map (wantOf ws) ++ [(x, v)])) := hM5; clear hM5 ho5 hap5)
      go_roundw
      case rel => exact ⟨k + 1, by omega, by go_num, o5, c5, by rw [HX.out]; exact HM5.out⟩
      case measure => simp [intOf]; omega
    · have hkn : k = n := by omega
      have hlt' : ¬ (k : Int) < n := by omega
      have HE : Hid (∀ vs, vs = [Value.int .i64 4, .int .i64 0, .int .u64 0, .int .u64 0, .slice none 0 0, .slice none 0 0, .slice wo k wc, .slice none 0 0] → ∀ W, W = wr.setCells B 0 vs → W.heap[B]? = some (.cells vs.toArray 42 (0, 0)) ∧ Keeps no w W ∧ Own WE W wo wc (ks.map (wantOf ws))) := by
        rintro vs rfl W rfl
        have k1 : Keeps (fun i => i = B) wr (wr.setCells B 0 [Value.int .i64 4, .int .i64 0, .int .u64 0, .int .u64 0, .slice none 0 0, .slice none 0 0, .slice wo k wc, .slice none 0 0]) := keeps_setCells _ _ _
        have ek : ks.take k = ks := List.take_of_length_le (by have := HN.out.1; omega)
        have ho := hM.own
        rw [ek] at ho
        refine ⟨blk_whole hM.res _ rfl, hM.kp.then k1 (fun i e => .inr (by rw [e]; have := HBB.out; omega)), ho.keeps k1 (fun i hi e => ?_)⟩
        obtain ⟨c2, h2⟩ := ho.tag i hi
        rw [e, hM.res] at h2; injection h2 with e; injection e with _ e _; exact absurd e (by decide)
      have HKN : Hid (k = ks.length ∧ New w wo) := ⟨by have := HN.out.1; omega, hM.new⟩
      have g0 := frozen_of_blk hM.res 0
      have g1 := frozen_of_blk hM.res 1
      have g2 := frozen_of_blk hM.res 2
      have g3 := frozen_of_blk hM.res 3
      have g4 := frozen_of_blk hM.res 4
      have g5 := frozen_of_blk hM.res 5
      have g6 := frozen_of_blk hM.res 6
      have g7 := frozen_of_blk hM.res 7
      have d0 := cell_of_blk hM.res 0
      have d1 := cell_of_blk hM.res 1
      have d2 := cell_of_blk hM.res 2
      have d3 := cell_of_blk hM.res 3
      have d4 := cell_of_blk hM.res 4
      have d5 := cell_of_blk hM.res 5
      have d6 := cell_of_blk hM.res 6
      have d7 := cell_of_blk hM.res 7
      simp only [List.getElem?_toArray, List.getElem?_cons_succ, List.getElem?_cons_zero] at d0 d1 d2 d3 d4 d5 d6 d7
      clear hM HR HM HN hkn
      go_wp2_with fail
      have hE := HE.out _ rfl _ rfl
      (try simp only [Exit.inBlock, Exit.then])
      refine bodyPost_ret (results_row1 rfl _ _ B _ rfl (run_loadVar_row _ _ _ _ _ _ _ hE.1 Try.underlying42 rfl (msg_size _ _ _ _ _ _ _ _))) rfl ?_
      exact ⟨wo, k, wc, rfl, HKN.out.1, hE.2.2, HKN.out.2, hE.2.1⟩
end Go.Proofs.Ytileipnoiocdlaa
