/- Again. -/
import Derived.Test.YtghnhkhhpeoheaaGreatZ1
import Derived.Test.YtghnhkhhpeoheaaGreatG1
namespace Go.Proofs.YtghnhkhhpeoheaaGreat
open Go.RowKit Go.Sort Orl
set_option linter.unusedVariables false
set_option linter.unusedSimpArgs false

/-- one question more told -/
theorem Tq.push {w wr w4 w5 : World} {o o5 : Option Addr} {c c5 : Nat} {rs : List RQ} {qs : List Qn} {r : RQ} {q : Qn} (h : Tq wr o c rs qs) (hN : ∀ i, TB o rs qs.length i → w.heap.size ≤ i) (hk : Keeps no w wr) (k4 : Keeps no wr w4) (hq : QNw w4 r q) (hp : New wr r.po) (hko : New wr r.ko) (ho : Own QE w5 o5 c5 (rs ++ [r])) (ha : Ap w4 o o5 w5) :
    Tq w5 o5 c5 (rs ++ [r]) (qs ++ [q]) ∧ (∀ i, TB o5 (rs ++ [r]) (qs ++ [q]).length i → w.heap.size ≤ i) ∧ Keeps no w w5 := by
  have hk5 : Keeps (inO o) w4 w5 := by
    rcases ha with ⟨_, k⟩ | ⟨_, k⟩
    · exact k
    · exact k.of_no
  have hw5 := ha.new (w0 := w) (fun i hi => hN i (.inl hi)) (hk.trans k4)
  have h4 := h.keepsN k4
  have nP : PE.e ≠ QE.e := by decide
  have nT : TE.e ≠ QE.e := by decide
  have eR : ∀ j, (rs ++ [r]).getD j rq0 = if j < qs.length then rs.getD j rq0 else [r].getD (j - qs.length) rq0 := fun j => by rw [getD_app, h.len]
  have eQ : ∀ j, (qs ++ [q]).getD j q0 = if j < qs.length then qs.getD j q0 else [q].getD (j - qs.length) q0 := fun j => by rw [getD_app]
  have hl : (qs ++ [q]).length = qs.length + 1 := by simp
  refine ⟨⟨ho, by simp [h.len], ?_, ?_, ?_⟩, ?_, hw5.2⟩
  · intro j hj
    rw [eR, eQ]
    by_cases e : j < qs.length
    · rw [if_pos e, if_pos e]
      exact (h4.each j e).keeps hk5 (own_apart nP (h4.each j e).ps h4.own) (own_apart nT (h4.each j e).ks h4.own)
    · rw [if_neg e, if_neg e, show j - qs.length = 0 by omega]
      exact hq.keeps hk5 (own_apart nP hq.ps h4.own) (own_apart nT hq.ks h4.own)
  · intro i j hij hj k
    rw [eR, eR, if_pos (show i < qs.length by omega)]
    by_cases e : j < qs.length
    · rw [if_pos e]; exact h.sepP i j hij e k
    · rw [if_neg e, show j - qs.length = 0 by omega]
      intro h1 h2
      have := (h.each i (by omega)).ps.lt k h1
      have := hp k h2
      omega
  · intro i j hij hj k
    rw [eR, eR, if_pos (show i < qs.length by omega)]
    by_cases e : j < qs.length
    · rw [if_pos e]; exact h.sepK i j hij e k
    · rw [if_neg e, show j - qs.length = 0 by omega]
      intro h1 h2
      have := (h.each i (by omega)).ks.lt k h1
      have := hko k h2
      omega
  · rintro i (hi | ⟨j, hj, hi⟩)
    · exact hw5.1 i hi
    · rw [eR] at hi
      by_cases e : j < qs.length
      · rw [if_pos e] at hi; exact hN i (.inr ⟨j, e, hi⟩)
      · rw [if_neg e, show j - qs.length = 0 by omega] at hi
        rcases hi with hi | hi
        · exact Nat.le_trans hk.size (hp i hi)
        · exact Nat.le_trans hk.size (hko i hi)
/-- of the first k those that are not answered -/
def tellQ (qs : List Qn) (ds : List Bool) (k : Nat) : List Qn := ((List.range k).filter fun i => !(ds.getD i true)).map fun i => qs.getD i q0
theorem tellQ_yes (qs : List Qn) (ds : List Bool) (k : Nat) (h : ds.getD k true = true) : tellQ qs ds (k + 1) = tellQ qs ds k := by
  unfold tellQ
  rw [List.range_succ, List.filter_append, List.map_append]
  simp [-List.getD_eq_getElem?_getD, h]
theorem tellQ_no (qs : List Qn) (ds : List Bool) (k : Nat) (h : ds.getD k true = false) : tellQ qs ds (k + 1) = tellQ qs ds k ++ [qs.getD k q0] := by
  unfold tellQ
  rw [List.range_succ, List.filter_append, List.map_append]
  simp [-List.getD_eq_getElem?_getD, h]
theorem tellQ_le (qs : List Qn) (ds : List Bool) (k : Nat) : (tellQ qs ds k).length ≤ k := by
  unfold tellQ
  rw [List.length_map]
  refine Nat.le_trans (List.length_filter_le _ _) (by simp)
theorem again_eq {s : WS} (hr : ¬ s.round = 0) (he : s.ended = 0) : againS s = tellQ (qsIn s) (dsIn s) s.ps.length := by
  unfold againS tellQ
  rw [if_neg (by simp [hr, he])]
  have hd : dsIn s = s.done := by unfold dsIn; rw [if_neg hr]
  rw [hd]
  refine List.map_congr_left fun i hi => ?_
  have hi2 := List.mem_range.1 (List.mem_filter.1 hi).1
  rw [qsIn_at s hi2]
  unfold qIn; rw [if_neg hr]
theorem WfS.qin {s : WS} (h : WfS s) {i : Nat} (hi : i < s.ps.length) : FitQ (qIn s i) := by
  have hp := h.part _ (getD_mem_lt pp0 hi)
  unfold qIn
  split
  · refine ⟨by simp, h.hi, ⟨?_, ?_⟩, ?_, ?_⟩
    · show (0 : Int) ≤ ((s.ps.getD i pp0).1 : Nat)
      omega
    · show (((s.ps.getD i pp0).1 : Nat) : Int) ≤ 64
      omega
    · show (s.ps.getD i pp0).2.length ≤ 2000
      omega
    · show s.keys.length ≤ 2000
      have := h.keys; omega
  · exact h.qfit hi
set_option maxRecDepth 10000 in
set_option maxHeartbeats 1000000 in
theorem wAgain_any (w : World) (p cp : Nat) (F : Nat → Prop) (s : WS) (m : Nat) (h : IsWr w p cp F s) (hw : WfS s) (hc : IsCt w cp m) (hm : m < 18446744073709551616) (hcF : ¬ F cp) :
    Calls Tryz.prog 15 #[.pointer (some ⟨p, 0, none⟩)] w (TellTo w p cp F ⟨s, againS s, m⟩) := by
  by_cases he : s.ended = 0
  case neg =>
    have hb : w.heap[p]? = some (.cells (wrC s.id .nilFunc 3 (s.ended : Nat) none 0 0) 72 (0, 0)) := by
      rcases h.2.2 with ⟨_, hb⟩ | ⟨h0, _⟩
      · exact hb
      · exact absurd h0 he
    have c2 : w.cell? ⟨p, 2, none⟩ = some (.int .i64 3) := by rw [cell_of_blk hb]; rfl
    have HZ : Hid (TellTo w p cp F ⟨s, againS s, m⟩ (.returned (.slice none 0 0)) w) := by rw [again_end he]; exact tell_none h hc hcF (Keeps.refl _ _)
    clear h hw hc hcF hb
    go_enter Tryz.func15, Tryz.ntmps15
    go_wp2_with fail
    go_ret
    exact HZ.out
  case pos =>
  obtain ⟨ro, rn, rc, rz, hl⟩ : ∃ ro rn rc rz, WrL w p cp F s.id (s.round : Nat) ro rn rc rz (qsIn s) (dsIn s) := by
    rcases h.2.2 with ⟨h0, _⟩ | ⟨_, h1⟩
    · exact absurd he h0
    · exact h1
  have c2 : w.cell? ⟨p, 2, none⟩ = some (.int .i64 (s.round : Nat)) := by rw [cell_of_blk hl.blk]; rfl
  have c4 : w.cell? ⟨p, 4, none⟩ = some (.slice ro rn rc) := by rw [cell_of_blk hl.blk]; rfl
  have hrd := hw.round
  by_cases hr : s.round = 0
  · have HZ : Hid (TellTo w p cp F ⟨s, againS s, m⟩ (.returned (.slice none 0 0)) w) := by
      have : againS s = [] := by unfold againS; rw [if_pos (.inl hr)]
      rw [this]; exact tell_none h hc hcF (Keeps.refl _ _)
    rw [hr] at c2
    clear h hw hc hcF hl hr hrd he
    go_enter Tryz.func15, Tryz.ntmps15
    go_wp2_with fail
    go_ret
    exact HZ.out
  · have HA : Hid (againS s = tellQ (qsIn s) (dsIn s) (qsIn s).length) := by rw [qsIn_len]; exact again_eq hr he
    have HI : Hid (IsWr w p cp F s ∧ IsCt w cp m ∧ ¬ F cp) := ⟨h, hc, hcF⟩
    have HL : Hid (Zs w ro rc rz (qsIn s) (dsIn s) ∧ rn = (qsIn s).length ∧ (qsIn s).length ≤ 64 ∧ ∀ j, j < (qsIn s).length → FitQ ((qsIn s).getD j q0)) := ⟨hl.zs, hl.rn, by rw [qsIn_len]; exact hw.most, fun j hj => by rw [qsIn_len] at hj; rw [qsIn_at s hj]; exact hw.qin hj⟩
    have hrn : (rn : Int) ≤ 64 := by have := HL.out.2.1; have := HL.out.2.2.1; omega
    have hr12 : (s.round = 1 ∨ s.round = 2) := by omega
    clear hl h hc hcF hw
    generalize qsIn s = qs at HL HA
    generalize dsIn s = ds at HL HA
    have key : Calls Tryz.prog 15 #[.pointer (some ⟨p, 0, none⟩)] w fun e w' => ∃ o n c rs, e = .returned (.slice o n c) ∧ Hid (n = (tellQ qs ds qs.length).length ∧ Tq w' o c rs (tellQ qs ds qs.length) ∧ (∀ i, TB o rs (tellQ qs ds qs.length).length i → w.heap.size ≤ i) ∧ Keeps no w w') := by
      clear HA HI
      generalize s.round = R at c2 hr12
      clear hr hrd he
      rcases hr12 with rfl | rfl
      all_goals
        go_enter Tryz.func15, Tryz.ntmps15
        go_wp2_with fail
        go_loopw [3, 23] (fun s3 s23 wr => ∃ (k n : Nat) (o : Option Addr) (c : Nat), k ≤ rn ∧ s23 = .int .i64 k ∧ s3 = .slice o n c ∧ Hid (∃ rs, n = (tellQ qs ds k).length ∧ Tq wr o c rs (tellQ qs ds k) ∧ (∀ i, TB o rs (tellQ qs ds k).length i → w.heap.size ≤ i) ∧ Keeps no w wr)) (fun _ s23 _ => rn - (intOf s23).toNat)
        case atStart => exact ⟨0, 0, none, 0, by omega, rfl, rfl, [], rfl, tq_nil w, fun i hi => by rcases hi with ⟨x, e, _⟩ | ⟨j, hj, _⟩; cases e; simp [tellQ] at hj, Keeps.refl _ _⟩
        case round =>
          obtain ⟨k, n, o, c, hk, rfl, rfl, HT⟩ := hrel
          by_cases hlt : k < rn
          · have hlt' : (k : Int) < rn := by omega
            have hlq : k < qs.length := by have := HL.out.2.1; omega
            obtain ⟨rs, hn0, ht0, hN0, hk0⟩ := HT.out
            have HT2 : Hid (n = (tellQ qs ds k).length ∧ Tq wr o c rs (tellQ qs ds k) ∧ (∀ i, TB o rs (tellQ qs ds k).length i → w.heap.size ≤ i) ∧ Keeps no w wr) := ⟨hn0, ht0, hN0, hk0⟩
            have hz := HL.out.1.keepsN hk0
            obtain ⟨b, hob, hfz, a0, a1, a2, a3, a4, a5, a6, a7, a8, a9⟩ := hz.own.atZ (j := k) (by rw [hz.len]; exact hlq)
            have han := hz.ans k hlq
            have HE : Hid (ds.getD k true = false → QNw wr (rz.getD k rz0).q (qs.getD k q0)) := hz.each k hlq
            have HF : Hid (FitQ (qs.getD k q0)) := HL.out.2.2.2 k hlq
            have hnl : (n : Int) ≤ 64 := by have := tellQ_le qs ds k; have := HL.out.2.2.1; omega
            simp only [Nat.zero_add] at a0 a1 a2 a3 a4 a5 a6 a7 a8 a9
            subst hob
            clear HT hn0 ht0 hN0 hk0 hz
            generalize hrr : rz.getD k rz0 = r at a0 a1 a2 a3 a4 a5 a6 a7 a8 a9 han HE
            clear hrr
            obtain ⟨⟨x0, x1, x2, x3, x4, xpo, xpn, xpc, xko, xkn, xkc, xwo, xwc, xvo, xvc⟩, bz⟩ := r
            simp only at a0 a1 a2 a3 a4 a5 a6 a7 a8 a9 han HE
            cases bz with
            | true =>
              have HD : Hid (tellQ qs ds (k + 1) = tellQ qs ds k) := tellQ_yes qs ds k han.symm
              clear HE han hfz
              go_wp2_with fail
              go_roundw
              case rel =>
                refine ⟨k + 1, n, o, c, by omega, by go_num, rfl, rs, ?_⟩
                obtain ⟨h1, h2, h3, h4⟩ := HT2.out
                rw [HD.out]
                exact ⟨h1, h2.keepsN ((Keeps.refl _ _).alloc _), h3, h4.alloc _⟩
              case measure => simp [intOf]; omega
            | false =>
              have HD : Hid (tellQ qs ds (k + 1) = tellQ qs ds k ++ [qs.getD k q0]) := tellQ_no qs ds k han.symm
              have HQ : Hid (∀ X, Keeps no wr X → Calls Tryz.prog 42 #[.agg #[.int .i64 x0, .int .i64 x1, .int .i64 x2, .int .u64 (x3 : Nat), .int .u64 (x4 : Nat), .slice xpo xpn xpc, .slice xko xkn xkc, .slice xwo 0 xwc, .slice xvo 0 xvc]] X (ToldTo X (qs.getD k q0))) := fun X hX => told_any X ⟨x0, x1, x2, x3, x4, xpo, xpn, xpc, xko, xkn, xkc, xwo, xwc, xvo, xvc⟩ _ ((HE.out han.symm).of.keepsN hX) HF.out
              clear HE han hfz
              go_wp2_with (first | (go_at_call 42; go_loud (refine (HQ.out _ ((Keeps.refl _ _).alloc _)).mono ?_); rintro e w3 ⟨r3, rfl, hq3, hp3, ho3, hk3⟩; unfold aggQ; have H3 : Hid (QNw w3 r3 (qs.getD k q0) ∧ New wr r3.po ∧ New wr r3.ko ∧ Keeps no wr w3) := ⟨hq3, hp3.of_le (by simp), ho3.of_le (by simp), ((Keeps.refl _ _).alloc _).trans hk3⟩; clear hq3 hp3 ho3 hk3) | (at_builtin; go_loud (refine wpList_app okQ rfl _ _ rfl o n c rs rfl (by rw [HT2.out.2.1.len]; exact HT2.out.1) (HT2.out.2.1.own.keepsN (H3.out.2.2.2.alloc _)) _ _ _ [r3] rfl rfl (fun h => by cases h) (lit_one (E := QE) _ r3 _ rfl).row (by rw [HT2.out.2.1.len, ← HT2.out.1]; simp [QE]; omega) (by rw [HT2.out.2.1.len, ← HT2.out.1]; simp; omega) ?_); intro o5 c5 w5 ho5 hap5))
              go_roundw
              case rel =>
                obtain ⟨h1, h2, h3, h4⟩ := HT2.out
                have := h2.push h3 h4 (H3.out.2.2.2.alloc _) (H3.out.1.keeps ((Keeps.refl no _).alloc _) (fun _ _ => id) (fun _ _ => id)) H3.out.2.1 H3.out.2.2.1 ho5 hap5
                refine ⟨k + 1, n + 1, o5, c5, by omega, by go_num, rfl, rs ++ [r3], ?_⟩
                rw [HD.out]
                exact ⟨by simp [h1], this⟩
              case measure => simp [intOf]; omega
          · have hkl : k = qs.length := by have := HL.out.2.1; omega
            have HK2 : Hid (k = qs.length) := hkl
            clear hkl
            go_wp2_with fail
            go_ret
            obtain ⟨rs, hh⟩ := HT.out
            rw [HK2.out] at hh
            exact ⟨o, n, c, rs, rfl, hh⟩
    refine key.mono ?_
    rintro e w' ⟨o, n, c, rs, rfl, H⟩
    obtain ⟨h1, h2, h3, h4⟩ := H.out
    rw [← HA.out] at h1 h2 h3
    exact ⟨o, n, c, rs, F, rfl, h1, h2, h3, HI.out.1.keeps h4 (fun _ _ => id), fun i hi => .inl hi, fun i hi hf => by have := HI.out.1.lt i hf; have := h3 i hi; omega, HI.out.2.1.keeps h4 id, h4.of_no⟩
end Go.Proofs.YtghnhkhhpeoheaaGreat
