/- The document's ask. -/
import Derived.Test.YtghnhkhhpeoheaaGreatDW
import Derived.Deep.RegionHeld3
import Derived.Deep.RegionHeldLaw
namespace Go.Proofs.YtghnhkhhpeoheaaGreat
open Go.RowKit Go.Sort Orl
set_option linter.unusedVariables false
set_option linter.unusedSimpArgs false

theorem rd_cells {w : World} {p id : Nat} {oP : Option Addr} {nP cP : Nat} {oK : Option Addr} {nK cK : Nat} {oA : Option Addr} {nA cA : Nat} {oD : Option Addr} {nD cD rd ed m : Nat} (hb : w.heap[p]? = some (.cells (rdC id oP nP cP oK nK cK oA nA cA oD nD cD rd ed m) 58 (0, 0))) :
    w.cell? ⟨p, 0, none⟩ = some (.int .u64 (id : Nat)) ∧ w.cell? ⟨p, 1, none⟩ = some (.slice oP nP cP) ∧ w.cell? ⟨p, 2, none⟩ = some (.slice oK nK cK) ∧ w.cell? ⟨p, 3, none⟩ = some (.slice oA nA cA) ∧ w.cell? ⟨p, 4, none⟩ = some (.slice oD nD cD) ∧ w.cell? ⟨p, 5, none⟩ = some (.int .i64 (rd : Nat)) ∧ w.cell? ⟨p, 6, none⟩ = some (.int .i64 (ed : Nat)) ∧ w.cell? ⟨p, 7, none⟩ = some (.int .u64 (m : Nat)) :=
  ⟨by rw [cell_of_blk hb]; rfl, by rw [cell_of_blk hb]; rfl, by rw [cell_of_blk hb]; rfl, by rw [cell_of_blk hb]; rfl, by rw [cell_of_blk hb]; rfl, by rw [cell_of_blk hb]; rfl, by rw [cell_of_blk hb]; rfl, by rw [cell_of_blk hb]; rfl⟩
theorem Own.atHR {w : World} {a : Option Addr} {c : Nat} {xs : List (GS Pr)} (h : Own HR w a c xs) {j : Nat} (hj : j < xs.length) : ∃ b, a = some ⟨b, 0, none⟩ ∧ w.cell? ⟨b, j * 2, none⟩ = some (.int .i64 ((xs.getD j gs0).n : Nat)) ∧ w.cell? ⟨b, j * 2 + 1, none⟩ = some (.slice (xs.getD j gs0).o (xs.getD j gs0).xs.length (xs.getD j gs0).c) := by
  obtain ⟨g, e, _⟩ := h.storeE okHR j hj gs0
  rcases h.row with e2 | ⟨b, off, e2, hc⟩
  · rw [e2] at hj; simp at hj
  · rw [e] at e2; cases e2
    refine ⟨g, e, ?_, ?_⟩
    · have := hc (j * 2) _ (by
        have := cells_at okHR gs0 xs j 0 hj (by decide)
        simpa [HR, GS.enc] using this)
      rwa [Nat.zero_add] at this
    · have := hc (j * 2 + 1) _ (by
        have := cells_at okHR gs0 xs j 1 hj (by decide)
        simpa [HR, GS.enc] using this)
      rwa [Nat.zero_add] at this
theorem ps_len {gs : List (GS Pr)} {ps : List Pp} (h : gs.map (fun g => (g.n, g.xs)) = ps) : gs.length = ps.length := by rw [← h]; simp
theorem ps_at {gs : List (GS Pr)} {ps : List Pp} (h : gs.map (fun g => (g.n, g.xs)) = ps) {i : Nat} (hi : i < ps.length) : ps.getD i pp0 = ((gs.getD i gs0).n, (gs.getD i gs0).xs) := by
  have hg : i < gs.length := by rw [ps_len h]; exact hi
  rw [← h, List.getD_eq_getElem?_getD, List.getElem?_map, List.getElem?_eq_getElem hg, List.getD_eq_getElem?_getD, List.getElem?_eq_getElem hg]
  rfl
theorem qn_of {W : World} {s : WS} {m i KI M : Nat} {g : GS Pr} {po : Option Addr} {pn pc : Nat} {ko : Option Addr} {kn kc : Nat} (hps : s.ps.getD i pp0 = (g.n, g.xs)) (hK : KI = s.id % 65536) (hM : w64 (m + i) = M) (hr : s.round = 0 ∨ s.round = 1) (hp : Own PE W po pc (if s.round = 0 then g.xs else [])) (hpn : pn = (if s.round = 0 then g.xs else []).length) (hk : Own TE W ko kc (if s.round = 0 then s.keys else [])) (hkn : kn = (if s.round = 0 then s.keys else []).length) :
    QNw W ⟨(g.n : Nat), ((s.round : Int) + 1), (KI : Nat), M, s.id, po, pn, pc, ko, kn, kc, none, 0, none, 0⟩ (qAt (askS s m) i) := by
  have e : qAt (askS s m) i = ⟨((g.n : Nat) : Int), if s.round + 1 = 1 then 1 else 2, ((s.id % 65536 : Nat) : Int), w64 (m + i), s.id, if s.round + 1 = 1 then g.xs else [], if s.round + 1 = 1 then s.keys else []⟩ := by
    unfold qAt askS
    simp only [hps]
  rw [e, hM, ← hK]
  rcases hr with h | h
  · have h1 : s.round + 1 = 1 := by omega
    rw [if_pos h] at hp hpn hk hkn
    simp only [if_pos h1]
    exact ⟨rfl, by show (s.round : Int) + 1 = 1; omega, rfl, rfl, rfl, hpn, hp, hkn, hk⟩
  · have h1 : ¬ s.round + 1 = 1 := by omega
    have h2 : ¬ s.round = 0 := by omega
    rw [if_neg h2] at hp hpn hk hkn
    simp only [if_neg h1]
    exact ⟨rfl, by show (s.round : Int) + 1 = 2; omega, rfl, rfl, rfl, hpn, hp, hkn, hk⟩
theorem RdL.push {w zd w9 : World} {p : Nat} {F : Nat → Prop} {id : Nat} {ps : List Pp} {keys : List Tx} {qs : List Qn} {done : List Bool} {rd ed m : Nat} {oP : Option Addr} {cP : Nat} {gs : List (GS Pr)} {oK : Option Addr} {cK : Nat} {oA : Option Addr} {cA : Nat} {rs : List RQ} {oD : Option Addr} {cD : Nat} (h : RdL w p F id ps keys qs done rd ed m oP cP gs oK cK oA cA rs oD cD) (hk : Keeps no w zd) {r : RQ} {q : Qn} (hq : QNw w r q) (hf : ∀ j, (inO r.po j ∨ inO r.ko j) → F j) {o9 : Option Addr} {c9 : Nat} (ho : Own QE w9 o9 c9 (rs ++ [r])) (ha : Ap zd oA o9 w9) {n : Nat} (hn : n = qs.length) :
    w9.heap[p]? = some (.cells (rdC id oP ps.length cP oK keys.length cK oA qs.length cA oD done.length cD rd ed m) 58 (0, 0)) ∧ Keeps (inO oA) w w9 ∧ ∀ qs', qs' = qs ++ [q] → ∃ G, RdL (w9.setCell ⟨p, 3, none⟩ (.slice o9 (n + 1) c9)) p G id ps keys qs' done rd ed m oP cP gs oK cK o9 c9 (rs ++ [r]) oD cD ∧ (∀ j, G j → F j ∨ w.heap.size ≤ j) ∧ Keeps F w (w9.setCell ⟨p, 3, none⟩ (.slice o9 (n + 1) c9)) := by
  have k9 : Keeps (inO oA) w w9 := by
    rcases ha with ⟨_, k⟩ | ⟨_, k⟩
    · exact hk.of_no.trans k
    · exact (hk.trans k).of_no
  have hp : ¬ inO oA p := not_own h.blk (by decide) h.asked
  have hb9 := k9.at h.blk hp
  refine ⟨hb9, k9, ?_⟩
  rintro qs' rfl
  obtain ⟨W, hW⟩ : ∃ W, W = w9.setCell ⟨p, 3, none⟩ (.slice o9 (n + 1) c9) := ⟨_, rfl⟩
  rw [← hW]
  have kW : Keeps (fun i => i = p ∨ inO oA i) w W := by
    rw [hW]
    exact (Keeps.mono (T := fun i => i = p ∨ inO oA i) k9 (fun i hi => Or.inr hi)).setCell (p := ⟨p, 3, none⟩) (.inl (.inl rfl)) _
  have hS : ∀ i, (i = p ∨ inO oA i) → i = p ∨ inO oA i ∨ inO oD i := fun i hi => hi.imp (fun h => h) (fun h => .inl h)
  have hbW : W.heap[p]? = some (.cells (rdC id oP ps.length cP oK keys.length cK o9 (qs ++ [q]).length c9 oD done.length cD rd ed m) 58 (0, 0)) := by
    rw [hW]
    have := blk_set hb9 3 (.slice o9 (n + 1) c9)
    rw [this, hn, List.length_append]
    rfl
  have hAW : Own QE W o9 c9 (rs ++ [r]) := by rw [hW]; exact own_setB hb9 (by decide) ho _ _
  have hDW : Own BE W oD cD done := h.done.keeps kW (fun i hi hs => by
    rcases hs with e | e
    · subst e; exact not_own h.blk (by decide) h.done hi
    · exact own_apart (by decide) h.done h.asked i hi e)
  refine ⟨fun i => F i ∨ (w.heap.size ≤ i ∧ i < W.heap.size), h.next kW hS (fun i hi => .inl hi) ?_ hbW hAW (by rw [List.length_append, List.length_append, h.len]; rfl) ?_ ?_ hDW ?_ (fun i hi => .inl (h.fD i hi)), fun j hj => hj.imp (fun h => h) (fun h => h.1), kW.mono (fun i hi => by
    rcases hi with e | e
    · subst e; exact h.pF
    · exact h.fA i e)⟩
  · rintro i (hi | hi)
    · exact Nat.lt_of_lt_of_le (h.lt i hi) kW.size
    · exact hi.2
  · intro j hj
    rw [getD_app, getD_app, h.len]
    by_cases e : j < qs.length
    · rw [if_pos e, if_pos e]; exact h.rows kW hS e
    · rw [List.length_append, List.length_singleton] at hj
      have e0 : j - qs.length = 0 := by omega
      rw [if_neg e, if_neg e, e0]
      exact ⟨hq.part, hq.kind, hq.client, hq.req, hq.id, hq.pn, h.own kW hS (by decide) (by decide) (by decide) hq.ps, hq.kn, h.own kW hS (by decide) (by decide) (by decide) hq.ks⟩
  · intro j hj i hi
    rw [getD_app, h.len] at hi
    by_cases e : j < qs.length
    · rw [if_pos e] at hi; exact .inl (h.fQ j e i hi)
    · rw [List.length_append, List.length_singleton] at hj
      have e0 : j - qs.length = 0 := by omega
      rw [if_neg e, e0] at hi
      exact .inl (hf i hi)
  · intro i hi
    rcases ha with ⟨e, _⟩ | ⟨⟨g, e, hg⟩, _⟩
    · subst e; exact .inl (h.fA i hi)
    · refine .inr ⟨?_, hAW.lt i hi⟩
      subst e
      obtain ⟨x, e2, rfl⟩ := hi
      cases e2
      exact Nat.le_trans hk.size hg
/-- while it asks: i questions are laid -/
def AskI (w : World) (p : Nat) (F : Nat → Prop) (s : WS) (m i : Nat) (oP : Option Addr) (cP : Nat) (gs : List (GS Pr)) (oK : Option Addr) (cK : Nat) (oD : Option Addr) (cD : Nat) (wr : World) : Prop :=
  ∃ G oA cA rs, RdL wr p G s.id s.ps s.keys ((askedS (askS s m)).take i) (List.replicate s.ps.length false) (s.round + 1) s.ended (w64 (m + i)) oP cP gs oK cK oA cA rs oD cD ∧ (∀ j, G j → F j ∨ w.heap.size ≤ j) ∧ Keeps F w wr
set_option maxRecDepth 10000 in
set_option maxHeartbeats 4000000 in
theorem dAsk_any (w : World) (p : Nat) (F : Nat → Prop) (s : WS) (m : Nat) (h : Rd w p F s m) (hw : WfS s) (hr : s.round ≤ 1) (hm : m < 18446744073709551616) :
    Calls Tryz.prog 34 #[.pointer (some ⟨p, 0, none⟩), .int .i64 ((s.round + 1 : Nat) : Int)] w (RTellTo w p F ⟨askS s m, askedS (askS s m), numS s m⟩) := by
  obtain ⟨oP, cP, gs, oK, cK, oA, cA, rs, oD, cD, hl⟩ := h
  have HL : Hid (RdL w p F s.id s.ps s.keys (askI s) s.done s.round s.ended m oP cP gs oK cK oA cA rs oD cD) := hl
  have HW : Hid (WfS s ∧ m < 18446744073709551616) := ⟨hw, hm⟩
  obtain ⟨a0, a1, a2, a3, a4, a5, a6, a7⟩ := rd_cells hl.blk
  have f3 := frozen_of_blk hl.blk 3
  have hn64 : (s.ps.length : Int) ≤ 64 := by have := hw.most; omega
  have hr1 : (s.round : Int) ≤ 1 := by omega
  obtain ⟨w1, hw1⟩ : ∃ w1, w1 = w.setCell ⟨p, 3, none⟩ (.slice none 0 0) := ⟨_, rfl⟩
  have H1 : Hid (w1.heap[p]? = some (.cells (rdC s.id oP s.ps.length cP oK s.keys.length cK none 0 0 oD s.done.length cD s.round s.ended m) 58 (0, 0)) ∧ Keeps (fun i => i = p) w w1) := by
    rw [hw1]
    exact ⟨blk_set hl.blk 3 _, (Keeps.refl (fun i => i = p) w).setCell (p := ⟨p, 3, none⟩) (.inl rfl) _⟩
  clear hl hw hm hr
  obtain ⟨n, hn⟩ : ∃ n, n = s.ps.length := ⟨_, rfl⟩
  rw [← hn] at a1 hn64
  have HN : Hid (n = s.ps.length) := hn
  clear hn
  go_enter Tryz.func34, Tryz.ntmps34
  go_upto_region 2 with fail
  rw [← hw1]
  clear hw1 a0 a1 a2 a3 a4 a5 a6 a7 f3
  obtain ⟨a0, a1, a2, a3, a4, a5, a6, a7⟩ := rd_cells H1.out.1
  rw [← HN.out] at a1
  clear a0 a2 a3 a4 a5 a6 a7
  obtain ⟨i0, hi0, hz0, hz1, hz2⟩ := info_parts infoB
  have hL64 : n ≤ 64 := by omega
  have HMK : Hid (∀ wb, w1.grownBy wb none → wb.heap[p]? = some (.cells (rdC s.id oP s.ps.length cP oK s.keys.length cK none 0 0 oD s.done.length cD s.round s.ended m) 58 (0, 0))) := fun wb hg => ((Keeps.refl no w1).grown hg (fun k hk => by cases hk)).at H1.out.1 (fun h => h)
  go_upto_region 3 with (at_make; go_must (refine wpList_make_full _ rfl _ _ 56 rfl 0 4 i0 _ 1 Tryz.underlying56 hi0 hz0 hz1 .i64 .i64 _ _ n rfl rfl rfl rfl (by rw [hz2]; omega) (by unfold maxLen; omega) (Nat.zero_le _) ?_; intro wb hob hgb; have hbb := HMK.out wb hgb; have f4 := frozen_of_blk hbb 4; have b4 := (rd_cells hbb).2.2.2.2.1))
  have H2 : Hid ((wb.setCell ⟨p, 4, none⟩ (.slice (some ⟨w1.heap.size, 0, none⟩) n n)).heap[p]? = some (.cells (rdC s.id oP s.ps.length cP oK s.keys.length cK none 0 0 (some ⟨w1.heap.size, 0, none⟩) n n s.round s.ended m) 58 (0, 0)) ∧ Keeps (fun i => i = p) w (wb.setCell ⟨p, 4, none⟩ (.slice (some ⟨w1.heap.size, 0, none⟩) n n)) ∧ Own BE (wb.setCell ⟨p, 4, none⟩ (.slice (some ⟨w1.heap.size, 0, none⟩) n n)) (some ⟨w1.heap.size, 0, none⟩) n (List.replicate n false)) := by
    refine ⟨blk_set hbb 4 _, ?_, ?_⟩
    · exact (H1.out.2.trans (((Keeps.refl no w1).grown hgb (fun k hk => by cases hk)).of_no)).setCell (p := ⟨p, 4, none⟩) (.inl rfl) _
    · rw [made_bools] at hob
      refine own_setB hbb (by decide) ?_ _ _
      show wb.ownsRow 0 4 1 (.slice (some ⟨w1.heap.size, 0, none⟩) (List.replicate n false).length n) (List.replicate n false).length (BE.cells (List.replicate n false))
      rw [List.length_replicate]
      exact hob
  have HSZ : Hid (w.heap.size ≤ w1.heap.size) := H1.out.2.size
  clear hob hgb hbb f4 b4 a1 HMK H1 hi0 hz0 hz1 hz2
  generalize wb.setCell ⟨p, 4, none⟩ (.slice (some ⟨w1.heap.size, 0, none⟩) n n) = W2 at H2 ⊢
  generalize w1.heap.size = gD at H2 HSZ ⊢
  have f5 := frozen_of_blk H2.out.1 5
  obtain ⟨-, -, -, -, -, b5, -, -⟩ := rd_cells H2.out.1
  obtain ⟨W3, hW3⟩ : ∃ W3, W3 = W2.setCell ⟨p, 5, none⟩ (.int .i64 ((s.round : Int) + 1)) := ⟨_, rfl⟩
  have HI0 : Hid (AskI w p F s m 0 oP cP gs oK cK (some ⟨gD, 0, none⟩) n W3) := by
    have hk3 : Keeps (fun i => i = p) w W3 := by rw [hW3]; exact H2.out.2.1.setCell (p := ⟨p, 5, none⟩) (.inl rfl) _
    have hb3 : W3.heap[p]? = some (.cells (rdC s.id oP s.ps.length cP oK s.keys.length cK none 0 0 (some ⟨gD, 0, none⟩) n n (s.round + 1) s.ended m) 58 (0, 0)) := by
      rw [hW3]
      have := blk_set H2.out.1 5 (.int .i64 ((s.round : Int) + 1))
      simpa [rdC] using this
    have ho3 : Own BE W3 (some ⟨gD, 0, none⟩) n (List.replicate n false) := by rw [hW3]; exact own_setB H2.out.1 (by decide) H2.out.2.2 _ _
    refine ⟨fun i => F i ∨ (w.heap.size ≤ i ∧ i < W3.heap.size), none, 0, [], ?_, fun j hj => hj.imp id (fun h => h.1), hk3.mono (fun i hi => by subst hi; exact HL.out.pF)⟩
    have hm0 : w64 (m + 0) = m := w64_of HW.out.2
    rw [hm0, ← HN.out]
    refine HL.out.next hk3 (fun i hi => .inl hi) (fun i hi => .inl hi) ?_ ?_ (own_nil _) rfl (fun j hj => absurd hj (by simp)) (fun j hj => absurd hj (by simp)) ho3 (fun i hi => by obtain ⟨x, e, _⟩ := hi; cases e) ?_
    · rintro i (hi | hi)
      · exact Nat.lt_of_lt_of_le (HL.out.lt i hi) hk3.size
      · exact hi.2
    · simpa [List.length_replicate, ← HN.out] using hb3
    · intro i hi
      exact .inr ⟨by obtain ⟨x, e, rfl⟩ := hi; cases e; exact HSZ.out, ho3.lt i hi⟩
  go_upto_region 4 with fail
  rw [← hW3]
  clear hW3 f5 b5 H2 HSZ
  go_wp2_with fail
  go_loopw [5] (fun s5 wr => ∃ i : Nat, i ≤ n ∧ s5 = .int .i64 i ∧ Hid (AskI w p F s m i oP cP gs oK cK (some ⟨gD, 0, none⟩) n wr)) (fun s5 _ => n - (intOf s5).toNat)
  case atStart => exact ⟨0, by omega, rfl, HI0.out⟩
  case round =>
    clear HI0
    rename World => wr
    obtain ⟨i, hi, rfl, HI⟩ := hrel
    obtain ⟨G, oA2, cA2, rs2, hl2, hG, hkF⟩ := HI.out
    have HL2 : Hid (RdL wr p G s.id s.ps s.keys ((askedS (askS s m)).take i) (List.replicate s.ps.length false) (s.round + 1) s.ended (w64 (m + i)) oP cP gs oK cK oA2 cA2 rs2 (some ⟨gD, 0, none⟩) n ∧ (∀ j, G j → F j ∨ w.heap.size ≤ j) ∧ Keeps F w wr) := ⟨hl2, hG, hkF⟩
    obtain ⟨a0, a1, a2, a3, a4, a5, a6, a7⟩ := rd_cells hl2.blk
    rw [← HN.out] at a1
    by_cases hlt : i < n
    · have hlt' : (i : Int) < n := by omega
      have hip : i < s.ps.length := by have := HN.out; omega
      obtain ⟨bP, hbP, g0, g1⟩ := hl2.parts.atHR (j := i) (by rw [ps_len hl2.val]; exact hip)
      have HPS : Hid (s.ps.getD i pp0 = ((gs.getD i gs0).n, (gs.getD i gs0).xs) ∧ gs.getD i gs0 ∈ gs) := ⟨ps_at hl2.val hip, getD_mem_lt gs0 (by rw [ps_len hl2.val]; exact hip)⟩
      generalize hgi : gs.getD i gs0 = g at g0 g1 HPS
      have HGI0 : Hid (gs.getD i gs0 = g) := hgi
      clear hgi
      have hid := HW.out.1.hi
      have hmi : w64 (m + i) < 18446744073709551616 := w64_lt _
      have HMI : Hid (w64 (m + (i + 1)) = w64 (w64 (m + i) + 1)) := by show _ = _; unfold w64; omega
      have hmw : IntKind.u64.wrap (((w64 (m + i) : Nat) : Int) + 1) = ((w64 (w64 (m + i) + 1) : Nat) : Int) := by rw [IntKind.wrap_u64]; unfold w64; omega
      clear hl2 hG hkF HI
      subst hbP
      generalize hMM : w64 (m + i) = M at *
      have HMQ : Hid (w64 (m + i) = M) := hMM
      clear hMM
      obtain ⟨KI, hKI⟩ : ∃ KI, KI = s.id % 65536 := ⟨_, rfl⟩
      have hrem1 : ((s.id : Nat) : Int).tmod 65536 = (KI : Int) := by rw [Int.tmod_eq_emod_of_nonneg (by omega)]; omega
      have hrem2 : ((s.id : Nat) : Int) % 65536 = (KI : Int) := by omega
      have hKI6 : (KI : Int) < 65536 := by omega
      have hwr6 : IntKind.i64.wrap (KI : Int) = (KI : Int) := by rw [IntKind.wrap_i64]; omega
      have HKI : Hid (KI = s.id % 65536) := hKI
      clear hKI
      have HS7 : Hid (∀ X, Keeps no wr X → X.cell? ⟨p, 0, none⟩ = some (.int .u64 (s.id : Nat)) ∧ X.cell? ⟨p, 7, none⟩ = some (.int .u64 (M : Nat))) := fun X hX => ⟨hX.cellN a0, hX.cellN a7⟩
      go_upto_region 7 with fail
      go_region_held3 (fun X => X.cell? ⟨p, 0, none⟩ = some (.int .u64 (s.id : Nat)) ∧ X.cell? ⟨p, 7, none⟩ = some (.int .u64 (M : Nat))) (first | exact HS7.out _ ((Keeps.refl _ _).drew) | exact HS7.out _ (((Keeps.refl _ _).alloc _).drew) | exact HS7.out _ (((Keeps.refl _ _).drew).alloc _) | exact HS7.out _ ((Keeps.refl _ _).alloc _) | exact HS7.out _ (Keeps.refl _ _)) ((fail))
      obtain ⟨BM, hBM⟩ : ∃ BM, BM = wr.heap.size := ⟨_, rfl⟩
      obtain ⟨wm, hwm⟩ : ∃ wm, wm = (wr.alloc (.cells #[.int .i64 ((s.round : Int) + 1), .int .i64 (KI : Nat), .int .u64 (M : Nat), .int .u64 (s.id : Nat), .slice none 0 0, .slice none 0 0, .slice none 0 0, .slice none 0 0] 45)).drew := ⟨_, rfl⟩
      have HM : Hid (Keeps no wr wm ∧ wm.heap[BM]? = some (.cells #[.int .i64 ((s.round : Int) + 1), .int .i64 (KI : Nat), .int .u64 (M : Nat), .int .u64 (s.id : Nat), .slice none 0 0, .slice none 0 0, .slice none 0 0, .slice none 0 0] 45 (0, 0)) ∧ BM = wr.heap.size) := ⟨by rw [hwm]; exact ((Keeps.refl _ _).alloc _).drew, by rw [hwm, hBM]; exact blk_new wr _, hBM⟩
      rw [← hwm, ← hBM]
      clear hwm hBM HS7 a0 a1 a2 a3 a4 a5 a6 a7 g0 g1 hrem1 hrem2 hwr6
      have HRM : Hid (RdL wm p G s.id s.ps s.keys ((askedS (askS s m)).take i) (List.replicate s.ps.length false) (s.round + 1) s.ended M (some ⟨bP, 0, none⟩) cP gs oK cK oA2 cA2 rs2 (some ⟨gD, 0, none⟩) n) := HL2.out.1.keepsN HM.out.1
      have HGF : Hid ((∀ j, G j → F j ∨ w.heap.size ≤ j) ∧ Keeps F w wm) := ⟨HL2.out.2.1, HL2.out.2.2.trans HM.out.1.of_no⟩
      have f7 := frozen_of_blk HRM.out.blk 7
      obtain ⟨-, -, -, -, -, -, -, a7⟩ := rd_cells HRM.out.blk
      obtain ⟨wn, hwn⟩ : ∃ wn, wn = wm.setCell ⟨p, 7, none⟩ (.int .u64 ((w64 (M + 1) : Nat) : Int)) := ⟨_, rfl⟩
      have hkn : Keeps (fun j => j = p) wm wn := by rw [hwn]; exact (Keeps.refl (fun j => j = p) wm).setCell (p := ⟨p, 7, none⟩) (.inl rfl) _
      have hpB : ¬ p = BM := by have := HL2.out.1.lt p HL2.out.1.pF; have := HM.out.2.2; omega
      have HRN : Hid (RdL wn p G s.id s.ps s.keys ((askedS (askS s m)).take i) (List.replicate s.ps.length false) (s.round + 1) s.ended (w64 (M + 1)) (some ⟨bP, 0, none⟩) cP gs oK cK oA2 cA2 rs2 (some ⟨gD, 0, none⟩) n ∧ wn.heap[BM]? = some (.cells #[.int .i64 ((s.round : Int) + 1), .int .i64 (KI : Nat), .int .u64 (M : Nat), .int .u64 (s.id : Nat), .slice none 0 0, .slice none 0 0, .slice none 0 0, .slice none 0 0] 45 (0, 0)) ∧ Keeps G wm wn) := by
        refine ⟨HRM.out.nums hkn ?_, hkn.at HM.out.2.1 (fun e => hpB e.symm), hkn.mono (fun j hj => by subst hj; exact HRM.out.pF)⟩
        rw [hwn]
        have := blk_set HRM.out.blk 7 (.int .u64 ((w64 (M + 1) : Nat) : Int))
        simpa [rdC] using this
      go_upto_region 9 with fail
      rw [← hwn]
      clear hwn hkn f7 a7 HRM
      have HRO : Hid (s.round = 0 ∨ s.round = 1) := by have h1 : s.round ≤ 1 := by omega
                                                       show s.round = 0 ∨ s.round = 1
                                                       omega
      have HBB : Hid (s.id < 18446744073709551616 ∧ M < 18446744073709551616 ∧ i < n ∧ i ≤ n ∧ n ≤ 64) := ⟨hid, hmi, hlt, hi, hL64⟩
      clear hid hmi hmw hKI6 hlt hi hL64
      go_upto_if 59 with fail
      go_cut [59] from 60 to 73 (fun _ wx => ∃ (po : Option Addr) (pn pc : Nat) (ko : Option Addr) (kn kc : Nat), Hid (wx.heap[BM]? = some (.cells #[.int .i64 ((s.round : Int) + 1), .int .i64 (KI : Nat), .int .u64 (M : Nat), .int .u64 (s.id : Nat), .slice po pn pc, .slice ko kn kc, .slice none 0 0, .slice none 0 0] 45 (0, 0)) ∧ QNw wx ⟨(g.n : Nat), ((s.round : Int) + 1), (KI : Nat), M, s.id, po, pn, pc, ko, kn, kc, none, 0, none, 0⟩ (qAt (askS s m) i) ∧ (∀ j, (inO po j ∨ inO ko j) → G j) ∧ RdL wx p G s.id s.ps s.keys ((askedS (askS s m)).take i) (List.replicate s.ps.length false) (s.round + 1) s.ended (w64 (M + 1)) (some ⟨bP, 0, none⟩) cP gs oK cK oA2 cA2 rs2 (some ⟨gD, 0, none⟩) n ∧ Keeps (fun j => G j ∨ j = BM) wm wx))
      case first =>
        as_aux_lemma =>
        rcases HRO.out with hcs | hcs
        · have hk1 : (((s.round : Int) + 1) == 1) = true := by rw [hcs]; rfl
          have HZ : Hid (s.round = 0) := hcs
          clear hcs
          obtain ⟨-, a1, a2, -, -, -, -, -⟩ := rd_cells HRN.out.1.blk
          rw [← HN.out] at a1
          obtain ⟨bP2, hbP2, -, g1⟩ := HRN.out.1.parts.atHR (j := i) (by rw [ps_len HRN.out.1.val, ← HN.out]; exact HBB.out.2.2.1)
          injection hbP2 with e1
          injection e1 with e2 _ _
          subst e2
          have HGI : Hid (gs.getD i gs0 = g) := HGI0.out
          rw [HGI.out] at g1
          have hb4 := cell_of_blk HRN.out.2.1 4
          have hb5 := cell_of_blk HRN.out.2.1 5
          simp only [List.getElem?_toArray, List.getElem?_cons_succ, List.getElem?_cons_zero] at hb4 hb5
          have f4 := frozen_of_blk HRN.out.2.1 4
          have f5 := frozen_of_blk HRN.out.2.1 5
          have hpB2 : ¬ BM = p := fun e => hpB e.symm
          have hbB : ¬ bP = BM := by have := HL2.out.1.lt bP (HL2.out.1.fP bP ⟨_, rfl, rfl⟩); have := HM.out.2.2; omega
          have hbB2 : ¬ BM = bP := fun e => hbB e.symm
          have HT : Hid (((wn.setCell ⟨BM, 4, none⟩ (.slice g.o g.xs.length g.c)).setCell ⟨BM, 5, none⟩ (.slice oK s.keys.length cK)).heap[BM]? = some (.cells #[.int .i64 ((s.round : Int) + 1), .int .i64 (KI : Nat), .int .u64 (M : Nat), .int .u64 (s.id : Nat), .slice g.o g.xs.length g.c, .slice oK s.keys.length cK, .slice none 0 0, .slice none 0 0] 45 (0, 0)) ∧ QNw ((wn.setCell ⟨BM, 4, none⟩ (.slice g.o g.xs.length g.c)).setCell ⟨BM, 5, none⟩ (.slice oK s.keys.length cK)) ⟨(g.n : Nat), ((s.round : Int) + 1), (KI : Nat), M, s.id, g.o, g.xs.length, g.c, oK, s.keys.length, cK, none, 0, none, 0⟩ (qAt (askS s m) i) ∧ (∀ j, (inO g.o j ∨ inO oK j) → G j) ∧ RdL ((wn.setCell ⟨BM, 4, none⟩ (.slice g.o g.xs.length g.c)).setCell ⟨BM, 5, none⟩ (.slice oK s.keys.length cK)) p G s.id s.ps s.keys ((askedS (askS s m)).take i) (List.replicate s.ps.length false) (s.round + 1) s.ended (w64 (M + 1)) (some ⟨bP, 0, none⟩) cP gs oK cK oA2 cA2 rs2 (some ⟨gD, 0, none⟩) n ∧ Keeps (fun j => G j ∨ j = BM) wm ((wn.setCell ⟨BM, 4, none⟩ (.slice g.o g.xs.length g.c)).setCell ⟨BM, 5, none⟩ (.slice oK s.keys.length cK))) := by
            have hb1 := blk_set HRN.out.2.1 4 (.slice g.o g.xs.length g.c)
            have hb2 := blk_set hb1 5 (.slice oK s.keys.length cK)
            have hk : Keeps (fun j => j = BM) wn ((wn.setCell ⟨BM, 4, none⟩ (.slice g.o g.xs.length g.c)).setCell ⟨BM, 5, none⟩ (.slice oK s.keys.length cK)) := ((Keeps.refl (fun j => j = BM) wn).setCell (p := ⟨BM, 4, none⟩) (.inl rfl) _).setCell (p := ⟨BM, 5, none⟩) (.inl rfl) _
            have hGB : ∀ j, G j → ¬ j = BM := fun j hj e => by have := HL2.out.1.lt j hj; have := HM.out.2.2; omega
            have hrd := HRN.out.1.keeps hk hGB
            refine ⟨by simpa using hb2, qn_of HPS.out.1 HKI.out HMQ.out HRO.out ?_ ?_ ?_ ?_, ?_, hrd, (HRN.out.2.2.mono (fun j hj => Or.inl hj)).trans (hk.mono (fun j hj => .inr hj))⟩
            · rw [if_pos HZ.out]; exact hrd.each g HPS.out.2
            · rw [if_pos HZ.out]
            · rw [if_pos HZ.out]; exact hrd.keys
            · rw [if_pos HZ.out]
            · rintro j (hj | hj)
              · exact hrd.fE g HPS.out.2 j hj
              · exact hrd.fK j hj
          go_wp2_with fail
          go_meet
          case rel => exact ⟨_, _, _, _, _, _, HT.out⟩
        · have hk1 : (((s.round : Int) + 1) == 1) = false := by rw [hcs]; rfl
          have HT : Hid (wn.heap[BM]? = some (.cells #[.int .i64 ((s.round : Int) + 1), .int .i64 (KI : Nat), .int .u64 (M : Nat), .int .u64 (s.id : Nat), .slice none 0 0, .slice none 0 0, .slice none 0 0, .slice none 0 0] 45 (0, 0)) ∧ QNw wn ⟨(g.n : Nat), ((s.round : Int) + 1), (KI : Nat), M, s.id, none, 0, 0, none, 0, 0, none, 0, none, 0⟩ (qAt (askS s m) i) ∧ (∀ j, (inO none j ∨ inO none j) → G j) ∧ RdL wn p G s.id s.ps s.keys ((askedS (askS s m)).take i) (List.replicate s.ps.length false) (s.round + 1) s.ended (w64 (M + 1)) (some ⟨bP, 0, none⟩) cP gs oK cK oA2 cA2 rs2 (some ⟨gD, 0, none⟩) n ∧ Keeps (fun j => G j ∨ j = BM) wm wn) := by
            refine ⟨HRN.out.2.1, qn_of HPS.out.1 HKI.out HMQ.out HRO.out ?_ ?_ ?_ ?_, ?_, HRN.out.1, HRN.out.2.2.mono (fun j hj => Or.inl hj)⟩
            · rw [if_neg (by omega)]; exact own_nil _
            · rw [if_neg (by omega)]; rfl
            · rw [if_neg (by omega)]; exact own_nil _
            · rw [if_neg (by omega)]; rfl
            · rintro j (⟨x, e, _⟩ | ⟨x, e, _⟩) <;> cases e
          clear hcs
          go_wp2_with fail
          go_meet
          case rel => exact ⟨_, _, _, _, _, _, HT.out⟩
      case rest =>
      obtain ⟨po, pn, pc, ko, kn, kc, HX⟩ := hcut
      rename World => wx
      have HRX : Hid (RdL wx p G s.id s.ps s.keys ((askedS (askS s m)).take i) (List.replicate s.ps.length false) (s.round + 1) s.ended (w64 (M + 1)) (some ⟨bP, 0, none⟩) cP gs oK cK oA2 cA2 rs2 (some ⟨gD, 0, none⟩) n) := HX.out.2.2.2.1
      have HQX : Hid (QNw wx ⟨(g.n : Nat), ((s.round : Int) + 1), (KI : Nat), M, s.id, po, pn, pc, ko, kn, kc, none, 0, none, 0⟩ (qAt (askS s m) i)) := HX.out.2.1
      have HGX : Hid (∀ j, (inO po j ∨ inO ko j) → G j) := HX.out.2.2.1
      have HKX : Hid (Keeps F w wx) := HGF.out.2.then HX.out.2.2.2.2 (fun j hj => by
        rcases hj with h | h
        · exact HGF.out.1 j h
        · subst h; exact .inr (by have := HM.out.2.2; have := HL2.out.2.2.size; omega))
      have hil : i < (askedS (askS s m)).length := by rw [asked_len]; show i < s.ps.length; rw [← HN.out]; exact HBB.out.2.2.1
      have HTK : Hid ((askedS (askS s m)).take (i + 1) = (askedS (askS s m)).take i ++ [qAt (askS s m) i]) := by
        show _ = _
        rw [take_succ_getD _ i q0 hil, asked_at _ (by rw [← asked_len]; exact hil)]
      have HLI : Hid (i = rs2.length ∧ i = ((askedS (askS s m)).take i).length) := by
        have h1 : ((askedS (askS s m)).take i).length = i := by rw [List.length_take]; omega
        exact ⟨by rw [HRX.out.len, h1], h1.symm⟩
      have HLB : Hid ((rs2.length + ([⟨(g.n : Nat), ((s.round : Int) + 1), (KI : Nat), M, s.id, po, pn, pc, ko, kn, kc, none, 0, none, 0⟩] : List RQ).length) * QE.nb ≤ 140737488355328 ∧ rs2.length + ([⟨(g.n : Nat), ((s.round : Int) + 1), (KI : Nat), M, s.id, po, pn, pc, ko, kn, kc, none, 0, none, 0⟩] : List RQ).length ≤ 140737488355328) := by
        have h1 := HLI.out.1
        have h2 := HBB.out.2.2.2
        refine ⟨?_, ?_⟩ <;> simp [QE] <;> omega
      have HNE : Hid (¬ bP = p ∧ ¬ BM = p) := ⟨fun e => not_own HRX.out.blk (by decide) HRX.out.parts ⟨_, rfl, e⟩, fun e => hpB e.symm⟩
      have HC3 : Hid (∀ X, Keeps no wx X → X.cell? ⟨p, 3, none⟩ = some (.slice oA2 i cA2)) := by
        intro X hX
        have h := hX.cellN (rd_cells HRX.out.blk).2.2.2.1
        rw [← HLI.out.2] at h
        exact h
      have HSX : Hid (∀ X, Keeps (inO oA2) wx X → (fun X => X.cell? ⟨p, 1, none⟩ = some (.slice (some ⟨bP, 0, none⟩) n cP) ∧ X.cell? ⟨bP, i * 2, none⟩ = some (.int .i64 (g.n : Nat)) ∧ X.cell? ⟨BM, 0, none⟩ = some (.int .i64 ((s.round : Int) + 1)) ∧ X.cell? ⟨BM, 1, none⟩ = some (.int .i64 (KI : Nat)) ∧ X.cell? ⟨BM, 2, none⟩ = some (.int .u64 (M : Nat)) ∧ X.cell? ⟨BM, 3, none⟩ = some (.int .u64 (s.id : Nat)) ∧ X.cell? ⟨BM, 4, none⟩ = some (.slice po pn pc) ∧ X.cell? ⟨BM, 5, none⟩ = some (.slice ko kn kc) ∧ X.cell? ⟨BM, 6, none⟩ = some (.slice none 0 0) ∧ X.cell? ⟨BM, 7, none⟩ = some (.slice none 0 0)) X) := by
        intro X hX
        have n0 : ¬ inO oA2 p := not_own HRX.out.blk (by decide) HRX.out.asked
        have n1 : ¬ inO oA2 bP := fun e => own_apart (by decide) HRX.out.parts HRX.out.asked bP ⟨_, rfl, rfl⟩ e
        have n2 : ¬ inO oA2 BM := not_own HX.out.1 (by decide) HRX.out.asked
        obtain ⟨bP3, hbP3, q0', _⟩ := HRX.out.parts.atHR (j := i) (by rw [ps_len HRX.out.val, ← HN.out]; exact HBB.out.2.2.1)
        injection hbP3 with e1
        injection e1 with e2 _ _
        subst e2
        rw [HGI0.out] at q0'
        have q1 := (rd_cells HRX.out.blk).2.1
        rw [← HN.out] at q1
        refine ⟨hX.cell q1 n0, hX.cell q0' n1, ?_, ?_, ?_, ?_, ?_, ?_, ?_, ?_⟩
        all_goals (refine hX.cell ?_ n2; rw [cell_of_blk HX.out.1]; rfl)
      have hib : (i : Int) < n := by have := HBB.out.2.2.1; omega
      clear HX HRN HL2 hil
      go_wp2_with fail
      refine wp_region_held_drew (S := fun X => X.cell? ⟨p, 1, none⟩ = some (.slice (some ⟨bP, 0, none⟩) n cP) ∧ X.cell? ⟨bP, i * 2, none⟩ = some (.int .i64 (g.n : Nat)) ∧ X.cell? ⟨BM, 0, none⟩ = some (.int .i64 ((s.round : Int) + 1)) ∧ X.cell? ⟨BM, 1, none⟩ = some (.int .i64 (KI : Nat)) ∧ X.cell? ⟨BM, 2, none⟩ = some (.int .u64 (M : Nat)) ∧ X.cell? ⟨BM, 3, none⟩ = some (.int .u64 (s.id : Nat)) ∧ X.cell? ⟨BM, 4, none⟩ = some (.slice po pn pc) ∧ X.cell? ⟨BM, 5, none⟩ = some (.slice ko kn kc) ∧ X.cell? ⟨BM, 6, none⟩ = some (.slice none 0 0) ∧ X.cell? ⟨BM, 7, none⟩ = some (.slice none 0 0)) (by kernel_rfl) ?_ (fun hHeld => ?_)
      · exact HSX.out _ ((Keeps.refl _ _).drew)
      have HDW : Hid (Keeps no wx wx.drew) := (Keeps.refl _ _).drew
      generalize wx.drew = zd at HDW hHeld ⊢
      refine wpAnyH_take (i := 0) (v := ?_) (by simp only [List.getElem?_toArray, List.getElem?_cons_succ, List.getElem?_cons_zero]; rfl) (by kernel_rfl) (by kernel_rfl) (by kernel_rfl) (by exact fun _ _ _ h => h) (Or.inl ⟨by rfl, ?_⟩) (by assumption) ?_
      rotate_left
      · (intro _ hSw; (try dsimp only at hSw); go_simp; (try with_reducible rfl))
      try simp only [Act.put, List.setIfInBounds_toArray, List.set_cons_zero, List.set_cons_succ]
      refine wpAnyH_take (i := 1) (v := ?_) (by simp only [List.getElem?_toArray, List.getElem?_cons_succ, List.getElem?_cons_zero]; rfl) (by kernel_rfl) (by kernel_rfl) (by kernel_rfl) (by exact fun _ _ _ h => h) (Or.inl ⟨by rfl, ?_⟩) (by assumption) ?_
      rotate_left
      · (intro _ hSw; (try dsimp only at hSw); go_simp; (try with_reducible rfl))
      try simp only [Act.put, List.setIfInBounds_toArray, List.set_cons_zero, List.set_cons_succ]
      refine wpAnyH_take (i := 2) (v := ?_) (by simp only [List.getElem?_toArray, List.getElem?_cons_succ, List.getElem?_cons_zero]; rfl) (by kernel_rfl) (by kernel_rfl) (by kernel_rfl) (by exact fun _ _ _ h => h) (Or.inl ⟨by rfl, ?_⟩) (by assumption) ?_
      rotate_left
      · (intro _ hSw; (try dsimp only at hSw); go_simp; (try with_reducible rfl))
      try simp only [Act.put, List.setIfInBounds_toArray, List.set_cons_zero, List.set_cons_succ]
      refine wpAnyH_take (i := 3) (v := ?_) (by simp only [List.getElem?_toArray, List.getElem?_cons_succ, List.getElem?_cons_zero]; rfl) (by kernel_rfl) (by kernel_rfl) (by kernel_rfl) (by exact fun _ _ _ h => h) (Or.inl ⟨by rfl, ?_⟩) (by assumption) ?_
      rotate_left
      · (intro _ hSw; (try dsimp only at hSw); go_simp; (try with_reducible rfl))
      try simp only [Act.put, List.setIfInBounds_toArray, List.set_cons_zero, List.set_cons_succ]
      refine wpAnyH_take (i := 5) (v := ?_) (by simp only [List.getElem?_toArray, List.getElem?_cons_succ, List.getElem?_cons_zero]; rfl) (by kernel_rfl) (by kernel_rfl) (by kernel_rfl) (by exact fun _ _ _ h => h) (Or.inl ⟨by rfl, ?_⟩) (by assumption) ?_
      rotate_left
      · (intro _ hSw; (try dsimp only at hSw); go_simp; (try with_reducible rfl))
      try simp only [Act.put, List.setIfInBounds_toArray, List.set_cons_zero, List.set_cons_succ]
      refine wpAnyH_take (i := 6) (v := ?_) (by simp only [List.getElem?_toArray, List.getElem?_cons_succ, List.getElem?_cons_zero]; rfl) (by kernel_rfl) (by kernel_rfl) (by kernel_rfl) (by exact fun _ _ _ h => h) (Or.inl ⟨by rfl, ?_⟩) (by assumption) ?_
      rotate_left
      · (intro _ hSw; (try dsimp only at hSw); go_simp; (try with_reducible rfl))
      try simp only [Act.put, List.setIfInBounds_toArray, List.set_cons_zero, List.set_cons_succ]
      refine wpAnyH_take (i := 7) (v := ?_) (by simp only [List.getElem?_toArray, List.getElem?_cons_succ, List.getElem?_cons_zero]; rfl) (by kernel_rfl) (by kernel_rfl) (by kernel_rfl) (by exact fun _ _ _ h => h) (Or.inl ⟨by rfl, ?_⟩) (by assumption) ?_
      rotate_left
      · (intro _ hSw; (try dsimp only at hSw); go_simp; (try with_reducible rfl))
      try simp only [Act.put, List.setIfInBounds_toArray, List.set_cons_zero, List.set_cons_succ]
      refine wpAnyH_take (i := 8) (v := ?_) (by simp only [List.getElem?_toArray, List.getElem?_cons_succ, List.getElem?_cons_zero]; rfl) (by kernel_rfl) (by kernel_rfl) (by kernel_rfl) (by exact fun _ _ _ h => h) (Or.inl ⟨by rfl, ?_⟩) (by assumption) ?_
      rotate_left
      · (intro _ hSw; (try dsimp only at hSw); have hz := hSw.1; go_simp; (try with_reducible rfl))
      try simp only [Act.put, List.setIfInBounds_toArray, List.set_cons_zero, List.set_cons_succ]
      refine wpAnyH_take (i := 9) (v := ?_) (by simp only [List.getElem?_toArray, List.getElem?_cons_succ, List.getElem?_cons_zero]; rfl) (by kernel_rfl) (by kernel_rfl) (by kernel_rfl) (by exact fun _ _ _ h => h) (Or.inl ⟨by rfl, ?_⟩) (by assumption) ?_
      rotate_left
      · (intro _ hSw; (try dsimp only at hSw); go_simp; (try with_reducible rfl))
      try simp only [Act.put, List.setIfInBounds_toArray, List.set_cons_zero, List.set_cons_succ]
      refine wpAnyH_take (i := 10) (v := ?_) (by simp only [List.getElem?_toArray, List.getElem?_cons_succ, List.getElem?_cons_zero]; rfl) (by kernel_rfl) (by kernel_rfl) (by kernel_rfl) (by exact fun _ _ _ h => h) (Or.inl ⟨by rfl, ?_⟩) (by assumption) ?_
      rotate_left
      · (intro _ hSw; (try dsimp only at hSw); go_simp; (try with_reducible rfl))
      try simp only [Act.put, List.setIfInBounds_toArray, List.set_cons_zero, List.set_cons_succ]
      refine wpAnyH_take (i := 11) (v := ?_) (by simp only [List.getElem?_toArray, List.getElem?_cons_succ, List.getElem?_cons_zero]; rfl) (by kernel_rfl) (by kernel_rfl) (by kernel_rfl) (by exact fun _ _ _ h => h) (Or.inl ⟨by rfl, ?_⟩) (by assumption) ?_
      rotate_left
      · (intro _ hSw; (try dsimp only at hSw); go_simp; (try with_reducible rfl))
      try simp only [Act.put, List.setIfInBounds_toArray, List.set_cons_zero, List.set_cons_succ]
      refine wpAnyH_take (i := 12) (v := ?_) (by simp only [List.getElem?_toArray, List.getElem?_cons_succ, List.getElem?_cons_zero]; rfl) (by kernel_rfl) (by kernel_rfl) (by kernel_rfl) (by exact fun _ _ _ h => h) (Or.inl ⟨by rfl, ?_⟩) (by assumption) ?_
      rotate_left
      · (intro _ hSw; (try dsimp only at hSw); have hz := hSw.2.1; go_simp; (try with_reducible rfl))
      try simp only [Act.put, List.setIfInBounds_toArray, List.set_cons_zero, List.set_cons_succ]
      refine wpAnyH_take (i := 13) (v := ?_) (by simp only [List.getElem?_toArray, List.getElem?_cons_succ, List.getElem?_cons_zero]; rfl) (by kernel_rfl) (by kernel_rfl) (by kernel_rfl) (by exact fun _ _ _ h => h) (Or.inl ⟨by rfl, ?_⟩) (by assumption) ?_
      rotate_left
      · (intro _ hSw; (try dsimp only at hSw); obtain ⟨-, -, m0, m1, m2, m3, m4, m5, m6, m7⟩ := hSw; go_simp; (try with_reducible rfl))
      try simp only [Act.put, List.setIfInBounds_toArray, List.set_cons_zero, List.set_cons_succ]
      refine wpAnyH_take (i := 14) (v := ?_) (by simp only [List.getElem?_toArray, List.getElem?_cons_succ, List.getElem?_cons_zero]; rfl) (by kernel_rfl) (by kernel_rfl) (by kernel_rfl) (by exact fun _ _ _ h => h) (Or.inl ⟨by rfl, ?_⟩) (by assumption) ?_
      rotate_left
      · (intro _ hSw; (try dsimp only at hSw); go_simp; (try with_reducible rfl))
      try simp only [Act.put, List.setIfInBounds_toArray, List.set_cons_zero, List.set_cons_succ]
      refine wpAnyH_ready (rs := [4, 15]) (by kernel_rfl) (by simp) ?_
      refine AllReadyH.cons (by simp only [List.getElem?_toArray, List.getElem?_cons_succ, List.getElem?_cons_zero]; rfl) (fun Kq hKq => ?_) (AllReadyH.cons (by simp only [List.getElem?_toArray, List.getElem?_cons_succ, List.getElem?_cons_zero]; rfl) (fun Kq hKq => ?_) AllReadyH.nil)
      · have hz : Keeps no wx zd := HDW.out
        have hz2 := HC3.out _ hz
        clear hz
        go_simp
        clear hz2
        refine hKq.out _ _ ?_ (fun hHeldN => ?_)
        · exact HSX.out _ (HDW.out).of_no
        clear hKq Kq hHeld
        have hHeld := hHeldN
        clear hHeldN
        refine wpAnyH_ready (rs := [15]) (by kernel_rfl) (by simp) ?_
        refine AllReadyH.cons (by simp only [List.getElem?_toArray, List.getElem?_cons_succ, List.getElem?_cons_zero]; rfl) (fun Kq hKq => ?_) AllReadyH.nil
        go_simp
        refine hKq.out _ _ ?_ (fun hHeldN => ?_)
        · exact HSX.out _ (HDW.out.alloc _).of_no
        clear hKq Kq hHeld
        have hHeld := hHeldN
        clear hHeldN
        refine wpAnyH_ready (rs := [16]) (by kernel_rfl) (by simp) ?_
        refine AllReadyH.cons (by simp only [List.getElem?_toArray, List.getElem?_cons_succ, List.getElem?_cons_zero]; rfl) (fun Kq hKq => ?_) AllReadyH.nil
        refine step_app okQ rfl (.tmp 78) (.tmp 89) rfl oA2 i cA2 rs2 rfl HLI.out.1 (HRX.out.asked.keepsN (HDW.out.alloc _)) (some ⟨zd.heap.size, 0, none⟩) 1 1 [⟨(g.n : Nat), ((s.round : Int) + 1), (KI : Nat), M, s.id, po, pn, pc, ko, kn, kc, none, 0, none, 0⟩] rfl rfl (fun h => by cases h) (lit_one (E := QE) zd ⟨(g.n : Nat), ((s.round : Int) + 1), (KI : Nat), M, s.id, po, pn, pc, ko, kn, kc, none, 0, none, 0⟩ _ rfl).row HLB.out.1 HLB.out.2 ?_
        intro o9 c9 w9 ho9 ha9
        obtain ⟨hb9, hk9, hA9⟩ := HRX.out.push (HDW.out.alloc _) HQX.out HGX.out ho9 ha9 HLI.out.2
        have f9 := frozen_of_blk hb9 3
        have c93 := (rd_cells hb9).2.2.2.1
        obtain ⟨G2, hG2⟩ := hA9 _ HTK.out
        have HN9 : Hid (RdL (w9.setCell ⟨p, 3, none⟩ (.slice o9 (i + 1) c9)) p G2 s.id s.ps s.keys ((askedS (askS s m)).take (i + 1)) (List.replicate s.ps.length false) (s.round + 1) s.ended (w64 (M + 1)) (some ⟨bP, 0, none⟩) cP gs oK cK o9 c9 (rs2 ++ [⟨(g.n : Nat), ((s.round : Int) + 1), (KI : Nat), M, s.id, po, pn, pc, ko, kn, kc, none, 0, none, 0⟩]) (some ⟨gD, 0, none⟩) n ∧ (∀ j, G2 j → G j ∨ wx.heap.size ≤ j) ∧ Keeps G wx (w9.setCell ⟨p, 3, none⟩ (.slice o9 (i + 1) c9))) := hG2
        have HSY : Hid ((fun X => X.cell? ⟨p, 1, none⟩ = some (.slice (some ⟨bP, 0, none⟩) n cP) ∧ X.cell? ⟨bP, i * 2, none⟩ = some (.int .i64 (g.n : Nat)) ∧ X.cell? ⟨BM, 0, none⟩ = some (.int .i64 ((s.round : Int) + 1)) ∧ X.cell? ⟨BM, 1, none⟩ = some (.int .i64 (KI : Nat)) ∧ X.cell? ⟨BM, 2, none⟩ = some (.int .u64 (M : Nat)) ∧ X.cell? ⟨BM, 3, none⟩ = some (.int .u64 (s.id : Nat)) ∧ X.cell? ⟨BM, 4, none⟩ = some (.slice po pn pc) ∧ X.cell? ⟨BM, 5, none⟩ = some (.slice ko kn kc) ∧ X.cell? ⟨BM, 6, none⟩ = some (.slice none 0 0) ∧ X.cell? ⟨BM, 7, none⟩ = some (.slice none 0 0)) w9) := HSX.out _ hk9
        have HSZ : Hid ((fun X => X.cell? ⟨p, 1, none⟩ = some (.slice (some ⟨bP, 0, none⟩) n cP) ∧ X.cell? ⟨bP, i * 2, none⟩ = some (.int .i64 (g.n : Nat)) ∧ X.cell? ⟨BM, 0, none⟩ = some (.int .i64 ((s.round : Int) + 1)) ∧ X.cell? ⟨BM, 1, none⟩ = some (.int .i64 (KI : Nat)) ∧ X.cell? ⟨BM, 2, none⟩ = some (.int .u64 (M : Nat)) ∧ X.cell? ⟨BM, 3, none⟩ = some (.int .u64 (s.id : Nat)) ∧ X.cell? ⟨BM, 4, none⟩ = some (.slice po pn pc) ∧ X.cell? ⟨BM, 5, none⟩ = some (.slice ko kn kc) ∧ X.cell? ⟨BM, 6, none⟩ = some (.slice none 0 0) ∧ X.cell? ⟨BM, 7, none⟩ = some (.slice none 0 0)) (w9.setCell ⟨p, 3, none⟩ (.slice o9 (i + 1) c9))) := by
          have kz : Keeps (fun j => j = p) w9 (w9.setCell ⟨p, 3, none⟩ (.slice o9 (i + 1) c9)) := (Keeps.refl (fun j => j = p) w9).setCell (p := ⟨p, 3, none⟩) (.inl rfl) _
          obtain ⟨-, q1, q2, q3, q4, q5, q6, q7, q8, q9⟩ := HSY.out
          have n1 := HNE.out.1
          have n2 := HNE.out.2
          refine ⟨?_, kz.cell q1 n1, kz.cell q2 n2, kz.cell q3 n2, kz.cell q4 n2, kz.cell q5 n2, kz.cell q6 n2, kz.cell q7 n2, kz.cell q8 n2, kz.cell q9 n2⟩
          rw [cell_of_blk (blk_set hb9 3 _), HN.out]
          rfl
        clear hb9 hk9 hA9 ho9 ha9 hG2
        refine hKq.out _ _ ?_ (fun hHeldN => ?_)
        · exact HSY.out
        clear hKq Kq hHeld
        have hHeld := hHeldN
        clear hHeldN
        refine wpAnyH_take (i := 17) (v := ?_) (by simp only [List.getElem?_toArray, List.getElem?_cons_succ, List.getElem?_cons_zero]; rfl) (by kernel_rfl) (by kernel_rfl) (by kernel_rfl) (by exact fun _ _ _ h => h) (Or.inl ⟨by rfl, ?_⟩) (by assumption) ?_
        rotate_left
        · (intro _ hSw; (try dsimp only at hSw); go_simp; (try with_reducible rfl))
        try simp only [Act.put, List.setIfInBounds_toArray, List.set_cons_zero, List.set_cons_succ]
        refine wpAnyH_take (i := 18) (v := ?_) (by simp only [List.getElem?_toArray, List.getElem?_cons_succ, List.getElem?_cons_zero]; rfl) (by kernel_rfl) (by kernel_rfl) (by kernel_rfl) (by exact fun _ _ _ h => h) (Or.inl ⟨by rfl, ?_⟩) (by assumption) ?_
        rotate_left
        · (intro _ hSw; (try dsimp only at hSw); go_simp; (try with_reducible rfl))
        try simp only [Act.put, List.setIfInBounds_toArray, List.set_cons_zero, List.set_cons_succ]
        refine wpAnyH_ready (rs := [19]) (by kernel_rfl) (by simp) ?_
        refine AllReadyH.cons (by simp only [List.getElem?_toArray, List.getElem?_cons_succ, List.getElem?_cons_zero]; rfl) (fun Kq hKq => ?_) AllReadyH.nil
        go_simp
        refine hKq.out _ _ ?_ (fun hHeldN => ?_)
        · exact HSZ.out
        clear hKq Kq hHeld
        have hHeld := hHeldN
        clear hHeldN
        refine wpAnyH_done (by kernel_rfl) ?_ _
        clear hHeld
        go_wp2_with fail
        go_roundw
        case rel =>
          obtain ⟨h1, h2, h3⟩ := HN9.out
          refine ⟨i + 1, by have := HBB.out.2.2.1; omega, by go_num, G2, o9, c9, rs2 ++ [⟨(g.n : Nat), ((s.round : Int) + 1), (KI : Nat), M, s.id, po, pn, pc, ko, kn, kc, none, 0, none, 0⟩], ?_, fun j hj => ?_, ?_⟩
          · rw [HMI.out]; exact h1
          · rcases h2 j hj with h | h
            · exact HGF.out.1 j h
            · exact .inr (Nat.le_trans HKX.out.size h)
          · exact HKX.out.then h3 (fun j hj => HGF.out.1 j hj)
        case measure => have := HBB.out.2.2.1; simp [intOf]; omega
      · go_simp
        refine hKq.out _ _ ?_ (fun hHeldN => ?_)
        · exact HSX.out _ (HDW.out.alloc _).of_no
        clear hKq Kq hHeld
        have hHeld := hHeldN
        clear hHeldN
        refine wpAnyH_ready (rs := [4]) (by kernel_rfl) (by simp) ?_
        refine AllReadyH.cons (by simp only [List.getElem?_toArray, List.getElem?_cons_succ, List.getElem?_cons_zero]; rfl) (fun Kq hKq => ?_) AllReadyH.nil
        have hz : Keeps no wx (zd.alloc (.cells #[.int .i64 (g.n : Nat), .int .i64 ((s.round : Int) + 1), .int .i64 (KI : Nat), .int .u64 (M : Nat), .int .u64 (s.id : Nat), .slice po pn pc, .slice ko kn kc, .slice none 0 0, .slice none 0 0] 63)) := HDW.out.alloc _
        have hz2 := HC3.out _ hz
        clear hz
        go_simp
        clear hz2
        refine hKq.out _ _ ?_ (fun hHeldN => ?_)
        · exact HSX.out _ (HDW.out.alloc _).of_no
        clear hKq Kq hHeld
        have hHeld := hHeldN
        clear hHeldN
        refine wpAnyH_ready (rs := [16]) (by kernel_rfl) (by simp) ?_
        refine AllReadyH.cons (by simp only [List.getElem?_toArray, List.getElem?_cons_succ, List.getElem?_cons_zero]; rfl) (fun Kq hKq => ?_) AllReadyH.nil
        refine step_app okQ rfl (.tmp 78) (.tmp 89) rfl oA2 i cA2 rs2 rfl HLI.out.1 (HRX.out.asked.keepsN (HDW.out.alloc _)) (some ⟨zd.heap.size, 0, none⟩) 1 1 [⟨(g.n : Nat), ((s.round : Int) + 1), (KI : Nat), M, s.id, po, pn, pc, ko, kn, kc, none, 0, none, 0⟩] rfl rfl (fun h => by cases h) (lit_one (E := QE) zd ⟨(g.n : Nat), ((s.round : Int) + 1), (KI : Nat), M, s.id, po, pn, pc, ko, kn, kc, none, 0, none, 0⟩ _ rfl).row HLB.out.1 HLB.out.2 ?_
        intro o9 c9 w9 ho9 ha9
        obtain ⟨hb9, hk9, hA9⟩ := HRX.out.push (HDW.out.alloc _) HQX.out HGX.out ho9 ha9 HLI.out.2
        have f9 := frozen_of_blk hb9 3
        have c93 := (rd_cells hb9).2.2.2.1
        obtain ⟨G2, hG2⟩ := hA9 _ HTK.out
        have HN9 : Hid (RdL (w9.setCell ⟨p, 3, none⟩ (.slice o9 (i + 1) c9)) p G2 s.id s.ps s.keys ((askedS (askS s m)).take (i + 1)) (List.replicate s.ps.length false) (s.round + 1) s.ended (w64 (M + 1)) (some ⟨bP, 0, none⟩) cP gs oK cK o9 c9 (rs2 ++ [⟨(g.n : Nat), ((s.round : Int) + 1), (KI : Nat), M, s.id, po, pn, pc, ko, kn, kc, none, 0, none, 0⟩]) (some ⟨gD, 0, none⟩) n ∧ (∀ j, G2 j → G j ∨ wx.heap.size ≤ j) ∧ Keeps G wx (w9.setCell ⟨p, 3, none⟩ (.slice o9 (i + 1) c9))) := hG2
        have HSY : Hid ((fun X => X.cell? ⟨p, 1, none⟩ = some (.slice (some ⟨bP, 0, none⟩) n cP) ∧ X.cell? ⟨bP, i * 2, none⟩ = some (.int .i64 (g.n : Nat)) ∧ X.cell? ⟨BM, 0, none⟩ = some (.int .i64 ((s.round : Int) + 1)) ∧ X.cell? ⟨BM, 1, none⟩ = some (.int .i64 (KI : Nat)) ∧ X.cell? ⟨BM, 2, none⟩ = some (.int .u64 (M : Nat)) ∧ X.cell? ⟨BM, 3, none⟩ = some (.int .u64 (s.id : Nat)) ∧ X.cell? ⟨BM, 4, none⟩ = some (.slice po pn pc) ∧ X.cell? ⟨BM, 5, none⟩ = some (.slice ko kn kc) ∧ X.cell? ⟨BM, 6, none⟩ = some (.slice none 0 0) ∧ X.cell? ⟨BM, 7, none⟩ = some (.slice none 0 0)) w9) := HSX.out _ hk9
        have HSZ : Hid ((fun X => X.cell? ⟨p, 1, none⟩ = some (.slice (some ⟨bP, 0, none⟩) n cP) ∧ X.cell? ⟨bP, i * 2, none⟩ = some (.int .i64 (g.n : Nat)) ∧ X.cell? ⟨BM, 0, none⟩ = some (.int .i64 ((s.round : Int) + 1)) ∧ X.cell? ⟨BM, 1, none⟩ = some (.int .i64 (KI : Nat)) ∧ X.cell? ⟨BM, 2, none⟩ = some (.int .u64 (M : Nat)) ∧ X.cell? ⟨BM, 3, none⟩ = some (.int .u64 (s.id : Nat)) ∧ X.cell? ⟨BM, 4, none⟩ = some (.slice po pn pc) ∧ X.cell? ⟨BM, 5, none⟩ = some (.slice ko kn kc) ∧ X.cell? ⟨BM, 6, none⟩ = some (.slice none 0 0) ∧ X.cell? ⟨BM, 7, none⟩ = some (.slice none 0 0)) (w9.setCell ⟨p, 3, none⟩ (.slice o9 (i + 1) c9))) := by
          have kz : Keeps (fun j => j = p) w9 (w9.setCell ⟨p, 3, none⟩ (.slice o9 (i + 1) c9)) := (Keeps.refl (fun j => j = p) w9).setCell (p := ⟨p, 3, none⟩) (.inl rfl) _
          obtain ⟨-, q1, q2, q3, q4, q5, q6, q7, q8, q9⟩ := HSY.out
          have n1 := HNE.out.1
          have n2 := HNE.out.2
          refine ⟨?_, kz.cell q1 n1, kz.cell q2 n2, kz.cell q3 n2, kz.cell q4 n2, kz.cell q5 n2, kz.cell q6 n2, kz.cell q7 n2, kz.cell q8 n2, kz.cell q9 n2⟩
          rw [cell_of_blk (blk_set hb9 3 _), HN.out]
          rfl
        clear hb9 hk9 hA9 ho9 ha9 hG2
        refine hKq.out _ _ ?_ (fun hHeldN => ?_)
        · exact HSY.out
        clear hKq Kq hHeld
        have hHeld := hHeldN
        clear hHeldN
        refine wpAnyH_take (i := 17) (v := ?_) (by simp only [List.getElem?_toArray, List.getElem?_cons_succ, List.getElem?_cons_zero]; rfl) (by kernel_rfl) (by kernel_rfl) (by kernel_rfl) (by exact fun _ _ _ h => h) (Or.inl ⟨by rfl, ?_⟩) (by assumption) ?_
        rotate_left
        · (intro _ hSw; (try dsimp only at hSw); go_simp; (try with_reducible rfl))
        try simp only [Act.put, List.setIfInBounds_toArray, List.set_cons_zero, List.set_cons_succ]
        refine wpAnyH_take (i := 18) (v := ?_) (by simp only [List.getElem?_toArray, List.getElem?_cons_succ, List.getElem?_cons_zero]; rfl) (by kernel_rfl) (by kernel_rfl) (by kernel_rfl) (by exact fun _ _ _ h => h) (Or.inl ⟨by rfl, ?_⟩) (by assumption) ?_
        rotate_left
        · (intro _ hSw; (try dsimp only at hSw); go_simp; (try with_reducible rfl))
        try simp only [Act.put, List.setIfInBounds_toArray, List.set_cons_zero, List.set_cons_succ]
        refine wpAnyH_ready (rs := [19]) (by kernel_rfl) (by simp) ?_
        refine AllReadyH.cons (by simp only [List.getElem?_toArray, List.getElem?_cons_succ, List.getElem?_cons_zero]; rfl) (fun Kq hKq => ?_) AllReadyH.nil
        go_simp
        refine hKq.out _ _ ?_ (fun hHeldN => ?_)
        · exact HSZ.out
        clear hKq Kq hHeld
        have hHeld := hHeldN
        clear hHeldN
        refine wpAnyH_done (by kernel_rfl) ?_ _
        clear hHeld
        go_wp2_with fail
        go_roundw
        case rel =>
          obtain ⟨h1, h2, h3⟩ := HN9.out
          refine ⟨i + 1, by have := HBB.out.2.2.1; omega, by go_num, G2, o9, c9, rs2 ++ [⟨(g.n : Nat), ((s.round : Int) + 1), (KI : Nat), M, s.id, po, pn, pc, ko, kn, kc, none, 0, none, 0⟩], ?_, fun j hj => ?_, ?_⟩
          · rw [HMI.out]; exact h1
          · rcases h2 j hj with h | h
            · exact HGF.out.1 j h
            · exact .inr (Nat.le_trans HKX.out.size h)
          · exact HKX.out.then h3 (fun j hj => HGF.out.1 j hj)
        case measure => have := HBB.out.2.2.1; simp [intOf]; omega
    · have hlt' : ¬ (i : Int) < n := by omega
      have hin : i = s.ps.length := by have := HN.out; omega
      have hqs : (askedS (askS s m)).take i = askedS (askS s m) := List.take_of_length_le (by rw [asked_len]; show s.ps.length ≤ i; omega)
      rw [hqs] at hl2 a3
      have hwf := HW.out.1.ask m (by omega)
      have HCP : Hid (Calls Tryz.prog 43 #[.slice oA2 (askedS (askS s m)).length cA2] wr (CopyTo wr (askedS (askS s m)).length (askedS (askS s m)))) := copy_any wr oA2 _ cA2 rs2 _ rfl hwf.fit hl2.asQs
      have HE : Hid (RdL wr p G s.id s.ps s.keys (askedS (askS s m)) (List.replicate s.ps.length false) (s.round + 1) s.ended (numS s m) oP cP gs oK cK oA2 cA2 rs2 (some ⟨gD, 0, none⟩) n ∧ (∀ j, G j → F j ∨ w.heap.size ≤ j) ∧ Keeps F w wr) := ⟨by have := hl2; rw [hin] at this; exact this, hG, hkF⟩
      generalize hLQ : (askedS (askS s m)).length = LQ at a3 HCP
      have HLQ : Hid (LQ = (askedS (askS s m)).length) := hLQ.symm
      clear hLQ
      clear hl2 hG hkF HI HL2 hqs hwf hin a0 a2 a4 a5 a6 a7
      unfold CopyTo at HCP
      go_wp2_with fail
      refine Calls.mono HCP.out ?_
      rintro e w9 ⟨o9, c9, r9, rfl, ht, hN, hk9⟩
      have HF : Hid (Tq w9 o9 c9 r9 (askedS (askS s m)) ∧ (∀ i, TB o9 r9 (askedS (askS s m)).length i → wr.heap.size ≤ i) ∧ Keeps no wr w9) := ⟨ht, hN, hk9⟩
      clear ht hN hk9 HCP
      have HOUT : Hid (RTellTo w p F ⟨askS s m, askedS (askS s m), numS s m⟩ (.returned (.slice o9 LQ c9)) w9) := by
        refine ⟨o9, LQ, c9, r9, G, rfl, HLQ.out, HF.out.1, fun j hj => Nat.le_trans HE.out.2.2.size (HF.out.2.1 j hj), ?_, HE.out.2.1, ?_, HE.out.2.2.trans HF.out.2.2.of_no⟩
        · exact ⟨oP, cP, gs, oK, cK, oA2, cA2, rs2, _, n, by
            have h1 : askI (askS s m) = askedS (askS s m) := by unfold askI; rw [if_neg (by show ¬ s.round + 1 = 0; omega)]
            show RdL w9 p G s.id s.ps s.keys (askI (askS s m)) (List.replicate s.ps.length false) (s.round + 1) s.ended (numS s m) oP cP gs oK cK oA2 cA2 rs2 _ n
            rw [h1]
            exact HE.out.1.keepsN HF.out.2.2⟩
        · intro j hj hg
          have := HF.out.2.1 j hj
          have := HE.out.1.lt j hg
          omega
      clear HF HE
      go_wp2_with fail
      go_ret
      exact HOUT.out
end Go.Proofs.YtghnhkhhpeoheaaGreat
