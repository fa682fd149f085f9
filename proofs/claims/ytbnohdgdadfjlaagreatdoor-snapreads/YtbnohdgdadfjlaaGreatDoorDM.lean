import Derived.Test.YtbnohdgdadfjlaaGreatDoorDY
import Derived.Test.YtbnohdgdadfjlaaGreatDoorLBu
/- The document's store of a script. -/
namespace Go.Proofs.YtbnohdgdadfjlaaGreatDoor
open Go.RowKit Go.Maps Go.Sort Orl
set_option linter.unusedVariables false
set_option linter.unusedSimpArgs false

theorem sl_lt {α : Type} {E : El α} (hE : E.Ok) {w : World} {o : Option Addr} {c : Nat} {xs : List α} (h : Sl E w o c xs) (hx : 0 < xs.length) : ∀ b, inO o b → b < w.heap.size := by
  rintro b ⟨x, rfl, rfl⟩
  rcases h.row with h0 | ⟨b, off, e, hc⟩
  · rw [h0] at hx; simp at hx
  · cases e
    have hl : 0 < (E.cells xs).length := by rw [cells_length hE]; exact Nat.mul_pos hx hE.pos
    exact World.block_lt_of_cell? w _ (hc 0 _ (List.getElem?_eq_getElem hl))
/-- the document's store, of the call's own, in the state s -/
def Rm (w0 : World) (p : Nat) (s : St) (N : Nat) (w : World) : Prop := ∃ oK nK cK oL nL cL ks ls, RO (fun b => w0.heap.size ≤ b) w p oK nK cK oL nL cL ks ls ∧ Rl s ks ls ∧ ks.length ≤ N ∧ Ok s ∧ Keeps no w0 w
section
variable {w0 w w' : World} {p : Nat} {s : St} {N : Nat}
theorem Rm.go (h : Rm w0 p s N w) (hk : Keeps no w w') : Rm w0 p s N w' := by
  obtain ⟨oK, nK, cK, oL, nL, cL, ks, ls, h1, h2, h3, h4, h5⟩ := h
  exact ⟨oK, nK, cK, oL, nL, cL, ks, ls, h1.keepsN hk, h2, h3, h4, h5.trans hk⟩
theorem Rm.keep (h : Rm w0 p s N w) : Keeps no w0 w := by obtain ⟨_, _, _, _, _, _, _, _, _, _, _, _, h⟩ := h; exact h
theorem Rm.more (h : Rm w0 p s N w) {M : Nat} (hM : N ≤ M) : Rm w0 p s M w := by
  obtain ⟨oK, nK, cK, oL, nL, cL, ks, ls, h1, h2, h3, h4, h5⟩ := h
  exact ⟨oK, nK, cK, oL, nL, cL, ks, ls, h1, h2, by omega, h4, h5⟩
theorem rm_aft {ks : List KV} {ls : List Mk} (hk : Keeps no w0 w) (h : Aft (fun b => w0.heap.size ≤ b) w p ks ls w') (hr : Rl s ks ls) (hn : ks.length ≤ N) (hok : Ok s) : Rm w0 p s N w' := by
  obtain ⟨⟨oK, nK, cK, oL, nL, cL, h1⟩, h2⟩ := h
  exact ⟨oK, nK, cK, oL, nL, cL, ks, ls, h1.mono (fun b hb => by rcases hb with hb | hb; exact hb; exact Nat.le_trans hk.size hb), hr, hn, hok, hk.then h2 (fun b hb => .inr hb)⟩
theorem Rm.xPut (h : Rm w0 p s N w) (hN : N ≤ 700000000) (x : PO) (hi : x.i < 18446744073709551616) (ap : Option Addr) (np cp : Nat) (ak : Option Addr) (nk ck : Nat) (hnp : np = x.ps.length) (hnk : nk = x.keys.length) (hsp : Sl PE w0 ap cp x.ps) (hsk : Sl TE w0 ak ck x.keys) (zp : ∀ z ∈ x.ps, z.2.size ≤ 140737488351232) (zk : ∀ z ∈ x.keys, z.size ≤ 140737488351232) (lp : x.ps.length ≤ 1048576) (lk : x.keys.length ≤ 1048576) :
    Calls Tryz.prog 68 #[.pointer (some ⟨p, 0, none⟩), .int .u64 ((x.i : Nat) : Int), .slice ap np cp, .slice ak nk ck, .int .i64 x.now] w fun e w' => ∃ (B : Bool) (z : Int), e = .returned (.tuple #[.bool B, .int .i64 z]) ∧ Hid (Rm w0 p (putX s x) (N + x.ps.length) w') := by
  have hkp := h.keep
  cases hok : okPut x.i x.ps x.keys x.now with
  | true =>
    obtain ⟨oK, nK, cK, oL, nL, cL, ks, ls, h1, h2, h3, h4, h5⟩ := h
    obtain ⟨q1, q2, q3, q4⟩ := okPut_iff.1 hok
    have hk0 : 0 < x.keys.length := by have := (okKeys_iff.1 q2).1; omega
    have hp0 : 0 < x.ps.length := by
      unfold okPairs at q3
      simp only [Bool.and_eq_true, decide_eq_true_eq] at q3
      exact q3.2.1
    have a1 := sl_lt okP hsp hp0
    have a2 := sl_lt okT hsk hk0
    refine (rPut_good (fun b => w0.heap.size ≤ b) w p oK nK cK oL nL cL ks ls h1 s h2 x.i x.ps x.keys x.now ap np cp ak nk ck hnp hnk (hsp.keepsN hkp) (hsk.keepsN hkp) zk zp (fun b hb hc => by have := a1 b hb; omega) (fun b hb hc => by have := a2 b hb; omega) (fun b hb => by have := hkp.size; rcases hb with hb | hb; have := a1 b hb; omega; have := a2 b hb; omega) hok (by omega)).mono ?_
    rintro e w' ⟨he, hT⟩
    obtain ⟨ks', t1, t2, t3⟩ := hT.out
    have e1 : putX s x = putAll x.i x.keys x.now s (miss s x.i x.ps) := by unfold putX; rw [if_pos hok]
    have hm : (miss s x.i x.ps).length ≤ x.ps.length := List.length_filter_le _ _
    rw [e1]
    exact ⟨_, _, he, rm_aft hkp t1 t2 (by omega) (ok_put h4 hi hok)⟩
  | false =>
    refine (rPut_bad w _ x.i x.ps x.keys x.now ap np cp ak nk ck hnp hnk (by omega) (by omega) (hsp.keepsN hkp) (hsk.keepsN hkp) zk zp hok).mono ?_
    rintro e w' ⟨he, hk⟩
    have e1 : putX s x = s := by unfold putX; rw [if_neg (by rw [hok]; simp)]
    rw [e1]
    exact ⟨_, _, he, (h.go hk).more (by omega)⟩
theorem Rm.xCommit (h : Rm w0 p s N w) (hN : N ≤ 400000000) (x : PO) :
    Calls Tryz.prog 69 #[.pointer (some ⟨p, 0, none⟩), .int .u64 ((x.i : Nat) : Int), .int .i64 x.now] w fun e w' => ∃ (n z : Int), e = .returned (.tuple #[.int .i64 n, .int .i64 z]) ∧ Hid (Rm w0 p (comX s x) N w') := by
  have hkp := h.keep
  cases hok : (decide (65536 ≤ x.i) && tickB x.now) with
  | true =>
    obtain ⟨oK, nK, cK, oL, nL, cL, ks, ls, h1, h2, h3, h4, h5⟩ := h
    have hok2 := hok
    simp only [Bool.and_eq_true, decide_eq_true_eq] at hok2
    have hls := ls_le h4 (ls := ls) (ks := ks) ⟨h2.is, h2.all, h2.inc, h2.la⟩
    refine (rCommit_good (fun b => w0.heap.size ≤ b) w p oK nK cK oL nL cL ks ls h1 x.i x.now hok (by omega)).mono ?_
    rintro e w' ⟨he, hT⟩
    have e1 : comX s x = commitS s x.i x.now := by unfold comX; rw [if_pos hok]
    rw [e1]
    exact ⟨_, _, he, rm_aft hkp hT.out (h2.com h4 x.i (by omega) x.now) (by rw [List.length_map]; exact h3) (ok_commit h4 hok2.2)⟩
  | false =>
    refine (rCommit_bad w _ x.i x.now hok).mono ?_
    rintro e w' ⟨he, hk⟩
    have e1 : comX s x = s := by unfold comX; rw [if_neg (by rw [hok]; simp)]
    rw [e1]
    exact ⟨_, _, he, h.go hk⟩
theorem Rm.xDrop (h : Rm w0 p s N w) (hN : N ≤ 700000000) (x : PO) :
    Calls Tryz.prog 70 #[.pointer (some ⟨p, 0, none⟩), .string x.y, .int .u64 ((x.i : Nat) : Int)] w fun e w' => ∃ z : Int, e = .returned (.int .i64 z) ∧ Hid (Rm w0 p (dropR s (x.y, x.i)) N w') := by
  have hkp := h.keep
  have hsv := h
  obtain ⟨oK, nK, cK, oL, nL, cL, ks, ls, h1, h2, h3, h4, h5⟩ := h
  have hth := h2.there (x.y, x.i)
  cases hv : s.V (x.y, x.i) with
  | none =>
    rw [hv] at hth
    refine (rDrop_none w p oK nK cK oL nL cL ks ls h1.rd x.y x.i hth).mono ?_
    rintro e w' ⟨he, hk⟩
    have e1 : dropR s (x.y, x.i) = s := by unfold dropR; rw [hv]
    rw [e1]
    exact ⟨_, he, hsv.go hk⟩
  | some v =>
    rw [hv] at hth
    have hst := h4.st _ v hv
    have hli := lastIn_is h2.la x.y
    by_cases hl : x.i < s.last x.y
    · have hs : v.stamp ≠ -1 := by have h9 := (hst.1 hl).1; omega
      refine (rDrop_some (fun b => w0.heap.size ≤ b) w p oK nK cK oL nL cL ks ls h1 x.y x.i hth (by rw [hli]; exact hl) (by omega)).mono ?_
      rintro e w' ⟨he, hT⟩
      have e1 : dropR s (x.y, x.i) = dropS s (x.y, x.i) := by unfold dropR; rw [hv]; show (if v.stamp = -1 then s else dropS s (x.y, x.i)) = dropS s (x.y, x.i); rw [if_neg hs]
      rw [e1]
      refine ⟨_, he, rm_aft hkp hT.out (h2.drop (x.y, x.i) (by rw [hv]; simp)) ?_ (ok_drop h4 hv hs)⟩
      have : (delK ks (fpos ks (x.y, x.i))).length ≤ ks.length := by unfold delK; rw [List.length_append, List.length_take, List.length_drop]; omega
      omega
    · have hs : v.stamp = -1 := hst.2 hl
      refine (rDrop_last w p oK nK cK oL nL cL ks ls h1.rd x.y x.i hth (by rw [hli]; exact hl)).mono ?_
      rintro e w' ⟨he, hk⟩
      have e1 : dropR s (x.y, x.i) = s := by unfold dropR; rw [hv]; show (if v.stamp = -1 then s else dropS s (x.y, x.i)) = s; rw [if_pos hs]
      rw [e1]
      exact ⟨_, he, hsv.go hk⟩
end
set_option maxRecDepth 10000 in
set_option maxHeartbeats 4000000 in
theorem must_any {w : World} {a : Option Addr} {n c : Nat} {l : List OV} {L : List PO} (h : Scr w a n c l L) :
    Calls Tryz.prog 23 #[.slice a n c] w fun e w' => ∃ p, e = .returned (.pointer (some ⟨p, 0, none⟩)) ∧ Hid (Rm w p (runO L) 1048576 w') := by
  have HA : Hid (Scr w a n c l L) := h
  have hnb : (n : Int) ≤ 1048576 := by have := h.n; have := h.len; omega
  clear h
  go_enter Tryz.func23, Tryz.ntmps23
  go_wp2_with fail
  refine (rNew_any w).mono ?_
  rintro e w1 ⟨p, rfl, H1⟩
  have HR1 : Hid (Rm w p (runO []) 0 w1) := by
    refine ⟨none, 0, 0, none, 0, 0, [], [], H1.out.1, ⟨fun x hx => (by cases hx), fun m hm => absurd rfl hm, List.Pairwise.nil, ⟨List.Pairwise.nil, fun k i => ⟨fun hh => (by cases hh), fun hh => absurd hh.1 (fun e => hh.2 e.symm)⟩⟩⟩, Nat.le_refl _, ok_new, H1.out.2⟩
  clear H1
  go_wp2_with fail
  go_loopw [4, 5] (fun i _ wr => ∃ k : Nat, k ≤ n ∧ i = .int .i64 k ∧ Hid (Rm w p (runO (L.take k)) (totP (L.take k)) wr)) (fun i _ _ => n - (intOf i).toNat)
  case atStart => exact ⟨0, by omega, rfl, HR1.out⟩
  case round =>
    obtain ⟨k, hk, rfl, HG⟩ := hrel
    clear HR1
    by_cases hlt : k < n
    · have hlt' : (k : Int) < n := by omega
      have hka : k < l.length := by have := HA.out.n; omega
      have hkL : k < L.length := by have := HA.out.ok.n; omega
      have hRm := HG.out
      obtain ⟨s, hs⟩ : ∃ s, s = runO (L.take k) := ⟨_, rfl⟩
      rw [← hs] at hRm
      obtain ⟨b1, off1, e1, hc⟩ := (HA.out.sl.keepsN hRm.keep).atO hka
      have hop := HA.out.ok.op k hka
      obtain ⟨x, hx⟩ : ∃ x, x = L.getD k po0 := ⟨_, rfl⟩
      rw [← hx] at hop
      have hst := runO_snoc L k hkL
      have htt := totP_take L k hkL
      have hte := totP_le L (k + 1)
      have htl := HA.out.tot
      rw [← hx, ← hs] at hst
      rw [← hx] at htt
      generalize l.getD k ov0 = v at hop hc
      obtain ⟨vk, vi, vy, ap, np, cp, ak, nk, ck, vn⟩ := v
      obtain ⟨q1, q2, q3, q4, q5, q6, q7, q8, q9, q10, q11, q12, q13, q14⟩ := hop
      simp only at q1 q2 q3 q4 q5 q6 q9 q10
      subst q1 q2 q3 q4
      have c0 := hc 0 _ rfl (by omega)
      have c1 := hc 1 _ rfl (by omega)
      have c2 := hc 2 _ rfl (by omega)
      have c3 := hc 3 _ rfl (by omega)
      have c4 := hc 4 _ rfl (by omega)
      have c5 := hc 5 _ rfl (by omega)
      simp only [Nat.add_zero] at c0
      have HAX : Hid (x.i < 18446744073709551616 ∧ np = x.ps.length ∧ nk = x.keys.length ∧ Sl PE w ap cp x.ps ∧ Sl TE w ak ck x.keys ∧ (∀ z ∈ x.ps, z.2.size ≤ 140737488351232) ∧ (∀ z ∈ x.keys, z.size ≤ 140737488351232) ∧ x.ps.length ≤ 1048576 ∧ x.keys.length ≤ 1048576) := ⟨q7, q5, q6, q9, q10, q11, q12, q13, q14⟩
      obtain ⟨T, hT⟩ : ∃ T, T = totP (L.take k) := ⟨_, rfl⟩
      have HFIN : Hid (∀ (z : World), Rm w p (stepO s x) (T + x.ps.length) z → ∃ k_1 : Nat, k_1 ≤ n ∧ Value.int .i64 ((k : Int) + 1) = .int .i64 k_1 ∧ Hid (Rm w p (runO (L.take k_1)) (totP (L.take k_1)) z)) := fun z hM => ⟨k + 1, by omega, by go_num, by rw [hst]; exact hM.more (by omega)⟩
      rw [← hT] at hRm
      have HW : Hid (Rm w p s T (wr.alloc (.cells #[.int .i64 x.kd, .int .u64 ((x.i : Nat) : Int), .string x.y, .slice ap np cp, .slice ak nk ck, .int .i64 x.now] 55)) ∧ T ≤ 1048576) := ⟨hRm.go ((Keeps.refl no wr).alloc _), by omega⟩
      have HOB : Hid ((wr.alloc (.cells #[.int .i64 x.kd, .int .u64 ((x.i : Nat) : Int), .string x.y, .slice ap np cp, .slice ak nk ck, .int .i64 x.now] 55)).heap[wr.heap.size]? = some (.cells #[.int .i64 x.kd, .int .u64 ((x.i : Nat) : Int), .string x.y, .slice ap np cp, .slice ak nk ck, .int .i64 x.now] 55 (0, 0))) := blk_new wr _
      clear hc q5 q6 q7 q8 q9 q10 q11 q12 q13 q14 hst htt hte htl hx hs HG hka hkL hRm hT
      subst e1
      go_upto_block 2 with fail
      generalize wr.alloc (.cells #[.int .i64 x.kd, .int .u64 ((x.i : Nat) : Int), .string x.y, .slice ap np cp, .slice ak nk ck, .int .i64 x.now] 55) = W at HW HOB ⊢
      generalize wr.heap.size = O at HOB ⊢
      have f1 : W.cell? ⟨O, 1, none⟩ = some (.int .u64 ((x.i : Nat) : Int)) := cell_of_blk HOB.out 1
      have f2 : W.cell? ⟨O, 2, none⟩ = some (.string x.y) := cell_of_blk HOB.out 2
      have f3 : W.cell? ⟨O, 3, none⟩ = some (.slice ap np cp) := cell_of_blk HOB.out 3
      have f4 : W.cell? ⟨O, 4, none⟩ = some (.slice ak nk ck) := cell_of_blk HOB.out 4
      have f5 : W.cell? ⟨O, 5, none⟩ = some (.int .i64 x.now) := cell_of_blk HOB.out 5
      clear c0 c1 c2 c3 c4 c5
      by_cases hk1 : x.kd = 1
      · have hk1' : (x.kd == 1) = true := by simpa using hk1
        have HKD : Hid (stepO s x = putX s x) := (show _ = _ by unfold stepO; rw [if_pos hk1])
        clear hk1
        go_wp2_with fail
        refine (HW.out.1.xPut (by have := HW.out.2; omega) x HAX.out.1 ap np cp ak nk ck HAX.out.2.1 HAX.out.2.2.1 HAX.out.2.2.2.1 HAX.out.2.2.2.2.1 HAX.out.2.2.2.2.2.1 HAX.out.2.2.2.2.2.2.1 HAX.out.2.2.2.2.2.2.2.1 HAX.out.2.2.2.2.2.2.2.2).mono ?_
        rintro e w2 ⟨B, z, rfl, H2⟩
        go_wp2_with fail
        go_roundw
        case rel => exact HFIN.out _ (by rw [HKD.out]; exact H2.out)
        case measure => simp [intOf]; omega
      · have hk1' : (x.kd == 1) = false := by simpa using hk1
        by_cases hk2 : x.kd = 2
        · have hk2' : (x.kd == 2) = true := by simpa using hk2
          have HKD : Hid (stepO s x = comX s x) := (show _ = _ by unfold stepO; rw [if_neg hk1, if_pos hk2])
          clear hk1 hk2
          go_wp2_with fail
          refine (HW.out.1.xCommit (by have := HW.out.2; omega) x).mono ?_
          rintro e w2 ⟨B, z, rfl, H2⟩
          go_wp2_with fail
          go_roundw
          case rel => exact HFIN.out _ (by rw [HKD.out]; exact H2.out.more (by omega))
          case measure => simp [intOf]; omega
        · have hk2' : (x.kd == 2) = false := by simpa using hk2
          by_cases hk3 : x.kd = 3
          · have hk3' : (x.kd == 3) = true := by simpa using hk3
            have HKD : Hid (stepO s x = dropR s (x.y, x.i)) := (show _ = _ by unfold stepO; rw [if_neg hk1, if_neg hk2, if_pos hk3])
            clear hk1 hk2 hk3
            go_wp2_with fail
            refine (HW.out.1.xDrop (by have := HW.out.2; omega) x).mono ?_
            rintro e w2 ⟨z, rfl, H2⟩
            go_wp2_with fail
            go_roundw
            case rel => exact HFIN.out _ (by rw [HKD.out]; exact H2.out.more (by omega))
            case measure => simp [intOf]; omega
          · have hk3' : (x.kd == 3) = false := by simpa using hk3
            have HKD : Hid (stepO s x = s) := (show _ = _ by unfold stepO; rw [if_neg hk1, if_neg hk2, if_neg hk3])
            clear hk1 hk2 hk3
            go_wp2_with fail
            go_roundw
            case rel => exact HFIN.out _ (by rw [HKD.out]; exact HW.out.1.more (by omega))
            case measure => simp [intOf]; omega
    · have hlt' : ¬ (k : Int) < n := by omega
      have hRm := HG.out
      rw [List.take_of_length_le (by have := HA.out.n; have := HA.out.ok.n; omega)] at hRm
      have HE : Hid (Rm w p (runO L) 1048576 wr) := hRm.more HA.out.tot
      clear hRm HG
      go_wp2_with fail
      go_ret
      exact ⟨p, rfl, HE⟩
end Go.Proofs.YtbnohdgdadfjlaaGreatDoor
