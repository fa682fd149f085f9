/- The document's Receive. -/
import Derived.Test.YtghnhkhhpeoheaaGreatDG
import Derived.Deep.CutBlock
import Derived.Deep.CutRange
namespace Go.Proofs.YtghnhkhhpeoheaaGreat
open Go.RowKit Go.Sort Orl
set_option linter.unusedVariables false
set_option linter.unusedSimpArgs false

def Hk (s : WS) (part : Int) (req k : Nat) : Option Nat := (List.range k).find? (hitB s part req)
def Dk (s : WS) : Option Nat → List Bool
  | none => s.done
  | some j => s.done.set j true
theorem Hk_succ (s : WS) (part : Int) (req k : Nat) : Hk s part req (k + 1) = (match Hk s part req k with | some j => some j | none => if hitB s part req k = true then some k else none) := by
  unfold Hk
  rw [List.range_succ, List.find?_append]
  cases h : List.find? (hitB s part req) (List.range k) with
  | some j => rfl
  | none =>
    cases h2 : hitB s part req k <;> simp [List.find?, h2]
/-- behind k of them -/
structure Rk (s : WS) (part : Int) (req k : Nat) (h lf : Bool) (D : List Bool) : Prop where
  hit : h = (Hk s part req k).isSome
  done : D = Dk s (Hk s part req k)
  left : lf = !((D.take k).all id)
theorem Rk.zero (s : WS) (part : Int) (req : Nat) : Rk s part req 0 false false s.done := ⟨rfl, rfl, rfl⟩
theorem all_snoc (D : List Bool) {k : Nat} (hk : k < D.length) : (D.take (k + 1)).all id = ((D.take k).all id && D.getD k true) := by
  rw [take_succ_getD D k true hk, List.all_append]
  simp
/-- the k-th is the one -/
theorem Rk.yes {s : WS} {part : Int} {req k : Nat} {lf : Bool} {D : List Bool} (h : Rk s part req k false lf D) (hk : k < s.done.length) (hh : hitB s part req k = true) : D = s.done ∧ Rk s part req (k + 1) true (lf || !true) (D.set k true) := by
  have hn : Hk s part req k = none := by
    cases e : Hk s part req k with
    | none => rfl
    | some j => have := h.hit; rw [e] at this; cases this
  have hD : D = s.done := by rw [h.done, hn]; rfl
  have hs : Hk s part req (k + 1) = some k := by rw [Hk_succ, hn]; simp [hh]
  refine ⟨hD, by rw [hs]; rfl, by rw [hs, hD]; rfl, ?_⟩
  rw [all_snoc _ (by simp; rw [hD]; exact hk), h.left]
  have e1 : (D.set k true).take k = D.take k := by rw [List.take_set]; exact List.set_eq_of_length_le (by simp; omega)
  have e2 : (D.set k true).getD k true = true := by rw [List.getD_eq_getElem?_getD, List.getElem?_set_self (by rw [hD]; exact hk)]; rfl
  rw [e1, e2]
  simp
theorem Rk.no {s : WS} {part : Int} {req k : Nat} {h lf : Bool} {D : List Bool} (hr : Rk s part req k h lf D) (hk : k < D.length) (hh : h = true ∨ hitB s part req k = false) : Rk s part req (k + 1) h (lf || !(D.getD k true)) D := by
  have hs : Hk s part req (k + 1) = Hk s part req k := by
    rw [Hk_succ]
    cases e : Hk s part req k with
    | some j => rfl
    | none =>
      rcases hh with e2 | e2
      · have := hr.hit; rw [e, e2] at this; cases this
      · simp [e2]
  refine ⟨by rw [hs]; exact hr.hit, by rw [hs]; exact hr.done, ?_⟩
  rw [all_snoc D hk, hr.left]
  cases (D.take k).all id <;> cases D.getD k true <;> rfl
/-- behind all of them -/
theorem Rk.end {s : WS} {m : Nat} {part kd : Int} {req idm : Nat} {h lf : Bool} {D : List Bool} (hw : WfS s) (h0 : ¬ s.round = 0) (he : s.ended = 0) (hk : kd = wantK s) (hi : idm = s.id) (hr : Rk s part req s.ps.length h lf D) :
    D.length = s.ps.length ∧ ((h = false ∨ lf = true) → recvS s m part kd req idm = ⟨{ s with done := D }, [], m⟩) ∧ (h = true → lf = false → recvS s m part kd req idm = if s.round = 2 then ⟨{ s with done := D, ended := 1 }, [], m⟩ else ⟨askS { s with done := D } m, askedS (askS { s with done := D } m), numS s m⟩) := by
  have hc : ¬ (s.round = 0 ∨ ¬ s.ended = 0 ∨ ¬ kd = wantK s ∨ ¬ idm = s.id) := by rintro (h | h | h | h); exact h0 h; exact h he; exact h hk; exact h hi
  have hH : hitI s part req = Hk s part req s.ps.length := rfl
  have hl : D.length = s.ps.length := by
    rw [hr.done]
    cases Hk s part req s.ps.length <;> simp [Dk, hw.done h0]
  have hL : lf = !(D.all _root_.id) := by rw [hr.left, List.take_of_length_le (by omega)]
  refine ⟨hl, ?_, ?_⟩
  · intro hh
    unfold recvS
    rw [if_neg hc, hH]
    cases e : Hk s part req s.ps.length with
    | none =>
      have : D = s.done := by rw [hr.done, e]; rfl
      rw [this]
    | some j =>
      have hD : D = s.done.set j true := by rw [hr.done, e]; rfl
      have ht : h = true := by rw [hr.hit, e]; rfl
      have hlf : lf = true := by rcases hh with h1 | h1; rw [ht] at h1; cases h1; exact h1
      show doneS s j m = _
      unfold doneS
      rw [← hD, if_neg (by rw [hlf] at hL; intro h2; rw [h2] at hL; cases hL)]
  · intro ht hlf
    unfold recvS
    rw [if_neg hc, hH]
    cases e : Hk s part req s.ps.length with
    | none => have := hr.hit; rw [e, ht] at this; cases this
    | some j =>
      have hD : D = s.done.set j true := by rw [hr.done, e]; rfl
      show doneS s j m = _
      unfold doneS
      rw [← hD, if_pos (by rw [hlf] at hL; cases h2 : D.all _root_.id; rw [h2] at hL; cases hL; rfl)]
theorem RdL.setD {w : World} {p : Nat} {F : Nat → Prop} {id : Nat} {ps : List Pp} {keys : List Tx} {qs : List Qn} {done : List Bool} {rd ed m : Nat} {oP : Option Addr} {cP : Nat} {gs : List (GS Pr)} {oK : Option Addr} {cK : Nat} {oA : Option Addr} {cA : Nat} {rs : List RQ} {oD : Option Addr} {cD : Nat} (h : RdL w p F id ps keys qs done rd ed m oP cP gs oK cK oA cA rs oD cD) {k : Nat} (hk : k < done.length) :
    ∃ b, oD = some ⟨b, 0, none⟩ ∧ w.frozen? ⟨b, k, none⟩ = false ∧ w.cell? ⟨b, k, none⟩ = some (.bool (done.getD k true)) ∧ RdL (w.setCell ⟨b, k, none⟩ (.bool true)) p F id ps keys qs (done.set k true) rd ed m oP cP gs oK cK oA cA rs oD cD ∧ Keeps (inO oD) w (w.setCell ⟨b, k, none⟩ (.bool true)) := by
  obtain ⟨b, e, hf, hc, ho, hkp⟩ := h.done.atB hk
  have hS : ∀ i, inO oD i → i = p ∨ inO oA i ∨ inO oD i := fun i hi => .inr (.inr hi)
  refine ⟨b, e, hf k, hc, h.next hkp hS (fun _ h => h) (fun i hi => Nat.lt_of_lt_of_le (h.lt i hi) hkp.size) ?_ (h.asked.keeps hkp (own_apart (by decide) h.asked h.done)) h.len (fun j hj => h.rows hkp hS hj) h.fQ ho h.fA h.fD, hkp⟩
  rw [List.length_set]
  exact hkp.at h.blk (not_own h.blk (by decide) h.done)
theorem rtell_later {w wr w' : World} {p : Nat} {F : Nat → Prop} {out : Out} {o : Option Addr} {n c : Nat} {rs : List RQ} {G : Nat → Prop} (hk : Keeps F w wr) (h : RTell wr p F out o n c rs G w') : RTell w p F out o n c rs G w' :=
  ⟨h.n, h.tq, fun i hi => Nat.le_trans hk.size (h.new i hi), h.is, fun i hi => (h.foot i hi).imp (fun h => h) (fun h => Nat.le_trans hk.size h), h.apart, hk.trans h.kp⟩
/-- while it looks: k of them -/
def RecvI (w : World) (p : Nat) (F : Nat → Prop) (s : WS) (m : Nat) (part : Int) (req BM : Nat) (oP : Option Addr) (cP : Nat) (gs : List (GS Pr)) (oK : Option Addr) (cK : Nat) (oA : Option Addr) (cA : Nat) (rs : List RQ) (oD : Option Addr) (cD n k : Nat) (hh lf : Bool) (D : List Bool) (wr : World) : Prop :=
  Rk s part req k hh lf D ∧ D.length = n ∧ RdL wr p F s.id s.ps s.keys (askI s) D s.round s.ended m oP cP gs oK cK oA cA rs oD cD ∧ Keeps F w wr ∧ ∃ v0 v1 v3 v4 v5 v6 v7, wr.heap[BM]? = some (.cells #[v0, v1, .int .u64 (req : Nat), v3, v4, v5, v6, v7] 45 (0, 0))
theorem recvI_cells {w : World} {p : Nat} {F : Nat → Prop} {s : WS} {m : Nat} {part : Int} {req BM : Nat} {oP : Option Addr} {cP : Nat} {gs : List (GS Pr)} {oK : Option Addr} {cK : Nat} {oA : Option Addr} {cA : Nat} {rs : List RQ} {bD cD n k k2 : Nat} {hh lf : Bool} {D : List Bool} {wr : World} (h : RecvI w p F s m part req BM oP cP gs oK cK oA cA rs (some ⟨bD, 0, none⟩) cD n k2 hh lf D wr) (hk : k < n) : wr.cell? ⟨p, 4, none⟩ = some (.slice (some ⟨bD, 0, none⟩) n cD) ∧ wr.cell? ⟨bD, k, none⟩ = some (.bool (D.getD k true)) := by
  obtain ⟨_, hD, hrd, _⟩ := h
  obtain ⟨-, -, -, -, a4, -, -, -⟩ := rd_cells hrd.blk
  rw [hD] at a4
  refine ⟨a4, ?_⟩
  obtain ⟨b9, e9, _, d9, _⟩ := hrd.setD (k := k) (by rw [hD]; exact hk)
  injection e9 with e9
  injection e9 with e9 _ _
  subst e9
  exact d9
set_option maxRecDepth 10000 in
set_option maxHeartbeats 4000000 in
theorem dRecv_any (w : World) (p : Nat) (F : Nat → Prop) (s : WS) (m : Nat) (part kd cl : Int) (req idm : Nat) (v4 v5 v6 v7 : Option Addr) (n4 n5 n6 n7 c4 c5 c6 c7 : Nat) (h : Rd w p F s m) (hw : WfS s) (hm : m < 18446744073709551616) (hrq : req < 18446744073709551616) (hidm : idm < 18446744073709551616) :
    Calls Tryz.prog 14 #[.pointer (some ⟨p, 0, none⟩), .int .i64 part, .agg #[.int .i64 kd, .int .i64 cl, .int .u64 (req : Nat), .int .u64 (idm : Nat), .slice v4 n4 c4, .slice v5 n5 c5, .slice v6 n6 c6, .slice v7 n7 c7]] w (RTellTo w p F (recvS s m part kd req idm)) := by
  obtain ⟨oP, cP, gs, oK, cK, oA, cA, rs, oD, cD, hl⟩ := h
  have HL : Hid (RdL w p F s.id s.ps s.keys (askI s) s.done s.round s.ended m oP cP gs oK cK oA cA rs oD cD ∧ WfS s ∧ m < 18446744073709551616) := ⟨hl, hw, hm⟩
  have hr2 : (s.round : Int) ≤ 2 := by have := hw.round; omega
  have he4 : (s.ended : Int) ≤ 4 := by have := hw.ended; omega
  have hsid := hw.hi
  obtain ⟨kw, hkw⟩ : ∃ kw, kw = wantK s := ⟨_, rfl⟩
  have HKW : Hid (kw = wantK s) := hkw
  obtain ⟨b2, hb2⟩ : ∃ b2, b2 = decide (s.round = 2) := ⟨_, rfl⟩
  have b2I : (((s.round : Nat) : Int) == 2) = b2 := by rw [hb2]; by_cases e : s.round = 2 <;> simp [e]; omega
  have b2N : (s.round == 2) = b2 := by rw [hb2]; by_cases e : s.round = 2 <;> simp [e]
  have HB2 : Hid ((b2 = true → s.round = 2 ∧ kw = 6) ∧ (b2 = false → ¬ s.round = 2 ∧ kw = 5)) := by
    refine ⟨fun e => ?_, fun e => ?_⟩
    · have : s.round = 2 := by rw [hb2] at e; simpa using e
      exact ⟨this, by rw [hkw]; unfold wantK; rw [if_pos this]⟩
    · have : ¬ s.round = 2 := by rw [hb2] at e; simpa using e
      exact ⟨this, by rw [hkw]; unfold wantK; rw [if_neg this]⟩
  obtain ⟨BM, hBM⟩ : ∃ BM, BM = w.heap.size := ⟨_, rfl⟩
  obtain ⟨wm, hwm⟩ : ∃ wm, wm = w.alloc (.cells #[.int .i64 kd, .int .i64 cl, .int .u64 (req : Nat), .int .u64 (idm : Nat), .slice v4 n4 c4, .slice v5 n5 c5, .slice v6 n6 c6, .slice v7 n7 c7] 45) := ⟨_, rfl⟩
  have HM : Hid (Keeps no w wm ∧ wm.heap[BM]? = some (.cells #[.int .i64 kd, .int .i64 cl, .int .u64 (req : Nat), .int .u64 (idm : Nat), .slice v4 n4 c4, .slice v5 n5 c5, .slice v6 n6 c6, .slice v7 n7 c7] 45 (0, 0)) ∧ BM = w.heap.size) := ⟨by rw [hwm]; exact (Keeps.refl _ _).alloc _, by rw [hwm, hBM]; exact blk_new _ _, hBM⟩
  have HPC : Hid (∀ X, Keeps no wm X → X.cell? ⟨p, 0, none⟩ = some (.int .u64 (s.id : Nat)) ∧ X.cell? ⟨p, 5, none⟩ = some (.int .i64 (s.round : Nat)) ∧ X.cell? ⟨p, 6, none⟩ = some (.int .i64 (s.ended : Nat)) ∧ X.cell? ⟨BM, 0, none⟩ = some (.int .i64 kd) ∧ X.cell? ⟨BM, 3, none⟩ = some (.int .u64 (idm : Nat))) := by
    intro X hX
    obtain ⟨a0, -, -, -, -, a5, a6, -⟩ := rd_cells (hl.keepsN (HM.out.1.trans hX)).blk
    exact ⟨a0, a5, a6, hX.cellN (by rw [cell_of_blk HM.out.2.1]; rfl), hX.cellN (by rw [cell_of_blk HM.out.2.1]; rfl)⟩
  clear hl hw hm hkw hb2
  go_enter Tryz.func14, Tryz.ntmps14
  go_upto_region 1 with fail
  rw [← hwm, ← hBM]
  clear hwm hBM
  obtain ⟨a0, a5, a6, m0, m3⟩ := HPC.out wm (Keeps.refl _ _)
  go_upto_if 15 with fail
  go_cut [7] from 16 to 16 (fun t7 wx => t7 = .int .i64 kw ∧ Hid (Keeps no wm wx))
  case first =>
    cases b2 with
    | true =>
      have e6 := (HB2.out.1 rfl).2
      subst e6
      go_wp2_with fail
      go_meet
      case rel => exact ⟨rfl, Keeps.refl _ _⟩
    | false =>
      have e6 := (HB2.out.2 rfl).2
      subst e6
      go_wp2_with fail
      go_meet
      case rel => exact ⟨rfl, Keeps.refl _ _⟩
  case rest =>
  obtain ⟨rfl, HX⟩ := hcut
  rename World => wx
  clear a0 a5 a6 m0 m3
  obtain ⟨a0, a5, a6, m0, m3⟩ := HPC.out wx HX.out
  obtain ⟨r0, hr0⟩ : ∃ r0, r0 = decide (s.round = 0) := ⟨_, rfl⟩
  have rI : (((s.round : Nat) : Int) == 0) = r0 := by rw [hr0]; by_cases e : s.round = 0 <;> simp [e]
  have rN : (s.round == 0) = r0 := by rw [hr0]; by_cases e : s.round = 0 <;> simp [e]
  obtain ⟨e0, he0⟩ : ∃ e0, e0 = decide (0 < s.ended) := ⟨_, rfl⟩
  have eI : decide ((0 : Int) < ((s.ended : Nat) : Int)) = e0 := by rw [he0]; by_cases e : 0 < s.ended <;> simp [e]
  have eN : decide (0 < s.ended) = e0 := he0.symm
  obtain ⟨kb, hkb⟩ : ∃ kb, kb = decide (kd = kw) := ⟨_, rfl⟩
  have kI : (kd == kw) = kb := by rw [hkb]; by_cases e : kd = kw <;> simp [e]
  have kJ : (kd != kw) = !kb := by rw [← kI]; rfl
  have kD : decide (kd = kw) = kb := hkb.symm
  obtain ⟨ib, hib⟩ : ∃ ib, ib = decide (idm = s.id) := ⟨_, rfl⟩
  have iI : (((idm : Nat) : Int) == ((s.id : Nat) : Int)) = ib := by rw [hib]; by_cases e : idm = s.id <;> simp [e]; omega
  have iN : (idm == s.id) = ib := by rw [hib]; by_cases e : idm = s.id <;> simp [e]
  have iJ : (((idm : Nat) : Int) != ((s.id : Nat) : Int)) = !ib := by rw [← iI]; rfl
  have iM : (idm != s.id) = !ib := by rw [← iN]; rfl
  obtain ⟨c0, hc0⟩ : ∃ c0, c0 = (r0 || e0 || !kb || !ib) := ⟨_, rfl⟩
  have HC0 : Hid (c0 = (r0 || e0 || !kb || !ib)) := hc0
  have HCT : Hid ((c0 = true → recvS s m part kd req idm = ⟨s, [], m⟩) ∧ (c0 = false → ¬ s.round = 0 ∧ s.ended = 0 ∧ kd = wantK s ∧ idm = s.id)) := by
    have hcc : c0 = decide (s.round = 0 ∨ ¬ s.ended = 0 ∨ ¬ kd = wantK s ∨ ¬ idm = s.id) := by
      rw [hc0, hr0, he0, hkb, hib, HKW.out]
      by_cases e1 : s.round = 0 <;> by_cases e2 : s.ended = 0 <;> by_cases e3 : kd = wantK s <;> by_cases e4 : idm = s.id <;> simp [e1, e2, e3, e4] <;> omega
    refine ⟨fun e => ?_, fun e => ?_⟩
    · unfold recvS; rw [if_pos (by rw [e] at hcc; exact of_decide_eq_true hcc.symm)]
    · have h1 := of_decide_eq_false (by rw [e] at hcc; exact hcc.symm)
      refine ⟨fun h => h1 (.inl h), Classical.byContradiction fun h => h1 (.inr (.inl h)), Classical.byContradiction fun h => h1 (.inr (.inr (.inl h))), Classical.byContradiction fun h => h1 (.inr (.inr (.inr h)))⟩
  clear hr0 he0 hkb hib hc0
  go_upto_region 4 with fail
  go_cut [42] from 16 to 41 (fun t42 wy => t42 = .bool c0 ∧ Hid (Keeps no wm wy))
  case first =>
    as_aux_lemma =>
    have hcs : r0 = true ∨ (r0 = false ∧ e0 = true) ∨ (r0 = false ∧ e0 = false ∧ kb = false) ∨ (r0 = false ∧ e0 = false ∧ kb = true) := by
      cases r0 <;> cases e0 <;> cases kb <;> simp
    rcases hcs with rfl | ⟨rfl, rfl⟩ | ⟨rfl, rfl, rfl⟩ | ⟨rfl, rfl, rfl⟩
    all_goals
      go_quiet (fail)
      go_wp2_with fail
      go_meet
      case rel => exact ⟨by rw [HC0.out]; simp, HX.out.drewN _⟩
  case rest =>
  obtain ⟨rfl, HY⟩ := hcut
  rename World => wy
  clear HC0 rI rN eI eN kI kJ kD iI iN iJ iM a0 a5 a6 m0 m3
  cases c0 with
  | true =>
    have HZ : Hid (RTellTo w p F (recvS s m part kd req idm) (.returned (.slice none 0 0)) wy) := by
      rw [HCT.out.1 rfl]
      have hk := HM.out.1.trans HY.out
      exact rtell_none ⟨oP, cP, gs, oK, cK, oA, cA, rs, oD, cD, HL.out.1.keepsN hk⟩ hk.of_no
    go_wp2_with fail
    go_ret
    exact HZ.out
  | false =>
    obtain ⟨h0, hen, hkd, hids⟩ := HCT.out.2 rfl
    obtain ⟨n, hn⟩ : ∃ n, n = s.ps.length := ⟨_, rfl⟩
    have haq : askI s = askedS s := by unfold askI; rw [if_neg h0]
    have HN : Hid (n = s.ps.length ∧ askI s = askedS s ∧ n = (askI s).length ∧ n = s.done.length ∧ ¬ s.round = 0 ∧ s.ended = 0 ∧ kd = wantK s ∧ idm = s.id) := ⟨hn, haq, by rw [haq, asked_len]; exact hn, by rw [HL.out.2.1.done h0]; exact hn, h0, hen, hkd, hids⟩
    have hn64 : (n : Int) ≤ 64 := by have := HL.out.2.1.most; omega
    have HI0 : Hid (RecvI w p F s m part req BM oP cP gs oK cK oA cA rs oD cD n 0 false false s.done wy) := by
      have hk := HM.out.1.trans HY.out
      exact ⟨Rk.zero _ _ _, HN.out.2.2.2.1.symm, HL.out.1.keepsN hk, hk.of_no, _, _, _, _, _, _, _, HY.out.at HM.out.2.1 (fun h => h)⟩
    clear h0 hn haq hkd hids hen HCT HY HX HPC
    go_wp2_with fail
    go_loopw [8, 9, 10] (fun s8 s9 s10 wr => ∃ (k : Nat) (hh lf : Bool), k ≤ n ∧ s10 = .int .i64 k ∧ s8 = .bool hh ∧ s9 = .bool lf ∧ Hid (∃ D, RecvI w p F s m part req BM oP cP gs oK cK oA cA rs oD cD n k hh lf D wr)) (fun _ _ s10 _ => n - (intOf s10).toNat)
    case atStart => exact ⟨0, false, false, by omega, rfl, rfl, rfl, _, HI0.out⟩
    case round =>
      clear HI0
      rename World => wr
      obtain ⟨k, hh, lf, hk, rfl, rfl, rfl, HR⟩ := hrel
      obtain ⟨D, hI⟩ := HR.out
      have HI : Hid (RecvI w p F s m part req BM oP cP gs oK cK oA cA rs oD cD n k hh lf D wr) := hI
      obtain ⟨hrk, hDn, hrd, hkF, v0, v1, v3, v4', v5', v6', v7', hbm⟩ := hI
      obtain ⟨-, -, -, a3, a4, a5, -, -⟩ := rd_cells hrd.blk
      rw [← HN.out.2.2.1] at a3
      rw [hDn] at a4
      have m2 := cell_of_blk hbm 2
      simp only [List.getElem?_toArray, List.getElem?_cons_succ, List.getElem?_cons_zero] at m2
      clear HR
      by_cases hlt : k < n
      · have hlt' : (k : Int) < n := by omega
        have hkq : k < (askI s).length := by rw [← HN.out.2.2.1]; exact hlt
        obtain ⟨bD, hbD, f1, d1, hset, hkset⟩ := hrd.setD (k := k) (by rw [hDn]; exact hlt)
        obtain ⟨bA, offA, hbA, h9⟩ := hrd.asked.sl.atQ (j := k) (by rw [hrd.len]; exact hkq)
        have hrow := hrd.row k hkq
        rw [HN.out.2.1, asked_at s (by rw [← HN.out.1]; exact hlt)] at hrow
        have z0 := h9.c0
        have z3 := h9.c3
        have hz0 : (rs.getD k rq0).part = ((s.ps.getD k pp0).1 : Nat) := hrow.part
        have hz3 : (rs.getD k rq0).req = w64 (s.req + k) := hrow.req
        rw [hz0] at z0
        rw [hz3] at z3
        have hw3 : w64 (s.req + k) < 18446744073709551616 := w64_lt _
        obtain ⟨dk, hdk⟩ : ∃ dk, dk = D.getD k true := ⟨_, rfl⟩
        rw [← hdk] at d1
        obtain ⟨pe, hpe⟩ : ∃ pe, pe = decide (((s.ps.getD k pp0).1 : Int) = part) := ⟨_, rfl⟩
        obtain ⟨re, hre⟩ : ∃ re, re = decide (w64 (s.req + k) = req) := ⟨_, rfl⟩
        have peI : ((((s.ps.getD k pp0).1 : Nat) : Int) == part) = pe := by rw [hpe]; rfl
        have reI : (((w64 (s.req + k) : Nat) : Int) == ((req : Nat) : Int)) = re := by rw [hre]; by_cases e : w64 (s.req + k) = req <;> simp [e]; omega
        have reN : (w64 (s.req + k) == req) = re := by rw [hre]; by_cases e : w64 (s.req + k) = req <;> simp [e]
        obtain ⟨c1, hc1⟩ : ∃ c1, c1 = (!hh && !dk && pe && re) := ⟨_, rfl⟩
        have HC1 : Hid (c1 = (!hh && !dk && pe && re)) := hc1
        have HNX : Hid ((c1 = true → hh = false ∧ Rk s part req (k + 1) true (lf || !true) (D.set k true)) ∧ (c1 = false → Rk s part req (k + 1) hh (lf || !dk) D)) := by
          refine ⟨fun e => ?_, fun e => ?_⟩
          · rw [hc1] at e
            simp at e
            obtain ⟨⟨⟨e1, e2⟩, e3⟩, e4⟩ := e
            subst e1
            have hD : D = s.done := by
              have hn0 : Hk s part req k = none := by
                cases e5 : Hk s part req k with
                | none => rfl
                | some j => have := hrk.hit; rw [e5] at this; cases this
              rw [hrk.done, hn0]; rfl
            refine ⟨rfl, (hrk.yes (by rw [← HN.out.2.2.2.1]; exact hlt) ?_).2⟩
            unfold hitB
            rw [← hD, ← hdk, e2, ← hpe, ← hre, e3, e4]; rfl
          · rw [hdk]
            refine hrk.no (by rw [hDn]; exact hlt) ?_
            cases hh with
            | true => exact .inl rfl
            | false =>
              refine .inr ?_
              have hD : D = s.done := by
                have hn0 : Hk s part req k = none := by
                  cases e5 : Hk s part req k with
                  | none => rfl
                  | some j => have := hrk.hit; rw [e5] at this; cases this
                rw [hrk.done, hn0]; rfl
              unfold hitB
              rw [← hD, ← hdk, ← hpe, ← hre]
              rw [hc1] at e
              simpa using e
        have HST : Hid (∀ X lf2, Keeps no wr X → Rk s part req (k + 1) true lf2 (D.set k true) → RecvI w p F s m part req BM oP cP gs oK cK oA cA rs oD cD n (k + 1) true lf2 (D.set k true) (X.setCell ⟨bD, k, none⟩ (.bool true))) := by
          intro X lf2 hX h1
          obtain ⟨b9, e9, f9, _, hset9, hk9⟩ := (hrd.keepsN hX).setD (k := k) (by rw [hDn]; exact hlt)
          have hb9 : bD = b9 := by rw [hbD] at e9; injection e9 with e9; injection e9
          subst hb9
          have hbm9 := hX.at hbm (fun h => h)
          have hBM : ¬ inO oD BM := not_own hbm9 (by decide) (hrd.keepsN hX).done
          exact ⟨h1, by simpa using hDn, hset9, (hkF.trans hX.of_no).trans (hk9.mono (fun i hi => hrd.fD i hi)), v0, v1, v3, v4', v5', v6', v7', hk9.at hbm9 hBM⟩
        have HSM : Hid (∀ X lf2, Keeps no wr X → Rk s part req (k + 1) hh lf2 D → RecvI w p F s m part req BM oP cP gs oK cK oA cA rs oD cD n (k + 1) hh lf2 D X) := fun X lf2 hX h1 => ⟨h1, hDn, hrd.keepsN hX, hkF.trans hX.of_no, v0, v1, v3, v4', v5', v6', v7', hX.at hbm (fun h => h)⟩
        have HZC : Hid (∀ X, Keeps no wr X → X.cell? ⟨p, 4, none⟩ = some (.slice oD n cD) ∧ X.cell? ⟨bD, k, none⟩ = some (.bool dk) ∧ X.frozen? ⟨bD, k, none⟩ = false) := by
          intro X hX
          refine ⟨hX.cellN a4, hX.cellN d1, ?_⟩
          obtain ⟨b9, e9, f9, _⟩ := (hrd.keepsN hX).setD (k := k) (by rw [hDn]; exact hlt)
          rw [hbD] at e9
          injection e9 with e9
          injection e9 with e9 _ _
          subst e9
          exact f9
        have HDK : Hid (D.getD k true = dk) := hdk.symm
        clear hpe hre hc1 hdk hrow h9 hz0 hz3 hrk hset hkset hrd hbm hkF f1
        generalize w64 (s.req + k) = rq at z3 reI reN hw3
        generalize (s.ps.getD k pp0).1 = pt at z0 peI
        subst hbA
        go_upto_region 11 with fail
        go_cut [89] from 52 to 88 (fun t89 wz => t89 = .bool c1 ∧ Hid (Keeps no wr wz))
        case first =>
          as_aux_lemma =>
          subst hbD
          have hcs : hh = true ∨ (hh = false ∧ dk = true) ∨ (hh = false ∧ dk = false ∧ pe = false) ∨ (hh = false ∧ dk = false ∧ pe = true) := by
            cases hh <;> cases dk <;> cases pe <;> simp
          rcases hcs with rfl | ⟨rfl, rfl⟩ | ⟨rfl, rfl, rfl⟩ | ⟨rfl, rfl, rfl⟩
          all_goals
            go_quiet (fail)
            go_wp2_with fail
            go_meet
            case rel => exact ⟨by rw [HC1.out]; simp, (Keeps.refl no wr).drewN _⟩
        case rest =>
        obtain ⟨rfl, HZ1⟩ := hcut
        rename World => wz
        clear HC1 peI reI reN z0 z3 m2 a3 a4 a5 d1
        obtain ⟨q4, q1, qf⟩ := HZC.out wz HZ1.out
        subst hbD
        go_upto_if 89 with fail
        go_cut [8] from 90 to 95 (fun t8 wv => ∃ (h2 : Bool) (D2 : List Bool), t8 = .bool h2 ∧ Hid (RecvI w p F s m part req BM oP cP gs oK cK (some ⟨bA, offA, none⟩) cA rs (some ⟨bD, 0, none⟩) cD n (k + 1) h2 (lf || !(D2.getD k true)) D2 wv))
        case first =>
          as_aux_lemma =>
          cases c1 with
          | true =>
            have HT : Hid (∃ D2 : List Bool, RecvI w p F s m part req BM oP cP gs oK cK (some ⟨bA, offA, none⟩) cA rs (some ⟨bD, 0, none⟩) cD n (k + 1) true (lf || !(D2.getD k true)) D2 (wz.setCell ⟨bD, k, none⟩ (.bool true))) := by
              refine ⟨D.set k true, HST.out wz _ HZ1.out ?_⟩
              have e2 : (D.set k true).getD k true = true := by rw [List.getD_eq_getElem?_getD, List.getElem?_set_self (by rw [hDn]; exact hlt)]; rfl
              rw [e2]
              exact (HNX.out.1 rfl).2
            go_wp2_with fail
            go_meet
            case rel =>
              obtain ⟨D2, h2⟩ := HT.out
              exact ⟨true, D2, rfl, h2⟩
          | false =>
            have HT : Hid (RecvI w p F s m part req BM oP cP gs oK cK (some ⟨bA, offA, none⟩) cA rs (some ⟨bD, 0, none⟩) cD n (k + 1) hh (lf || !(D.getD k true)) D wz) := by
              refine HSM.out wz _ HZ1.out ?_
              rw [HDK.out]
              exact HNX.out.2 rfl
            go_wp2_with fail
            go_meet
            case rel => exact ⟨hh, D, rfl, HT.out⟩
        case rest =>
        obtain ⟨h2, D2, rfl, HV⟩ := hcut
        rename World => wv
        clear q4 q1 qf HST HSM HNX HZC
        obtain ⟨q4, q1⟩ := recvI_cells HV.out hlt
        generalize D2.getD k true = dk2 at q1 HV
        cases lf with
        | true =>
          go_wp2_with fail
          go_roundw
          case rel => exact ⟨k + 1, h2, true, by omega, by go_num, rfl, rfl, D2, by simpa using HV.out⟩
          case measure => simp [intOf]; omega
        | false =>
          go_wp2_with fail
          go_roundw
          case rel => exact ⟨k + 1, h2, !dk2, by omega, by go_num, rfl, rfl, D2, by simpa using HV.out⟩
          case measure => simp [intOf]; omega
      · have hlt' : ¬ (k : Int) < n := by omega
        have hkn : k = s.ps.length := by have := HN.out.1; omega
        rw [hkn] at hrk
        have hend := hrk.end (m := m) HL.out.2.1 HN.out.2.2.2.2.1 HN.out.2.2.2.2.2.1 HN.out.2.2.2.2.2.2.1 HN.out.2.2.2.2.2.2.2
        have hwD : WfS { s with done := D } := ⟨HL.out.2.1.lo, HL.out.2.1.hi, HL.out.2.1.pos, HL.out.2.1.most, HL.out.2.1.part, HL.out.2.1.keys, HL.out.2.1.round, fun _ => hend.1, HL.out.2.1.ended⟩
        have hRD : Rd wr p F { s with done := D } m := ⟨oP, cP, gs, oK, cK, oA, cA, rs, oD, cD, hrd⟩
        have HNO : Hid ((hh = false ∨ lf = true) → RTellTo w p F (recvS s m part kd req idm) (.returned (.slice none 0 0)) wr) := by
          intro e
          rw [hend.2.1 e]
          obtain ⟨o, n', c, r, G, e1, e2⟩ := rtell_none hRD (Keeps.refl F wr)
          exact ⟨o, n', c, r, G, e1, rtell_later hkF e2⟩
        have f6 := frozen_of_blk hrd.blk 6
        obtain ⟨-, -, -, -, -, -, a6, -⟩ := rd_cells hrd.blk
        have HY2 : Hid (hh = true → lf = false → s.round = 2 → RTellTo w p F (recvS s m part kd req idm) (.returned (.slice none 0 0)) (wr.setCell ⟨p, 6, none⟩ (.int .i64 1))) := by
          intro e1 e2 e3
          rw [hend.2.2 e1 e2, if_pos e3]
          have hk : Keeps (fun i => i = p) wr (wr.setCell ⟨p, 6, none⟩ (.int .i64 1)) := (Keeps.refl (fun i => i = p) wr).setCell (p := ⟨p, 6, none⟩) (.inl rfl) _
          have hb := blk_set hrd.blk 6 (.int .i64 1)
          have hR2 : Rd (wr.setCell ⟨p, 6, none⟩ (.int .i64 1)) p F { s with done := D, ended := 1 } m := ⟨oP, cP, gs, oK, cK, oA, cA, rs, oD, cD, hrd.nums hk hb⟩
          have hkF2 : Keeps F wr (wr.setCell ⟨p, 6, none⟩ (.int .i64 1)) := hk.mono (fun i hi => by subst hi; exact hrd.pF)
          obtain ⟨o, n', c, r, G, e4, e5⟩ := rtell_none hR2 hkF2
          exact ⟨o, n', c, r, G, e4, rtell_later hkF e5⟩
        have HY1 : Hid (hh = true → lf = false → ¬ s.round = 2 → Calls Tryz.prog 34 #[.pointer (some ⟨p, 0, none⟩), .int .i64 2] wr (RTellTo w p F (recvS s m part kd req idm))) := by
          intro e1 e2 e3
          rw [hend.2.2 e1 e2, if_neg e3]
          have hr1 : s.round = 1 := by have := HL.out.2.1.round; have := HN.out.2.2.2.2.1; omega
          have h1 := dAsk_any wr p F { s with done := D } m hRD hwD (by show s.round ≤ 1; omega) HL.out.2.2
          have e4 : (((({ s with done := D } : WS).round + 1 : Nat)) : Int) = 2 := by show ((s.round + 1 : Nat) : Int) = 2; omega
          rw [e4] at h1
          refine h1.mono ?_
          rintro e w9 ⟨o, n', c, r, G, e5, e6⟩
          exact ⟨o, n', c, r, G, e5, rtell_later hkF e6⟩
        clear hrk hrd hkF hbm hend hwD hRD HI m2 a4
        cases hh with
        | false =>
          have HZ := HNO.out (.inl rfl)
          have HZ2 : Hid (RTellTo w p F (recvS s m part kd req idm) (.returned (.slice none 0 0)) wr) := HZ
          clear HZ HNO HY1 HY2
          go_wp2_with fail
          go_ret
          exact HZ2.out
        | true =>
          cases lf with
          | true =>
            have HZ2 : Hid (RTellTo w p F (recvS s m part kd req idm) (.returned (.slice none 0 0)) wr) := HNO.out (.inr rfl)
            clear HNO HY1 HY2
            go_wp2_with fail
            go_ret
            exact HZ2.out
          | false =>
            cases b2 with
            | true =>
              have HZ2 : Hid (RTellTo w p F (recvS s m part kd req idm) (.returned (.slice none 0 0)) (wr.setCell ⟨p, 6, none⟩ (.int .i64 1))) := HY2.out rfl rfl (HB2.out.1 rfl).1
              clear HNO HY1 HY2
              go_wp2_with fail
              go_ret
              exact HZ2.out
            | false =>
              have HZ2 : Hid (Calls Tryz.prog 34 #[.pointer (some ⟨p, 0, none⟩), .int .i64 2] wr (RTellTo w p F (recvS s m part kd req idm))) := HY1.out rfl rfl (HB2.out.2 rfl).1
              clear HNO HY1 HY2
              go_wp2_with fail
              refine Calls.mono HZ2.out ?_
              rintro e w9 ⟨o9, n9, c9, r9, G9, rfl, ht⟩
              have HT : Hid (RTell w p F (recvS s m part kd req idm) o9 n9 c9 r9 G9 w9) := ht
              clear ht HZ2
              go_wp2_with fail
              go_ret
              exact ⟨o9, n9, c9, r9, G9, rfl, HT.out⟩
end Go.Proofs.YtghnhkhhpeoheaaGreat
