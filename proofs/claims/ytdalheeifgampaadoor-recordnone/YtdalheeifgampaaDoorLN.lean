/- RecordNone: its walk. -/
import Derived.Test.YtdalheeifgampaaDoorD5
import Derived.Deep.CutBlock
namespace Go.Proofs.YtdalheeifgampaaDoor
open Go.RowKit Go.Sort Orl Pk
set_option linter.unusedVariables false
set_option linter.unusedSimpArgs false

theorem none4 : may ⟨1, 65536, [], [txa, txb]⟩ = false := by rw [may_1 rfl (by decide)]; simp
theorem none5 : may ⟨1, 65536, [(txa, e0)], [txb, txa]⟩ = false := by
  rw [may_1 rfl (by decide), show mayK [txb, txa] = false from mayK_fall (k := 0) (by simp) (by show lts txb txa = false; rw [lts_eq]; decide)]; rfl
theorem none6 : may ⟨1, 65536, [(txa, e0), (txb, e0)], [txa, txc]⟩ = false := by
  unfold may mayP
  have : (kys [(txa, e0), (txb, e0)]).all (inn [txa, txc]) = false := by decide
  simp only [if_true]
  rw [this]; simp
theorem none7 : may ⟨1, 65536, [(txc, e0), (txa, e0)], [txa, txc]⟩ = false := by
  unfold may mayP
  have : rising lts (kys [(txc, e0), (txa, e0)]) = false := rising_fail (lt := lts) e0 _ 0 (by simp [kys]) (by show lts txc txa = false; rw [lts_eq]; decide)
  simp only [if_true]
  rw [this]; simp
/-- the whole record is written over -/
theorem Var.over {w W W2 : World} {D : Nat} {k : Int} {i : Nat} {op : Option Addr} {np cp : Nat} {ok : Option Addr} {nk ck : Nat} {r : Rec} (h : Var w D k i op np cp ok nk ck r W) (hD : w.heap.size ≤ D) (k2 : Keeps no W W2)
    {k' : Int} {i' : Nat} {op' : Option Addr} {np' cp' : Nat} {ok' : Option Addr} {nk' ck' : Nat} {r' : Rec} (h' : IsC W2 ⟨k', i', op', np', cp', ok', nk', ck'⟩ r') (hne : ∀ j, inO op' j ∨ inO ok' j → D < j) :
    Var w D k' i' op' np' cp' ok' nk' ck' r' ((((W2.setCell ⟨D, 0, none⟩ (.int .i64 k')).setCell ⟨D, 1, none⟩ (.int .u64 (i' : Nat))).setCell ⟨D, 2, none⟩ (.slice op' np' cp')).setCell ⟨D, 3, none⟩ (.slice ok' nk' ck')) := by
  have hs := set4 (k2.at h.b id) (.int .i64 k') (.int .u64 (i' : Nat)) (.slice op' np' cp') (.slice ok' nk' ck')
  exact ⟨hs.1, h'.keeps hs.2 (fun j hj e => by have := hne j (.inl hj); unfold eqA at e; omega) (fun j hj e => by have := hne j (.inr hj); unfold eqA at e; omega), (h.kp.trans k2).then hs.2 (fun j hj => .inr (by unfold eqA at hj; omega))⟩
/-- one field is written over -/
theorem Var.set {w W : World} {D : Nat} {k : Int} {i : Nat} {op : Option Addr} {np cp : Nat} {ok : Option Addr} {nk ck : Nat} {r : Rec} (h : Var w D k i op np cp ok nk ck r W) (hD : w.heap.size ≤ D) (j : Nat) (v : Value) :
    (W.setCell ⟨D, j, none⟩ v).heap[D]? = some (.cells ((#[.int .i64 k, .int .u64 (i : Nat), .slice op np cp, .slice ok nk ck] : Array Value).setIfInBounds j v) 30 (0, 0)) ∧ Keeps (eqA D) W (W.setCell ⟨D, j, none⟩ v) ∧ Keeps no w (W.setCell ⟨D, j, none⟩ v) := by
  have kS : Keeps (eqA D) W (W.setCell ⟨D, j, none⟩ v) := (Keeps.refl (eqA D) W).setA j v
  exact ⟨blk_set h.b j v, kS, h.kp.then kS (fun j hj => .inr (by unfold eqA at hj; omega))⟩

set_option maxRecDepth 20000 in
set_option maxHeartbeats 4000000 in
theorem recordNone_any (w : World) (cmt : Bool) (id : Nat) (oK : Option Addr) (nK cK sm : Nat) (val : Tx) (xs : List Tx) (hP : IsPl w id oK nK cK sm val xs) (which : Int) (ht : TabIn w) :
    Calls Tryd.prog 3 #[.agg #[.bool cmt, .int .u64 (id : Nat), .slice oK nK cK, .int .u64 (sm : Nat), .string val], .int .i64 which] w fun e w' => e = .returned (.bool true) ∧ Keeps no w w' := by
  have HP : Hid (IsPl w id oK nK cK sm val xs) := hP
  clear hP
  have hk0 : Keeps no w (w.alloc (.cells #[.bool cmt, .int .u64 (id : Nat), .slice oK nK cK, .int .u64 (sm : Nat), .string val] 25)) := (Keeps.refl _ _).alloc _
  go_enter Tryd.func3, Tryd.ntmps3
  go_wp2_with fail
  refine (alive_any _ (ht.keepsN hk0)).mono ?_
  rintro e w1 ⟨rfl, hk1⟩
  have hb1 := hk1.at (blk_new w _) (fun h => h)
  obtain ⟨x0, x1, x2, x3, x4⟩ := cells5 hb1
  have HK1 : Hid (Keeps no w w1) := hk0.trans hk1
  clear hb1 hk0 hk1
  go_wp2_with fail
  refine (made_of (HP.out.keepsN HK1.out)).mono ?_
  rintro e w2 ⟨k, i, op, np, cp, ok, nk, ck, r, rfl, HG, hk2⟩
  have HV : Hid (Var w w2.heap.size k i op np cp ok nk ck r (w2.alloc (.cells #[.int .i64 k, .int .u64 (i : Nat), .slice op np cp, .slice ok nk ck] 30))) :=
    ⟨blk_new w2 _, HG.out.1.isC.keepsN ((Keeps.refl _ _).alloc _), (HK1.out.trans hk2).alloc _⟩
  have HLT : Hid ((∀ j, inO op j ∨ inO ok j → j < w2.heap.size) ∧ w.heap.size ≤ w2.heap.size) := ⟨HG.out.1.lt, (HK1.out.trans hk2).size⟩
  have hi64 : i < 18446744073709551616 := by have := HG.out.1.fit.id; have h2 := HG.out.1.i; simp only at h2; omega
  clear x0 x1 x2 x3 x4 hk2 HK1
  have hand := i64_and7 which
  obtain ⟨K, hK⟩ : ∃ K, K = which % 8 := ⟨_, rfl⟩
  have hK8 : K = 0 ∨ K = 1 ∨ K = 2 ∨ K = 3 ∨ K = 4 ∨ K = 5 ∨ K = 6 ∨ K = 7 := by omega
  rw [← hK] at hand
  have HK8 : Hid (K = 0 ∨ K = 1 ∨ K = 2 ∨ K = 3 ∨ K = 4 ∨ K = 5 ∨ K = 6 ∨ K = 7) := hK8
  clear hK hK8
  go_upto_block 0 with fail
  clear hand
  generalize hWW : w2.alloc (.cells #[.int .i64 k, .int .u64 (i : Nat), .slice op np cp, .slice ok nk ck] 30) = W at HV ⊢
  have hsW : W.heap.size = w2.heap.size + 1 := by rw [← hWW]; simp
  obtain ⟨D, hD⟩ : ∃ D, D = w2.heap.size := ⟨_, rfl⟩
  rw [← hD] at HV HLT hsW ⊢
  have HSW : Hid (W.heap.size = D + 1) := hsW
  clear hWW hD hsW
  go_cut [] from 14 to 52 (fun W' => BadIn w D W')
  case first =>
    obtain ⟨z0, z1, z2, z3⟩ := cells4 HV.out.b
    have f0 := frozen_of_blk HV.out.b 0
    have f1 := frozen_of_blk HV.out.b 1
    have f2 := frozen_of_blk HV.out.b 2
    have f3 := frozen_of_blk HV.out.b 3
    have HC := HV.out.c
    have HCC : Hid (IsC W ⟨k, i, op, np, cp, ok, nk, ck⟩ r) := HC
    clear HC
    rcases HK8.out with rfl | rfl | rfl | rfl | rfl | rfl | rfl | rfl
    · obtain ⟨i2, hi2, hi3⟩ : ∃ i2 : Nat, (i : Int) % 65536 = (i2 : Int) ∧ i2 < 65536 := ⟨i % 65536, by omega, by omega⟩
      go_wp2_with fail
      go_meet
      case rel =>
        have hs := HV.out.set HLT.out.2 1 (.int .u64 (i2 : Nat))
        have hc := HCC.out
        have hf := hc.fit
        refine ⟨k, i2, op, np, cp, ok, nk, ck, ⟨r.kind, i2, r.pairs, r.keys⟩, ⟨hs.1, ?_, hs.2.2⟩, may_low hi3⟩
        exact ⟨hc.k, rfl, hc.np, hc.nk, hc.prs.keeps hs.2.1 (fun j hj e => by have := HLT.out.1 j (.inl hj); unfold eqA at e; omega), hc.kys.keeps hs.2.1 (fun j hj e => by have := HLT.out.1 j (.inr hj); unfold eqA at e; omega), ⟨hf.klen, hf.keys, hf.plen, hf.pairs, hf.k1, hf.k2, by simp only; omega⟩⟩
    · go_wp2_with fail
      go_meet
      case rel =>
        have hs := HV.out.set HLT.out.2 0 (.int .i64 0)
        have hc := HCC.out
        have hf := hc.fit
        refine ⟨0, i, op, np, cp, ok, nk, ck, ⟨0, r.id, r.pairs, r.keys⟩, ⟨hs.1, ?_, hs.2.2⟩, may_else (by simp) (by simp)⟩
        exact ⟨rfl, hc.i, hc.np, hc.nk, hc.prs.keeps hs.2.1 (fun j hj e => by have := HLT.out.1 j (.inl hj); unfold eqA at e; omega), hc.kys.keeps hs.2.1 (fun j hj e => by have := HLT.out.1 j (.inr hj); unfold eqA at e; omega), ⟨hf.klen, hf.keys, hf.plen, hf.pairs, by simp, by simp, hf.id⟩⟩
    · go_wp2_with fail
      go_meet
      case rel =>
        have hs := HV.out.set HLT.out.2 0 (.int .i64 3)
        have hc := HCC.out
        have hf := hc.fit
        refine ⟨3, i, op, np, cp, ok, nk, ck, ⟨3, r.id, r.pairs, r.keys⟩, ⟨hs.1, ?_, hs.2.2⟩, may_else (by simp) (by simp)⟩
        exact ⟨rfl, hc.i, hc.np, hc.nk, hc.prs.keeps hs.2.1 (fun j hj e => by have := HLT.out.1 j (.inl hj); unfold eqA at e; omega), hc.kys.keeps hs.2.1 (fun j hj e => by have := HLT.out.1 j (.inr hj); unfold eqA at e; omega), ⟨hf.klen, hf.keys, hf.plen, hf.pairs, by simp, by simp, hf.id⟩⟩
    · have hs0 := HV.out.set HLT.out.2 0 (.int .i64 2)
      have hs0b : (W.setCell ⟨D, 0, none⟩ (.int .i64 2)).heap[D]? = some (.cells #[.int .i64 2, .int .u64 (i : Nat), .slice op np cp, .slice ok nk ck] 30 (0, 0)) := hs0.1
      have hs1b := blk_alloc hs0b (.cells #[.string txk] 9)
      have g3 := frozen_of_blk hs1b 3
      obtain ⟨u0, u1, u2, u3⟩ := cells4 hs1b
      have HS0 : Hid (_ ∧ _) := hs0.2
      have HS1 : Hid (_ = _) := hs1b
      clear hs0 hs0b hs1b
      unfold txk at g3 u0 u1 u2 u3
      go_wp2_with fail
      go_meet
      case rel =>
        have hc := HCC.out
        have hf := hc.fit
        have e1 : (W.setCell ⟨D, 0, none⟩ (.int .i64 2)).heap.size = D + 1 := by rw [World.size_setCell]; exact HSW.out
        have kS : Keeps (eqA D) ((W.setCell ⟨D, 0, none⟩ (.int .i64 2)).alloc (.cells #[.string txk] 9)) (((W.setCell ⟨D, 0, none⟩ (.int .i64 2)).alloc (.cells #[.string txk] 9)).setCell ⟨D, 3, none⟩ (.slice (some ⟨W.heap.size, 0, none⟩) 1 1)) := (Keeps.refl (eqA D) _).setA _ _
        have kA : Keeps no (W.setCell ⟨D, 0, none⟩ (.int .i64 2)) ((W.setCell ⟨D, 0, none⟩ (.int .i64 2)).alloc (.cells #[.string txk] 9)) := (Keeps.refl _ _).alloc _
        have kk := own_oneT (W.setCell ⟨D, 0, none⟩ (.int .i64 2)) txk
        rw [World.size_setCell] at kk
        refine ⟨2, i, op, np, cp, some ⟨W.heap.size, 0, none⟩, 1, 1, ⟨2, r.id, r.pairs, [txk]⟩, ⟨blk_set HS1.out 3 _, ?_, ?_⟩, ?_⟩
        · refine ⟨rfl, hc.i, hc.np, rfl, ((hc.prs.keeps HS0.out.1 (fun j hj e => by have := HLT.out.1 j (.inl hj); unfold eqA at e; omega)).keepsN kA).keeps kS (fun j hj e => by have := HLT.out.1 j (.inl hj); unfold eqA at e; omega), kk.keeps kS (fun j hj e => ?_), ⟨by simp, fun s hs => by rw [List.mem_singleton.1 hs]; decide, hf.plen, hf.pairs, by simp, by simp, hf.id⟩⟩
          obtain ⟨x, ex, rfl⟩ := hj
          cases ex
          unfold eqA at e
          have := HSW.out
          simp only at e
          omega
        · exact (HS0.out.2.trans kA).then kS (fun j hj => .inr (by unfold eqA at hj; have := HLT.out.2; omega))
        · by_cases hh : 65536 ≤ r.id
          · rw [may_2 (r := ⟨2, r.id, r.pairs, [txk]⟩) rfl hh]; simp
          · exact may_low (by simp only; omega)
    · have k2 : Keeps no W (W.alloc (.cells #[.string txa, .string txb] 9)) := (Keeps.refl no W).alloc _
      have hbW := k2.at HV.out.b (fun h => h)
      obtain ⟨u0, u1, u2, u3⟩ := cells4 hbW
      have g0 := frozen_of_blk hbW 0
      have g1 := frozen_of_blk hbW 1
      have g2 := frozen_of_blk hbW 2
      have g3 := frozen_of_blk hbW 3
      have HK2 : Hid (Keeps no W (W.alloc (.cells #[.string txa, .string txb] 9))) := k2
      have eW : (W.alloc (.cells #[.string txa, .string txb] 9)).heap.size = W.heap.size + 1 := by simp
      have kk : Hid (Sl TE (W.alloc (.cells #[.string txa, .string txb] 9)) (some ⟨W.heap.size, 0, none⟩) 2 [txa, txb]) := own_twoT W txa txb
      have hV' : Hid (IsC (W.alloc (.cells #[.string txa, .string txb] 9)) ⟨1, 65536, none, 0, 0, some ⟨W.heap.size, 0, none⟩, 2, 2⟩ ⟨1, 65536, [], [txa, txb]⟩) := ⟨rfl, rfl, rfl, rfl, own_nil_sl _, kk.out, fit_small (by decide) 1 (by omega) (by simp) (by simp) (by decide) (by decide)⟩
      clear k2 hbW eW
      unfold txa txb at u0 u1 u2 u3 g0 g1 g2 g3
      go_wp2_with fail
      go_meet
      case rel =>
        refine ⟨1, 65536, none, 0, 0, some ⟨W.heap.size, 0, none⟩, 2, 2, _, HV.out.over HLT.out.2 HK2.out hV'.out ?_, none4⟩
        rintro j (hj | hj)
        · obtain ⟨x, ex, _⟩ := hj; cases ex
        · obtain ⟨x, ex, rfl⟩ := hj; cases ex; have := HSW.out; simp only; omega
    · have k2 : Keeps no W ((W.alloc (.cells #[.string txb, .string txa] 9)).alloc (.cells #[.string txa, .string e0] 33)) := ((Keeps.refl no W).alloc _).alloc _
      have hbW := k2.at HV.out.b (fun h => h)
      obtain ⟨u0, u1, u2, u3⟩ := cells4 hbW
      have g0 := frozen_of_blk hbW 0
      have g1 := frozen_of_blk hbW 1
      have g2 := frozen_of_blk hbW 2
      have g3 := frozen_of_blk hbW 3
      have HK2 : Hid (Keeps no W ((W.alloc (.cells #[.string txb, .string txa] 9)).alloc (.cells #[.string txa, .string e0] 33))) := k2
      have eW : (W.alloc (.cells #[.string txb, .string txa] 9)).heap.size = W.heap.size + 1 := by simp
      have kk : Hid (Sl TE ((W.alloc (.cells #[.string txb, .string txa] 9)).alloc (.cells #[.string txa, .string e0] 33)) (some ⟨W.heap.size, 0, none⟩) 2 [txb, txa]) := (own_twoT W txb txa).keepsN ((Keeps.refl _ _).alloc _)
      have pp : Hid (Sl PE ((W.alloc (.cells #[.string txb, .string txa] 9)).alloc (.cells #[.string txa, .string e0] 33)) (some ⟨W.heap.size + 1, 0, none⟩) 1 [(txa, e0)]) := by
        have := own_oneP (W.alloc (.cells #[.string txb, .string txa] 9)) txa e0
        rw [eW] at this; exact this
      have hV' : Hid (IsC ((W.alloc (.cells #[.string txb, .string txa] 9)).alloc (.cells #[.string txa, .string e0] 33)) ⟨1, 65536, some ⟨W.heap.size + 1, 0, none⟩, 1, 1, some ⟨W.heap.size, 0, none⟩, 2, 2⟩ ⟨1, 65536, [(txa, e0)], [txb, txa]⟩) := ⟨rfl, rfl, rfl, rfl, pp.out, kk.out, fit_small (by decide) 1 (by omega) (by simp) (by simp) (by decide) (by decide)⟩
      clear k2 hbW eW
      unfold txa txb e0 at u0 u1 u2 u3 g0 g1 g2 g3
      go_wp2_with fail
      go_meet
      case rel =>
        refine ⟨1, 65536, some ⟨W.heap.size + 1, 0, none⟩, 1, 1, some ⟨W.heap.size, 0, none⟩, 2, 2, _, HV.out.over HLT.out.2 HK2.out hV'.out ?_, none5⟩
        rintro j (hj | hj)
        · obtain ⟨x, ex, rfl⟩ := hj; cases ex; have := HSW.out; simp only; omega
        · obtain ⟨x, ex, rfl⟩ := hj; cases ex; have := HSW.out; simp only; omega
    · have k2 : Keeps no W ((W.alloc (.cells #[.string txa, .string txc] 9)).alloc (.cells #[.string txa, .string e0, .string txb, .string e0] 33)) := ((Keeps.refl no W).alloc _).alloc _
      have hbW := k2.at HV.out.b (fun h => h)
      obtain ⟨u0, u1, u2, u3⟩ := cells4 hbW
      have g0 := frozen_of_blk hbW 0
      have g1 := frozen_of_blk hbW 1
      have g2 := frozen_of_blk hbW 2
      have g3 := frozen_of_blk hbW 3
      have HK2 : Hid (Keeps no W ((W.alloc (.cells #[.string txa, .string txc] 9)).alloc (.cells #[.string txa, .string e0, .string txb, .string e0] 33))) := k2
      have eW : (W.alloc (.cells #[.string txa, .string txc] 9)).heap.size = W.heap.size + 1 := by simp
      have kk : Hid (Sl TE ((W.alloc (.cells #[.string txa, .string txc] 9)).alloc (.cells #[.string txa, .string e0, .string txb, .string e0] 33)) (some ⟨W.heap.size, 0, none⟩) 2 [txa, txc]) := (own_twoT W txa txc).keepsN ((Keeps.refl _ _).alloc _)
      have pp : Hid (Sl PE ((W.alloc (.cells #[.string txa, .string txc] 9)).alloc (.cells #[.string txa, .string e0, .string txb, .string e0] 33)) (some ⟨W.heap.size + 1, 0, none⟩) 2 [(txa, e0), (txb, e0)]) := by
        have := own_twoP (W.alloc (.cells #[.string txa, .string txc] 9)) txa e0 txb e0
        rw [eW] at this; exact this
      have hV' : Hid (IsC ((W.alloc (.cells #[.string txa, .string txc] 9)).alloc (.cells #[.string txa, .string e0, .string txb, .string e0] 33)) ⟨1, 65536, some ⟨W.heap.size + 1, 0, none⟩, 2, 2, some ⟨W.heap.size, 0, none⟩, 2, 2⟩ ⟨1, 65536, [(txa, e0), (txb, e0)], [txa, txc]⟩) := ⟨rfl, rfl, rfl, rfl, pp.out, kk.out, fit_small (by decide) 1 (by omega) (by simp) (by simp) (by decide) (by decide)⟩
      clear k2 hbW eW
      unfold txa txb txc e0 at u0 u1 u2 u3 g0 g1 g2 g3
      go_wp2_with fail
      go_meet
      case rel =>
        refine ⟨1, 65536, some ⟨W.heap.size + 1, 0, none⟩, 2, 2, some ⟨W.heap.size, 0, none⟩, 2, 2, _, HV.out.over HLT.out.2 HK2.out hV'.out ?_, none6⟩
        rintro j (hj | hj)
        · obtain ⟨x, ex, rfl⟩ := hj; cases ex; have := HSW.out; simp only; omega
        · obtain ⟨x, ex, rfl⟩ := hj; cases ex; have := HSW.out; simp only; omega
    · have k2 : Keeps no W ((W.alloc (.cells #[.string txa, .string txc] 9)).alloc (.cells #[.string txc, .string e0, .string txa, .string e0] 33)) := ((Keeps.refl no W).alloc _).alloc _
      have hbW := k2.at HV.out.b (fun h => h)
      obtain ⟨u0, u1, u2, u3⟩ := cells4 hbW
      have g0 := frozen_of_blk hbW 0
      have g1 := frozen_of_blk hbW 1
      have g2 := frozen_of_blk hbW 2
      have g3 := frozen_of_blk hbW 3
      have HK2 : Hid (Keeps no W ((W.alloc (.cells #[.string txa, .string txc] 9)).alloc (.cells #[.string txc, .string e0, .string txa, .string e0] 33))) := k2
      have eW : (W.alloc (.cells #[.string txa, .string txc] 9)).heap.size = W.heap.size + 1 := by simp
      have kk : Hid (Sl TE ((W.alloc (.cells #[.string txa, .string txc] 9)).alloc (.cells #[.string txc, .string e0, .string txa, .string e0] 33)) (some ⟨W.heap.size, 0, none⟩) 2 [txa, txc]) := (own_twoT W txa txc).keepsN ((Keeps.refl _ _).alloc _)
      have pp : Hid (Sl PE ((W.alloc (.cells #[.string txa, .string txc] 9)).alloc (.cells #[.string txc, .string e0, .string txa, .string e0] 33)) (some ⟨W.heap.size + 1, 0, none⟩) 2 [(txc, e0), (txa, e0)]) := by
        have := own_twoP (W.alloc (.cells #[.string txa, .string txc] 9)) txc e0 txa e0
        rw [eW] at this; exact this
      have hV' : Hid (IsC ((W.alloc (.cells #[.string txa, .string txc] 9)).alloc (.cells #[.string txc, .string e0, .string txa, .string e0] 33)) ⟨1, 65536, some ⟨W.heap.size + 1, 0, none⟩, 2, 2, some ⟨W.heap.size, 0, none⟩, 2, 2⟩ ⟨1, 65536, [(txc, e0), (txa, e0)], [txa, txc]⟩) := ⟨rfl, rfl, rfl, rfl, pp.out, kk.out, fit_small (by decide) 1 (by omega) (by simp) (by simp) (by decide) (by decide)⟩
      clear k2 hbW eW
      unfold txa txc e0 at u0 u1 u2 u3 g0 g1 g2 g3
      go_wp2_with fail
      go_meet
      case rel =>
        refine ⟨1, 65536, some ⟨W.heap.size + 1, 0, none⟩, 2, 2, some ⟨W.heap.size, 0, none⟩, 2, 2, _, HV.out.over HLT.out.2 HK2.out hV'.out ?_, none7⟩
        rintro j (hj | hj)
        · obtain ⟨x, ex, rfl⟩ := hj; cases ex; have := HSW.out; simp only; omega
        · obtain ⟨x, ex, rfl⟩ := hj; cases ex; have := HSW.out; simp only; omega
  case rest =>
  obtain ⟨k', i', op', np', cp', ok', nk', ck', r', hV', hbad⟩ := hcut
  rename World => W1
  have HV1 : Hid (Var w D k' i' op' np' cp' ok' nk' ck' r' W1) := hV'
  have HB1 : Hid (encE r' = 1 ∧ encB r' = [] ∧ may r' = false) := ⟨(encE_bad hbad).1, (encE_bad hbad).2, hbad⟩
  obtain ⟨z0, z1, z2, z3⟩ := cells4 hV'.b
  clear hV' hbad HV HLT HSW
  go_wp2_with fail
  refine (Build_any W1 k' i' op' np' cp' ok' nk' ck' r' HV1.out.c (ht.keepsN HV1.out.kp)).mono ?_
  rintro e w3 ⟨o, n, c, rfl, hn, hown, hnew, hk3⟩
  rw [HB1.out.1]
  have hn0 : n = 0 := by rw [hn.out, HB1.out.2.1]; rfl
  subst hn0
  have hb3 := hk3.at HV1.out.b (fun h => h)
  clear z0 z1 z2 z3
  obtain ⟨z0, z1, z2, z3⟩ := cells4 hb3
  have HK3 : Hid (Keeps no W1 w3) := hk3
  clear hn hown hnew hk3 hb3
  go_wp2_with fail
  refine (May_any w3 k' i' op' np' cp' ok' nk' ck' r' (HV1.out.c.keepsN HK3.out)).mono ?_
  rintro e w4 ⟨rfl, hk4⟩
  rw [HB1.out.2.2]
  go_wp2_with fail
  go_ret
  exact ⟨rfl, (HV1.out.kp.trans HK3.out).trans hk4⟩
end Go.Proofs.YtdalheeifgampaaDoor
