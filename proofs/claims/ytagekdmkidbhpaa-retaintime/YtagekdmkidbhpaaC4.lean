import Derived.Test.YtagekdmkidbhpaaRr
import Derived.Deep.RegionHeld3
/- told, ByID, Latest. -/
namespace Go.Proofs.Ytagekdmkidbhpaa
open Go.RowKit Go.Maps
set_option linter.unusedVariables false
set_option linter.unusedSimpArgs false

/-- a version told -/
def Tv (w : World) (v : Value) (m : Mk) (r : Vr) (w' : World) : Prop := ∃ o n c, v = .agg #[.string m.1, .int .u64 ((m.2 : Nat) : Int), .string r.val, .slice o n c] ∧ Hid (n = r.keys.length) ∧ Own TE w' o c r.keys ∧ New w o ∧ Keeps no w w'
def Tk (w : World) (v : Value) (m : Mk) (r : Vr) (w' : World) : Prop := ∃ o n c, v = .agg #[.string m.1, .int .u64 ((m.2 : Nat) : Int), .string r.val, .slice o n c, .int .i64 r.stamp] ∧ Hid (n = r.keys.length) ∧ Own TE w' o c r.keys ∧ New w o ∧ Keeps no w w'
set_option maxRecDepth 10000 in
set_option maxHeartbeats 1000000 in
theorem told_any (w : World) (p : Nat) (T : Nat → Option Ro) (s : St) (N : Nat) (m : Mk) (v : Vr) (h : IsS w p T s N) (hv : s.V m = some v) (hlen : v.keys.length ≤ 100000) (hks : m.1.size ≤ 281474976710656) :
    Calls Try.prog 36 #[.pointer (some ⟨p, 0, none⟩), .agg #[.string m.1, .int .u64 ((m.2 : Nat) : Int)]] w fun e w' => ∃ u, e = .returned u ∧ Tk w u m v w' := by
  obtain ⟨y, h⟩ := h
  obtain ⟨k, i⟩ := m
  simp only at hks ⊢
  have hm := h.okM (m := (k, i)) (by rw [hv]; simp)
  have hsv := h.sv (k, i)
  rw [hv] at hsv
  cases hf : fnd (k, i) y.V with
  | none => rw [hf] at hsv; cases hsv
  | some x =>
  rw [hf] at hsv
  obtain rfl : v = x.vr := by simpa using hsv
  have hS0 := (h.key _ (fnd_mem hf)).1
  simp only at hS0
  obtain ⟨w0, hw0⟩ : ∃ w0, w0 = (w.alloc (.cells #[.string k, .int .u64 ((i : Nat) : Int)] 87)).alloc (.cells #[.string ⟨#[]⟩, .int .u64 0, .string ⟨#[]⟩, .slice none 0 0, .int .i64 0] 71) := ⟨_, rfl⟩
  have hk0 : Keeps no w w0 := by rw [hw0]; exact ((Keeps.refl no w).alloc _).alloc _
  obtain ⟨B, hB⟩ : ∃ B, B = w.heap.size := ⟨_, rfl⟩
  have hb0 : w0.heap[B]? = some (.cells #[.string k, .int .u64 ((i : Nat) : Int)] 87 (0, 0)) := by rw [hw0, hB]; exact blk_alloc (blk_new w _) _
  have hb1 : w0.heap[B + 1]? = some (.cells #[.string ⟨#[]⟩, .int .u64 0, .string ⟨#[]⟩, .slice none 0 0, .int .i64 0] 71 (0, 0)) := by
    have := blk_new (w.alloc (.cells #[.string k, .int .u64 ((i : Nat) : Int)] 87)) (.cells #[.string ⟨#[]⟩, .int .u64 0, .string ⟨#[]⟩, .slice none 0 0, .int .i64 0] 71)
    rw [show (w.alloc (.cells #[.string k, .int .u64 ((i : Nat) : Int)] 87)).heap.size = B + 1 by simp [hB]] at this
    rw [hw0]; exact this
  have hsz0 : w0.heap.size = B + 2 := by rw [hw0]; simp [hB]
  have c0 := hk0.cellN h.c0
  obtain ⟨val, xo, xc, keys, stamp⟩ := x
  simp only [MV.vr] at hS0 hlen ⊢
  obtain ⟨n, hn⟩ : ∃ n, n = keys.length := ⟨_, rfl⟩
  have HST : Hid (∀ X, Keeps no w0 X → X.cell? ⟨p, 0, none⟩ = some (.map (some y.vm)) ∧ X.cell? ⟨B, 0, none⟩ = some (.string k) ∧ X.cell? ⟨B, 1, none⟩ = some (.int .u64 ((i : Nat) : Int)) ∧ (Instr.lookup 73 (.map (some y.vm)) (.agg #[.string k, .int .u64 ((i : Nat) : Int)]) false).run Try.prog X = .ok (.agg #[.string val, .slice xo n xc, .int .i64 stamp]) X) := fun X hX =>
    ⟨hX.cellN c0, hX.cellN (cell_of_blk hb0 0), hX.cellN (cell_of_blk hb0 1), by rw [hn]; exact lookV_some (h.mv.keepsN (hk0.trans hX)) hm hf⟩
  have HS : Hid (Sl TE w xo xc keys) := hS0
  have HN : Hid (n = keys.length) := hn
  have HL : Hid (keys.length ≤ 100000) := hlen
  have HKS : Hid (k.size ≤ 281474976710656) := hks
  have HB2 : Hid (w0.heap.size = B + 2) := hsz0
  have HB0 : Hid (w0.heap[B]? = some (.cells #[.string k, .int .u64 ((i : Nat) : Int)] 87 (0, 0)) ∧ w0.heap[B + 1]? = some (.cells #[.string ⟨#[]⟩, .int .u64 0, .string ⟨#[]⟩, .slice none 0 0, .int .i64 0] 71 (0, 0))) := ⟨hb0, hb1⟩
  rw [hw0] at HST HB2 HB0
  clear hf hsv hv h hw0 hk0 hm hS0 hn hlen hks hb0 hb1 hsz0 c0
  subst hB
  go_enter Try.func36, Try.ntmps36
  go_upto_region 1 with fail
  go_cut [5] from 6 to 25 (fun t5 U => t5 = .pointer (some ⟨w.heap.size + 1 + 1, 0, none⟩) ∧ Hid (Keeps no w U ∧ U.heap[w.heap.size]? = some (.cells #[.string k, .int .u64 ((i : Nat) : Int)] 87 (0, 0)) ∧ U.heap[w.heap.size + 1]? = some (.cells #[.string ⟨#[]⟩, .int .u64 0, .string ⟨#[]⟩, .slice none 0 0, .int .i64 0] 71 (0, 0)) ∧ U.heap[w.heap.size + 1 + 1]? = some (.cells #[.string val, .slice xo n xc, .int .i64 stamp] 90 (0, 0))))
  case first =>
    go_region_held3 (fun X => X.cell? ⟨p, 0, none⟩ = some (.map (some y.vm)) ∧ X.cell? ⟨w.heap.size, 0, none⟩ = some (.string k) ∧ X.cell? ⟨w.heap.size, 1, none⟩ = some (.int .u64 ((i : Nat) : Int)) ∧ (Instr.lookup 73 (.map (some y.vm)) (.agg #[.string k, .int .u64 ((i : Nat) : Int)]) false).run Try.prog X = .ok (.agg #[.string val, .slice xo n xc, .int .i64 stamp]) X) (first | exact HST.out _ (Keeps.refl no _) | exact HST.out _ ((Keeps.refl no _).drew) | exact HST.out _ (((Keeps.refl no _).drew).alloc _) | exact HST.out _ (((Keeps.refl no _).alloc _).drew)) (fail)
    all_goals (rename _ ∧ _ => hh; clear hh)
    all_goals
      go_wp2_with fail
      go_meet
      case rel =>
      refine ⟨rfl, ((((Keeps.refl no w).alloc _).alloc _).alloc _).drew, blk_alloc HB0.out.1 _, blk_alloc HB0.out.2 _, ?_⟩
      have := blk_new ((w.alloc (Obj.cells #[Value.string k, Value.int IntKind.u64 ((i : Nat) : Int)] 87)).alloc (Obj.cells #[Value.string ⟨#[]⟩, Value.int IntKind.u64 0, Value.string ⟨#[]⟩, Value.slice none 0 0, Value.int IntKind.i64 0] 71)) (Obj.cells #[Value.string val, Value.slice xo n xc, Value.int IntKind.i64 stamp] 90)
      rw [HB2.out] at this
      exact this
  case rest =>
  obtain ⟨rfl, HH⟩ := hcut
  rename World => U
  obtain ⟨hK, hu0, hu1, hu2⟩ := HH.out
  have HK : Hid (Keeps no w U) := hK
  have HT : Hid (∀ X, Keeps (eqA (w.heap.size + 1)) U X → X.cell? ⟨w.heap.size, 0, none⟩ = some (.string k) ∧ X.cell? ⟨w.heap.size, 1, none⟩ = some (.int .u64 ((i : Nat) : Int)) ∧ X.cell? ⟨w.heap.size + 1 + 1, 0, none⟩ = some (.string val) ∧ X.cell? ⟨w.heap.size + 1 + 1, 1, none⟩ = some (.slice xo n xc) ∧ X.cell? ⟨w.heap.size + 1 + 1, 2, none⟩ = some (.int .i64 stamp)) := fun X hX =>
    ⟨hX.cell (cell_of_blk hu0 0) (by simp [eqA]), hX.cell (cell_of_blk hu0 1) (by simp [eqA]), hX.cell (cell_of_blk hu2 0) (by simp [eqA]), hX.cell (cell_of_blk hu2 1) (by simp [eqA]), hX.cell (cell_of_blk hu2 2) (by simp [eqA])⟩
  have HU1 : Hid (U.heap[w.heap.size + 1]? = some (.cells #[.string ⟨#[]⟩, .int .u64 0, .string ⟨#[]⟩, .slice none 0 0, .int .i64 0] 71 (0, 0))) := hu1
  have HSU : Hid (Sl TE U xo xc keys) := HS.out.keepsN HK.out
  obtain ⟨B, hB⟩ : ∃ B, B = w.heap.size := ⟨_, rfl⟩
  have HB : Hid (B = w.heap.size) := hB
  rw [← hB] at HT HU1 ⊢
  clear hu0 hu1 hu2 HST HB0 HB2 HS hB HH hK
  go_wp2_with fail
  go_region_held3 (fun X => X.cell? ⟨B, 0, none⟩ = some (.string k) ∧ X.cell? ⟨B, 1, none⟩ = some (.int .u64 ((i : Nat) : Int)) ∧ X.cell? ⟨B + 1 + 1, 0, none⟩ = some (.string val) ∧ X.cell? ⟨B + 1 + 1, 1, none⟩ = some (.slice xo n xc) ∧ X.cell? ⟨B + 1 + 1, 2, none⟩ = some (.int .i64 stamp)) (first | exact HT.out _ HF.out.1.of_no | exact HT.out _ (((((HF.out.1.of_no.setA 0 _).setA 1 _).setA 2 _).setA 3 _).setA 4 _) | exact HT.out _ KS.out.of_no | exact HT.out _ ((Keeps.refl _ U).drew) | exact HT.out _ (Keeps.refl _ U)) ((first | (go_at_call 50; refine (clone_any _ xo n xc keys HN.out (HSU.out.keepsN KS.out) HL.out).mono ?_; rintro e uF ⟨vv, rfl, o', m', c', rfl, hm', ho', hn', hk'⟩; have HF : Hid (Keeps no U uF ∧ Own TE uF o' c' keys ∧ New U o' ∧ m' = keys.length) := ⟨KS.out.trans hk', ho', hn'.of_le KS.out.size, hm'.out⟩; have hb := HF.out.1.at HU1.out id; have q0 := cell_of_blk hb 0; have q1 := cell_of_blk hb 1; have q2 := cell_of_blk hb 2; have q3 := cell_of_blk hb 3; have q4 := cell_of_blk hb 4; have f0 := frozen_of_blk hb 0; have f1 := frozen_of_blk hb 1; have f2 := frozen_of_blk hb 2; have f3 := frozen_of_blk hb 3; have f4 := frozen_of_blk hb 4; clear ho' hn' hk' hm' hb) | (go_at_call 33; refine (sclone_any _ k HKS.out).mono ?_; rintro e u1 ⟨rfl, hk'⟩; have KS : Hid (Keeps no U u1) := (Keeps.refl no U).drew.trans hk'; clear hk')))
  all_goals (rename _ ∧ _ => hh; clear hh)
  all_goals
    have hs5 := set5 (HF.out.1.at HU1.out id) (.string k) (.int .u64 ((i : Nat) : Int)) (.string val) (.slice o' m' c') (.int .i64 stamp)
    unfold set5w at hs5
    have HE : Hid (∃ o n c, Value.agg #[.string k, .int .u64 ((i : Nat) : Int), .string val, .slice o' m' c', .int .i64 stamp] = .agg #[.string k, .int .u64 ((i : Nat) : Int), .string val, .slice o n c, .int .i64 stamp] ∧ Hid (n = keys.length) ∧ Own TE (set5w uF (B + 1) (.string k) (.int .u64 ((i : Nat) : Int)) (.string val) (.slice o' m' c') (.int .i64 stamp)) o c keys ∧ New w o ∧ Keeps no w (set5w uF (B + 1) (.string k) (.int .u64 ((i : Nat) : Int)) (.string val) (.slice o' m' c') (.int .i64 stamp))) := by
      refine ⟨o', m', c', rfl, HF.out.2.2.2, HF.out.2.1.keeps hs5.2 (fun b hb e => ?_), HF.out.2.2.1.of_le HK.out.size, (HK.out.trans HF.out.1).then hs5.2 (fun b hb => .inr ?_)⟩
      · obtain ⟨cur, hc⟩ := HF.out.2.1.tag b hb
        have hb1 := HF.out.1.at HU1.out id
        have : b = B + 1 := e
        rw [this, hb1] at hc
        injection hc with hc
        injection hc with _ hc _
        cases hc
      · have : b = B + 1 := hb
        have := HB.out
        omega
    go_wp2_with fail
    refine bodyPost_ret (results_row1 rfl _ _ (B + 1) _ rfl (loadK hs5.1)) rfl ?_
    exact ⟨_, rfl, HE.out⟩
end Go.Proofs.Ytagekdmkidbhpaa
