/- A frame told: new memory. -/
import Derived.Test.YtdbejihkliafiaaC1
import Derived.Lib.ConvBytes
namespace Go.Proofs.Ytdbejihkliafiaa
open Go.RowKit Go.Sort
set_option linter.unusedVariables false
set_option linter.unusedSimpArgs false

/-- a struct of four cells, told out of its cell -/
theorem results_row1 {fn : Func} {p : Tmp} {ty : TypeId} (h : fn.results = #[.cell p ty]) (tmps : Array Value) (w : World) (g : Nat) (cs : Array Value)
    (hp : tmps.getD p undef = .pointer (some ⟨g, 0, none⟩)) (hl : (loadVar ty ⟨g, 0, none⟩).run Try.prog w = .ok (.agg cs) w) :
    (results fn tmps).run Try.prog w = .ok (.agg cs) w := by
  have hp' : tmps[p]?.getD undef = .pointer (some ⟨g, 0, none⟩) := by simpa using hp
  simp [results, h, hp', asAddr, hl]
theorem fr_size (a b c d : Value) : (Try.prog.info? 33).map (·.size) = some (#[a, b, c, d] : Array Value).size := by
  show _ = some 4
  kernel_rfl
/-- '[]byte(s)' -/
theorem run_bytes (w : World) (bs : List UInt8) (hl : bs.length ≤ 140737488355328) :
    ∃ ob cb wb, (convert 9 22 (.string (mkT bs))).run Try.prog w = .ok (.slice ob bs.length cb) wb ∧ Oz BE wb ob cb bs ∧ (∀ i, zO ob cb i → w.heap.size ≤ i) ∧ Keeps no w wb := by
  have hr := Lib.run_convert_string_bytes (P := Try.prog) w 9 22 5 (mkT bs) Try.underlying9 Try.underlying22 Try.underlying5
  have hz : (mkT bs).size = bs.length := by simp [mkT, ByteArray.size]
  rw [hz] at hr
  refine ⟨_, _, _, hr, ?_, fun i hi => ?_, ⟨rfl, rfl, rfl, by rw [Lib.bytesWorld_size]; omega, fun k hk _ => Lib.bytesWorld_at_old w 5 _ k hk⟩⟩
  · have hge := grownCap_ge w bs.length 0 5
    have hmx : grownCap w bs.length 0 5 ≤ maxLen := grownCap_le_maxLen w bs.length 0 5 (by unfold maxLen; omega)
    have hcs : (Lib.bytesCells w 5 (mkT bs)).size = grownCap w bs.length 0 5 := by
      unfold Lib.bytesCells
      simp only [Array.size_append, Array.size_map, Array.size_replicate, hz]
      simp only [mkT, List.size_toArray]
      omega
    by_cases h0 : grownCap w bs.length 0 5 = 0
    · exact .inl ⟨h0, List.length_eq_zero_iff.1 (by omega)⟩
    · refine .inr ⟨by omega, w.heap.size, _, _, rfl, Lib.bytesWorld_at_new w 5 (mkT bs), .inr (Nat.le_refl _), hge, hmx, by rw [hcs]; simp [BE], ?_⟩
      show _ = BE.cells bs
      rw [cells_B]
      have e : (bs.length * BE.k) = (bs.map bv).length := by simp [BE]
      rw [e]
      unfold Lib.bytesCells
      simp only [Array.toList_append, Array.toList_map, mkT]
      exact List.take_left
  · obtain ⟨_, x, e, rfl⟩ := hi
    cases e
    exact Nat.le_refl _
def aggU (f : Fr) : Value := .agg #[.int .i64 (f.num : Nat), .int .i64 f.frm, .int .i64 f.dst, .string (mkT f.bs)]
set_option maxRecDepth 10000 in
set_option maxHeartbeats 2000000 in
theorem frame_any (w : World) (f : Fr) (hl : f.bs.length ≤ 140737488355328) :
    Calls Try.prog 26 #[aggU f] w fun e w' => ∃ r : RF, e = .returned (aggF r) ∧ FOf w' r f ∧ (∀ i, zO r.o r.c i → w.heap.size ≤ i) ∧ Keeps no w w' := by
  obtain ⟨num, frm, dst, bs⟩ := f
  simp only at hl
  unfold aggU
  simp only
  obtain ⟨B, hB⟩ : ∃ B, B = w.heap.size := ⟨_, rfl⟩
  have HU : Hid (∀ U, U = ((w.alloc (.cells #[.int .i64 (num : Nat), .int .i64 frm, .int .i64 dst, .string (mkT bs)] 67)).alloc (.cells #[.int .i64 0, .int .i64 0, .int .i64 0, .slice none 0 0] 33)) → U.heap[B]? = some (.cells #[.int .i64 (num : Nat), .int .i64 frm, .int .i64 dst, .string (mkT bs)] 67 (0, 0)) ∧ U.heap[B + 1]? = some (.cells #[.int .i64 0, .int .i64 0, .int .i64 0, .slice none 0 0] 33 (0, 0)) ∧ Keeps no w U ∧ B + 2 = U.heap.size) := by
    rintro U rfl
    have h1 := blk_alloc (blk_new w (.cells #[.int .i64 (num : Nat), .int .i64 frm, .int .i64 dst, .string (mkT bs)] 67)) (.cells #[.int .i64 0, .int .i64 0, .int .i64 0, .slice none 0 0] 33)
    have h2 := blk_new (w.alloc (.cells #[.int .i64 (num : Nat), .int .i64 frm, .int .i64 dst, .string (mkT bs)] 67)) (.cells #[.int .i64 0, .int .i64 0, .int .i64 0, .slice none 0 0] 33)
    have e : (w.alloc (.cells #[.int .i64 (num : Nat), .int .i64 frm, .int .i64 dst, .string (mkT bs)] 67)).heap.size = w.heap.size + 1 := by simp
    rw [e] at h2
    rw [← hB] at h1 h2
    exact ⟨h1, h2, ((Keeps.refl _ _).alloc _).alloc _, by rw [hB]; simp⟩
  go_enter Try.func26, Try.ntmps26
  go_upto_region 1 with fail
  have hU := HU.out _ rfl
  rw [← hB]
  generalize ((w.alloc (.cells #[.int .i64 (num : Nat), .int .i64 frm, .int .i64 dst, .string (mkT bs)] 67)).alloc (.cells #[.int .i64 0, .int .i64 0, .int .i64 0, .slice none 0 0] 33)) = U at hU ⊢
  obtain ⟨u0, u1, u2, u3⟩ := hU
  obtain ⟨ob, cb, wb, hcv, hob, hnb, hkb⟩ := run_bytes U bs hl
  have a0 := cell_of_blk u0 0
  have a1 := cell_of_blk u0 1
  have a2 := cell_of_blk u0 2
  have a3 := cell_of_blk u0 3
  have hy := hkb.at u1 (fun h => h)
  have y0 := cell_of_blk hy 0
  have y1 := cell_of_blk hy 1
  have y2 := cell_of_blk hy 2
  have y3 := cell_of_blk hy 3
  have f0 := frozen_of_blk hy 0
  have f1 := frozen_of_blk hy 1
  have f2 := frozen_of_blk hy 2
  have f3 := frozen_of_blk hy 3
  simp only [List.getElem?_toArray, List.getElem?_cons_succ, List.getElem?_cons_zero] at a0 a1 a2 a3 y0 y1 y2 y3
  obtain ⟨bn, hbn⟩ : ∃ bn, bn = bs.length := ⟨_, rfl⟩
  rw [← hbn] at hcv
  have HV : Hid (∀ W, W = wb.setCells (B + 1) 0 [.int .i64 (num : Nat), .int .i64 frm, .int .i64 dst, .slice ob bn cb] → W.heap[B + 1]? = some (.cells #[.int .i64 (num : Nat), .int .i64 frm, .int .i64 dst, .slice ob bn cb] 33 (0, 0)) ∧ FOf W ⟨num, frm, dst, ob, bn, cb⟩ ⟨num, frm, dst, bs⟩ ∧ (∀ i, zO ob cb i → w.heap.size ≤ i) ∧ Keeps no w W) := by
    rintro W rfl
    have hbB := blk_whole hy [.int .i64 (num : Nat), .int .i64 frm, .int .i64 dst, .slice ob bn cb] rfl
    have kw : Keeps no w wb := u2.trans hkb
    have k2 : Keeps (fun i => i = B + 1) wb (wb.setCells (B + 1) 0 [.int .i64 (num : Nat), .int .i64 frm, .int .i64 dst, .slice ob bn cb]) := keeps_setCells' _ _ (Keeps.refl _ wb) (.inl rfl)
    refine ⟨hbB, ⟨rfl, rfl, rfl, hbn, hob.keeps k2 (fun i hi e => ?_)⟩, fun i hi => ?_, kw.then k2 (fun i hi => .inr (by omega))⟩
    · have := hnb i hi; omega
    · have := hnb i hi; have := u2.size; omega
  clear u0 u1 u2 hob hnb hkb hy hbn hl HU hB
  go_wp2_with fail
  have hE := HV.out _ rfl
  (try simp only [Exit.inBlock, Exit.then])
  refine bodyPost_ret (results_row1 rfl _ _ (B + 1) _ rfl (run_loadVar_row _ _ _ _ _ _ _ hE.1 Try.underlying33 rfl (fr_size _ _ _ _))) rfl ?_
  exact ⟨⟨num, frm, dst, ob, bn, cb⟩, rfl, hE.2.1, hE.2.2.1, hE.2.2.2⟩
end Go.Proofs.Ytdbejihkliafiaa
