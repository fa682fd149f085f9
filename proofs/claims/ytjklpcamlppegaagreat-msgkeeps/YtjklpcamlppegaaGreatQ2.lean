/- The program's read of a version. -/
import Derived.Test.YtjklpcamlppegaaGreatQ1
namespace Go.Proofs.YtjklpcamlppegaaGreat
open Go.RowKit Go.Sort Orl Pk
set_option linter.unusedVariables false
set_option linter.unusedSimpArgs false

theorem Keeps.setA {g : Nat} {a w : World} (h : Keeps (eqA g) a w) (i : Nat) (u : Value) : Keeps (eqA g) a (w.setCell ⟨g, i, none⟩ u) := h.setCell (p := ⟨g, i, none⟩) (.inl rfl) u
theorem set4 {w : World} {g : Nat} {z0 z1 z2 z3 : Value} {t : TypeId} (h : w.heap[g]? = some (.cells #[z0, z1, z2, z3] t (0, 0))) (a0 a1 a2 a3 : Value) :
    ((((w.setCell ⟨g, 0, none⟩ a0).setCell ⟨g, 1, none⟩ a1).setCell ⟨g, 2, none⟩ a2).setCell ⟨g, 3, none⟩ a3).heap[g]? = some (.cells #[a0, a1, a2, a3] t (0, 0)) ∧ Keeps (eqA g) w ((((w.setCell ⟨g, 0, none⟩ a0).setCell ⟨g, 1, none⟩ a1).setCell ⟨g, 2, none⟩ a2).setCell ⟨g, 3, none⟩ a3) := by
  refine ⟨?_, ((((Keeps.refl (eqA g) w).setA _ _).setA _ _).setA _ _).setA _ _⟩
  rw [blk_set (blk_set (blk_set (blk_set h 0 a0) 1 a1) 2 a2) 3 a3]
  rfl
theorem loadV {w : World} {g : Nat} {a0 a1 a2 a3 : Value} (h : w.heap[g]? = some (.cells #[a0, a1, a2, a3] 46 (0, 0))) : (loadVar 46 ⟨g, 0, none⟩).run Tryz.prog w = .ok (.agg #[a0, a1, a2, a3]) w :=
  run_loadVar_row _ _ _ _ _ _ _ h Tryz.underlying46 rfl (ver_size _ _ _ _)
theorem rver_0 {st : RS} (h : (rnum 8 (rtext 65535 st).2).1 = 0) : rver st = (⟨text (rtext 65535 st).1, 0, e0, []⟩, (rnum 8 (rtext 65535 st).2).2) := by unfold rver; rw [if_pos h]
theorem rver_1 {st : RS} (h : ¬ (rnum 8 (rtext 65535 st).2).1 = 0) : rver st = (⟨text (rtext 65535 st).1, (rnum 8 (rtext 65535 st).2).1, text (rtext 65535 (rnum 8 (rtext 65535 st).2).2).1, (rkeys (rtext 65535 (rnum 8 (rtext 65535 st).2).2).2).1⟩, (rkeys (rtext 65535 (rnum 8 (rtext 65535 st).2).2).2).2) := by unfold rver; rw [if_neg h]

set_option maxRecDepth 10000 in
theorem readVersion_any {w w1 : World} {a : Nat} {o : Option Addr} {st : RS} (h : RStep 101 w a o st w1) (hlt : a < w.heap.size ∧ ∀ k, inO o k → k < w.heap.size) :
    Calls Tryz.prog 66 #[.pointer (some ⟨a, 0, none⟩)] w1 fun e w2 => (∃ key id val oo n c, e = .returned (.agg #[.string key, .int .u64 (id : Nat), .string val, .slice oo n c]) ∧ Hid (Own TE w2 oo c (rver st).1.keys ∧ n = (rver st).1.keys.length ∧ key = (rver st).1.key ∧ id = (rver st).1.id ∧ val = (rver st).1.val ∧ id < 18446744073709551616) ∧ New w1 oo) ∧ RStep 101 w a o (rver st).2 w2 ∧ Keeps (eqA a) w1 w2 := by
  have HLT : Hid (a < w.heap.size ∧ ∀ k, inO o k → k < w.heap.size) := hlt
  clear hlt
  have hws : w.heap.size ≤ w1.heap.size := h.keeps.size
  have haw : a < w1.heap.size := by have := HLT.out.1; omega
  have h0 := h.beside (.inr HLT.out) ((Keeps.refl no _).alloc (.cells #[.string ⟨#[]⟩, .int .u64 0, .string ⟨#[]⟩, .slice none 0 0] 46)) (fun i hi => hi.elim)
  go_enter Tryz.func66, Tryz.ntmps66
  go_wp2_with fail
  refine (rsText h0).mono ?_
  rintro e w2 ⟨⟨s1, rfl, hs1⟩, h2, hk2⟩
  go_wp2_with fail
  refine (rsU64 h2).mono ?_
  rintro e w3 ⟨⟨id, rfl, hid, hidb⟩, h3, hk3⟩
  have hk13 := hk2.trans hk3
  have hB0 : w3.heap[w1.heap.size]? = some (.cells #[.string ⟨#[]⟩, .int .u64 0, .string ⟨#[]⟩, .slice none 0 0] 46 (0, 0)) := hk13.at (blk_new w1 _) (by unfold eqA; omega)
  have HB0 : Hid (w3.heap[w1.heap.size]? = some (.cells #[.string ⟨#[]⟩, .int .u64 0, .string ⟨#[]⟩, .slice none 0 0] 46 (0, 0))) := hB0
  have hsz13 : w1.heap.size + 1 ≤ w3.heap.size := by have := hk13.size; simpa using this
  obtain ⟨B, hB⟩ : ∃ B, B = w1.heap.size := ⟨_, rfl⟩
  by_cases hi : id = 0
  · subst hi
    have hb4 := blk_alloc hB0 (.cells #[.string s1, .int .u64 0, .string ⟨#[]⟩, .slice none 0 0] 46)
    obtain ⟨x0, x1, x2, x3⟩ := cells4 hb4
    have f0 := frozen_of_blk hb4 0
    have f1 := frozen_of_blk hb4 1
    have f2 := frozen_of_blk hb4 2
    have f3 := frozen_of_blk hb4 3
    rw [← hB] at x0 x1 x2 x3 f0 f1 f2 f3 ⊢
    have HBE : Hid (B = w1.heap.size) := hB
    clear hB hb4
    go_wp2_with fail
    (try simp only [Exit.inBlock, Exit.then])
    rw [HBE.out]
    have hs4 := set4 (blk_alloc HB0.out (.cells #[.string s1, .int .u64 0, .string ⟨#[]⟩, .slice none 0 0] 46)) (.string s1) (.int .u64 0) (.string ⟨#[]⟩) (.slice none 0 0)
    refine bodyPost_ret (results_row1 rfl _ _ w1.heap.size _ rfl (loadV hs4.1)) rfl ?_
    have hv := rver_0 (st := st) hid.out.symm
    have hkB := ((Keeps.refl no w1).alloc (.cells #[.string ⟨#[]⟩, .int .u64 0, .string ⟨#[]⟩, .slice none 0 0] 46))
    refine ⟨⟨s1, 0, ⟨#[]⟩, none, 0, 0, rfl, ?_, new_none _⟩, ?_, ?_⟩
    · rw [hv]
      exact ⟨own_nil _, rfl, hs1.out, rfl, rfl, by omega⟩
    · rw [hv]
      refine RStep.beside (RStep.beside h3 (.inr HLT.out) ((Keeps.refl no _).alloc _) (fun i hi => hi.elim)) (.inr HLT.out) hs4.2 (fun i hi => ?_)
      unfold eqA at hi; omega
    · exact ((hkB.of_no.trans hk13).alloc _).then hs4.2 (fun i hi => .inr (by unfold eqA at hi; omega))
  · have hi2 : ((id : Int) == 0) = false := by simp; omega
    have hi3 : ¬ ((id : Int) = 0) := by omega
    have HBE : Hid (B = w1.heap.size) := hB
    rw [← hB]
    clear hB hB0
    have h4 := h3.beside (.inr HLT.out) ((Keeps.refl no w3).alloc (.cells #[.string s1, .int .u64 (id : Nat), .string ⟨#[]⟩, .slice none 0 0] 46)) (fun i hi => hi.elim)
    go_wp2_with fail
    refine (rsText h4).mono ?_
    rintro e w5 ⟨⟨s2, rfl, hs2⟩, h5, hk5⟩
    have hV5 : w5.heap[w3.heap.size]? = some (.cells #[.string s1, .int .u64 (id : Nat), .string ⟨#[]⟩, .slice none 0 0] 46 (0, 0)) := hk5.at (blk_new w3 _) (by unfold eqA; omega)
    have hB5 : Hid (w5.heap[w1.heap.size]? = some (.cells #[.string ⟨#[]⟩, .int .u64 0, .string ⟨#[]⟩, .slice none 0 0] 46 (0, 0))) := hk5.at (blk_alloc HB0.out _) (by unfold eqA; omega)
    obtain ⟨V, hVE⟩ : ∃ V, V = w3.heap.size := ⟨_, rfl⟩
    have HVE : Hid (V = w3.heap.size) := hVE
    rw [← hVE] at hV5 ⊢
    obtain ⟨x0, x1, x2, x3⟩ := cells4 hV5
    have f2 := frozen_of_blk hV5 2
    have hb6 := blk_set hV5 2 (.string s2)
    have hk6 : Keeps (eqA V) w5 (w5.setCell ⟨V, 2, none⟩ (.string s2)) := (Keeps.refl (eqA V) w5).setA _ _
    have h6 := h5.beside (.inr HLT.out) hk6 (fun i hi => by unfold eqA at hi; omega)
    have hB6 : Hid ((w5.setCell ⟨V, 2, none⟩ (.string s2)).heap[w1.heap.size]? = some (.cells #[.string ⟨#[]⟩, .int .u64 0, .string ⟨#[]⟩, .slice none 0 0] 46 (0, 0))) := hk6.at hB5.out (by unfold eqA; omega)
    have HV6 : Hid ((w5.setCell ⟨V, 2, none⟩ (.string s2)).heap[V]? = some (.cells #[.string s1, .int .u64 (id : Nat), .string s2, .slice none 0 0] 46 (0, 0))) := by show _ = _; rw [hb6]; rfl
    clear hVE hb6 hV5
    go_wp2_with fail
    refine (readKeys_any h6).mono ?_
    rintro e w7 ⟨⟨oo, n, c, rfl, hn, hown, hnew⟩, h7, hk7⟩
    have hV7 : w7.heap[V]? = some (.cells #[.string s1, .int .u64 (id : Nat), .string s2, .slice none 0 0] 46 (0, 0)) := hk7.at HV6.out (by unfold eqA; have := HVE.out; omega)
    have hB7 : w7.heap[w1.heap.size]? = some (.cells #[.string ⟨#[]⟩, .int .u64 0, .string ⟨#[]⟩, .slice none 0 0] 46 (0, 0)) := hk7.at hB6.out (by unfold eqA; omega)
    clear x0 x1 x2 x3 f2
    obtain ⟨x0, x1, x2, x3⟩ := cells4 hV7
    have f3 := frozen_of_blk hV7 3
    have hb8 := blk_set hV7 3 (.slice oo n c)
    have hV8 : (w7.setCell ⟨V, 3, none⟩ (.slice oo n c)).heap[V]? = some (.cells #[.string s1, .int .u64 (id : Nat), .string s2, .slice oo n c] 46 (0, 0)) := by rw [hb8]; rfl
    have hk8 : Keeps (eqA V) w7 (w7.setCell ⟨V, 3, none⟩ (.slice oo n c)) := (Keeps.refl (eqA V) w7).setA _ _
    have hB8 : (w7.setCell ⟨V, 3, none⟩ (.slice oo n c)).heap[w1.heap.size]? = some (.cells #[.string ⟨#[]⟩, .int .u64 0, .string ⟨#[]⟩, .slice none 0 0] 46 (0, 0)) := hk8.at hB7 (by unfold eqA; have := HVE.out; omega)
    have HB8 : Hid ((w7.setCell ⟨V, 3, none⟩ (.slice oo n c)).heap[w1.heap.size]? = some (.cells #[.string ⟨#[]⟩, .int .u64 0, .string ⟨#[]⟩, .slice none 0 0] 46 (0, 0))) := hB8
    rw [← HBE.out] at hB8
    obtain ⟨y0, y1, y2, y3⟩ := cells4 hV8
    obtain ⟨z0, z1, z2, z3⟩ := cells4 hB8
    have g0 := frozen_of_blk hB8 0
    have g1 := frozen_of_blk hB8 1
    have g2 := frozen_of_blk hB8 2
    have g3 := frozen_of_blk hB8 3
    clear hb8 hV7 hB7 hV8 hB8
    go_wp2_with fail
    (try simp only [Exit.inBlock, Exit.then])
    rw [HBE.out]
    have hs4 := set4 HB8.out (.string s1) (.int .u64 (id : Nat)) (.string s2) (.slice oo n c)
    refine bodyPost_ret (results_row1 rfl _ _ w1.heap.size _ rfl (loadV hs4.1)) rfl ?_
    have hv := rver_1 (st := st) (by rw [← hid.out]; exact hi)
    have hkB := ((Keeps.refl no w1).alloc (.cells #[.string ⟨#[]⟩, .int .u64 0, .string ⟨#[]⟩, .slice none 0 0] 46))
    have hK5 : Keeps (eqA a) w1 w5 := ((hkB.of_no.trans hk13).alloc _).trans hk5
    have hsz5 := hK5.size
    have hV1 : w1.heap.size ≤ V := by have := HVE.out; omega
    have hK7 : Keeps (eqA a) w1 w7 := (hK5.then hk6 (fun i hi => .inr (by unfold eqA at hi; omega))).trans hk7
    have hV7' : V < w5.heap.size := by
      have := hk5.size
      have := HVE.out
      simp at *
      omega
    have hooV : ∀ j, inO oo j → j ≠ V ∧ j ≠ w1.heap.size ∧ w1.heap.size ≤ j := by
      intro j hj
      have := hnew j hj
      rw [World.size_setCell] at this
      omega
    refine ⟨⟨s1, id, s2, oo, n, c, rfl, ?_, fun j hj => (hooV j hj).2.2⟩, ?_, ?_⟩
    · rw [hv]
      refine ⟨?_, hn.out, hs1.out, hid.out, hs2.out, hidb⟩
      exact (hown.keeps hk8 (fun j hj e => (hooV j hj).1 e)).keeps hs4.2 (fun j hj e => (hooV j hj).2.1 e)
    · rw [hv]
      refine RStep.beside (RStep.beside h7 (.inr HLT.out) hk8 (fun i hi => by unfold eqA at hi; omega)) (.inr HLT.out) hs4.2 (fun i hi => by unfold eqA at hi; omega)
    · exact (hK7.then hk8 (fun i hi => .inr (by unfold eqA at hi; omega))).then hs4.2 (fun i hi => .inr (by unfold eqA at hi; omega))
end Go.Proofs.YtjklpcamlppegaaGreat
