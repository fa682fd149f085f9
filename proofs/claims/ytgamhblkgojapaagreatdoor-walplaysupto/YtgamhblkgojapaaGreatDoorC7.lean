/- The program's Parse. -/
import Derived.Test.YtgamhblkgojapaaGreatDoorC6
namespace Go.Proofs.YtgamhblkgojapaaGreatDoor
open Go.RowKit Go.Sort Orl Pk
set_option linter.unusedVariables false
set_option linter.unusedSimpArgs false

/-- what Parse tells -/
def ParTo (w : World) (b : List Nat) (e : Ending) (w' : World) : Prop :=
  ∃ (k : Int) (i : Nat) (op : Option Addr) (np cp : Nat) (ok : Option Addr) (nk ck m E : Nat), e = .returned (.tuple #[.agg #[.int .i64 k, .int .u64 (i : Nat), .slice op np cp, .slice ok nk ck], .int .i64 (m : Nat), .int .i64 (E : Nat)]) ∧
    Hid (Got w w' ⟨k, i, op, np, cp, ok, nk, ck⟩ (parse b).1 ∧ m = (parse b).2.1 ∧ E = (parse b).2.2) ∧ (m : Int) ≤ 1048584 ∧ (E : Int) ≤ 91 ∧ Keeps no w w'
theorem fit0 : FitR c0 := ⟨by simp [c0], fun s hs => (by cases hs), by simp [c0], fun s hs => (by cases hs), by simp [c0], by simp [c0], by simp [c0]⟩
theorem got0 (w w' : World) : Got w w' ⟨0, 0, none, 0, 0, none, 0, 0⟩ c0 := ⟨rfl, rfl, rfl, rfl, own_nil _, own_nil _, new_none _, new_none _, fit0⟩
theorem parTo_err {w w' : World} {b : List Nat} (E : Nat) (hE : parse b = (c0, 0, E)) (h91 : E ≤ 91) (hk : Keeps no w w') :
    ParTo w b (.returned (.tuple #[.agg #[.int .i64 0, .int .u64 0, .slice none 0 0, .slice none 0 0], .int .i64 0, .int .i64 (E : Nat)])) w' := by
  refine ⟨0, 0, none, 0, 0, none, 0, 0, 0, E, rfl, ?_, by omega, by omega, hk⟩
  rw [hE]
  exact ⟨got0 _ _, rfl, rfl⟩
theorem set4n {w0 w : World} {g : Nat} {z0 z1 z2 z3 : Value} {t : TypeId} (hg : w0.heap.size ≤ g) (k : Keeps no w0 w) (h : w.heap[g]? = some (.cells #[z0, z1, z2, z3] t (0, 0))) (a0 a1 a2 a3 : Value) :
    ((((w.setCell ⟨g, 0, none⟩ a0).setCell ⟨g, 1, none⟩ a1).setCell ⟨g, 2, none⟩ a2).setCell ⟨g, 3, none⟩ a3).heap[g]? = some (.cells #[a0, a1, a2, a3] t (0, 0)) ∧ Keeps no w0 ((((w.setCell ⟨g, 0, none⟩ a0).setCell ⟨g, 1, none⟩ a1).setCell ⟨g, 2, none⟩ a2).setCell ⟨g, 3, none⟩ a3) := by
  have := set4 h a0 a1 a2 a3
  exact ⟨this.1, k.then this.2 (fun i hi => .inr (by unfold eqA at hi; omega))⟩

set_option maxRecDepth 10000 in
set_option maxHeartbeats 1000000 in
theorem Parse_any (w : World) (o : Option Addr) (n c : Nat) (b : List Nat) (hn : n = b.length) (hnb : (n : Int) ≤ 281474976710656) (hs : BSl w o c b) (ht : TabIn w) :
    Calls Tryz.prog 58 #[.slice o n c] w (ParTo w b) := by
  have HN : Hid (n = b.length) := hn
  clear hn
  have kB : Keeps no w (w.alloc (.cells #[.int .i64 0, .int .u64 0, .slice none 0 0, .slice none 0 0] 41)) := (Keeps.refl _ _).alloc _
  go_enter Tryz.func58, Tryz.ntmps58
  go_wp2_with fail
  refine (payloadOf_any _ o n c b HN.out hnb (hs.keeps kB (fun _ _ h => h)) (ht.keepsN kB)).mono ?_
  rintro e w1 ⟨hk1, hp⟩
  have hB1 : w1.heap[w.heap.size]? = some (.cells #[.int .i64 0, .int .u64 0, .slice none 0 0, .slice none 0 0] 41 (0, 0)) := hk1.at (blk_new w _) (fun h => h)
  have HK1 : Hid (Keeps no w w1) := kB.trans hk1
  have HSZ : Hid (w.heap.size + 1 ≤ w1.heap.size) := by have := hk1.size; show _ ≤ _; simpa using this
  obtain ⟨B, hB⟩ : ∃ B, B = w.heap.size := ⟨_, rfl⟩
  have HB : Hid (B = w.heap.size) := hB
  rw [← hB] at hB1 ⊢
  clear hB hk1 kB
  rcases hp with ⟨E, ⟨hE0, hE91⟩, hpe, rfl⟩ | ⟨hpe, hpl, A, N, d, rfl, hNp, hslA⟩
  · have HB1 : Hid (w1.heap[B]? = some (.cells #[.int .i64 0, .int .u64 0, .slice none 0 0, .slice none 0 0] 41 (0, 0))) := hB1
    have HP : Hid (parse b = (c0, 0, E)) := hpe
    have hEn : ((E : Int) == 0) = false := by simp; omega
    have hEn2 : ¬ (E : Int) = 0 := by omega
    obtain ⟨y0, y1, y2, y3⟩ := cells4 hB1
    have f0 := frozen_of_blk hB1 0
    have f1 := frozen_of_blk hB1 1
    have f2 := frozen_of_blk hB1 2
    have f3 := frozen_of_blk hB1 3
    clear hB1 hpe
    go_wp2_with fail
    (try simp only [Exit.inBlock, Exit.then])
    have hs4 := set4n (g := B) (by have := HB.out; omega) HK1.out HB1.out (.int .i64 0) (.int .u64 0) (.slice none 0 0) (.slice none 0 0)
    refine bodyPost_ret (results_row3 rfl _ _ B _ rfl (loadR hs4.1)) rfl ?_
    exact parTo_err E HP.out (by omega) hs4.2
  · have HP : Hid (parse b = (if rok (pay b) then ((rrec (pay b)).1, 8 + (pay b).length, 0) else (c0, 0, 2))) := hpe
    have hNb : (N : Int) ≤ 1048576 := by have := hNp.out; omega
    have HB1 : Hid (w1.heap[B]? = some (.cells #[.int .i64 0, .int .u64 0, .slice none 0 0, .slice none 0 0] 41 (0, 0))) := hB1
    clear hpe hpl hB1
    go_wp2_with fail
    refine (newReader_any w1 A N d (pay b) hNp.out hslA (by have := hNp.out; omega)).mono ?_
    rintro e w2 ⟨a, o2, c2, rfl, hR2, hnew2, hk2⟩
    have hk2' : Keeps no w1 w2 := hk2
    have hna : w1.heap.size ≤ a := hnew2 _ (.inl rfl)
    have HB2 : Hid (w2.heap[B]? = some (.cells #[.int .i64 0, .int .u64 0, .slice none 0 0, .slice none 0 0] 41 (0, 0))) := hk2'.at HB1.out (fun h => h)
    go_wp2_with fail
    refine (read_any w2 a o2 c2 (pay b) hR2).mono ?_
    rintro e w3 ⟨k, i, op, np, cp, ok, nk, ck, rfl, HG, hk3⟩
    have HB3 : Hid (w3.heap[B]? = some (.cells #[.int .i64 0, .int .u64 0, .slice none 0 0, .slice none 0 0] 41 (0, 0))) := hk3.at HB2.out (by unfold eqA; have := HB.out; have := HSZ.out; omega)
    have HK3 : Hid (Keeps no w w3) := (HK1.out.trans hk2').then hk3 (fun i hi => .inr (by unfold eqA at hi; subst hi; have := HSZ.out; omega))
    have hsz23 := hk3.size
    have hsz12 := hk2'.size
    have HSZ3 : Hid (w.heap.size + 1 ≤ w2.heap.size ∧ w2.heap.size ≤ w3.heap.size) := by
      have := HSZ.out
      exact ⟨by omega, by omega⟩
    clear hk2 hk3 hR2 hnew2 hk2' hna hsz23 hsz12 hslA HB1 HB2
    generalize hwh : rend0 (rrec (pay b)).2 = WH at *
    have HWH : Hid (rend0 (rrec (pay b)).2 = WH) := hwh
    clear hwh
    have k4 : Keeps no w3 (w3.alloc (.cells #[.int .i64 k, .int .u64 (i : Nat), .slice op np cp, .slice ok nk ck] 41)) := (Keeps.refl _ _).alloc _
    cases WH
    · have HP2 : Hid (parse b = (c0, 0, 2)) := by show _ = _; rw [HP.out, if_neg (by unfold rok; rw [HWH.out]; simp)]
      have hB4 := blk_alloc HB3.out (.cells #[.int .i64 k, .int .u64 (i : Nat), .slice op np cp, .slice ok nk ck] 41)
      have HB4 : Hid (_ = _) := hB4
      obtain ⟨y0, y1, y2, y3⟩ := cells4 hB4
      have f0 := frozen_of_blk hB4 0
      have f1 := frozen_of_blk hB4 1
      have f2 := frozen_of_blk hB4 2
      have f3 := frozen_of_blk hB4 3
      clear hB4
      go_wp2_with fail
      (try simp only [Exit.inBlock, Exit.then])
      have hs4 := set4n (g := B) (by have := HB.out; omega) (HK3.out.trans k4) HB4.out (.int .i64 0) (.int .u64 0) (.slice none 0 0) (.slice none 0 0)
      refine bodyPost_ret (results_row3 rfl _ _ B _ rfl (loadR hs4.1)) rfl ?_
      exact parTo_err 2 HP2.out (by omega) hs4.2
    · go_wp2_with fail
      refine (May_any _ k i op np cp ok nk ck _ (HG.out.isC.keepsN k4)).mono ?_
      rintro e w5 ⟨rfl, hk5⟩
      have hB5 : w5.heap[B]? = some (.cells #[.int .i64 0, .int .u64 0, .slice none 0 0, .slice none 0 0] 41 (0, 0)) := hk5.at (blk_alloc HB3.out _) (fun h => h)
      have hM5 : w5.heap[w3.heap.size]? = some (.cells #[.int .i64 k, .int .u64 (i : Nat), .slice op np cp, .slice ok nk ck] 41 (0, 0)) := hk5.at (blk_new w3 _) (fun h => h)
      have HB5 : Hid (_ = _) := hB5
      have HK5 : Hid (Keeps no w3 w5) := k4.trans hk5
      obtain ⟨y0, y1, y2, y3⟩ := cells4 hB5
      have f0 := frozen_of_blk hB5 0
      have f1 := frozen_of_blk hB5 1
      have f2 := frozen_of_blk hB5 2
      have f3 := frozen_of_blk hB5 3
      obtain ⟨x0, x1, x2, x3⟩ := cells4 hM5
      clear hB5 hM5 hk5 k4
      cases hmy : may (rrec (pay b)).1
      · have HP2 : Hid (parse b = (c0, 0, 2)) := by show _ = _; rw [HP.out, if_neg (by unfold rok; rw [hmy]; simp)]
        go_wp2_with fail
        (try simp only [Exit.inBlock, Exit.then])
        have hs4 := set4n (g := B) (by have := HB.out; omega) (HK3.out.trans HK5.out) HB5.out (.int .i64 0) (.int .u64 0) (.slice none 0 0) (.slice none 0 0)
        refine bodyPost_ret (results_row3 rfl _ _ B _ rfl (loadR hs4.1)) rfl ?_
        exact parTo_err 2 HP2.out (by omega) hs4.2
      · have HP2 : Hid (parse b = ((rrec (pay b)).1, 8 + (pay b).length, 0)) := by show _ = _; rw [HP.out, if_pos (by unfold rok; rw [hmy, HWH.out]; rfl)]
        go_wp2_with fail
        (try simp only [Exit.inBlock, Exit.then])
        have hs4 := set4n (g := B) (by have := HB.out; omega) (HK3.out.trans HK5.out) HB5.out (.int .i64 k) (.int .u64 (i : Nat)) (.slice op np cp) (.slice ok nk ck)
        have hs4' := set4 HB5.out (.int .i64 k) (.int .u64 (i : Nat)) (.slice op np cp) (.slice ok nk ck)
        refine bodyPost_ret (results_row3 rfl _ _ B _ rfl (loadR hs4.1)) rfl ?_
        refine ⟨k, i, op, np, cp, ok, nk, ck, 8 + N, 0, rfl, ?_, by omega, by omega, hs4.2⟩
        rw [HP2.out]
        refine ⟨?_, by rw [hNp.out], rfl⟩
        exact ((HG.out.keepsN HK5.out).keeps hs4'.2 (fun j hj => by unfold eqA at hj; have := HB.out; have := HSZ3.out; omega)).of_le (by have := HSZ3.out; omega)
end Go.Proofs.YtgamhblkgojapaaGreatDoor
