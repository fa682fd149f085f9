import Derived.Test.YtkoaiibjahlnmabGreatC5
import Derived.Test.YtkoaiibjahlnmabGreatH1
/- pairs; put. -/
namespace Go.Proofs.YtkoaiibjahlnmabGreat
open Go.RowKit Go.Maps Go.Sort Orl
set_option linter.unusedVariables false
set_option linter.unusedSimpArgs false

def prs (ls : List Tx) (q : Nat) : List Pr := (List.range q).map fun j => (ls.getD (2 * j) e0, ls.getD (2 * j + 1) e0)
theorem prs_succ (ls : List Tx) (q : Nat) : prs ls (q + 1) = prs ls q ++ [(ls.getD (2 * q) e0, ls.getD (2 * q + 1) e0)] := by simp [prs, List.range_succ]
theorem prs_len (ls : List Tx) (q : Nat) : (prs ls q).length = q := by simp [prs]
set_option maxRecDepth 10000 in
theorem pairs_any (w : World) (a : Option Addr) (n c : Nat) (ls : List Tx) (q : Nat) (hn : n = ls.length) (hq : n = 2 * q) (hl : n ≤ 1000) (hs : Sl TE w a c ls) :
    Calls Tryz.prog 10 #[.slice a n c] w fun e w' => ∃ v, e = .returned v ∧ Gives PE w (prs ls q) v w' := by
  have HA : Hid (n = ls.length ∧ n = 2 * q) := ⟨hn, hq⟩
  have hA : (n : Int) ≤ 1000 := by omega
  have HS : Hid (Sl TE w a c ls) := hs
  clear hn hl hs hq
  go_enter Tryz.func10, Tryz.ntmps10
  go_wp2_with fail
  go_loopw [3, 4] (fun s3 v wr => ∃ (j k : Nat) (u : Value), v = .int .i64 (j : Int) ∧ j ≤ n ∧ s3 = u ∧ Hid (j = 2 * k ∧ k ≤ q ∧ Gives PE w (prs ls k) u wr)) (fun _ v _ => n - (intOf v).toNat)
  case atStart => exact ⟨0, 0, _, rfl, by omega, rfl, rfl, by omega, none, 0, 0, rfl, (show 0 = _ by simp [prs]), own_nil _, new_none _, Keeps.refl _ _⟩
  case round =>
    obtain ⟨j, k, v, rfl, hjn, rfl, HG⟩ := hrel
    obtain ⟨hj, hkq, o, m, d, rfl, hm, ho, hnw, hkp⟩ := HG.out
    have HO : Hid (j = 2 * k ∧ k ≤ q ∧ m = (prs ls k).length ∧ Own PE wr o d (prs ls k) ∧ New w o ∧ Keeps no w wr) := ⟨hj, hkq, hm.out, ho, hnw, hkp⟩
    clear ho hnw hkp HG hm hj hkq
    by_cases hlt : j + 1 < n
    · have hlt' : (j : Int) + 1 < n := by omega
      have hlt'' : (j : Int) < n := by omega
      have hj1 : j < ls.length := by have := HA.out; omega
      have hj2 : j + 1 < ls.length := by have := HA.out; omega
      obtain ⟨b1, off1, rfl, d1⟩ := (HS.out.keepsN HO.out.2.2.2.2.2).at hj1
      obtain ⟨b2, off2, e2, d2⟩ := (HS.out.keepsN HO.out.2.2.2.2.2).at hj2
      cases e2
      obtain ⟨x, hx⟩ : ∃ x, x = ls.getD j e0 := ⟨_, rfl⟩
      obtain ⟨y, hy⟩ : ∃ y, y = ls.getD (j + 1) e0 := ⟨_, rfl⟩
      rw [← hx] at d1
      rw [← hy] at d2
      have HX : Hid (x = ls.getD j e0 ∧ y = ls.getD (j + 1) e0) := ⟨hx, hy⟩
      have hB : (prs ls k).length ≤ 1000 := by rw [prs_len]; have := HO.out.1; have := HO.out.2.1; have := HA.out; omega
      have HB : Hid (((prs ls k).length + [(x, y)].length) * PE.nb ≤ 140737488355328 ∧ (prs ls k).length + [(x, y)].length ≤ 140737488355328) := ⟨by simp [PE]; omega, by simp; omega⟩
      have HO0 : Hid (Own PE (wr.alloc (.cells #[.string x, .string y] 78)).drew o d (prs ls k)) := (HO.out.2.2.2.1.keepsN ((Keeps.refl no wr).alloc _)).keepsN (Keeps.refl no _).drew
      have HR0 : Hid (Row PE (wr.alloc (.cells #[.string x, .string y] 78)).drew (some ⟨wr.heap.size, 0, none⟩) [(x, y)]) := (own_oneP wr x y).row.keepsN (Keeps.refl no _).drew
      have HX' : Hid (x = ls.getD j e0 ∧ y = ls.getD (j + 1) e0) := ⟨hx, hy⟩
      have hwj : IntKind.i64.wrap ((j : Int) + 1) = (j : Int) + 1 := by rw [IntKind.wrap_i64]; omega
      have hw0 : (0 : Int) ≤ (j : Int) + 1 := by omega
      have htn : ((j : Int) + 1).toNat = j + 1 := by omega
      clear hx hy hj1 hj2 hB
      go_wp2_with fail
      go_region_law
        (refine step_app1 okP rfl (.tmp 12) (.tmp 23) rfl o m d (prs ls k) rfl HO.out.2.2.1 HO0.out (some (Addr.mk wr.heap.size 0 none)) 1 1 [(x, y)] rfl rfl (fun e => by cases e) HR0.out HB.out.1 HB.out.2 ?_; intro o1 c1 w3 ho3 hap3; have H3 : Hid (Own PE w3 o1 c1 (prs ls k ++ [(x, y)]) ∧ New w o1 ∧ Keeps no w w3) := ⟨ho3, hap3.new (w0 := w) HO.out.2.2.2.2.1 ((HO.out.2.2.2.2.2.alloc _).drew)⟩; clear ho3 hap3)
      all_goals go_wp2_with fail
      all_goals go_roundw
      all_goals first
        | exact (show n - (intOf (Value.int IntKind.i64 ((j : Int) + 2))).toNat < n - (intOf (Value.int IntKind.i64 (j : Int))).toNat by simp [intOf]; omega)
        | (refine ⟨j + 2, k + 1, _, by go_num, by omega, rfl, by have := HO.out.1; omega, by have := HO.out.1; have := HA.out; omega, o1, _, c1, rfl, ?_, ?_, H3.out.2.1, H3.out.2.2⟩
           · show _ = _
             rw [prs_len, HO.out.2.2.1, prs_len]
           · have e1 := HO.out.1
             rw [prs_succ, ← e1, ← HX'.out.1, ← HX'.out.2]
             exact H3.out.1)
    · have hlt' : ¬ (j : Int) + 1 < n := by omega
      go_wp2_with fail
      go_ret
      have hkk : k = q := by have := HO.out.1; have := HA.out; omega
      subst hkk
      exact ⟨_, rfl, o, m, d, rfl, HO.out.2.2.1, HO.out.2.2.2.1, HO.out.2.2.2.2.1, HO.out.2.2.2.2.2⟩
end Go.Proofs.YtkoaiibjahlnmabGreat
