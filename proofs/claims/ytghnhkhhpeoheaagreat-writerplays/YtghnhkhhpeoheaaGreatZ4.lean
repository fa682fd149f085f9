/- The second round's questions; a round begun; Begin. -/
import Derived.Test.YtghnhkhhpeoheaaGreatZ3
namespace Go.Proofs.YtghnhkhhpeoheaaGreat
open Go.RowKit Go.Sort Orl
set_option linter.unusedVariables false
set_option linter.unusedSimpArgs false

theorem keeps_grow0 {w w' : World} (h : w.grownBy w' none) : Keeps no w w' := (Keeps.refl no w).grown h (fun k hk => by cases hk)
def comZ (id : Nat) (r : RZ) : RZ := ⟨⟨r.q.part, 2, ((id % 65536 : Nat) : Int), 0, id, none, 0, 0, none, 0, 0, none, 0, none, 0⟩, false⟩
set_option maxRecDepth 10000 in
set_option maxHeartbeats 1000000 in
theorem commits_any (w : World) (p id : Nat) (ro : Option Addr) (rn rc : Nat) (rz : List RZ) (c0 : w.cell? ⟨p, 0, none⟩ = some (.int .u64 (id : Nat))) (c4 : w.cell? ⟨p, 4, none⟩ = some (.slice ro rn rc)) (hid : id < 18446744073709551616) (ho : Own ZE w ro rc rz) (hn : rn = rz.length) (hl : rz.length ≤ 64) :
    Calls Tryz.prog 40 #[.pointer (some ⟨p, 0, none⟩)] w fun e w' => ∃ o n c, e = .returned (.slice o n c) ∧ Hid (n = rz.length ∧ Own ZE w' o c (rz.map (comZ id)) ∧ New w o ∧ Keeps no w w') := by
  have HN : Hid (rn = rz.length ∧ rz.length ≤ 64 ∧ id < 18446744073709551616) := ⟨hn, hl, hid⟩
  have HO : Hid (Own ZE w ro rc rz) := ho
  have hrn : (rn : Int) ≤ 64 := by omega
  have hrn' : rn ≤ 64 := by omega
  have HC : Hid (∀ X, Keeps no w X → X.cell? ⟨p, 0, none⟩ = some (.int .u64 (id : Nat))) := fun X hX => hX.cellN c0
  clear hn hl hid ho c0
  obtain ⟨i0, hi, hz0, hz1, hz2⟩ := info_parts infoZ
  go_enter Tryz.func40, Tryz.ntmps40
  go_upto_region 2 with (at_make; go_must (refine wpList_make_own _ rfl _ _ 70 rfl 0 77 i0 _ 10 Tryz.underlying70 hi hz0 hz1 .i64 .i64 _ rn rfl rfl rfl (by rw [hz2]; omega) (by unfold maxLen; omega) (Nat.zero_le _) ?_; intro w1 ho1 hg1))
  have hk1 := keeps_grow0 hg1
  have HO1 : Hid (Own ZE w1 (some ⟨w.heap.size, 0, none⟩) rn ([].map (comZ id)) ∧ New w (some ⟨w.heap.size, 0, none⟩) ∧ Keeps no w w1) := ⟨ho1, new_fresh w _ (Nat.le_refl _) _, hk1⟩
  have c4' := hk1.cellN c4
  clear ho1 hg1 hk1 c4 hi hz0 hz1 hz2
  generalize w.heap.size = B at HO1 ⊢
  go_wp2_with fail
  go_loopw [3, 17] (fun s3 s17 wr => ∃ (k : Nat) (o : Option Addr) (c : Nat), k ≤ rn ∧ s17 = .int .i64 k ∧ s3 = .slice o k c ∧ Hid (Own ZE wr o c ((rz.take k).map (comZ id)) ∧ New w o ∧ Keeps no w wr)) (fun _ s17 _ => rn - (intOf s17).toNat)
  case atStart => exact ⟨0, _, rn, by omega, rfl, rfl, HO1⟩
  case round =>
    clear HO1 c4'
    obtain ⟨k, o, c, hk, rfl, rfl, HT⟩ := hrel
    by_cases hlt : k < rn
    · have hlt' : (k : Int) < rn := by omega
      have hlq : k < rz.length := by have := HN.out.1; omega
      obtain ⟨b, hob, hfz, a0, a1, a2, a3, a4, a5, a6, a7, a8, a9⟩ := (HO.out.keepsN HT.out.2.2).atZ hlq
      simp only [Nat.zero_add] at a0 a1 a2 a3 a4 a5 a6 a7 a8 a9
      have HE : Hid ((rz.take (k + 1)).map (comZ id) = (rz.take k).map (comZ id) ++ [comZ id (rz.getD k rz0)] ∧ ((rz.take k).map (comZ id)).length = k) := ⟨by rw [take_succ_getD rz k rz0 hlq, List.map_append]; rfl, by simp; omega⟩
      generalize hrr : rz.getD k rz0 = r at a0 a1 a2 a3 a4 a5 a6 a7 a8 a9 HE
      have HQ : Hid (∀ X, Keeps no w X → Calls Tryz.prog 28 #[.pointer (some ⟨p, 0, none⟩), .int .i64 r.q.part, .agg #[.int .i64 2, .int .i64 0, .int .u64 0, .int .u64 0, .slice none 0 0, .slice none 0 0, .slice none 0 0, .slice none 0 0]] X fun e w' => e = .returned (aggZ (comZ id r)) ∧ Keeps no X w') := fun X hX => quest_any X p id r.q.part 2 none none 0 0 0 0 (HC.out X hX) HN.out.2.2
      subst hob
      clear hrr hfz
      obtain ⟨⟨x0, x1, x2, x3, x4, xpo, xpn, xpc, xko, xkn, xkc, xwo, xwc, xvo, xvc⟩, bz⟩ := r
      simp only at a0 a1 a2 a3 a4 a5 a6 a7 a8 a9 HQ
      obtain ⟨rq, hrq⟩ : ∃ rq, rq = comZ id ⟨⟨x0, x1, x2, x3, x4, xpo, xpn, xpc, xko, xkn, xkc, xwo, xwc, xvo, xvc⟩, bz⟩ := ⟨_, rfl⟩
      rw [← hrq] at HQ HE
      clear hrq
      go_wp2_with (first | (go_at_call 28; go_loud (refine (HQ.out _ (HT.out.2.2.alloc _)).mono ?_); rintro e w3 ⟨rfl, hk3⟩; unfold aggZ; have H3 : Hid (Keeps no wr w3) := ((Keeps.refl _ _).alloc _).trans hk3; clear hk3) | (at_builtin; go_loud (refine wpList_app okZ rfl _ _ rfl o k c ((rz.take k).map (comZ id)) rfl HE.out.2.symm (HT.out.1.keepsN (H3.out.alloc _)) _ _ _ [rq] rfl rfl (fun h => by cases h) (lit_one (E := ZE) _ rq _ rfl).row (by rw [HE.out.2]; simp [ZE]; omega) (by rw [HE.out.2]; simp; omega) ?_); intro o5 c5 w5 ho5 hap5))
      go_roundw
      case rel =>
        have := hap5.new HT.out.2.1 (HT.out.2.2.trans (H3.out.alloc _))
        refine ⟨k + 1, o5, c5, by omega, by go_num, rfl, ?_, this⟩
        rw [HE.out.1]; exact ho5
      case measure => simp [intOf]; omega
    · have hlt' : ¬ (k : Int) < rn := by omega
      have HK2 : Hid (k = rz.length) := show _ = _ by have := HN.out.1; omega
      go_wp2_with fail
      go_ret
      obtain ⟨h1, h2, h3⟩ := HT.out
      rw [HK2.out, List.take_length] at h1
      exact ⟨o, k, c, rfl, HK2.out, h1, h2, h3⟩
/-- one question's number set -/
theorem Zs.setReq {w : World} {ro : Option Addr} {rc : Nat} {rz : List RZ} {qs : List Qn} {ds : List Bool} (h : Zs w ro rc rz qs ds) {j : Nat} (hj : j < qs.length) (v : Nat) :
    ∃ g, ro = some ⟨g, 0, none⟩ ∧ (∀ i, w.frozen? ⟨g, i, none⟩ = false) ∧ (∃ u : Int, w.cell? ⟨g, j * 10 + 3, none⟩ = some (.int .u64 u)) ∧ (∃ rz', Zs (w.setCell ⟨g, j * 10 + 3, none⟩ (.int .u64 (v : Nat))) ro rc rz' (qs.set j { qs.getD j q0 with req := v }) ds ∧ ∀ i, ZB ro rz' qs.length i → ZB ro rz qs.length i) ∧ Keeps (inO ro) w (w.setCell ⟨g, j * 10 + 3, none⟩ (.int .u64 (v : Nat))) := by
  have hjr : j < rz.length := by rw [h.len]; exact hj
  obtain ⟨g, e, hf, ho, hk⟩ := h.own.store1 okZ rz0 j hjr 3 (by decide) ⟨{ (rz.getD j rz0).q with req := v }, (rz.getD j rz0).ans⟩ (.int .u64 (v : Nat)) rfl
  obtain ⟨b, e2, _, ha⟩ := h.own.atZ hjr
  rw [e] at e2; cases e2
  have ha3 := ha.c3
  simp only [Nat.zero_add] at ha3
  have ho' : Own ZE (w.setCell ⟨g, j * 10 + 3, none⟩ (.int .u64 (v : Nat))) ro rc (rz.set j ⟨{ (rz.getD j rz0).q with req := v }, (rz.getD j rz0).ans⟩) := ho
  have hk' : Keeps (inO ro) w (w.setCell ⟨g, j * 10 + 3, none⟩ (.int .u64 (v : Nat))) := hk
  have eR : ∀ k, (rz.set j ⟨{ (rz.getD j rz0).q with req := v }, (rz.getD j rz0).ans⟩).getD k rz0 = if k = j then ⟨{ (rz.getD j rz0).q with req := v }, (rz.getD j rz0).ans⟩ else rz.getD k rz0 := fun k => getD_set rz j k _ rz0 hjr
  have eQ : ∀ k, (qs.set j { qs.getD j q0 with req := v }).getD k q0 = if k = j then { qs.getD j q0 with req := v } else qs.getD k q0 := fun k => getD_set qs j k _ q0 hj
  refine ⟨g, e, hf, ⟨_, ha3⟩, ⟨_, ⟨ho', by simp [h.len], ?_, ?_, ?_⟩, ?_⟩, hk'⟩
  · intro k hk2
    rw [List.length_set] at hk2
    rw [eR]
    split
    · rename_i e3; subst e3; exact h.ans k hk2
    · exact h.ans k hk2
  · intro k hk2
    rw [List.length_set] at hk2
    rw [eR, eQ]
    split
    · rename_i e3; subst e3; exact h.part k hk2
    · exact h.part k hk2
  · intro k hk2 hd
    rw [List.length_set] at hk2
    have hq := h.each k hk2 hd
    have hq2 := hq.keeps hk' (own_apart (by decide) hq.ps h.own) (own_apart (by decide) hq.ks h.own)
    rw [eR, eQ]
    split
    · rename_i e3; subst e3
      exact ⟨hq2.part, hq2.kind, hq2.client, rfl, hq2.id, hq2.pn, hq2.ps, hq2.kn, hq2.ks⟩
    · exact hq2
  · rintro i (hi | ⟨k, hk2, hi⟩)
    · exact .inl hi
    · rw [eR] at hi
      split at hi
      · rename_i e3; subst e3; exact .inr ⟨k, hk2, hi⟩
      · exact .inr ⟨k, hk2, hi⟩
theorem mix_set {α : Type} (tq qs : List α) (d : α) (k : Nat) (h : k < qs.length) (hl : tq.length = qs.length) : (tq.take k ++ qs.drop k).set k (tq.getD k d) = tq.take (k + 1) ++ qs.drop (k + 1) := by
  rw [List.set_append_right _ _ (by simp; omega), take_succ_getD tq k d (by omega)]
  have e : k - (tq.take k).length = 0 := by simp; omega
  rw [e, List.drop_eq_getElem_cons h, List.set_cons_zero, List.append_assoc]
  rfl
theorem mix_at {α : Type} (tq qs : List α) (d : α) (k : Nat) (h : k < qs.length) (hl : tq.length = qs.length) : (tq.take k ++ qs.drop k).getD k d = qs.getD k d := by
  rw [getD_app, if_neg (by simp; omega)]
  have e : k - (tq.take k).length = 0 := by simp; omega
  rw [e, List.drop_eq_getElem_cons h]
  simp [h]
theorem mix_len {α : Type} (tq qs : List α) (k : Nat) (h : k ≤ qs.length) (hl : tq.length = qs.length) : (tq.take k ++ qs.drop k).length = qs.length := by simp; omega
theorem w64_succ (n : Nat) : w64 (w64 n + 1) = w64 (n + 1) := by unfold w64; omega
end Go.Proofs.YtghnhkhhpeoheaaGreat
