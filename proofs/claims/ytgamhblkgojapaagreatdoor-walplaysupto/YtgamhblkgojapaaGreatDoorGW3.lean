/- The log's calls: Append, Size, Name. -/
import Derived.Test.YtgamhblkgojapaaGreatDoorGW2
import Derived.Deep.RegionHeld3
namespace Go.Proofs.YtgamhblkgojapaaGreatDoor
open Go.RowKit Pk Dk
set_option linter.unusedVariables false
set_option linter.unusedSimpArgs false

/-- Append to a log: the disk behind it, the error -/
def apd (n : Nm) (r : Rec) (s : St) : St × Int := if encE r = 0 then (if (counted s (appendOn n (u8s (enc r)))).2 = 0 then counted (counted s (appendOn n (u8s (enc r)))).1 (syncOn n) else counted s (appendOn n (u8s (enc r)))) else (s, encE r)
theorem apd_bad {n : Nm} {r : Rec} {s : St} (h : encE r ≠ 0) : apd n r s = (s, ((encE r : Nat) : Int)) := by unfold apd; rw [if_neg h]
theorem apd_one {n : Nm} {r : Rec} {s : St} (h : encE r = 0) (h2 : (counted s (appendOn n (u8s (enc r)))).2 ≠ 0) : apd n r s = counted s (appendOn n (u8s (enc r))) := by unfold apd; rw [if_pos h, if_neg h2]
theorem apd_two {n : Nm} {r : Rec} {s : St} (h : encE r = 0) (h2 : (counted s (appendOn n (u8s (enc r)))).2 = 0) : apd n r s = counted (counted s (appendOn n (u8s (enc r)))).1 (syncOn n) := by unfold apd; rw [if_pos h, if_pos h2]
theorem IsD.wide {w : World} {p : Nat} {F F' : Nat → Prop} {s : St} (h : IsD w p F s) (hF : ∀ k, F k → F' k) (hl : ∀ k, F' k → k < w.heap.size) : IsD w p F' s := by
  obtain ⟨bm, c, L, hd⟩ := h
  exact ⟨bm, c, L, hd.wide hF hl⟩
theorem IsL.cells {w : World} {q p : Nat} {n : Tx} {k : Nat} (h : IsL w q p n k) : w.cell? ⟨q, 0, none⟩ = some (.pointer (some ⟨p, 0, none⟩)) ∧ w.cell? ⟨q, 1, none⟩ = some (.string n) ∧ w.cell? ⟨q, 2, none⟩ = some (.int .i64 (k : Nat)) ∧ w.frozen? ⟨q, 2, none⟩ = false := ⟨cell_of_blk h.blk 0, cell_of_blk h.blk 1, cell_of_blk h.blk 2, frozen_of_blk h.blk 2⟩
theorem IsL.grown {w : World} {q p : Nat} {n : Tx} {k : Nat} (h : IsL w q p n k) (m : Nat) : IsL (w.setCell ⟨q, 2, none⟩ (.int .i64 ((k : Int) + m))) q p n (k + m) := ⟨by rw [blk_set h.blk]; rfl⟩
theorem encE_zero {r : Rec} (h : encE r = 0) : may r = true ∧ (body r).length ≤ 1048576 ∧ encB r = enc r := by
  unfold encE at h
  by_cases h1 : may r = true
  · rw [if_pos h1] at h
    by_cases h2 : (body r).length ≤ 1048576
    · exact ⟨h1, h2, (encE_ok h1 h2).2⟩
    · rw [if_neg h2] at h; cases h
  · rw [if_neg h1] at h; cases h
def LogAppTo (w : World) (q p : Nat) (F : Nat → Prop) (s : St) (n : Tx) (k : Nat) (r : Rec) (e : Ending) (w' : World) : Prop :=
  e = .returned (.int .i64 (apd n.data.toList r s).2) ∧ Hid (IsD w' p (grow F w w') (apd n.data.toList r s).1) ∧ Hid (IsL w' q p n (if (apd n.data.toList r s).2 = 0 then k + (enc r).length else k)) ∧ Hid (Keeps (fun x => F x ∨ x = q) w w')

set_option maxRecDepth 10000 in
set_option maxHeartbeats 1000000 in
theorem LogAppend_any (w : World) (q p : Nat) (F : Nat → Prop) (s : St) (n : Tx) (k : Nat) (v : CV) (r : Rec) (h : IsD w p F s) (hL : IsL w q p n k) (hq : ¬ F q) (hn : n.size ≤ maxLen) (hk : (k : Int) ≤ 140737488355328) (hc : IsC w v r) (ht : TabIn w)
    (hfit : encE r = 0 → ∀ f, find n.data.toList (tick s).fs = some f → f.bs.length + (enc r).length ≤ 140737488355328) :
    Calls Tryz.prog 10 #[.pointer (some ⟨q, 0, none⟩), .agg #[.int .i64 v.k, .int .u64 (v.i : Nat), .slice v.op v.np v.cp, .slice v.ok v.nk v.ck]] w (LogAppTo w q p F s n k r) := by
  have HD : Hid (IsD w p F s) := h
  have HL : Hid (IsL w q p n k) := hL
  have HN : Hid (n.size ≤ maxLen) := hn
  have HFT : Hid (encE r = 0 → ∀ f, find n.data.toList (tick s).fs = some f → f.bs.length + (enc r).length ≤ 140737488355328) := hfit
  have HC : Hid (IsC w v r) := hc
  have hk0 : Keeps no w (w.alloc (.cells #[.int .i64 v.k, .int .u64 (v.i : Nat), .slice v.op v.np v.cp, .slice v.ok v.nk v.ck] 41)) := (Keeps.refl _ _).alloc _
  obtain ⟨x0, x1, x2, x3⟩ := cells4 (blk_new w (.cells #[.int .i64 v.k, .int .u64 (v.i : Nat), .slice v.op v.np v.cp, .slice v.ok v.nk v.ck] 41))
  have HK0 : Hid (Keeps no w (w.alloc (.cells #[.int .i64 v.k, .int .u64 (v.i : Nat), .slice v.op v.np v.cp, .slice v.ok v.nk v.ck] 41))) := hk0
  clear h hL hn hfit hc hk0
  go_enter Tryz.func10, Tryz.ntmps10
  go_wp2_with fail
  refine (Build_any _ v.k v.i v.op v.np v.cp v.ok v.nk v.ck r (HC.out.keepsN HK0.out) (ht.keepsN HK0.out)).mono ?_
  rintro e w1 ⟨o, m, c, rfl, hm, hown, hnew, hk1⟩
  have HK1 : Hid (Keeps no w w1) := HK0.out.trans hk1
  have HNW : Hid (New w o) := hnew.of_le HK0.out.size
  have HO : Hid (Owns w1 o c (encB r)) := hown
  clear x0 x1 x2 x3 hown hnew hk1 HK0 HC
  by_cases hE : encE r = 0
  · obtain ⟨hmay, hlen, hbb⟩ := encE_zero hE
    have HE : Hid (encE r = 0 ∧ may r = true ∧ (body r).length ≤ 1048576) := ⟨hE, hmay, hlen⟩
    rw [hE]
    rw [hbb] at hm HO
    have hmb : (m : Int) ≤ 1048584 := by have := hm.out; rw [enc_length] at this; omega
    clear hE hmay hlen hbb
    have HB : Hid (Sl BU w1 o c (u8s (enc r))) := (own_u8 (enc_byt r) HO.out).sl
    have HML : Hid (m = (u8s (enc r)).length) := by show _ = _; rw [u8s_length]; exact hm.out
    have HL1 : Hid (IsL w1 q p n k) := HL.out.keeps HK1.out (fun h => h)
    have HCE : Hid (∀ w', Keeps F w1 w' → w'.cell? ⟨q, 0, none⟩ = some (.pointer (some ⟨p, 0, none⟩)) ∧ w'.cell? ⟨q, 1, none⟩ = some (.string n)) := fun w' hk' => ⟨(HL1.out.keeps hk' hq).cells.1, (HL1.out.keeps hk' hq).cells.2.1⟩
    have HOF : Hid (∀ j, inO o j → ¬ F j) := fun j hj hf => by have := HNW.out j hj; have := HD.out.lt j hf; omega
    have HFU : Hid (∀ f, find n.data.toList (tick s).fs = some f → f.bs.length + (u8s (enc r)).length ≤ 140737488355328) := by rw [u8s_length]; exact HFT.out HE.out.1
    go_wp2_with fail
    go_region_held3 (fun w' => w'.cell? ⟨q, 0, none⟩ = some (.pointer (some ⟨p, 0, none⟩)) ∧ w'.cell? ⟨q, 1, none⟩ = some (.string n)) (first | exact HCE.out _ HK2.out | exact HCE.out _ ((Keeps.refl F w1).drew) | exact HCE.out _ (Keeps.refl F w1)) ((go_at_call 23; refine (append_any w1.drew p F s n o m c (u8s (enc r)) ((HD.out.keepsN HK1.out).keepsN (Keeps.refl no w1).drew) HN.out HML.out (HB.out.keepsN (Keeps.refl no w1).drew) HOF.out (by have := HML.out; omega) HFU.out).mono ?_; rintro e w2 ⟨rfl, hD2, hk2⟩; have HK2 : Hid (Keeps F w1 w2) := (Keeps.refl F w1).drew.trans hk2; have HD2 : Hid (IsD w2 p (grow F w1 w2) (counted s (appendOn n.data.toList (u8s (enc r)))).1) := hD2; clear hD2 hk2))
    rename _ ∧ _ => hh
    clear hh
    have HL2 : Hid (IsL w2 q p n k) := HL1.out.keeps HK2.out hq
    have HKW2 : Hid (Keeps (fun x => F x ∨ x = q) w w2) := (HK1.out.of_no).trans (HK2.out.mono (fun i h => .inl h))
    have HQ : Hid (q < w1.heap.size) := lt_of_block HL1.out.blk
    have HS1 : Hid (w.heap.size ≤ w1.heap.size ∧ w1.heap.size ≤ w2.heap.size) := ⟨HK1.out.size, HK2.out.size⟩
    have HWD : Hid (∀ w', w2.heap.size ≤ w'.heap.size → ∀ (t : St), IsD w' p (grow F w1 w2) t → IsD w' p (grow F w w') t) := by
      intro w' hs t hd
      refine hd.wide (fun j hj => ?_) (fun j hj => ?_)
      · rcases hj with a | a
        · exact .inl a
        · exact .inr (by have := HS1.out; omega)
      · rcases hj with a | a
        · have := HD.out.lt j a; have := HS1.out; omega
        · exact a.2
    obtain ⟨G, hG⟩ : ∃ G, G = (counted s (appendOn n.data.toList (u8s (enc r)))).2 := ⟨_, rfl⟩
    have HG : Hid (G = (counted s (appendOn n.data.toList (u8s (enc r)))).2) := hG
    rw [← hG]
    clear hG
    by_cases hG0 : G = 0
    · subst hG0
      have HA : Hid (apd n.data.toList r s = counted (counted s (appendOn n.data.toList (u8s (enc r)))).1 (syncOn n.data.toList)) := apd_two HE.out.1 HG.out.symm
      have hq2 : ¬ grow F w1 w2 q := fun hg => by rcases hg with a | a; exact hq a; have := HQ.out; omega
      have HCE2 : Hid (∀ w', Keeps (grow F w1 w2) w2 w' → w'.cell? ⟨q, 0, none⟩ = some (.pointer (some ⟨p, 0, none⟩)) ∧ w'.cell? ⟨q, 1, none⟩ = some (.string n)) := fun w' hk' => ⟨(HL2.out.keeps hk' hq2).cells.1, (HL2.out.keeps hk' hq2).cells.2.1⟩
      generalize counted s (appendOn n.data.toList (u8s (enc r))) = S1 at HA HD2 HG
      go_wp2_with fail
      go_region_held3 (fun w' => w'.cell? ⟨q, 0, none⟩ = some (.pointer (some ⟨p, 0, none⟩)) ∧ w'.cell? ⟨q, 1, none⟩ = some (.string n)) (first | exact HCE2.out _ HK3.out | exact HCE2.out _ ((Keeps.refl (grow F w1 w2) w2).drew) | exact HCE2.out _ (Keeps.refl (grow F w1 w2) w2)) ((go_at_call 41; refine (sync_any w2.drew p (grow F w1 w2) S1.1 n (HD2.out.keepsN (Keeps.refl no w2).drew) HN.out).mono ?_; rintro e w3 ⟨rfl, hD3, hk3⟩; have HK3 : Hid (Keeps (grow F w1 w2) w2 w3) := (Keeps.refl (grow F w1 w2) w2).drew.trans hk3; have HD3 : Hid (IsD w3 p (grow F w1 w2) (counted S1.1 (syncOn n.data.toList)).1) := hD3; clear hD3 hk3))
      rename _ ∧ _ => hh
      clear hh
      have HL3 : Hid (IsL w3 q p n k) := HL2.out.keeps HK3.out hq2
      have HKW3 : Hid (Keeps (fun x => F x ∨ x = q) w w3) := HKW2.out.then HK3.out (fun j hj => by
        rcases hj with a | a
        · exact .inl (.inl a)
        · exact .inr (by have := HS1.out; omega))
      rw [← HA.out] at HD3
      have HA2 : Hid ((counted S1.1 (syncOn n.data.toList)).2 = (apd n.data.toList r s).2) := by show _ = _; rw [HA.out]
      rw [HA2.out]
      have HS3 : Hid (w2.heap.size ≤ w3.heap.size) := HK3.out.size
      obtain ⟨E, hE⟩ : ∃ E, E = (apd n.data.toList r s).2 := ⟨_, rfl⟩
      have HEE : Hid (E = (apd n.data.toList r s).2) := hE
      rw [← hE]
      clear hE HA2 HA
      by_cases hE0 : E = 0
      · subst hE0
        obtain ⟨_, _, c2, c3⟩ := HL3.out.cells
        have hkm : (k : Int) + m ≤ 140737489403912 := by omega
        go_wp2_with fail
        go_ret
        refine ⟨by rw [← HEE.out]; rfl, HWD.out _ (by rw [World.size_setCell]; exact HS3.out) _ (HD3.out.keeps ((Keeps.refl (fun x => x = q) w3).setCell (p := ⟨q, 2, none⟩) (.inl rfl) _) (fun j hj e => hq2 (e ▸ hj))), ?_, HKW3.out.setCell (p := ⟨q, 2, none⟩) (.inl (.inr rfl)) _⟩
        rw [← HEE.out, if_pos rfl, ← hm.out]
        exact HL3.out.grown m
      · have hE1 : (E == 0) = false := by simpa using hE0
        go_wp2_with fail
        go_ret
        refine ⟨by rw [← HEE.out]; rfl, HWD.out _ HS3.out _ HD3.out, ?_, HKW3.out⟩
        rw [← HEE.out, if_neg hE0]
        exact HL3.out
    · have hG1 : (G == 0) = false := by simpa using hG0
      have HA : Hid (apd n.data.toList r s = counted s (appendOn n.data.toList (u8s (enc r)))) := apd_one HE.out.1 (by rw [← HG.out]; exact hG0)
      go_wp2_with fail
      go_ret
      refine ⟨by rw [HA.out, ← HG.out]; rfl, by rw [HA.out]; exact HWD.out _ (Nat.le_refl _) _ HD2.out, ?_, HKW2.out⟩
      rw [HA.out, ← HG.out, if_neg hG0]
      exact HL2.out
  · have HA : Hid (apd n.data.toList r s = (s, ((encE r : Nat) : Int))) := apd_bad hE
    obtain ⟨E, hE2⟩ : ∃ E, E = encE r := ⟨_, rfl⟩
    have HEE : Hid (E = encE r) := hE2
    rw [← hE2] at hE ⊢
    have hE1 : ((E : Int) == 0) = false := by simp; omega
    have hE3 : ¬ (E : Int) = 0 := by omega
    clear hE2
    go_wp2_with fail
    go_ret
    refine ⟨by rw [HA.out, ← HEE.out]; rfl, ?_, ?_, HK1.out.of_no⟩
    · rw [HA.out]
      exact (HD.out.keepsN HK1.out).wide (fun j hj => .inl hj) (fun j hj => by
        rcases hj with a | a
        · have := HD.out.lt j a; have := HK1.out.size; omega
        · exact a.2)
    · rw [HA.out, ← HEE.out, if_neg (by simpa using hE3)]
      exact HL.out.keeps HK1.out (fun h => h)
end Go.Proofs.YtgamhblkgojapaaGreatDoor
