/- New: the memory side. -/
import Derived.Test.YtghnhkhhpeoheaaGreatZ8
import Derived.Test.YtghnhkhhpeoheaaGreatN2
namespace Go.Proofs.YtghnhkhhpeoheaaGreat
open Go.RowKit Go.Sort Orl
set_option linter.unusedVariables false
set_option linter.unusedSimpArgs false

/-- one question more held -/
theorem Zs.push {wr w4 w5 : World} {ro o5 : Option Addr} {rc c5 : Nat} {rz : List RZ} {qs : List Qn} {ds : List Bool} {r : RZ} {q : Qn} (h : Zs wr ro rc rz qs ds) (hdl : ds.length = qs.length) (k4 : Keeps no wr w4) (hq : QNw w4 r.q q) (hra : r.ans = false) (ho : Own ZE w5 o5 c5 (rz ++ [r])) (ha : Ap w4 ro o5 w5) : Zs w5 o5 c5 (rz ++ [r]) (qs ++ [q]) (ds ++ [false]) ∧ Keeps (inO ro) w4 w5 := by
  have hk5 : Keeps (inO ro) w4 w5 := by
    rcases ha with ⟨_, k⟩ | ⟨_, k⟩
    · exact k
    · exact k.of_no
  have h4 := h.keepsN k4
  have eR : ∀ j, (rz ++ [r]).getD j rz0 = if j < qs.length then rz.getD j rz0 else [r].getD (j - qs.length) rz0 := fun j => by rw [getD_app, h.len]
  have eQ : ∀ j, (qs ++ [q]).getD j q0 = if j < qs.length then qs.getD j q0 else [q].getD (j - qs.length) q0 := fun j => by rw [getD_app]
  have eD : ∀ j, (ds ++ [false]).getD j true = if j < qs.length then ds.getD j true else [false].getD (j - qs.length) true := fun j => by rw [getD_app, hdl]
  have hl : (qs ++ [q]).length = qs.length + 1 := by simp
  refine ⟨⟨ho, by simp [h.len], ?_, ?_, ?_⟩, hk5⟩
  · intro j hj
    rw [eR, eD]
    by_cases e : j < qs.length
    · rw [if_pos e, if_pos e]; exact h.ans j e
    · rw [if_neg e, if_neg e, show j - qs.length = 0 by omega]; exact hra
  · intro j hj
    rw [eR, eQ]
    by_cases e : j < qs.length
    · rw [if_pos e, if_pos e]; exact h.part j e
    · rw [if_neg e, if_neg e, show j - qs.length = 0 by omega]; exact hq.part
  · intro j hj hd
    rw [eD] at hd
    rw [eR, eQ]
    by_cases e : j < qs.length
    · rw [if_pos e] at hd
      rw [if_pos e, if_pos e]
      have h1 := h4.each j e hd
      exact h1.keeps hk5 (own_apart (by decide) h1.ps h4.own) (own_apart (by decide) h1.ks h4.own)
    · rw [if_neg e, if_neg e, show j - qs.length = 0 by omega]
      exact hq.keeps hk5 (own_apart (by decide) hq.ps h4.own) (own_apart (by decide) hq.ks h4.own)
/-- while a writer's questions are laid -/
structure NewL (w wr : World) (p cp id : Nat) (ro : Option Addr) (k rc : Nat) (rz : List RZ) (qs : List Qn) (wa : World) (P : Nat) (l : List Pr) (og : Option Addr) (cg : Nat) (gs : List (GS Pr)) (ko : Option Addr) (kc : Nat) (keys : List Tx) : Prop where
  blk : wr.heap[p]? = some (.cells (wrC id (fnC cp) 0 0 ro k rc) 72 (0, 0))
  pn : wa.heap.size ≤ p
  kl : k = qs.length
  zs : Zs wr ro rc rz qs (List.replicate k false)
  new : ∀ i, ZB ro rz k i → wa.heap.size ≤ i
  told : Told PE HE fstP wa P l og cg gs wr
  le : w.heap.size ≤ wa.heap.size
  ks : Own TE wr ko kc keys
  kn : New wa ko
  kp : Keeps no w wr
theorem NewL.keepsN {w wr w' : World} {p cp id : Nat} {ro : Option Addr} {k rc : Nat} {rz : List RZ} {qs : List Qn} {wa : World} {P : Nat} {l : List Pr} {og : Option Addr} {cg : Nat} {gs : List (GS Pr)} {ko : Option Addr} {kc : Nat} {keys : List Tx} (h : NewL w wr p cp id ro k rc rz qs wa P l og cg gs ko kc keys) (k2 : Keeps no wr w') : NewL w w' p cp id ro k rc rz qs wa P l og cg gs ko kc keys :=
  ⟨k2.at h.blk (fun h => h), h.pn, h.kl, h.zs.keepsN k2, h.new, h.told.keepsN k2, h.le, h.ks.keepsN k2, h.kn, h.kp.trans k2⟩
/-- what stands behind one append -/
theorem NewL.step {w wr w4 w5 : World} {p cp id : Nat} {ro : Option Addr} {k rc : Nat} {rz : List RZ} {qs : List Qn} {wa : World} {P : Nat} {l : List Pr} {og : Option Addr} {cg : Nat} {gs : List (GS Pr)} {ko : Option Addr} {kc : Nat} {keys : List Tx} (h : NewL w wr p cp id ro k rc rz qs wa P l og cg gs ko kc keys) (k4 : Keeps no wr w4) {kn : Nat} (hkn : kn = keys.length) (hk : k < gs.length) {gn : Nat} (hgn : gn = (gs.getD k gs0).xs.length) {r : RZ} (hr : r = ⟨⟨((gs.getD k gs0).n : Nat), 1, ((id % 65536 : Nat) : Int), 0, id, (gs.getD k gs0).o, gn, (gs.getD k gs0).c, ko, kn, kc, none, 0, none, 0⟩, false⟩) {o5 : Option Addr} {c5 : Nat} (ho : Own ZE w5 o5 c5 (rz ++ [r])) (ha : Ap w4 ro o5 w5) :
    w5.cell? ⟨p, 4, none⟩ = some (.slice ro k rc) ∧ w5.frozen? ⟨p, 4, none⟩ = false ∧ NewL w (w5.setCell ⟨p, 4, none⟩ (.slice o5 (k + 1) c5)) p cp id o5 (k + 1) c5 (rz ++ [r]) (qs ++ [⟨((gs.getD k gs0).n : Nat), 1, ((id % 65536 : Nat) : Int), 0, id, (gs.getD k gs0).xs, keys⟩]) wa P l og cg gs ko kc keys := by
  have h4 := h.keepsN k4
  have hq : QNw w4 r.q ⟨((gs.getD k gs0).n : Nat), 1, ((id % 65536 : Nat) : Int), 0, id, (gs.getD k gs0).xs, keys⟩ := by
    subst hr
    exact ⟨rfl, rfl, rfl, rfl, rfl, hgn, h4.told.each k hk, hkn, h4.ks⟩
  obtain ⟨hz, hk5⟩ := h.zs.push (by simp [h.kl]) k4 hq (by rw [hr]) ho ha
  have hw5 := ha.new (w0 := wa) (fun i hi => h.new i (.inl hi)) h4.told.kp
  have hbp : w5.heap[p]? = some (.cells (wrC id (fnC cp) 0 0 ro k rc) 72 (0, 0)) := by
    refine hk5.at h4.blk (fun hi => ?_)
    obtain ⟨cur, hcur⟩ := h4.zs.own.tagO hi
    rw [h4.blk] at hcur
    injection hcur with e; injection e with _ e _; cases e
  have kp := keeps_one w5 p 4 (.slice o5 (k + 1) c5)
  have tp : ∀ {α : Type} {E : El α} {o : Option Addr} {c : Nat} {xs : List α}, Own E w5 o c xs → E.e ≠ 72 → ∀ i, inO o i → ¬ i = p := by
    rintro α E o c xs hO hne i hi rfl
    obtain ⟨cur, hcur⟩ := hO.tagO hi
    rw [hbp] at hcur
    injection hcur with e; injection e with _ e _; exact hne e.symm
  have hT5 : Told PE HE fstP wa P l og cg gs w5 := h4.told.keeps hk5 (own_apart (by decide) h4.told.own h4.zs.own) (fun j hj => own_apart (by decide) (h4.told.each j hj) h4.zs.own) (by
    exact h4.told.kp.then hk5 (fun i hi => .inr (h.new i (.inl hi))))
  have hK5 : Own TE w5 ko kc keys := h4.ks.keeps hk5 (own_apart (by decide) h4.ks h4.zs.own)
  refine ⟨by rw [cell_of_blk hbp]; rfl, frozen_of_blk hbp 4, ?_, h.pn, by simp [h.kl], ?_, ?_, ?_, h.le, hK5.keeps kp (tp hK5 (by decide)), h.kn, (h4.kp.then hk5 (fun i hi => .inr (Nat.le_trans h.le (h.new i (.inl hi))))).then kp (fun i e => .inr (by rw [e]; exact Nat.le_trans h.le h.pn))⟩
  · have := blk_set hbp 4 (.slice o5 (k + 1) c5)
    simpa [wrC] using this
  · have : List.replicate (k + 1) false = List.replicate k false ++ [false] := List.replicate_succ'
    rw [this]
    refine hz.keepsT kp ?_
    rintro b rfl
    exact ⟨_, _, _, hbp, by decide, by decide, by decide⟩
  · rintro i (hi | ⟨j, hj, hi⟩)
    · exact hw5.1 i hi
    · rw [getD_app, h.zs.len, ← h.kl] at hi
      by_cases e : j < k
      · rw [if_pos e] at hi; exact h.new i (.inr ⟨j, e, hi⟩)
      · rw [if_neg e, show j - k = 0 by omega] at hi
        subst hr
        rcases hi with hi | hi
        · exact h.told.news k hk i hi
        · exact h.kn i hi
  · exact hT5.keeps kp (tp hT5.own (by decide)) (fun j hj => tp (hT5.each j hj) (by decide)) (hT5.kp.then kp (fun i e => .inr (by rw [e]; exact h.pn)))
end Go.Proofs.YtghnhkhhpeoheaaGreat
