/- What of the events so far the next one hangs on. -/
import Derived.Test.YtjkljljmjjnneaaGreatDoorN0
import Derived.Test.YtjkljljmjjnneaaGreatDoorRw
import Derived.Test.YtjkljljmjjnneaaGreatDoorP4
import Derived.Lib.QuietBelow
import Derived.BigQuiet
namespace Go.Proofs.YtjkljljmjjnneaaGreatDoor
open Go.RowKit Go.Sort Orl
set_option linter.unusedVariables false
set_option linter.unusedSimpArgs false

theorem keeps_grown (W : World) (d : Nat) (os : Array Obj) : Keeps no W (Sort.grow (redrawn W d) os) := Keeps.of_below (below_regrown W d os)
theorem grown_keeps {W X : World} (h : Keeps no W X) : ∃ p : Regrown, X = Sort.grow (redrawn W p.d) p.os := regrown_of_below (h.below (Nat.le_refl _) (fun _ h => h.elim))
theorem call_grown {f : FuncId} {args : Array Value} {W : World} {v : Value} (h : ∀ X, Keeps no W X → Calls Tryz.prog f args X fun e w' => e = .returned v ∧ Keeps no X w') (d : Nat) (os : Array Obj) :
    Calls Tryz.prog f args (Sort.grow (redrawn W d) os) fun e w'' => e = .returned v ∧ ∃ p : Regrown, w'' = Sort.grow (redrawn W p.d) p.os :=
  (h _ (keeps_grown W d os)).mono fun e w' ⟨he, hk⟩ => ⟨he, grown_keeps ((keeps_grown W d os).trans hk)⟩
abbrev Rq := Nat × Bool
def q0 : Rq := (0, false)
def QE : El Rq := ⟨102, 58, 2, 16, fun r => [.int .i64 (r.1 : Nat), .bool r.2]⟩
theorem infoQ : (Tryz.prog.info? 102).map (fun i => (i.zero, i.size, i.bytes)) = some (some (.agg #[.int .i64 0, .bool false]), 2, 16) := by kernel_rfl
theorem okQ : QE.Ok := by
  obtain ⟨i0, hi, hz0, hz1, hz2⟩ := info_parts infoQ
  exact ⟨fun _ => rfl, fun x u hu => by simp [QE] at hu; rcases hu with rfl | rfl <;> rfl, by decide, Tryz.underlying58, i0, _, hi, hz0, hz1, hz2, rfl⟩
theorem Sl.atQ {w : World} {a : Option Addr} {c : Nat} {xs : List Rq} (h : Sl QE w a c xs) {j : Nat} (hj : j < xs.length) : ∃ b off, a = some ⟨b, off, none⟩ ∧ w.cell? ⟨b, off + j * 2, none⟩ = some (.int .i64 ((xs.getD j q0).1 : Nat)) ∧ w.cell? ⟨b, off + j * 2 + 1, none⟩ = some (.bool (xs.getD j q0).2) := by
  rcases h.row with e | ⟨b, off, rfl, hc⟩
  · subst e; simp at hj
  · refine ⟨b, off, rfl, hc (j * 2) _ ?_, ?_⟩
    · have := cells_at okQ q0 xs j 0 hj (by decide)
      simpa [QE] using this
    · rw [Nat.add_assoc]
      refine hc (j * 2 + 1) _ ?_
      have := cells_at okQ q0 xs j 1 hj (by decide)
      simpa [QE] using this
def upd {α : Type} (f : Nat → α) (c : Nat) (v : α) : Nat → α := fun k => if k = c then v else f k
theorem upd_at {α : Type} (f : Nat → α) (c : Nat) (v : α) : upd f c v c = v := if_pos rfl
theorem upd_ne {α : Type} {f : Nat → α} {c d : Nat} (v : α) (h : d ≠ c) : upd f c v d = f d := if_neg h
/-- sixteen clients' requests and greatest IDs in memory -/
structure Pst (w0 w : World) (P : Nat) (os : Nat → Option Addr × Nat) (st : Nat → List Rq × Nat) : Prop where
  blk : ∃ cs, w.heap[P]? = some (.cells cs 63 (0, 0)) ∧ cs.size = 32 ∧ ∀ c, c < 16 → cs[2 * c]? = some (.slice (os c).1 (st c).1.length (os c).2) ∧ cs[2 * c + 1]? = some (.int .u64 ((st c).2 : Nat))
  own : ∀ c, c < 16 → Own QE w (os c).1 (os c).2 (st c).1
  new : ∀ c, c < 16 → New w0 (os c).1
  apart : ∀ c d, c < 16 → d < 16 → c ≠ d → ∀ k, inO (os c).1 k → ¬ inO (os d).1 k
  kp : Keeps no w0 w
  ge : w0.heap.size ≤ P
theorem Pst.keepsN {w0 w w' : World} {P : Nat} {os : Nat → Option Addr × Nat} {st : Nat → List Rq × Nat} (h : Pst w0 w P os st) (k : Keeps no w w') : Pst w0 w' P os st := by
  obtain ⟨⟨cs, h1, h2, h3⟩, a, b, c, d, e⟩ := h
  exact ⟨⟨cs, k.at h1 id, h2, h3⟩, fun c hc => (a c hc).keepsN k, b, c, d.trans k, e⟩
theorem Pst.cellS {w0 w : World} {P : Nat} {os : Nat → Option Addr × Nat} {st : Nat → List Rq × Nat} (h : Pst w0 w P os st) {c : Nat} (hc : c < 16) : w.cell? ⟨P, 2 * c, none⟩ = some (.slice (os c).1 (st c).1.length (os c).2) ∧ w.cell? ⟨P, 2 * c + 1, none⟩ = some (.int .u64 ((st c).2 : Nat)) ∧ (∀ j, w.frozen? ⟨P, j, none⟩ = false) := by
  obtain ⟨⟨cs, h1, h2, h3⟩, -⟩ := h
  obtain ⟨a, b⟩ := h3 c hc
  exact ⟨by rw [cell_of_blk h1, a], by rw [cell_of_blk h1, b], fun j => frozen_of_blk h1 j⟩
theorem Pst.lt {w0 w : World} {P : Nat} {os : Nat → Option Addr × Nat} {st : Nat → List Rq × Nat} (h : Pst w0 w P os st) {c : Nat} (hc : c < 16) {k : Nat} (hk : inO (os c).1 k) : k < w.heap.size ∧ k ≠ P := by
  obtain ⟨cur, e⟩ := (h.own c hc).tag k hk
  refine ⟨lt_of_block e, fun hkp => ?_⟩
  obtain ⟨cs, h1, -⟩ := h.blk
  rw [hkp, h1] at e
  injection e with e
  injection e with _ e _
  exact absurd e (by decide)
theorem Pst.setTop {w0 w : World} {P : Nat} {os : Nat → Option Addr × Nat} {st : Nat → List Rq × Nat} (h : Pst w0 w P os st) {c : Nat} (hc : c < 16) (t : Nat) : Pst w0 (w.setCell ⟨P, 2 * c + 1, none⟩ (.int .u64 (t : Nat))) P os (upd st c ((st c).1, t)) := by
  obtain ⟨cs, h1, h2, h3⟩ := h.blk
  have hst : ∀ d, (upd st c ((st c).1, t) d).1 = (st d).1 := fun d => by
    by_cases e : d = c
    · rw [e, upd_at]
    · rw [upd_ne _ e]
  refine ⟨⟨_, blk_set h1 _ _, by simp [h2], fun d hd => ⟨?_, ?_⟩⟩, fun d hd => ?_, h.new, h.apart, h.kp.setCell (p := ⟨P, 2 * c + 1, none⟩) (.inr h.ge) _, h.ge⟩
  · rw [Array.getElem?_setIfInBounds_ne (by omega), (h3 d hd).1, hst]
  · by_cases e : d = c
    · subst e
      rw [Array.getElem?_setIfInBounds_self_of_lt (by omega), upd_at]
    · rw [Array.getElem?_setIfInBounds_ne (by omega), (h3 d hd).2, upd_ne _ e]
  · rw [hst]
    exact (h.own d hd).keeps (keeps_one w P (2 * c + 1) _) (fun k hk e => (h.lt hd hk).2 e)
theorem Pst.push {w0 w W : World} {P : Nat} {os : Nat → Option Addr × Nat} {st : Nat → List Rq × Nat} (h : Pst w0 w P os st) {c : Nat} (hc : c < 16) {x : Rq} {o' : Option Addr} {c' : Nat} (ho : Own QE W o' c' ((st c).1 ++ [x])) (ha : Ap w (os c).1 o' W) : Pst w0 (W.setCell ⟨P, 2 * c, none⟩ (.slice o' ((st c).1.length + 1) c')) P (upd os c (o', c')) (upd st c ((st c).1 ++ [x], (st c).2)) ∧ (∀ j, W.frozen? ⟨P, j, none⟩ = false) ∧ W.cell? ⟨P, 2 * c, none⟩ = some (.slice (os c).1 (st c).1.length (os c).2) := by
  obtain ⟨cs, h1, h2, h3⟩ := h.blk
  obtain ⟨hnew, hkp⟩ := ha.new (w0 := w0) (h.new c hc) h.kp
  have hPW : W.heap[P]? = some (.cells cs 63 (0, 0)) := by
    rcases ha with ⟨_, k⟩ | ⟨_, k⟩
    · exact k.at h1 (fun hi => (h.lt hc hi).2 rfl)
    · exact k.at h1 id
  have hoP : ∀ k, inO o' k → k ≠ P := fun k hk e => by
    obtain ⟨cur, e1⟩ := ho.tag k hk
    rw [e, hPW] at e1
    injection e1 with e1
    injection e1 with _ e1 _
    exact absurd e1 (by decide)
  have hoth : ∀ d, d < 16 → d ≠ c → Own QE W (os d).1 (os d).2 (st d).1 ∧ ∀ k, inO o' k → ¬ inO (os d).1 k := fun d hd hne => by
    rcases ha with ⟨e, k⟩ | ⟨⟨g, e, hg⟩, k⟩
    · exact ⟨(h.own d hd).keeps k (fun q hq hs => h.apart c d hc hd (Ne.symm hne) q hs hq), fun q hq => by rw [e] at hq; exact h.apart c d hc hd (Ne.symm hne) q hq⟩
    · refine ⟨(h.own d hd).keepsN k, fun q hq hq2 => ?_⟩
      obtain ⟨y, e1, e2⟩ := hq
      rw [e] at e1
      cases e1
      have := (h.lt hd hq2).1
      have : g = q := e2
      omega
  refine ⟨⟨⟨_, blk_set hPW _ _, by simp [h2], fun d hd => ⟨?_, ?_⟩⟩, fun d hd => ?_, fun d hd => ?_, fun d e hd he hne => ?_, hkp.setCell (p := ⟨P, 2 * c, none⟩) (.inr h.ge) _, h.ge⟩, fun j => frozen_of_blk hPW j, by rw [cell_of_blk hPW, (h3 c hc).1]⟩
  · by_cases e : d = c
    · subst e
      rw [Array.getElem?_setIfInBounds_self_of_lt (by omega), upd_at, upd_at, List.length_append, List.length_singleton]
    · rw [Array.getElem?_setIfInBounds_ne (by omega), (h3 d hd).1, upd_ne _ e, upd_ne _ e]
  · rw [Array.getElem?_setIfInBounds_ne (by omega), (h3 d hd).2]
    by_cases e : d = c
    · subst e; rw [upd_at]
    · rw [upd_ne _ e]
  · by_cases e : d = c
    · subst e
      rw [upd_at, upd_at]
      exact ho.keeps (keeps_one W P (2 * d) _) (fun k hk e => hoP k hk e)
    · rw [upd_ne _ e, upd_ne _ e]
      exact (hoth d hd e).1.keeps (keeps_one W P (2 * c) _) (fun k hk e => (h.lt hd hk).2 e)
  · by_cases e : d = c
    · subst e; rw [upd_at]; exact hnew
    · rw [upd_ne _ e]; exact h.new d hd
  · by_cases e1 : d = c
    · have e2 : e ≠ c := fun h => hne (e1.trans h.symm)
      subst e1
      rw [upd_at, upd_ne _ e2]
      exact (hoth e he e2).2
    · rw [upd_ne _ e1]
      by_cases e2 : e = c
      · subst e2
        rw [upd_at]
        exact fun k hk hk2 => (hoth d hd e1).2 k hk2 hk
      · rw [upd_ne _ e2]
        exact h.apart d e hd he hne
theorem Pst.mark {w0 w : World} {P : Nat} {os : Nat → Option Addr × Nat} {st : Nat → List Rq × Nat} (h : Pst w0 w P os st) {c : Nat} (hc : c < 16) {j : Nat} (hj : j < (st c).1.length) :
    ∃ g, (os c).1 = some ⟨g, 0, none⟩ ∧ (∀ i, w.frozen? ⟨g, i, none⟩ = false) ∧ Pst w0 (w.setCell ⟨g, j * 2 + 1, none⟩ (.bool true)) P os (upd st c ((st c).1.set j (((st c).1.getD j q0).1, true), (st c).2)) := by
  obtain ⟨g, e, hf, ho, hk⟩ := (h.own c hc).store1 okQ q0 j hj 1 (by decide) (((st c).1.getD j q0).1, true) (.bool true) rfl
  have hP : ∀ k, inO (os c).1 k → k ≠ P := fun k hk => (h.lt hc hk).2
  obtain ⟨cs, h1, h2, h3⟩ := h.blk
  have hgn : w0.heap.size ≤ g := h.new c hc g ⟨_, e, rfl⟩
  refine ⟨g, e, hf, ⟨⟨cs, hk.at h1 (fun hi => hP P hi rfl), h2, fun d hd => ?_⟩, fun d hd => ?_, h.new, h.apart, h.kp.setCell (p := ⟨g, j * 2 + 1, none⟩) (.inr hgn) _, h.ge⟩⟩
  · by_cases ed : d = c
    · subst ed
      rw [upd_at]
      simp only [List.length_set]
      exact h3 d hd
    · rw [upd_ne _ ed]; exact h3 d hd
  · by_cases ed : d = c
    · subst ed
      rw [upd_at]
      exact ho
    · rw [upd_ne _ ed]
      exact (h.own d hd).keeps hk (fun q hq hs => h.apart c d hc hd (Ne.symm ed) q hs hq)
set_option maxRecDepth 10000 in
set_option maxHeartbeats 4000000 in
theorem asks_any (w0 w : World) (P : Nat) (os : Nat → Option Addr × Nat) (st : Nat → List Rq × Nat) (h : Pst w0 w P os st) (c : Nat) (hc : c < 16) (lo : Option Addr) (ln lc : Nat) (rs : List RE) (hl : ln = rs.length) (hs : Sl EE w0 lo lc rs) (a : Nat) (ha : a < ln) (hb : (ln : Int) ≤ 1099511627000) (hm : (st c).1.length ≤ 1099511627000) :
    Calls Tryz.prog 32 #[.pointer (some ⟨P, 2 * c, none⟩), .slice lo ln lc, .int .i64 (a : Nat)] w fun e w' => e = .returned (.bool (decide ((rs.getD a re0).txn = ((st c).1.length + 1 : Nat)))) ∧ ∃ os', Pst w0 w' P os' (upd st c ((st c).1 ++ [(a, false)], (st c).2)) := by
  have ha2 : (a : Int) < (ln : Int) := by omega
  obtain ⟨g, off, rfl, hat⟩ := (hs.keepsN h.kp).atE (j := a) (by omega)
  have HE : Hid (∀ W, Keeps no w0 W → W.cell? ⟨g, off + a * 10 + 2, none⟩ = some (.int .i64 (rs.getD a re0).txn)) := fun W hW => by
    obtain ⟨g', off', e, h2⟩ := (hs.keepsN hW).atE (j := a) (by omega)
    cases e
    exact h2.c2
  clear hat hs
  generalize (rs.getD a re0).txn = tx at HE ⊢
  obtain ⟨xs, hxs⟩ : ∃ xs, xs = (st c).1 := ⟨_, rfl⟩
  obtain ⟨o, ho⟩ : ∃ o, o = (os c).1 := ⟨_, rfl⟩
  obtain ⟨oc, hoc⟩ : ∃ oc, oc = (os c).2 := ⟨_, rfl⟩
  have HB : Hid (∀ (W : World) (o' : Option Addr) (c' : Nat), Own QE W o' c' (xs ++ [(a, false)]) → Ap (w.alloc (.cells #[.int .i64 (a : Nat), .bool false] 102)) o o' W → Pst w0 (W.setCell ⟨P, 2 * c, none⟩ (.slice o' (xs.length + 1) c')) P (upd os c (o', c')) (upd st c (xs ++ [(a, false)], (st c).2)) ∧ (∀ j, W.frozen? ⟨P, j, none⟩ = false) ∧ W.cell? ⟨P, 2 * c, none⟩ = some (.slice o xs.length oc)) := fun W o' c' h1 h2 => by
    rw [ho] at h2
    rw [hxs] at h1
    have := (h.keepsN ((Keeps.refl _ _).alloc (.cells #[.int .i64 (a : Nat), .bool false] 102))).push hc h1 h2
    rw [hxs, ho, hoc]
    exact this
  have HO : Hid (Own QE (w.alloc (.cells #[.int .i64 (a : Nat), .bool false] 102)) o oc xs ∧ xs.length ≤ 1099511627000) := ⟨by rw [ho, hoc, hxs]; exact (h.own c hc).keepsN ((Keeps.refl _ _).alloc _), by rw [hxs]; exact hm⟩
  have HR : Hid (Row QE (w.alloc (.cells #[.int .i64 (a : Nat), .bool false] 102)) (some ⟨w.heap.size, 0, none⟩) [((a, false) : Rq)]) := (lit_one (E := QE) w ((a, false) : Rq) #[.int .i64 (a : Nat), .bool false] rfl).row
  have cs := (h.cellS hc).1
  rw [← ho, ← hxs, ← hoc] at cs
  rw [← hxs]
  have hnb : (xs.length : Int) ≤ 1099511627000 := by have := HO.out.2; omega
  clear h hm hxs ho hoc hl
  have HT : Hid (∀ b, decide (tx = ((xs.length + 1 : Nat) : Int)) = b → decide (tx = ((xs.length + 1 : Nat) : Int)) = b) := fun b h => h
  obtain ⟨F, hF⟩ : ∃ F, F = 2 * c := ⟨_, rfl⟩
  rw [← hF] at cs HB ⊢
  have HF : Hid (F = 2 * c) := hF
  have HC : Hid (c < 16) := hc
  clear hF hc
  go_enter Tryz.func32, Tryz.ntmps32
  go_wp2_with (at_builtin; go_loud (refine wpList_app okQ rfl _ _ rfl _ _ _ xs rfl rfl HO.out.1 _ _ _ [((a, false) : Rq)] rfl rfl (fun h => by cases h) HR.out (by have := HO.out.2; simp [QE]; omega) (by have := HO.out.2; simp; omega) ?_); intro o6 c6 w6 ho6 hap6; have HP6 : Hid (Pst w0 (w6.setCell ⟨P, F, none⟩ (.slice o6 (xs.length + 1) c6)) P (upd os c (o6, c6)) (upd st c (xs ++ [(a, false)], (st c).2))) := (HB.out _ _ _ ho6 hap6).1; have u6 := (HB.out _ _ _ ho6 hap6).2.2; have v6 := (HB.out _ _ _ ho6 hap6).2.1 F; have PC : (w6.setCell ⟨P, F, none⟩ (.slice o6 (xs.length + 1) c6)).cell? ⟨P, F, none⟩ = some (.slice o6 (xs.length + 1) c6) := by { have h1 := (HP6.out.cellS HC.out).1; rw [upd_at, upd_at, ← HF.out, List.length_append, List.length_singleton] at h1; exact h1 }; have HPC : Hid (_ = _) := PC; clear PC; clear ho6 hap6)
  have w7c : ∀ W, W = w6.setCell ⟨P, F, none⟩ (.slice o6 (xs.length + 1) c6) → W.cell? ⟨P, F, none⟩ = some (.slice o6 (xs.length + 1) c6) ∧ W.cell? ⟨g, off + a * 10 + 2, none⟩ = some (.int .i64 tx) := by
    rintro W rfl
    exact ⟨HPC.out, HE.out _ HP6.out.kp⟩
  have c7 := w7c _ rfl
  clear w7c u6 v6
  generalize w6.setCell ⟨P, F, none⟩ (.slice o6 (xs.length + 1) c6) = w7 at HP6 c7 ⊢
  obtain ⟨c8, c9⟩ := c7
  have c2 : (a : Int) < (ln : Int) := ha2
  go_region
  go_wp2_with fail
  go_ret
  refine ⟨?_, _, HP6.out.keepsN (Keeps.refl _ _).drew⟩
  show Ending.returned (.bool (tx == (xs.length : Int) + 1)) = .returned (.bool (decide (tx = ((xs.length + 1 : Nat) : Int))))
  by_cases htx : tx = ((xs.length + 1 : Nat) : Int)
  · rw [decide_eq_true htx, beq_iff_eq.2 (by omega)]
  · rw [decide_eq_false htx, beq_eq_false_iff_ne.2 (by omega)]
def namesB (rs : List RE) (a top : Nat) : Bool := if (rs.getD a re0).id = 0 then decide (a + 1 < rs.length) && toB (rs.getD (a + 1) re0) (rs.getD a re0) else decide (top < (rs.getD a re0).id) && (decide (65536 ≤ (rs.getD a re0).id) && decide ((((rs.getD a re0).id % 65536 : Nat) : Int) = (rs.getD a re0).client))
set_option maxRecDepth 10000 in
set_option maxHeartbeats 4000000 in
theorem names_any (w0 w : World) (P : Nat) (os : Nat → Option Addr × Nat) (st : Nat → List Rq × Nat) (h : Pst w0 w P os st) (c : Nat) (hc : c < 16) (lo : Option Addr) (ln lc : Nat) (rs : List RE) (hl : ln = rs.length) (hs : Sl EE w0 lo lc rs) (a : Nat) (ha : a < ln) (hb : (ln : Int) ≤ 1099511627000) (hcl : (rs.getD a re0).client = (c : Nat)) :
    Calls Tryz.prog 33 #[.pointer (some ⟨P, 2 * c, none⟩), .slice lo ln lc, .int .i64 (a : Nat)] w fun e w' => e = .returned (.bool (namesB rs a (st c).2)) ∧ Pst w0 w' P os (if (rs.getD a re0).id = 0 then st else upd st c ((st c).1, (rs.getD a re0).id)) := by
  have ha2 : (a : Int) < (ln : Int) := by omega
  obtain ⟨g, off, rfl, hat⟩ := (hs.keepsN h.kp).atE (j := a) (by omega)
  obtain ⟨R, hR⟩ : ∃ R, R = namesB rs a (st c).2 := ⟨_, rfl⟩
  rw [← hR]
  unfold namesB at hR
  rw [← hl] at hR
  by_cases hid : (rs.getD a re0).id = 0
  · rw [if_pos hid] at hR ⊢
    have HP : Hid (Pst w0 w P os st) := h
    by_cases hlt : a + 1 < ln
    · have hlt' : (a : Int) + 1 < (ln : Int) := by omega
      rw [decide_eq_true hlt, Bool.true_and] at hR
      obtain ⟨g', off', e, hat2⟩ := (hs.keepsN h.kp).atE (j := a + 1) (by omega)
      cases e
      have HT : Hid (∀ W, Calls Tryz.prog 55 #[aggE (rs.getD (a + 1) re0), aggE (rs.getD a re0)] W fun e w' => e = .returned (.bool R) ∧ Keeps no W w') := fun W => by rw [hR]; exact answersTo_any W _ _
      have hoff : off + (a + 1) * 10 = off + a * 10 + 10 := by omega
      clear hR hs hcl h hl
      generalize rs.getD (a + 1) re0 = r2 at HT hat2
      generalize rs.getD a re0 = r1 at HT hat hid
      obtain ⟨ek, ecl, et, ei, po, pn, pc, ko, kn, kc, ax, ar, ai, vo, vn, vc⟩ := r1
      obtain ⟨fk, fcl, ft, fi, qo, qn, qc, lo2, ln2, lc2, bx, br, bi, uo, un, uc⟩ := r2
      obtain ⟨c0, c1, c2, c3, c4, c5, c6, c7, c8, c9⟩ := hat
      obtain ⟨d0, d1, d2, d3, d4, d5, d6, d7, d8, d9⟩ := hat2
      simp only at c0 c1 c2 c3 c4 c5 c6 c7 c8 c9 d0 d1 d2 d3 d4 d5 d6 d7 d8 d9 hid
      rw [hoff] at d0 d1 d2 d3 d4 d5 d6 d7 d8 d9
      unfold aggE cellsE at HT
      simp only at HT
      subst hid
      have HC : Hid (∀ d os, Calls Tryz.prog 55 #[.agg #[.int .i64 fk, .int .i64 fcl, .int .i64 ft, .int .u64 (fi : Nat), .slice qo qn qc, .slice lo2 ln2 lc2, .int .i64 bx, .int .i64 br, .int .u64 (bi : Nat), .slice uo un uc], .agg #[.int .i64 ek, .int .i64 ecl, .int .i64 et, .int .u64 ((0 : Nat) : Nat), .slice po pn pc, .slice ko kn kc, .int .i64 ax, .int .i64 ar, .int .u64 (ai : Nat), .slice vo vn vc]] (Sort.grow (redrawn w d) os) fun e w'' => e = .returned (.bool R) ∧ ∃ p : Regrown, w'' = Sort.grow (redrawn w p.d) p.os) := call_grown (fun X _ => HT.out X)
      clear HT
      have x0 := cell_regrown c0
      have y0 := cell_regrown d0
      have x1 := cell_regrown c1
      have y1 := cell_regrown d1
      have x2 := cell_regrown c2
      have y2 := cell_regrown d2
      have x3 := cell_regrown c3
      have y3 := cell_regrown d3
      have x4 := cell_regrown c4
      have y4 := cell_regrown d4
      have x5 := cell_regrown c5
      have y5 := cell_regrown d5
      have x6 := cell_regrown c6
      have y6 := cell_regrown d6
      have x7 := cell_regrown c7
      have y7 := cell_regrown d7
      have x8 := cell_regrown c8
      have y8 := cell_regrown d8
      have x9 := cell_regrown c9
      have y9 := cell_regrown d9
      clear c0 c1 c2 c4 c5 c6 c7 c8 c9 d0 d1 d2 d3 d4 d5 d6 d7 d8 d9
      have ha3 : (a : Int) + 1 < (ln : Int) := hlt'
      go_enter Tryz.func33, Tryz.ntmps33
      go_wp2_with fail
      refine wp_region_quiet_below (by kernel_rfl) (by kernel_rfl) ?_
      repeat (go_big_quiet_step (exact HC.out _ _))
      refine wpQuiet_nil ?_
      intro _ hw'
      obtain ⟨⟨dq, osq⟩, rfl⟩ := hw'
      have K1 : Hid (Keeps no w (Sort.grow (redrawn w dq) osq)) := keeps_grown ..
      generalize Sort.grow (redrawn w dq) osq = u1 at K1 ⊢
      go_wp2_with fail
      go_ret
      exact ⟨rfl, HP.out.keepsN K1.out⟩
    · have hlt' : ¬ (a : Int) + 1 < (ln : Int) := by omega
      rw [decide_eq_false hlt, Bool.false_and] at hR
      subst hR
      have c3 := hat.c3
      rw [hid] at c3
      clear hat hs hcl h hid hl
      go_enter Tryz.func33, Tryz.ntmps33
      have hdf : decide ((a : Int) + 1 < (ln : Int)) = false := decide_eq_false hlt'
      go_wp2_with fail
      refine wp_region_quiet_below (by kernel_rfl) (by kernel_rfl) ?_
      repeat (go_big_quiet_step (fail))
      refine wpQuiet_nil ?_
      intro _ hw'
      obtain ⟨⟨dq, osq⟩, rfl⟩ := hw'
      have K1 : Hid (Keeps no w (Sort.grow (redrawn w dq) osq)) := keeps_grown ..
      generalize Sort.grow (redrawn w dq) osq = u1 at K1 ⊢
      go_wp2_with fail
      go_ret
      exact ⟨rfl, HP.out.keepsN K1.out⟩
  · rw [if_neg hid] at hR ⊢
    have hid' : ¬ (((rs.getD a re0).id : Nat) : Int) = 0 := by omega
    have c3 := hat.c3
    have HE : Hid (∀ W, Keeps no w0 W → W.cell? ⟨g, off + a * 10 + 1, none⟩ = some (.int .i64 (c : Nat))) := fun W hW => by
      obtain ⟨g', off', e, h2⟩ := (hs.keepsN hW).atE (j := a) (by omega)
      cases e
      have := h2.c1
      rw [hcl] at this
      exact this
    have HP := h.setTop hc (rs.getD a re0).id
    have u1 := (h.cellS hc).2.1
    have v1 := (h.cellS hc).2.2 (2 * c + 1)
    rw [hcl] at hR
    clear hat hs hcl hid hl h
    generalize (rs.getD a re0).id = ei at hid' c3 HP hR ⊢
    generalize (st c).2 = t at u1 hR
    have HPS : Hid (Pst w0 (w.setCell ⟨P, 2 * c + 1, none⟩ (.int .u64 (ei : Nat))) P os (upd st c ((st c).1, ei))) := HP
    clear HP
    have hcc : (c : Int) < 16 := by omega
    have wc : IntKind.u64.wrap (c : Int) = (c : Int) := by rw [IntKind.wrap_u64]; omega
    go_enter Tryz.func33, Tryz.ntmps33
    go_upto_region 6 with fail
    have h1 := HE.out _ HPS.out.kp
    have HE1 : Hid (R = (decide (t < ei) && (decide (65536 ≤ ei) && decide (((ei % 65536 : Nat) : Int) = (c : Nat))))) := hR
    clear HE c3 u1 v1 hR
    generalize w.setCell ⟨P, 2 * c + 1, none⟩ (.int .u64 (ei : Nat)) = w7 at HPS h1 ⊢
    by_cases g1 : t < ei
    · have g1' : (t : Int) < (ei : Int) := by omega
      by_cases g2 : 65536 ≤ ei
      · have g2' : (65536 : Int) ≤ (ei : Int) := by omega
        go_wp2_with fail
        go_ret
        refine ⟨?_, HPS.out⟩
        show Ending.returned (.bool ((ei : Int) % 65536 == (c : Int))) = .returned (.bool R)
        rw [HE1.out, decide_eq_true g1, decide_eq_true g2, Bool.true_and, Bool.true_and]
        by_cases hm : ((ei % 65536 : Nat) : Int) = (c : Nat)
        · rw [decide_eq_true hm, beq_iff_eq.2 (by omega)]
        · rw [decide_eq_false hm, beq_eq_false_iff_ne.2 (by omega)]
      · have g2' : ¬ (65536 : Int) ≤ (ei : Int) := by omega
        have HR2 : Hid (R = false) := by show _ = _; rw [HE1.out, decide_eq_false g2, Bool.false_and, Bool.and_false]
        go_wp2_with fail
        go_ret
        exact ⟨by rw [HR2.out]; rfl, HPS.out⟩
    · have g1' : ¬ (t : Int) < (ei : Int) := by omega
      have HR2 : Hid (R = false) := by show _ = _; rw [HE1.out, decide_eq_false g1, Bool.false_and]
      go_wp2_with fail
      go_ret
      exact ⟨by rw [HR2.out]; rfl, HPS.out⟩
/-- whether an event answers its request as it may -/
def answB (es : List Ev) (a j : Nat) (xs : List Rq) : Bool :=
  if xs.length ≤ j then false else if (xs.getD j q0).2 = true then false
  else if (es.getD (xs.getD j q0).1 ev0).kind = 1 then endsWB (es.getD a ev0).ares (es.getD a ev0).aid (es.getD a ev0).vers.length (es.getD (xs.getD j q0).1 ev0).id
  else endsRB (es.getD a ev0).ares (es.getD a ev0).aid (es.getD a ev0).vers (es.getD (xs.getD j q0).1 ev0).keys (decide (a = (xs.getD j q0).1 + 1))
set_option maxRecDepth 10000 in
set_option maxHeartbeats 4000000 in
theorem answers_any (w0 w : World) (P : Nat) (os : Nat → Option Addr × Nat) (st : Nat → List Rq × Nat) (h : Pst w0 w P os st) (c : Nat) (hc : c < 16) (lo : Option Addr) (ln lc : Nat) (rs : List RE) (es : List Ev) (hl : ln = es.length) (hs : Evs w0 lo lc rs es) (hz : ∀ e ∈ es, SzE e) (hb : (ln : Int) ≤ 1099511627000) (a : Nat) (ha : a < ln) (j : Nat) (htx : (es.getD a ev0).txn = ((j + 1 : Nat) : Int)) (hat : ∀ x ∈ (st c).1, x.1 < ln) (hm : (st c).1.length ≤ 1099511627000) :
    Calls Tryz.prog 34 #[.pointer (some ⟨P, 2 * c, none⟩), .slice lo ln lc, .int .i64 (a : Nat)] w fun e w' => e = .returned (.bool (answB es a j (st c).1)) ∧ ∃ st', Pst w0 w' P os st' ∧ (answB es a j (st c).1 = true → st' = upd st c ((st c).1.set j (((st c).1.getD j q0).1, true), (st c).2)) := by
  have ha2 : (a : Int) < (ln : Int) := by omega
  obtain ⟨R, hR⟩ : ∃ R, R = answB es a j (st c).1 := ⟨_, rfl⟩
  rw [← hR]
  unfold answB at hR
  obtain ⟨g, off, rfl, -⟩ := (hs.sl.keepsN h.kp).atE (j := a) (by rw [hs.len]; omega)
  have HEV : Hid (∀ k, k < ln → (∀ W, Keeps no w0 W → At10 W g (off + k * 10) (rs.getD k re0)) ∧ EvOf w0 (rs.getD k re0) (es.getD k ev0) ∧ SzE (es.getD k ev0)) := fun k hk => ⟨fun W hW => by
      obtain ⟨g', off', e, h2⟩ := (hs.sl.keepsN hW).atE (j := k) (by rw [hs.len]; omega)
      cases e
      exact h2, hs.each k (by omega), hz _ (getD_mem_lt ev0 (by omega))⟩
  have HA := HEV.out a ha
  have c2 := (HA.1 w h.kp).c2
  rw [HA.2.1.txn, htx] at c2
  have c2' : w.cell? ⟨g, off + a * 10 + 2, none⟩ = some (.int .i64 ((j : Int) + 1)) := c2
  have cs := (h.cellS hc).1
  have hnb : ((st c).1.length : Int) ≤ 1099511627000 := by omega
  have HP : Hid (Pst w0 w P os st) := h
  have HW7 : Hid (hs = hs) := rfl
  by_cases h1 : (st c).1.length ≤ j
  · rw [if_pos h1] at hR
    subst hR
    have h1' : ((st c).1.length : Int) < (j : Int) + 1 := by omega
    clear hs HA h hat htx hm c2 hl hz HEV HW7
    generalize (os c).1 = o at cs
    generalize (os c).2 = oc at cs
    generalize (st c).1.length = n at cs h1' hnb
    go_enter Tryz.func34, Tryz.ntmps34
    go_wp2_with fail
    go_ret
    first | exact ⟨rfl, st, HP.out⟩ | exact ⟨rfl, st, HP.out, fun e => by cases e⟩
  · rw [if_neg h1] at hR
    have hj : j < (st c).1.length := by omega
    have h1' : ¬ ((st c).1.length : Int) < (j : Int) + 1 := by omega
    obtain ⟨gq, eo, hfz, hmk⟩ := h.mark hc hj
    obtain ⟨b, ob, e3, d0, d1⟩ := (h.own c hc).sl.atQ hj
    rw [eo] at e3
    cases e3
    rw [Nat.zero_add] at d0 d1
    rw [eo] at cs
    obtain ⟨b7, ob7, e7, d7, -⟩ := (hmk.own c hc).sl.atQ (j := j) (by rw [upd_at]; simpa using hj)
    rw [eo] at e7
    cases e7
    rw [Nat.zero_add, upd_at] at d7
    have hq7 : (((st c).1.set j (((st c).1.getD j q0).1, true)).getD j q0) = (((st c).1.getD j q0).1, true) := by
      simp [List.getD_eq_getElem?_getD, hj]
    rw [hq7] at d7
    have hqln := hat _ (getD_mem_lt q0 hj)
    have HPS : Hid (Pst w0 (w.setCell ⟨gq, j * 2 + 1, none⟩ (.bool true)) P os (upd st c ((st c).1.set j (((st c).1.getD j q0).1, true), (st c).2))) := hmk
    have HQ := HEV.out _ hqln
    have hj' : (j : Int) < ((st c).1.length : Int) := by omega
    have hj1 : (0 : Int) ≤ (j : Int) := by omega
    clear h hmk hat hm htx c2 hq7 HW7
    obtain ⟨⟨q, bq⟩, hx⟩ : ∃ x, (st c).1.getD j q0 = x := ⟨_, rfl⟩
    rw [hx] at d0 d1 d7 hqln HQ hR HPS ⊢
    (try simp only at d0)
    (try simp only at d1)
    (try simp only at d7)
    (try simp only at hqln)
    (try simp only at HQ)
    (try simp only at hR)
    (try simp only at HPS)
    cases bq with
    | true =>
      rw [if_pos rfl] at hR
      subst hR
      clear hs HA HQ hl hz HEV HPS d7 d0
      generalize (os c).2 = oc at cs
      generalize (st c).1.length = n at cs hj' hnb h1'
      go_enter Tryz.func34, Tryz.ntmps34
      go_wp2_with fail
      go_ret
      first | exact ⟨rfl, st, HP.out⟩ | exact ⟨rfl, st, HP.out, fun e => by cases e⟩
    | false =>
      rw [if_neg (by decide)] at hR
      have v7 := hfz (j * 2 + 1)
      have hq2 : (q : Int) < (ln : Int) := by omega
      have hq3 : (0 : Int) ≤ (q : Int) := by omega
      have HWA : Hid (∀ W, Keeps no w0 W → At10 W g (off + a * 10) (rs.getD a re0) ∧ At10 W g (off + q * 10) (rs.getD q re0)) := fun W hW => ⟨HA.1 W hW, HQ.1 W hW⟩
      have HEA : Hid (EvOf w0 (rs.getD a re0) (es.getD a ev0) ∧ SzE (es.getD a ev0)) := HA.2
      have HEQ : Hid (EvOf w0 (rs.getD q re0) (es.getD q ev0) ∧ SzE (es.getD q ev0)) := HQ.2
      have HRR : Hid (R = if (es.getD q ev0).kind = 1 then endsWB (es.getD a ev0).ares (es.getD a ev0).aid (es.getD a ev0).vers.length (es.getD q ev0).id
        else endsRB (es.getD a ev0).ares (es.getD a ev0).aid (es.getD a ev0).vers (es.getD q ev0).keys (decide (a = q + 1))) := hR
      clear hs HA HQ hl hz HEV hR hfz hx
      generalize (os c).2 = oc at cs
      generalize (st c).1.length = n at cs hj' hnb h1'
      go_enter Tryz.func34, Tryz.ntmps34
      go_upto_region 6 with fail
      have H7 := HWA.out _ HPS.out.kp
      clear HWA v7 cs d0 d1 c2'
      have HD7 : Hid (Keeps no w0 (w.setCell ⟨gq, j * 2 + 1, none⟩ (.bool true))) := HPS.out.kp
      generalize w.setCell ⟨gq, j * 2 + 1, none⟩ (.bool true) = w7 at HPS H7 HD7 d7 ⊢
      have HCW : Hid (∀ d os, Calls Tryz.prog 56 #[.agg #[.int .i64 (rs.getD a re0).atxn, .int .i64 (rs.getD a re0).ares, .int .u64 ((rs.getD a re0).aid : Nat), .slice (rs.getD a re0).vo (rs.getD a re0).vn (rs.getD a re0).vc], .int .u64 ((rs.getD q re0).id : Nat)] (Sort.grow (redrawn w7 d) os) fun e w'' => e = .returned (.bool (endsWB (es.getD a ev0).ares (es.getD a ev0).aid (es.getD a ev0).vers.length (es.getD q ev0).id)) ∧ ∃ p : Regrown, w'' = Sort.grow (redrawn w7 p.d) p.os) := by
        have h1 := HEA.out.1
        have h2 := HEQ.out.1
        rw [← h1.ares, ← h1.aid, ← h1.vn, ← h2.id]
        exact call_grown (fun X _ => endsWrite_any X _ _ _ _ _ _ _ (by rw [h1.vn]; have := HEA.out.2.vl; omega))
      have HCR : Hid (∀ d os, Calls Tryz.prog 57 #[.agg #[.int .i64 (rs.getD a re0).atxn, .int .i64 (rs.getD a re0).ares, .int .u64 ((rs.getD a re0).aid : Nat), .slice (rs.getD a re0).vo (rs.getD a re0).vn (rs.getD a re0).vc], .slice (rs.getD q re0).ko (rs.getD q re0).kn (rs.getD q re0).kc, .bool (decide (a = q + 1))] (Sort.grow (redrawn w7 d) os) fun e w'' => e = .returned (.bool (endsRB (es.getD a ev0).ares (es.getD a ev0).aid (es.getD a ev0).vers (es.getD q ev0).keys (decide (a = q + 1)))) ∧ ∃ p : Regrown, w'' = Sort.grow (redrawn w7 p.d) p.os) := by
        have h1 := HEA.out.1
        have h2 := HEQ.out.1
        obtain ⟨rv, hv⟩ := h1.vs
        rw [← h1.ares, ← h1.aid]
        exact call_grown (fun X hX => endsRead_any X _ _ _ _ _ _ rv _ _ _ _ _ _ h1.vn (hv.keepsN (HD7.out.trans hX)) h2.kn (h2.ks.keepsN (HD7.out.trans hX)) (by rw [h1.vn]; have := HEA.out.2.vl; omega) (by rw [h2.kn]; have := HEQ.out.2.kl; omega))
      have hkd : (rs.getD q re0).kind = (es.getD q ev0).kind := HEQ.out.1.kind
      obtain ⟨A1, A2⟩ := H7
      generalize rs.getD a re0 = r1 at A1 HCW HCR
      generalize rs.getD q re0 = r2 at A2 HCW HCR hkd
      clear HEA HEQ HD7
      obtain ⟨ek, ecl, et, ei, po, pn, pc, ko, kn, kc, ax, ar, ai, vo, vn, vc⟩ := r1
      obtain ⟨fk, fcl, ft, fi, qo, qn, qc, lo2, ln2, lc2, bx, br, bi, uo, un, uc⟩ := r2
      obtain ⟨a0, a1, a2, a3, a4, a5, a6, a7, a8, a9⟩ := A1
      obtain ⟨b0, b1, b2, b3, b4, b5, b6, b7, b8, b9⟩ := A2
      simp only at a0 a1 a2 a3 a4 a5 a6 a7 a8 a9 b0 b1 b2 b3 b4 b5 b6 b7 b8 b9 HCW HCR hkd
      by_cases hk : fk = 1
      · subst hk
        have HR2 : Hid (R = endsWB (es.getD a ev0).ares (es.getD a ev0).aid (es.getD a ev0).vers.length (es.getD q ev0).id) := by show _ = _; rw [HRR.out, if_pos hkd.symm]
        rw [← HR2.out] at HCW
        clear HRR HCR hkd
        have HC := HCW
        go_upto_region 7 with fail
        have x6 := cell_regrown a6
        have x7 := cell_regrown a7
        have x8 := cell_regrown a8
        have x9 := cell_regrown a9
        have y3 := cell_regrown b3
        have y7 := cell_regrown d7
        clear a0 a1 a2 a3 a4 a5 a6 a7 a8 a9 b0 b1 b2 b3 b4 b5 b6 b7 b8 b9 d7
        refine wp_region_quiet_below (by kernel_rfl) (by kernel_rfl) ?_
        repeat (go_big_quiet_step (exact HC.out _ _))
        refine wpQuiet_nil ?_
        intro _ hw'
        obtain ⟨⟨dq, osq⟩, rfl⟩ := hw'
        have K1 : Hid (Keeps no w7 (Sort.grow (redrawn w7 dq) osq)) := keeps_grown ..
        generalize Sort.grow (redrawn w7 dq) osq = u1 at K1 ⊢
        go_wp2_with fail
        go_ret
        exact ⟨rfl, _, HPS.out.keepsN K1.out, fun _ => rfl⟩
      · have HR2 : Hid (R = endsRB (es.getD a ev0).ares (es.getD a ev0).aid (es.getD a ev0).vers (es.getD q ev0).keys (decide (a = q + 1))) := by show _ = _; rw [HRR.out, if_neg (by rw [← hkd]; exact hk)]
        rw [← HR2.out] at HCR
        clear HRR HCW hkd
        obtain ⟨nx, hnx⟩ : ∃ nx, nx = decide (a = q + 1) := ⟨_, rfl⟩
        have hxb : ((a : Int) == (q : Int) + 1) = nx := by
          rw [hnx]
          by_cases e : a = q + 1
          · rw [decide_eq_true e, beq_iff_eq.2 (by omega)]
          · rw [decide_eq_false e, beq_eq_false_iff_ne.2 (by omega)]
        rw [← hnx] at HCR
        clear hnx
        have HC := HCR
        go_upto_region 8 with fail
        have x6 := cell_regrown a6
        have x7 := cell_regrown a7
        have x8 := cell_regrown a8
        have x9 := cell_regrown a9
        have y5 := cell_regrown b5
        have y7 := cell_regrown d7
        clear a0 a1 a2 a3 a4 a5 a6 a7 a8 a9 b0 b1 b2 b3 b4 b5 b6 b7 b8 b9 d7
        refine wp_region_quiet_below (by kernel_rfl) (by kernel_rfl) ?_
        repeat (go_big_quiet_step (exact HC.out _ _))
        refine wpQuiet_nil ?_
        intro _ hw'
        obtain ⟨⟨dq, osq⟩, rfl⟩ := hw'
        have K1 : Hid (Keeps no w7 (Sort.grow (redrawn w7 dq) osq)) := keeps_grown ..
        generalize Sort.grow (redrawn w7 dq) osq = u1 at K1 ⊢
        go_wp2_with fail
        go_ret
        exact ⟨rfl, _, HPS.out.keepsN K1.out, fun _ => rfl⟩
end Go.Proofs.YtjkljljmjjnneaaGreatDoor
