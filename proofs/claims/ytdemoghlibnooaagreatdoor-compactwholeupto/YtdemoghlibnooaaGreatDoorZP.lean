import Derived.Test.YtdemoghlibnooaaGreatDoorXD
import Derived.Test.YtdemoghlibnooaaGreatDoorZA
/- The files of a generation, through compaction and opening. -/
namespace Go.Proofs.YtdemoghlibnooaaGreatDoor
open Go.RowKit Orl Pk Go.Sort
set_option linter.unusedVariables false
set_option linter.unusedSimpArgs false

/-! ### the files of a generation -/
structure JV (g : Nat) (bs : Option (List UInt8)) (rs : List Rec) (s : Dk.St) : Prop where
  inc : Dk.Inc s.fs
  sn : Dk.find snapB s.fs = bs.map fl
  lg : (rs = [] ∧ Dk.find (logB g) s.fs = none) ∨ Dk.find (logB g) s.fs = some (fl (u8s (rowb rs)))
section
variable {g : Nat} {bs : Option (List UInt8)} {rs : List Rec} {s s' : Dk.St}
theorem JV.of_fs (h : JV g bs rs s) (e : s'.fs = s.fs) : JV g bs rs s' := ⟨by rw [e]; exact h.inc, by rw [e]; exact h.sn, by rw [e]; exact h.lg⟩
theorem JV.crash (h : JV g bs rs s) (k : Int) : JV g bs rs (Dk.crash k s) := by
  unfold Dk.crash
  split
  · exact h
  · refine ⟨Dk.inc_mapv _ h.inc, ?_, ?_⟩
    · show Dk.find snapB (Dk.mapv (Dk.crF k) s.fs) = _
      rw [Dk.find_mapv, h.sn]
      cases bs with
      | none => rfl
      | some b => show some (Dk.crF k (fl b)) = some (fl b); rw [crF_fl]
    · show _ ∨ Dk.find (logB g) (Dk.mapv (Dk.crF k) s.fs) = _
      rcases h.lg with ⟨e, h1⟩ | h1
      · refine .inl ⟨e, ?_⟩
        show Dk.find (logB g) (Dk.mapv (Dk.crF k) s.fs) = _
        rw [Dk.find_mapv, h1]; rfl
      · refine .inr ?_
        rw [Dk.find_mapv, h1]
        show some (Dk.crF k (fl _)) = _
        rw [crF_fl]
theorem JV.tick (h : JV g bs rs s) : JV g bs rs (Dk.tick s) := by
  unfold Dk.tick
  split
  · exact h.crash _
  · split
    · exact h.of_fs rfl
    · exact h
theorem JV.del (h : JV g bs rs s) {n : Dk.Nm} (h1 : n ≠ snapB) (h2 : n ≠ logB g) : JV g bs rs { s with fs := Dk.del n s.fs } := by
  refine ⟨Dk.inc_del h.inc, ?_, ?_⟩
  · show Dk.find snapB (Dk.del n s.fs) = _
    rw [Dk.find_del_other h1.symm]; exact h.sn
  · show (_ ∧ Dk.find (logB g) (Dk.del n s.fs) = _) ∨ Dk.find (logB g) (Dk.del n s.fs) = _
    rw [Dk.find_del_other h2.symm]; exact h.lg
theorem JV.put (h : JV g bs rs s) {n : Dk.Nm} (h1 : n ≠ snapB) (h2 : n ≠ logB g) (f : Dk.Fl) : JV g bs rs { s with fs := Dk.put n f s.fs } := by
  refine ⟨Dk.inc_put h.inc, ?_, ?_⟩
  · show Dk.find snapB (Dk.put n f s.fs) = _
    rw [Dk.find_put_other h1.symm]; exact h.sn
  · show (_ ∧ Dk.find (logB g) (Dk.put n f s.fs) = _) ∨ Dk.find (logB g) (Dk.put n f s.fs) = _
    rw [Dk.find_put_other h2.symm]; exact h.lg
theorem JV.lbs (h : JV g bs rs s) : bsOf (logB g) s = u8s (rowb rs) := by
  unfold bsOf
  rcases h.lg with ⟨e, h1⟩ | h1
  · rw [h1, e]; rfl
  · rw [h1]; rfl
/-- a record more -/
theorem JV.app (h : JV g bs rs s) (r : Rec) : JV g bs (rs ++ [r]) (lay1 (logB g) (fl (bsOf (logB g) s ++ u8s (enc r))) s) := by
  refine ⟨Dk.inc_put h.inc, ?_, .inr ?_⟩
  · rw [find_lay1_ne (log_ne g).symm]; exact h.sn
  · rw [find_lay1, h.lbs, rowb_snoc]
    simp [u8s]
end
/-- nothing but the snapshot and the log -/
def Cln (g : Nat) (s : Dk.St) : Prop := ∀ q ∈ s.fs, q.1 = snapB ∨ q.1 = logB g
theorem cln_len {g : Nat} {s : Dk.St} (hi : Dk.Inc s.fs) (h : Cln g s) : s.fs.length ≤ 2 := by
  have hn : (Dk.names s.fs).Nodup := by
    have := Dk.inc_nodup hi
    unfold Dk.names
    rw [List.Nodup, List.pairwise_map]
    exact this
  have := List.Nodup.length_le_of_subset (l₁ := Dk.names s.fs) (l₂ := [snapB, logB g]) hn (fun n hn => by
    obtain ⟨q, hq, rfl⟩ := List.mem_map.1 hn
    rcases h q hq with e | e
    · simp [e]
    · simp [e])
  simpa [Dk.names] using this
/-- the snapshot is one, of this generation -/
def BsOk (now : Int) (g : Nat) : Option (List UInt8) → Prop
  | none => g = 0
  | some b => snOk now (nts b) = true ∧ rdG (nts b) = g
def bst (now : Int) : Option (List UInt8) → St
  | none => St.new
  | some b => rdS now (nts b)
/-! ### Open of it -/
theorem sweep_jv {g : Nat} {bs : Option (List UInt8)} {rs : List Rec} : ∀ (l : List Dk.Nm) {s : Dk.St}, JV g bs rs s → On s → l.Nodup → (∀ n ∈ l, Dk.find n s.fs ≠ none) →
    (sweepS (logB g) l s).2 = 0 ∧ On (sweepS (logB g) l s).1 ∧ JV g bs rs (sweepS (logB g) l s).1 ∧ (sweepS (logB g) l s).1.ref = s.ref ∧ ∀ q ∈ (sweepS (logB g) l s).1.fs, q ∈ s.fs ∧ (q.1 ∈ l → q.1 = snapB ∨ q.1 = logB g)
  | [], s, h, h0, _, _ => ⟨rfl, h0, h, rfl, fun q hq => ⟨hq, fun hm => by cases hm⟩⟩
  | n :: r, s, h, h0, hn, hf => by
    have hn' := List.nodup_cons.1 hn
    unfold sweepS
    by_cases e : n = snapB ∨ n = logB g
    · rw [if_pos e]
      obtain ⟨a, b, c, d, f⟩ := sweep_jv r h h0 hn'.2 (fun m hm => hf m (List.mem_cons_of_mem _ hm))
      refine ⟨a, b, c, d, fun q hq => ⟨(f q hq).1, fun hm => ?_⟩⟩
      rcases List.mem_cons.1 hm with h1 | h1
      · rw [h1]; exact e
      · exact (f q hq).2 h1
    · have e1 : n ≠ snapB := fun x => e (.inl x)
      have e2 : n ≠ logB g := fun x => e (.inr x)
      have hc : Dk.counted s (Dk.deleteOn n) = ({ s with fs := Dk.del n s.fs }, 0) := by
        rw [h0.counted]
        unfold Dk.deleteOn Dk.onF
        cases hq : Dk.find n s.fs with
        | none => exact absurd hq (hf n (by simp))
        | some f => rfl
      rw [if_neg e, hc, if_pos rfl]
      obtain ⟨a, b, c, d, f⟩ := sweep_jv r (s := { s with fs := Dk.del n s.fs }) (h.del e1 e2) ⟨h0.off, h0.calls⟩ hn'.2 (fun m hm => by
        have : m ≠ n := fun x => hn'.1 (x ▸ hm)
        show Dk.find m (Dk.del n s.fs) ≠ none
        rw [Dk.find_del_other this]
        exact hf m (List.mem_cons_of_mem _ hm))
      refine ⟨a, b, c, d, fun q hq => ?_⟩
      have h1 := f q hq
      have h2 := Dk.mem_del.1 h1.1
      refine ⟨h2.1, fun hm => ?_⟩
      rcases List.mem_cons.1 hm with h3 | h3
      · exact absurd h3 h2.2
      · exact h1.2 h3
/-- how many versions a snapshot has -/
def nvo : Option (List UInt8) → Nat
  | none => 0
  | some b => (rdVs (bodyO (nts b))).1.length
structure Bt (g : Nat) (bs : Option (List UInt8)) (rs : List Rec) (s s' : Dk.St) : Prop where
  boot : Boot 0 s s' 0 g (redoS 0 (bst 0 bs) rs) (rowb rs).length
  jv : JV g bs rs s'
  on : On s'
  ref : s'.ref = s.ref
  cln : Cln g s'
  nv : ∀ N, NvB s N → N ≤ nvo bs + prs rs
  sub : ∀ q ∈ s'.fs, q ∈ s.fs
theorem jv_boot {g : Nat} {bs : Option (List UInt8)} {rs : List Rec} {s : Dk.St} (h : JV g bs rs s) (h0 : On s) (hb : BsOk 0 g bs) (hg : Gds rs) : ∃ s', Bt g bs rs s s' := by
  have ht := h0.tick
  have hs : hasSnap s = bs.isSome := by unfold hasSnap; rw [h.sn]; cases bs <;> rfl
  have hd : baseD s = s := by unfold baseD; rw [ht]; split <;> rfl
  have hB : ∀ b, bs = some b → bsS s = nts b := fun b e => by
    subst e
    unfold bsS
    rw [ht, h0.readB, h.sn]; rfl
  have hE : baseE 0 s = 0 := by
    unfold baseE
    rw [hs, ht, h0.off]
    cases bs with
    | none => rfl
    | some b => rw [hB b rfl, hb.1]; rfl
  have hG : baseG s = g := by
    unfold baseG
    rw [hs]
    cases bs with
    | none => exact hb.symm
    | some b => rw [hB b rfl]; exact hb.2
  have hS : baseS 0 s = bst 0 bs := by
    unfold baseS
    rw [hs]
    cases bs with
    | none => rfl
    | some b => rw [hB b rfl]; rfl
  have hn : (Dk.names s.fs).Nodup := by
    have := Dk.inc_nodup h.inc
    unfold Dk.names
    rw [List.Nodup, List.pairwise_map]
    exact this
  obtain ⟨a, b, c, d, f⟩ := sweep_jv (Dk.names s.fs) h h0 hn (fun n hn hx => by
    obtain ⟨q, hq, e⟩ := List.mem_map.1 hn
    exact Dk.find_none.1 hx q hq e)
  have hsw : swept s = sweepS (logB g) (Dk.names s.fs) s := by unfold swept; rw [hG, hd]
  rw [← hsw] at a b c d f
  have ho : Opn (logB g) (swept s).1 (swept s).1 0 (rowb rs).length rs := by
    rcases c.lg with ⟨e, h1⟩ | h1
    · subst e; exact opn_gone b h1
    · exact opn_whole b h1 hg (nts_u8s (rowb_byt rs))
  refine ⟨_, ?_, c, b, d, fun q hq => (f q hq).2 (List.mem_map.2 ⟨q, (f q hq).1, rfl⟩), fun N hN => ?_, fun q hq => (f q hq).1⟩
  rotate_left
  · have h1 := hN (swept s).1 (rowb rs).length rs (by rw [ht, hG]; exact ho)
    have h2 : baseN s = nvo bs := by
      unfold baseN
      rw [hs]
      cases bs with
      | none => rfl
      | some b => rw [hB b rfl]; exact if_pos rfl
    rw [ht, h2] at h1
    exact h1
  have := Boot.ok (now := 0) (s := s) (by rw [ht]; exact h0.off) (by rw [ht]; exact hE) (by rw [ht]; exact a) (s' := (swept s).1) (k := (rowb rs).length) (rs := rs) (by rw [ht, hG]; exact ho)
  rw [ht, hG, hS] at this
  exact this
/-! ### Run on it -/
/-- what becomes of a disk: it goes on, with the next generation; or the power went off -/
inductive RunE (g : Nat) (bs : Option (List UInt8)) (rs : List Rec) (b : List UInt8) : Dk.St × Int → Prop
  | ok {s' : Dk.St} (h : JV (g + 1) (some b) [] s') (h0 : s'.off = false) (hr : s'.ref = 0) (hc : Cln g s') (hz : Sz s') : RunE g bs rs b (s', 0)
  | off {s' : Dk.St} (h : JV g bs rs s' ∨ JV (g + 1) (some b) [] s') (h0 : s'.off = true) (hr : s'.ref = 0) (hz : Sz s') : RunE g bs rs b (s', 62)
theorem tickR (s : Dk.St) : (Dk.tick s).ref = s.ref := by
  unfold Dk.tick Dk.crash
  split
  · split <;> rfl
  · split <;> rfl
section
variable {g : Nat} {bs : Option (List UInt8)} {rs : List Rec} {s : Dk.St} {b : List UInt8}
theorem cln_names (h : Cln g s) {n : Dk.Nm} (h1 : n ≠ snapB) (h2 : n ≠ logB g) : n ∉ Dk.names s.fs := fun hm => by
  obtain ⟨q, hq, rfl⟩ := List.mem_map.1 hm
  rcases h q hq with e | e
  · exact h1 e
  · exact h2 e
theorem cln_none (h : Cln g s) {n : Dk.Nm} (h1 : n ≠ snapB) (h2 : n ≠ logB g) : Dk.find n s.fs = none := Dk.find_none.2 fun q hq e => by
  rcases h q hq with e' | e'
  · exact h1 (e.symm.trans e')
  · exact h2 (e.symm.trans e')
theorem beg_cln (hc : Cln g s) (h0 : (Dk.tick s).off = false) : begS g s = (Dk.tick s, 0) := by
  unfold begS
  rw [h0, (tick_fs h0).1]
  simp only [Bool.false_eq_true, if_false, sweepF]
  rw [if_neg (cln_names hc tmp_snap (tmp_log g)), if_neg (cln_names hc (log_ne _) (log_next g))]
theorem run_full {k : Nat} (h : JV g bs rs s) (h0 : On s) (hc : Cln g s) (hb : 0 < b.length) (hr : s.ref = k + 1) : runF b g s = ({ s with ref := k }, 60) := by
  have e1 : layS b s = ({ s with ref := k }, 60) := by
    unfold layS
    rw [app_refused h0 hr hb tmp_good (fun _ => by have := cln_len h.inc hc; omega)]
    rw [bnd_bad (show (60 : Int) ≠ 0 by decide), bnd_bad (show (60 : Int) ≠ 0 by decide)]
  have e2 : runS b g s = ({ s with ref := k }, 60) := by
    unfold runS
    rw [beg_cln hc (by rw [h0.tick]; exact h0.off), h0.tick, bnd_pair]
    show bnd (layS b s) _ = _
    rw [e1, bnd_bad (show (60 : Int) ≠ 0 by decide)]
  unfold runF
  rw [e2, bnd_bad (show (60 : Int) ≠ 0 by decide)]
theorem tmp_sz : szB tmpB = 8000000000 := if_neg (by decide)
theorem Sz.putZ {t : Dk.St} (h : Sz t) {n : Dk.Nm} {f : Dk.Fl} (hf : f.bs.length ≤ szB n) {u : Dk.St} (e : u.fs = Dk.put n f t.fs) : Sz u := fun q hq => by
  rw [e] at hq
  rcases Dk.mem_put.1 hq with e | e
  · rw [e]; exact hf
  · exact h q e.1
theorem Sz.delZ {t : Dk.St} (h : Sz t) {n : Dk.Nm} {u : Dk.St} (e : u.fs = Dk.del n t.fs) : Sz u := fun q hq => by
  rw [e] at hq
  exact h q (Dk.mem_del.1 hq).1
theorem run_armed (h : JV g bs rs s) (h0 : s.off = false) (hc : Cln g s) (hr : s.ref = 0) (hz : Sz s) (hbl : b.length ≤ 8000000000) : RunE g bs rs b (runF b g s) := by
  have n62 : (62 : Int) ≠ 0 := by decide
  cases o1 : (Dk.tick s).off with
  | true =>
    have e : begS g s = (Dk.tick s, 62) := by unfold begS; rw [o1]; rfl
    have : runF b g s = (Dk.tick s, 62) := by unfold runF runS; rw [e, bnd_bad n62, bnd_bad n62, bnd_bad n62]
    rw [this]
    exact .off (.inl h.tick) o1 (by rw [tickR]; exact hr) hz.tick
  | false =>
  have e1 := beg_cln hc o1
  have f1 := (tick_fs o1).1
  have j1 := h.tick
  have r1 : (Dk.tick s).ref = 0 := by rw [tickR]; exact hr
  have z1 := hz.tick
  have c1 : Cln g (Dk.tick s) := by unfold Cln; rw [f1]; exact hc
  rw [show runF b g s = bnd (bnd (layS b (Dk.tick s)) (sweepF (Dk.names s.fs) [logB (g : Int)])) (fun t => (Dk.tick t, if (Dk.tick t).off = true then 62 else 0)) by unfold runF runS; rw [e1, bnd_pair, f1]]
  have hmem : logB (g : Int) ∈ Dk.names s.fs → ∃ f, Dk.find (logB (g : Int)) (Dk.tick s).fs = some f := fun hm => by
    rw [f1]
    cases hf : Dk.find (logB (g : Int)) s.fs with
    | some f => exact ⟨f, rfl⟩
    | none =>
      obtain ⟨q, hq, e⟩ := List.mem_map.1 hm
      exact absurd e (Dk.find_none.1 hf q hq)
  clear e1 f1 o1 h h0 hc hr hz
  generalize Dk.tick s = t at j1 r1 c1 hmem z1
  -- Append
  cases o2 : (Dk.tick t).off with
  | true =>
    have : layS b t = (Dk.tick t, 62) := by unfold layS; rw [cnt_off o2, bnd_bad n62, bnd_bad n62]
    rw [this, bnd_bad n62, bnd_bad n62]
    exact .off (.inl j1.tick) o2 (by rw [tickR]; exact r1) z1.tick
  | false =>
  have f2 := (tick_fs o2).1
  have a2 : Dk.counted t (Dk.appendOn tmpB b) = ({ (Dk.tick t) with fs := Dk.put tmpB ⟨b, 0⟩ t.fs }, 0) := by
    rw [cnt_on o2]
    unfold Dk.appendOn
    rw [if_pos tmp_good, f2, cln_none c1 tmp_snap (tmp_log g), noRoom_no (by rw [tickR]; exact r1)]
    have := cln_len j1.inc c1
    simp only [if_neg (by omega : ¬ 16 ≤ t.fs.length)]
    rfl
  have j2 : JV g bs rs { (Dk.tick t) with fs := Dk.put tmpB ⟨b, 0⟩ t.fs } := by
    have := j1.tick.put tmp_snap (tmp_log g) ⟨b, 0⟩
    rwa [f2] at this
  have r2 : ({ (Dk.tick t) with fs := Dk.put tmpB ⟨b, 0⟩ t.fs } : Dk.St).ref = 0 := by show (Dk.tick t).ref = 0; rw [tickR]; exact r1
  have p2 : Dk.find tmpB ({ (Dk.tick t) with fs := Dk.put tmpB ⟨b, 0⟩ t.fs } : Dk.St).fs = some ⟨b, 0⟩ := Dk.find_put_same _
  have m2 : ∀ q ∈ ({ (Dk.tick t) with fs := Dk.put tmpB ⟨b, 0⟩ t.fs } : Dk.St).fs, q.1 ≠ tmpB → q.1 = snapB ∨ q.1 = logB g := fun q hq hn => by
    rcases Dk.mem_put.1 hq with e | e
    · rw [e] at hn; exact absurd rfl hn
    · exact c1 q e.1
  have h2 : logB (g : Int) ∈ Dk.names s.fs → ∃ f, Dk.find (logB (g : Int)) ({ (Dk.tick t) with fs := Dk.put tmpB ⟨b, 0⟩ t.fs } : Dk.St).fs = some f := fun hm => by
    obtain ⟨f, hf⟩ := hmem hm
    exact ⟨f, by show Dk.find _ (Dk.put tmpB _ t.fs) = _; rw [Dk.find_put_other (tmp_log g).symm]; exact hf⟩
  rw [show layS b t = bnd (Dk.counted { (Dk.tick t) with fs := Dk.put tmpB ⟨b, 0⟩ t.fs } (Dk.syncOn tmpB)) (fun t => Dk.counted t (Dk.renameOn tmpB snapB)) by unfold layS; rw [a2, bnd_pair]]
  have z2 : Sz { (Dk.tick t) with fs := Dk.put tmpB ⟨b, 0⟩ t.fs } := z1.putZ (n := tmpB) (f := ⟨b, 0⟩) (by rw [tmp_sz]; exact hbl) rfl
  clear a2 f2 o2 j1 r1 c1 hmem z1
  generalize ({ (Dk.tick t) with fs := Dk.put tmpB ⟨b, 0⟩ t.fs } : Dk.St) = t2 at j2 r2 p2 m2 h2 z2
  -- Sync
  cases o3 : (Dk.tick t2).off with
  | true =>
    rw [cnt_off o3, bnd_bad n62, bnd_bad n62, bnd_bad n62]
    exact .off (.inl j2.tick) o3 (by rw [tickR]; exact r2) z2.tick
  | false =>
  have f3 := (tick_fs o3).1
  have a3 : Dk.counted t2 (Dk.syncOn tmpB) = ({ (Dk.tick t2) with fs := Dk.put tmpB (fl b) t2.fs }, 0) := by
    rw [cnt_on o3]
    unfold Dk.syncOn Dk.onF
    rw [f3, p2]
    rfl
  have j3 : JV g bs rs { (Dk.tick t2) with fs := Dk.put tmpB (fl b) t2.fs } := by
    have := j2.tick.put tmp_snap (tmp_log g) (fl b)
    rwa [f3] at this
  have r3 : ({ (Dk.tick t2) with fs := Dk.put tmpB (fl b) t2.fs } : Dk.St).ref = 0 := by show (Dk.tick t2).ref = 0; rw [tickR]; exact r2
  have p3 : Dk.find tmpB ({ (Dk.tick t2) with fs := Dk.put tmpB (fl b) t2.fs } : Dk.St).fs = some (fl b) := Dk.find_put_same _
  have m3 : ∀ q ∈ ({ (Dk.tick t2) with fs := Dk.put tmpB (fl b) t2.fs } : Dk.St).fs, q.1 ≠ tmpB → q.1 = snapB ∨ q.1 = logB g := fun q hq hn => by
    rcases Dk.mem_put.1 hq with e | e
    · rw [e] at hn; exact absurd rfl hn
    · exact m2 q e.1 hn
  have h3 : logB (g : Int) ∈ Dk.names s.fs → ∃ f, Dk.find (logB (g : Int)) ({ (Dk.tick t2) with fs := Dk.put tmpB (fl b) t2.fs } : Dk.St).fs = some f := fun hm => by
    obtain ⟨f, hf⟩ := h2 hm
    exact ⟨f, by show Dk.find _ (Dk.put tmpB _ t2.fs) = _; rw [Dk.find_put_other (tmp_log g).symm]; exact hf⟩
  rw [a3, bnd_pair]
  have z3 : Sz { (Dk.tick t2) with fs := Dk.put tmpB (fl b) t2.fs } := z2.putZ (n := tmpB) (f := fl b) (by rw [tmp_sz]; exact hbl) rfl
  clear a3 f3 o3 j2 r2 p2 m2 h2 z2
  show RunE g bs rs b (bnd (bnd (Dk.counted { (Dk.tick t2) with fs := Dk.put tmpB (fl b) t2.fs } (Dk.renameOn tmpB snapB)) (sweepF (Dk.names s.fs) [logB (g : Int)])) (fun t => (Dk.tick t, if (Dk.tick t).off = true then 62 else 0)))
  generalize ({ (Dk.tick t2) with fs := Dk.put tmpB (fl b) t2.fs } : Dk.St) = t3 at j3 r3 p3 m3 h3 z3
  -- Rename
  cases o4 : (Dk.tick t3).off with
  | true =>
    rw [cnt_off o4, bnd_bad n62, bnd_bad n62]
    exact .off (.inl j3.tick) o4 (by rw [tickR]; exact r3) z3.tick
  | false =>
  have f4 := (tick_fs o4).1
  have a4 : Dk.counted t3 (Dk.renameOn tmpB snapB) = ({ (Dk.tick t3) with fs := Dk.put snapB (fl b) (Dk.del tmpB t3.fs) }, 0) := by
    rw [cnt_on o4]
    unfold Dk.renameOn Dk.onF
    rw [if_pos snap_good, f4, p3]
  have m4 : ∀ q ∈ ({ (Dk.tick t3) with fs := Dk.put snapB (fl b) (Dk.del tmpB t3.fs) } : Dk.St).fs, q.1 = snapB ∨ q.1 = logB g := fun q hq => by
    rcases Dk.mem_put.1 hq with e | e
    · rw [e]; exact .inl rfl
    · have := Dk.mem_del.1 e.1
      exact m3 q this.1 this.2
  have j4 : JV (g + 1) (some b) [] { (Dk.tick t3) with fs := Dk.put snapB (fl b) (Dk.del tmpB t3.fs) } :=
    ⟨Dk.inc_put (Dk.inc_del j3.inc), Dk.find_put_same _, .inl ⟨rfl, cln_none m4 (log_ne _) (log_next g)⟩⟩
  have r4 : ({ (Dk.tick t3) with fs := Dk.put snapB (fl b) (Dk.del tmpB t3.fs) } : Dk.St).ref = 0 := by show (Dk.tick t3).ref = 0; rw [tickR]; exact r3
  have h4 : logB (g : Int) ∈ Dk.names s.fs → ∃ f, Dk.find (logB (g : Int)) ({ (Dk.tick t3) with fs := Dk.put snapB (fl b) (Dk.del tmpB t3.fs) } : Dk.St).fs = some f := fun hm => by
    obtain ⟨f, hf⟩ := h3 hm
    exact ⟨f, by show Dk.find _ (Dk.put snapB _ (Dk.del tmpB t3.fs)) = _; rw [Dk.find_put_other (log_ne g), Dk.find_del_other (tmp_log g).symm]; exact hf⟩
  rw [a4, bnd_pair]
  have z4 : Sz { (Dk.tick t3) with fs := Dk.put snapB (fl b) (Dk.del tmpB t3.fs) } := (z3.delZ (n := tmpB) (u := { t3 with fs := Dk.del tmpB t3.fs }) rfl).putZ (n := snapB) (f := fl b) (by rw [szB_snap]; exact hbl) rfl
  clear a4 f4 o4 j3 r3 p3 m3 h3 z3
  show RunE g bs rs b (bnd (sweepF (Dk.names s.fs) [logB (g : Int)] { (Dk.tick t3) with fs := Dk.put snapB (fl b) (Dk.del tmpB t3.fs) }) (fun t => (Dk.tick t, if (Dk.tick t).off = true then 62 else 0)))
  generalize ({ (Dk.tick t3) with fs := Dk.put snapB (fl b) (Dk.del tmpB t3.fs) } : Dk.St) = t4 at j4 r4 m4 h4 z4
  have last : ∀ u : Dk.St, JV (g + 1) (some b) [] u → u.ref = 0 → Cln g u → Sz u → RunE g bs rs b (bnd (u, 0) (fun t => (Dk.tick t, if (Dk.tick t).off = true then 62 else 0))) := fun u ju ru cu zu => by
    rw [bnd_pair]
    show RunE g bs rs b (Dk.tick u, if (Dk.tick u).off = true then 62 else 0)
    cases o : (Dk.tick u).off with
    | true => exact .off (.inr ju.tick) o (by rw [tickR]; exact ru) zu.tick
    | false => exact .ok ju.tick o (by rw [tickR]; exact ru) (by unfold Cln; rw [(tick_fs o).1]; exact cu) zu.tick
  unfold sweepF
  by_cases hm : logB (g : Int) ∈ Dk.names s.fs
  · rw [if_pos hm]
    cases o5 : (Dk.tick t4).off with
    | true =>
      rw [cnt_off o5, bnd_bad n62, bnd_bad n62]
      exact .off (.inr j4.tick) o5 (by rw [tickR]; exact r4) z4.tick
    | false =>
      have f5 := (tick_fs o5).1
      obtain ⟨f, hf⟩ := h4 hm
      have a5 : Dk.counted t4 (Dk.deleteOn (logB (g : Int))) = ({ (Dk.tick t4) with fs := Dk.del (logB (g : Int)) (Dk.tick t4).fs }, 0) := by
        rw [cnt_on o5]
        unfold Dk.deleteOn Dk.onF
        rw [f5, hf]
      rw [a5, bnd_pair]
      refine last _ (j4.tick.del (log_ne g) (log_next g).symm) (by show (Dk.tick t4).ref = 0; rw [tickR]; exact r4) (fun q hq => ?_) (z4.tick.delZ rfl)
      have hq : q ∈ Dk.del (logB (g : Int)) (Dk.tick t4).fs := hq
      rw [f5] at hq
      exact m4 q (Dk.mem_del.1 hq).1
  · rw [if_neg hm]
    exact last t4 j4 r4 m4 z4
end
end Go.Proofs.YtdemoghlibnooaaGreatDoor
