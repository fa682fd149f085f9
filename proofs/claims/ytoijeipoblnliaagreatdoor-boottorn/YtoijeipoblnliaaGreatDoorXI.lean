import Derived.Test.YtoijeipoblnliaaGreatDoorXD
import Derived.Test.YtoijeipoblnliaaGreatDoorGT1
/- A disk with a snapshot, a log and other files, whatever happens to it. -/
namespace Go.Proofs.YtoijeipoblnliaaGreatDoor
open Go.RowKit Orl Pk Go.Sort
set_option linter.unusedVariables false
set_option linter.unusedSimpArgs false

def txTorn : Tx := ⟨#[116, 111, 114, 110]⟩
def torn : Rec := ⟨1, 1073741824, [(txTorn, txTorn)], [txTorn]⟩
theorem torn_may : may torn = true := by
  unfold may mayK mayP torn
  simp [rising, kys, inn, show txTorn.size = 4 from rfl]
theorem torn_body : (body torn).length = 41 := by
  unfold body layF torn
  simp [num_length, layP, layP1, txt_length, txts_length, natss, bodyLen, nats_length, show txTorn.size = 4 from rfl]
theorem torn_gd : Gd torn := ⟨torn_may, by decide, by rw [torn_body]; omega⟩
theorem torn_len : (enc torn).length = 49 := by rw [enc_length, torn_body]

/-- the files that count: the snapshot (none, or these bytes), the log (these records, and a beginning of another) -/
structure IV (g : Nat) (bs : Option (List UInt8)) (rs : List Rec) (s : Dk.St) : Prop where
  inc : Dk.Inc s.fs
  sn : Dk.find snapB s.fs = bs.map fl
  lg : ∃ f j, Dk.find (logB g) s.fs = some f ∧ j < (enc torn).length ∧ nts f.bs = rowb rs ++ (enc torn).take j ∧ (rowb rs).length ≤ f.sy ∧ f.sy ≤ f.bs.length
section
variable {g : Nat} {bs : Option (List UInt8)} {rs : List Rec} {s s' : Dk.St}
theorem IV.of_fs (h : IV g bs rs s) (e : s'.fs = s.fs) : IV g bs rs s' := ⟨by rw [e]; exact h.inc, by rw [e]; exact h.sn, by rw [e]; exact h.lg⟩
theorem nts_takeL (f : List UInt8) (c : Nat) : nts (f.take c) = (nts f).take c := nts_take f c
theorem IV.crash (h : IV g bs rs s) (k : Int) : IV g bs rs (Dk.crash k s) := by
  unfold Dk.crash
  split
  · exact h
  · refine ⟨Dk.inc_mapv _ h.inc, ?_, ?_⟩
    · show Dk.find snapB (Dk.mapv (Dk.crF k) s.fs) = _
      rw [Dk.find_mapv, h.sn]
      cases bs with
      | none => rfl
      | some b => show some (Dk.crF k (fl b)) = some (fl b); rw [crF_fl]
    · obtain ⟨f, j, hf, hj, hb, h1, h2⟩ := h.lg
      have hl : f.bs.length = (rowb rs).length + min j (enc torn).length := by
        have := congrArg List.length hb
        rw [nts_length, List.length_append, List.length_take] at this
        exact this
      have hc : (rowb rs).length ≤ Dk.cutN k f := by unfold Dk.cutN; omega
      have hc2 := Dk.cutN_le k h2
      refine ⟨Dk.crF k f, min (Dk.cutN k f - (rowb rs).length) j, ?_, by omega, ?_, hc, ?_⟩
      · show Dk.find (logB g) (Dk.mapv (Dk.crF k) s.fs) = _
        rw [Dk.find_mapv, hf]; rfl
      · show nts (f.bs.take (Dk.cutN k f)) = _
        rw [nts_take, hb, List.take_append, List.take_of_length_le hc, List.take_take]
      · show Dk.cutN k f ≤ (f.bs.take (Dk.cutN k f)).length
        rw [List.length_take]; omega
theorem IV.tick (h : IV g bs rs s) : IV g bs rs (Dk.tick s) := by
  unfold Dk.tick
  split
  · exact h.crash _
  · split
    · exact h.of_fs rfl
    · exact h
theorem IV.del (h : IV g bs rs s) {n : Dk.Nm} (h1 : n ≠ snapB) (h2 : n ≠ logB g) : IV g bs rs { s with fs := Dk.del n s.fs } := by
  refine ⟨Dk.inc_del h.inc, ?_, ?_⟩
  · show Dk.find snapB (Dk.del n s.fs) = _
    rw [Dk.find_del_other h1.symm]; exact h.sn
  · show ∃ f j, Dk.find (logB g) (Dk.del n s.fs) = some f ∧ _
    rw [Dk.find_del_other h2.symm]; exact h.lg
theorem tick_calm (h : s.calls = -1) : Dk.tick s = s := by
  unfold Dk.tick
  rw [h, if_neg (by decide), if_neg (by decide)]
theorem tick_ref (s : Dk.St) : (Dk.tick s).ref = s.ref := by
  unfold Dk.tick Dk.crash
  split
  · split <;> rfl
  · split <;> rfl
/-- what a state is behind a step: the power on, or off -/
structure Calm (s s' : Dk.St) : Prop where
  off : s'.off = false
  ref : s'.ref = s.ref
  calm : s.calls = -1 → s'.calls = -1
theorem Calm.refl (h : s.off = false) : Calm s s := ⟨h, rfl, fun h => h⟩
theorem Calm.trans {a b c : Dk.St} (h : Calm a b) (k : Calm b c) : Calm a c := ⟨k.off, k.ref.trans h.ref, fun e => k.calm (h.calm e)⟩
theorem Calm.tick (h : (Dk.tick s).off = false) : Calm s (Dk.tick s) := ⟨h, tick_ref s, fun e => by rw [tick_calm e]; exact e⟩
/-- the power went off, armed -/
structure Down (s s' : Dk.St) : Prop where
  off : s'.off = true
  armed : s.calls ≠ -1
theorem Down.tick (h0 : s.off = false) (h : (Dk.tick s).off = true) : Down s (Dk.tick s) := ⟨h, fun e => by rw [tick_calm e, h0] at h; cases h⟩
theorem Down.after {a b c : Dk.St} (h : Calm a b) (k : Down b c) : Down a c := ⟨k.off, fun e => k.armed (h.calm e)⟩

/-- the snapshot is one, of this generation -/
def BsOk (now : Int) (g : Nat) : Option (List UInt8) → Prop
  | none => g = 0
  | some b => snOk now (nts b) = true ∧ rdG (nts b) = g
def bst (now : Int) : Option (List UInt8) → St
  | none => St.new
  | some b => rdS now (nts b)
theorem base_iv {now : Int} (h : IV g bs rs s) (h0 : s.off = false) (hb : BsOk now g bs) :
    (baseE now s = 0 ∧ Calm s (baseD s) ∧ IV g bs rs (baseD s) ∧ (baseD s).fs = s.fs ∧ baseG s = g ∧ baseS now s = bst now bs) ∨ (baseE now s = 62 ∧ Down s (baseD s) ∧ IV g bs rs (baseD s)) := by
  have hs : hasSnap s = bs.isSome := by unfold hasSnap; rw [h.sn]; cases bs <;> rfl
  cases bs with
  | none =>
    have hs' : hasSnap s = false := hs
    have hd : baseD s = s := by unfold baseD; rw [hs']; rfl
    refine .inl ⟨by unfold baseE; rw [hs']; rfl, by rw [hd]; exact Calm.refl h0, by rw [hd]; exact h, by rw [hd], ?_, ?_⟩
    · unfold baseG; rw [hs']; exact hb.symm
    · unfold baseS; rw [hs']; rfl
  | some b =>
    have hs' : hasSnap s = true := hs
    have hd : baseD s = Dk.tick s := by unfold baseD; rw [hs']; rfl
    cases ho : (Dk.tick s).off with
    | true =>
      refine .inr ⟨by unfold baseE; rw [hs', ho]; rfl, by rw [hd]; exact Down.tick h0 ho, by rw [hd]; exact h.tick⟩
    | false =>
      have hB : bsS s = nts b := by
        unfold bsS Dk.readB
        rw [ho, (tick_fs ho).1, h.sn]; rfl
      refine .inl ⟨?_, by rw [hd]; exact Calm.tick ho, by rw [hd]; exact h.tick, by rw [hd]; exact (tick_fs ho).1, ?_, ?_⟩
      · unfold baseE; rw [hs', ho, hB, hb.1]; rfl
      · unfold baseG; rw [hs', hB]; exact hb.2
      · unfold baseS; rw [hs', hB]; rfl
theorem sweep_iv : ∀ (l : List Dk.Nm) {s : Dk.St}, IV g bs rs s → s.off = false → l.Nodup → (∀ n ∈ l, n ≠ snapB → n ≠ logB g → Dk.find n s.fs ≠ none) →
    ((sweepS (logB g) l s).2 = 0 ∧ Calm s (sweepS (logB g) l s).1 ∧ IV g bs rs (sweepS (logB g) l s).1 ∧ ∀ q ∈ (sweepS (logB g) l s).1.fs, q ∈ s.fs ∧ (q.1 ∈ l → q.1 = snapB ∨ q.1 = logB g)) ∨ ((sweepS (logB g) l s).2 = 62 ∧ Down s (sweepS (logB g) l s).1 ∧ IV g bs rs (sweepS (logB g) l s).1)
  | [], s, h, h0, _, _ => .inl ⟨rfl, Calm.refl h0, h, fun q hq => ⟨hq, fun hm => by cases hm⟩⟩
  | n :: r, s, h, h0, hn, hf => by
    have hn' := List.nodup_cons.1 hn
    unfold sweepS
    by_cases e : n = snapB ∨ n = logB g
    · rw [if_pos e]
      rcases sweep_iv r h h0 hn'.2 (fun m hm => hf m (List.mem_cons_of_mem _ hm)) with ⟨a, b, c, d⟩ | hx
      · refine .inl ⟨a, b, c, fun q hq => ⟨(d q hq).1, fun hm => ?_⟩⟩
        rcases List.mem_cons.1 hm with h1 | h1
        · rw [h1]; exact e
        · exact (d q hq).2 h1
      · exact .inr hx
    · rw [if_neg e]
      have e1 : n ≠ snapB := fun x => e (.inl x)
      have e2 : n ≠ logB g := fun x => e (.inr x)
      cases ho : (Dk.tick s).off with
      | true =>
        have hc : Dk.counted s (Dk.deleteOn n) = (Dk.tick s, 62) := by unfold Dk.counted; rw [ho]; rfl
        rw [hc, if_neg (show ¬ (62 : Int) = 0 by decide)]
        exact .inr ⟨rfl, Down.tick h0 ho, h.tick⟩
      | false =>
        have hfn := hf n (by simp) e1 e2
        obtain ⟨f, hff⟩ : ∃ f, Dk.find n s.fs = some f := by
          cases hx : Dk.find n s.fs with
          | none => exact absurd hx hfn
          | some f => exact ⟨f, rfl⟩
        have hc : Dk.counted s (Dk.deleteOn n) = ({ Dk.tick s with fs := Dk.del n (Dk.tick s).fs }, 0) := by
          unfold Dk.counted
          rw [ho]
          show Dk.deleteOn n (Dk.tick s) = _
          unfold Dk.deleteOn
          exact onF_some (by rw [(tick_fs ho).1]; exact hff) _
        rw [hc, if_pos rfl]
        have hC : Calm s { Dk.tick s with fs := Dk.del n (Dk.tick s).fs } := ⟨ho, tick_ref s, (Calm.tick ho).calm⟩
        rcases sweep_iv r (h.tick.del e1 e2) ho hn'.2 (fun m hm h1 h2 => by
            show Dk.find m (Dk.del n (Dk.tick s).fs) ≠ none
            rw [Dk.find_del_other (show m ≠ n from fun x => hn'.1 (by rw [← x]; exact hm)), (tick_fs ho).1]
            exact hf m (List.mem_cons_of_mem _ hm) h1 h2) with ⟨a, b, c, d⟩ | ⟨a, b, c⟩
        · refine .inl ⟨a, hC.trans b, c, fun q hq => ?_⟩
          have hd := d q hq
          have hm := Dk.mem_del.1 hd.1
          rw [(tick_fs ho).1] at hm
          refine ⟨hm.1, fun hx => ?_⟩
          rcases List.mem_cons.1 hx with h1 | h1
          · exact absurd h1 hm.2
          · exact hd.2 h1
        · exact .inr ⟨a, Down.after hC b, c⟩
/-- the log, opened -/
theorem wal_iv (h : IV g bs rs s) (h0 : s.off = false) (hg : Gds rs) :
    (∃ s', Opn (logB g) s s' 0 (rowb rs).length rs ∧ Calm s s' ∧ IV g bs rs s' ∧ bsOf (logB g) s' = rb rs ∧ ∀ q ∈ s'.fs, q.1 = logB g ∨ q ∈ s.fs) ∨ (∃ s', Opn (logB g) s s' 62 0 [] ∧ Down s s' ∧ IV g bs rs s') := by
  cases ho : (Dk.tick s).off with
  | true =>
    have hE : Dk.readE (logB g) (Dk.tick s) = 62 := by unfold Dk.readE; rw [ho]; rfl
    refine .inr ⟨Dk.tick s, ?_, Down.tick h0 ho, h.tick⟩
    have := Opn.err (n := logB g) (s := s) (by rw [hE]; decide) (by rw [hE]; decide)
    rw [hE] at this
    exact this
  | false =>
    have hfs := (tick_fs ho).1
    obtain ⟨f, j, hf, hj, hb, h1, h2⟩ := h.tick.lg
    have hE : Dk.readE (logB g) (Dk.tick s) = 0 := by unfold Dk.readE; rw [ho]; simp only [Bool.false_eq_true, if_false]; rw [hf]
    have hB : Dk.readB (logB g) (Dk.tick s) = f.bs := by unfold Dk.readB; rw [ho]; simp only [Bool.false_eq_true, if_false]; rw [hf]
    have hsc : Sc (nts (Dk.readB (logB g) (Dk.tick s))) rs (rowb rs).length := by rw [hB, hb]; exact sc_row hg (torn_ne torn_gd hj)
    have hl : f.bs.length = (rowb rs).length + min j (enc torn).length := by
      have := congrArg List.length hb
      rw [nts_length, List.length_append, List.length_take] at this
      exact this
    by_cases hj0 : j = 0
    · refine .inl ⟨Dk.tick s, Opn.whole hE hsc (by rw [hB]; omega), Calm.tick ho, h.tick, ?_, fun q hq => .inr (by rw [hfs] at hq; exact hq)⟩
      unfold bsOf
      rw [hf]
      show f.bs = rb rs
      apply nts_inj
      rw [hb, hj0, rb_nts]; simp
    · have hk : (rowb rs).length < (Dk.readB (logB g) (Dk.tick s)).length := by rw [hB]; omega
      cases ho2 : (Dk.tick (Dk.tick s)).off with
      | true =>
        have hc : Dk.counted (Dk.tick s) (Dk.cutOn (logB g) ((rowb rs).length : Nat)) = (Dk.tick (Dk.tick s), 62) := by unfold Dk.counted; rw [ho2]; rfl
        refine .inr ⟨_, ?_, Down.after (Calm.tick ho) (Down.tick ho ho2), h.tick.tick⟩
        have := Opn.fail (n := logB g) (s := s) hE hsc hk (by rw [hc]; show (62 : Int) ≠ 0; decide)
        rw [hc] at this
        exact this
      | false =>
        have hf2 : Dk.find (logB g) (Dk.tick (Dk.tick s)).fs = some f := by rw [(tick_fs ho2).1]; exact hf
        have hc : Dk.counted (Dk.tick s) (Dk.cutOn (logB g) ((rowb rs).length : Nat)) = ({ Dk.tick (Dk.tick s) with fs := Dk.put (logB g) ⟨f.bs.take (rowb rs).length, min f.sy (rowb rs).length⟩ (Dk.tick (Dk.tick s)).fs }, 0) := by
          unfold Dk.counted
          rw [ho2]
          show Dk.cutOn (logB g) _ (Dk.tick (Dk.tick s)) = _
          unfold Dk.cutOn
          rw [onF_some hf2, if_neg (by omega)]
          simp
        have hIV : IV g bs rs { Dk.tick (Dk.tick s) with fs := Dk.put (logB g) ⟨f.bs.take (rowb rs).length, min f.sy (rowb rs).length⟩ (Dk.tick (Dk.tick s)).fs } := by
          refine ⟨Dk.inc_put h.tick.tick.inc, ?_, ⟨_, 0, Dk.find_put_same _, by omega, ?_, ?_, ?_⟩⟩
          · show Dk.find snapB (Dk.put (logB g) _ (Dk.tick (Dk.tick s)).fs) = _
            rw [Dk.find_put_other (log_ne g).symm]; exact h.tick.tick.sn
          · show nts (f.bs.take (rowb rs).length) = _
            rw [nts_take, hb]; simp
          · show (rowb rs).length ≤ min f.sy (rowb rs).length
            omega
          · show min f.sy (rowb rs).length ≤ (f.bs.take (rowb rs).length).length
            rw [List.length_take]; omega
        refine .inl ⟨{ Dk.tick (Dk.tick s) with fs := Dk.put (logB g) ⟨f.bs.take (rowb rs).length, min f.sy (rowb rs).length⟩ (Dk.tick (Dk.tick s)).fs }, ?_, ⟨ho2, by show (Dk.tick (Dk.tick s)).ref = _; rw [tick_ref, tick_ref], ((Calm.tick ho).trans (Calm.tick ho2)).calm⟩, hIV, ?_, fun q hq => ?_⟩
        · have := Opn.cut (n := logB g) (s := s) hE hsc hk (by rw [hc])
          rw [hc] at this
          exact this
        · unfold bsOf
          rw [show Dk.find (logB g) (Dk.put (logB g) ⟨f.bs.take (rowb rs).length, min f.sy (rowb rs).length⟩ (Dk.tick (Dk.tick s)).fs) = _ from Dk.find_put_same _]
          show f.bs.take (rowb rs).length = rb rs
          apply nts_inj
          rw [nts_take, hb, rb_nts]; simp
        · rcases Dk.mem_put.1 hq with h' | h'
          · exact .inl (by rw [h'])
          · exact .inr (by have := h'.1; rw [(tick_fs ho2).1, hfs] at this; exact this)
end

/-- what Open makes of such a disk -/
structure Good (now : Int) (g : Nat) (bs : Option (List UInt8)) (rs : List Rec) (s s' : Dk.St) : Prop where
  boot : Boot now s s' 0 g (redoS now (bst now bs) rs) (rowb rs).length
  calm : Calm s s'
  iv : IV g bs rs s'
  log : bsOf (logB g) s' = rb rs
  clean : ∀ q ∈ s'.fs, q.1 = snapB ∨ q.1 = logB g
structure Bad (now : Int) (g : Nat) (bs : Option (List UInt8)) (rs : List Rec) (s s' : Dk.St) : Prop where
  boot : Boot now s s' 62 0 St.new 0
  down : Down s s'
  iv : IV g bs rs s'
theorem boot_iv {now : Int} {g : Nat} {bs : Option (List UInt8)} {rs : List Rec} {s : Dk.St} (h : IV g bs rs s) (h0 : s.off = false) (hb : BsOk now g bs) (hg : Gds rs) : (∃ s', Good now g bs rs s s') ∨ ∃ s', Bad now g bs rs s s' := by
  cases ho : (Dk.tick s).off with
  | true => exact .inr ⟨_, Boot.list ho, Down.tick h0 ho, h.tick⟩
  | false =>
    rcases base_iv h.tick ho hb with ⟨e1, c1, i1, f1, g1, s1⟩ | ⟨e1, c1, i1⟩
    · have hn : (Dk.names (Dk.tick s).fs).Nodup := by
        have := Dk.inc_nodup h.tick.inc
        unfold Dk.names
        rw [List.Nodup, List.pairwise_map]
        exact this
      have hsw := sweep_iv (Dk.names (Dk.tick s).fs) i1 c1.off hn (fun n hn _ _ => by
        rw [f1]
        intro hx
        obtain ⟨q, hq, e⟩ := List.mem_map.1 hn
        exact Dk.find_none.1 hx q hq e)
      rw [show sweepS (logB g) (Dk.names (Dk.tick s).fs) (baseD (Dk.tick s)) = swept (Dk.tick s) by unfold swept; rw [g1]] at hsw
      rcases hsw with ⟨e2, c2, i2, d2⟩ | ⟨e2, c2, i2⟩
      · have hC := (Calm.tick ho).trans (c1.trans c2)
        rcases wal_iv i2 c2.off hg with ⟨s', o3, c3, i3, l3, d3⟩ | ⟨s', o3, c3, i3⟩
        · refine .inl ⟨s', ?_, hC.trans c3, i3, l3, fun q hq => ?_⟩
          · have := Boot.ok (now := now) ho e1 e2 (by rw [g1]; exact o3)
            rw [g1, s1] at this
            exact this
          · rcases d3 q hq with h' | h'
            · exact .inr h'
            · have hd := d2 q h'
              rw [f1] at hd
              exact hd.2 (List.mem_map.2 ⟨q, hd.1, rfl⟩)
        · exact .inr ⟨s', Boot.wal ho e1 e2 (by rw [g1]; exact o3) (by decide), Down.after hC c3, i3⟩
      · refine .inr ⟨_, ?_, Down.after ((Calm.tick ho).trans c1) c2, i2⟩
        have := Boot.sweep (now := now) ho e1 (by rw [e2]; decide)
        rw [e2] at this
        exact this
    · refine .inr ⟨_, ?_, Down.after (Calm.tick ho) c1, i1⟩
      have := Boot.base (now := now) ho (by rw [e1]; decide)
      rw [e1] at this
      exact this
/-- on a disk that is not armed -/
theorem boot_calm {now : Int} {g : Nat} {bs : Option (List UInt8)} {rs : List Rec} {s : Dk.St} (h : IV g bs rs s) (h0 : On s) (hb : BsOk now g bs) (hg : Gds rs) : ∃ s', Good now g bs rs s s' ∧ On s' := by
  rcases boot_iv h h0.off hb hg with ⟨s', hs⟩ | ⟨s', hs⟩
  · exact ⟨s', hs, hs.calm.off, hs.calm.calm h0.calls⟩
  · exact absurd h0.calls hs.down.armed
/-- how long files are, behind Open -/
theorem opn_sz {n : Dk.Nm} {s s' : Dk.St} {E : Int} {k : Nat} {rs : List Rec} (h : Opn n s s' E k rs) (hz : Sz s) : Sz s' := by
  have hcut : ∀ k : Nat, Sz (Dk.counted (Dk.tick s) (Dk.cutOn n k)).1 := fun k => by
    unfold Dk.counted
    split
    · exact hz.tick.tick
    · unfold Dk.cutOn Dk.onF
      split
      · exact hz.tick.tick
      · rename_i f hf
        dsimp only
        split
        · exact hz.tick.tick
        · intro q hq
          rcases Dk.mem_put.1 hq with h' | h'
          · rw [h']
            have := hz.tick.tick _ (Dk.find_mem hf)
            show (f.bs.take _).length ≤ szB n
            rw [List.length_take]
            simp only at this
            omega
          · exact hz.tick.tick q h'.1
  cases h with
  | gone h => exact hz.tick
  | err h h0 => exact hz.tick
  | whole h hs hk => exact hz.tick
  | cut h hs hk hc => exact hcut _
  | fail h hs hk hc => exact hcut _
theorem Boot.sz {now : Int} {s s' : Dk.St} {E : Int} {g : Nat} {st : St} {k : Nat} (h : Boot now s s' E g st k) (hz : Sz s) : Sz s' := by
  cases h with
  | list h => exact hz.tick
  | base h hb => exact hz.tick.base
  | sweep h hb hs => exact hz.tick.swept
  | wal h hb hs ho hE => exact opn_sz ho hz.tick.swept
  | ok h hb hs ho => exact opn_sz ho hz.tick.swept
end Go.Proofs.YtoijeipoblnliaaGreatDoor
