import Derived.Test.YtagekdmkidbhpaaC8
import Derived.Laws.IdiomRangeMap
/- Commit. -/
namespace Go.Proofs.Ytagekdmkidbhpaa
open Go.RowKit Go.Maps
set_option linter.unusedVariables false
set_option linter.unusedSimpArgs false
def upB (s : St) (i : Nat) (k : Tx) : Bool := (s.V (k, i)).isSome && decide (s.last k < i)
def stamped (now : Int) (v : Vr) : Vr := if v.stamp = -1 then v.at now else v
/-- D: the keys that have been gone through -/
def comD (s : St) (i : Nat) (now : Int) (D : Tx → Bool) : St := ⟨fun m => if (D m.1 && upB s i m.1) = true ∧ m.2 < i then (s.V m).map (stamped now) else s.V m, fun k => if (D k && upB s i k) = true then i else s.last k⟩
def commitS (s : St) (i : Nat) (now : Int) : St := comD s i now (fun _ => true)
theorem comD_congr {s : St} {i : Nat} {now : Int} {D D' : Tx → Bool} (h : ∀ k, upB s i k = true → D k = D' k) : comD s i now D = comD s i now D' := by
  have e : ∀ k, (D k && upB s i k) = (D' k && upB s i k) := fun k => by
    cases hu : upB s i k with
    | false => simp
    | true => rw [h k hu]
  refine st_ext (fun m => ?_) (fun k => ?_)
  · simp only [comD, e]
  · simp only [comD, e]
theorem comD_none {s : St} {i : Nat} {now : Int} {D : Tx → Bool} (h : ∀ k, upB s i k = true → D k = false) : comD s i now D = s := by
  refine st_ext (fun m => ?_) (fun k => ?_)
  · simp only [comD]
    cases hu : upB s i m.1 with
    | false => simp
    | true => simp [h m.1 hu]
  · simp only [comD]
    cases hu : upB s i k with
    | false => simp
    | true => simp [h k hu]
theorem comD_raise {s : St} {i : Nat} {now : Int} {D : Tx → Bool} {k : Tx} (hD : D k = false) (hu : upB s i k = true) : raiseS (comD s i now D) k i now = comD s i now (fun z => D z || decide (z = k)) := by
  refine st_ext (fun m => ?_) (fun z => ?_)
  · obtain ⟨a, j⟩ := m
    simp only [raiseS, comD]
    by_cases ea : a = k
    · subst ea
      simp [hD, hu]
      rfl
    · simp [ea]
  · simp only [raiseS, comD]
    by_cases ez : z = k
    · subst ez; simp [hu]
    · simp [ez]
theorem comD_skip {s : St} {i : Nat} {now : Int} {D : Tx → Bool} {k : Tx} (hu : upB s i k = false) : comD s i now D = comD s i now (fun z => D z || decide (z = k)) :=
  comD_congr fun z hz => by
    have : z ≠ k := fun e => by rw [e, hu] at hz; cases hz
    simp [this]
theorem commit_bad (w : World) (r : Value) (i : Nat) (now : Int) (hi : i < 18446744073709551616) (hbad : (decide (65536 ≤ i) && tickB now) = false) :
    Calls Try.prog 16 #[r, .int .u64 ((i : Nat) : Int), .int .i64 now] w fun e w' => e = .returned (.tuple #[.int .i64 0, .int .i64 1]) ∧ w' = w := by
  have h1 := isWrite_any w i hi
  have h2 := isTick_any w now
  cases e1 : decide (65536 ≤ i) with
  | false =>
    rw [e1] at h1
    clear hbad hi h2 e1
    go_enter Try.func16, Try.ntmps16
    go_wp2_with fail
    refine h1.mono ?_
    rintro e w1 ⟨rfl, hw⟩
    subst w1
    go_wp2_with fail
    go_ret2
    exact ⟨rfl, rfl⟩
  | true =>
    rw [e1] at h1 hbad
    have e2 : tickB now = false := by simpa using hbad
    rw [e2] at h2
    clear hbad hi e1 e2
    go_enter Try.func16, Try.ntmps16
    go_wp2_with fail
    refine h1.mono ?_
    rintro e w1 ⟨rfl, hw⟩
    subst w1
    go_wp2_with fail
    refine h2.mono ?_
    rintro e w1 ⟨rfl, hw⟩
    subst w1
    go_wp2_with fail
    go_ret2
    exact ⟨rfl, rfl⟩
/-- where Commit's loop stands -/
structure CI (W : World) (p : Nat) (T : Nat → Option Ro) (s : St) (N : Nat) (i : Nat) (now : Int) (sb r : Nat) (l : List Tx) (lf : Tx → Bool) (wr : World) : Prop where
  is : IsS wr p T (comD s i now (fun z => !lf z)) N
  rg : Rng KT vvU wr sb r (setL l) lf
  kp : Keeps (Mut T) W wr
def CountOf (s : St) (i n : Nat) : Prop := ∃ l : List Tx, n = l.length ∧ l.Nodup ∧ ∀ k, k ∈ l ↔ s.V (k, i) ≠ none
theorem comD_iff {s : St} {i : Nat} {now : Int} {D : Tx → Bool} (m : Mk) : (comD s i now D).V m ≠ none ↔ s.V m ≠ none := by
  simp only [comD]
  split
  · simp
  · rfl
set_option maxRecDepth 10000 in
set_option maxHeartbeats 2000000 in
theorem commit_good (w : World) (p : Nat) (T : Nat → Option Ro) (s : St) (N : Nat) (i : Nat) (now : Int) (h : IsS w p T s N) (hok : Ok s) (hi : i < 18446744073709551616) (hi2 : 65536 ≤ i) (ht : tickB now = true) (hN : N ≤ 2000000000000) :
    Calls Try.prog 16 #[.pointer (some ⟨p, 0, none⟩), .int .u64 ((i : Nat) : Int), .int .i64 now] w fun e w' => ∃ n : Nat, e = .returned (.tuple #[.int .i64 ((n : Nat) : Int), .int .i64 0]) ∧ Hid (CountOf s i n) ∧ IsS w' p T (commitS s i now) N ∧ Keeps (Mut T) w w' := by
  have h1 := isWrite_any w i hi
  have h2 := isTick_any w now
  rw [show decide (65536 ≤ i) = true by simpa using hi2] at h1
  rw [ht] at h2
  have hnow : 0 ≤ now := by simp [tickB] at ht; exact ht.1
  obtain ⟨y, hy⟩ := h
  have c2 := hy.c2
  have HH : Hid (SL w p T s N y ∧ Ok s ∧ i < 18446744073709551616 ∧ 65536 ≤ i ∧ 0 ≤ now ∧ N ≤ 2000000000000) := ⟨hy, hok, hi, hi2, hnow, hN⟩
  have HHAS : Hid (∀ X s', IsS X p T s' N → (∀ m, s'.V m ≠ none ↔ s.V m ≠ none) → Calls Try.prog 19 #[.pointer (some ⟨p, 0, none⟩), .int .u64 ((i : Nat) : Int)] X fun e w' => (∃ n : Nat, e = .returned (.int .i64 ((n : Nat) : Int)) ∧ Hid (CountOf s i n)) ∧ w' = X) := by
    intro X s' hX hs
    refine (hasN_any X p T s' N i hX hi).mono ?_
    rintro e w' ⟨⟨n, he, l, h1, h2, h3⟩, hw⟩
    exact ⟨⟨n, he, l, h1, h2, fun k => (h3 k).trans (hs _)⟩, hw⟩
  cases hf : fnd i y.W with
  | none =>
    have hl := lookW_none hy.mw hi hf
    have hnone : ∀ k, upB s i k = false := fun k => by
      unfold upB
      cases hv : s.V (k, i) with
      | none => rfl
      | some v =>
        obtain ⟨q, hq, _⟩ := (hy.sw i k).1 (by rw [hv]; simp)
        rw [hf] at hq; cases hq
    have HE : Hid (commitS s i now = s) := comD_none (fun k hk => by rw [hnone k] at hk; cases hk)
    have hrn := fun w => run_range_nilMap (P := Try.prog) w 92 9 113 Try.underlying92
    have hnn := fun w ty a b s => run_next_nilMap (P := Try.prog) w ty a b s
    clear hf hy hok hi hi2 ht hN hnow hnone
    go_enter Try.func16, Try.ntmps16
    go_wp2_with fail
    refine h1.mono ?_
    rintro e w1 ⟨rfl, hw⟩
    subst w1
    go_wp2_with fail
    refine h2.mono ?_
    rintro e w1 ⟨rfl, hw⟩
    subst w1
    go_wp2_with fail
    have HI : Hid (IsS (w.alloc (.mapIter none 0 #[] 0)) p T s N) := (show _ from ⟨y, HH.out.1.keeps ((Keeps.refl no w).alloc _) (fun _ _ => id)⟩)
    go_loopw [8] (fun _ wr => wr = w.alloc (.mapIter none 0 #[] 0)) (fun _ _ => 0)
    case atStart => rfl
    case round =>
      subst hrel
      have hhas := HHAS.out _ s HI.out (fun _ => Iff.rfl)
      go_wp2_with fail
      refine hhas.mono ?_
      rintro e w2 ⟨⟨n, rfl, hn⟩, hw⟩
      subst w2
      go_wp2_with fail
      go_ret2
      refine ⟨n, rfl, hn, ?_, (Keeps.refl _ w).alloc _⟩
      rw [HE.out]
      exact HI.out
  | some q =>
    obtain ⟨sb, l⟩ := q
    have hl := lookW_some hy.mw hi hf
    simp only at hl
    have hset := hy.set _ (fnd_mem hf)
    simp only at hset
    have htsb := hy.tst _ (fnd_mem hf)
    simp only at htsb
    have HSET : Hid (IsMp KT vvU w sb (setL l) ∧ T sb = some (.st i) ∧ ∀ k, k ∈ l ↔ s.V (k, i) ≠ none) := ⟨hset, htsb, fun k => by rw [hy.sw i k, hf]; simp⟩
    have hmap := hset
    clear hf hy hok hi hi2 ht hN hnow hset htsb
    go_enter Try.func16, Try.ntmps16
    go_wp2_with fail
    refine h1.mono ?_
    rintro e w1 ⟨rfl, hw⟩
    subst w1
    go_wp2_with fail
    refine h2.mono ?_
    rintro e w1 ⟨rfl, hw⟩
    subst w1
    go_wp2_with (first | (at_range; refine wpList_mrange rfl _ 92 rfl KT lawT vvU 113 Try.underlying92 sb (setL l) rfl hmap ?_; intro w0 hrg0 hk0 hs0) | go_in)
    go_frame
    have H0 : Hid (CI w p T s N i now sb w.heap.size l (fun k => (fnd k (setL l)).isSome) w0) := by
      refine ⟨?_, hrg0, hk0.of_no⟩
      have e : comD s i now (fun z => !(fnd z (setL l)).isSome) = s := comD_none (fun k hk => by
        have : k ∈ l := (HSET.out.2.2 k).2 (by unfold upB at hk; intro e; rw [e] at hk; cases hk)
        rw [fnd_setL_some this]; rfl)
      rw [e]
      exact ⟨y, HH.out.1.keeps hk0 (fun _ _ => id)⟩
    obtain ⟨r, hr⟩ : ∃ r, r = w.heap.size := ⟨_, rfl⟩
    rw [← hr] at H0 ⊢
    have HR : Hid (r = w.heap.size) := hr
    clear hrg0 hk0 hs0 hl hr hmap h1 h2
    go_loopw [8] (fun _ wr => ∃ lf : Tx → Bool, Hid (CI w p T s N i now sb r l lf wr)) (fun _ wr => wr.rangeLeft sb r)
    case atStart => exact ⟨_, H0⟩
    case round =>
      clear H0
      obtain ⟨lf, HC⟩ := hrel
      have hrg := HC.out.rg
      go_wp2_with (first | (at_next; refine wpList_mnext rfl _ rfl KT lawT vvU sb r (setL l) lf rfl hrg ?_ ?_) | go_in)
      · intro hdone
        have HE : Hid (IsS wr p T (commitS s i now) N ∧ Keeps (Mut T) w wr) := by
          refine ⟨?_, HC.out.kp⟩
          have e : comD s i now (fun z => !lf z) = commitS s i now := comD_congr fun k hk => by
            have hv : s.V (k, i) ≠ none := by unfold upB at hk; intro e; rw [e] at hk; cases hk
            have := hdone k (HH.out.1.okM hv).1
            simp [this]
          rw [← e]; exact HC.out.is
        have hhas := HHAS.out wr _ HE.out.1 (fun m => comD_iff m)
        clear hdone hrg
        go_wp2_with fail
        refine hhas.mono ?_
        rintro e w2 ⟨⟨n, rfl, hn⟩, hw⟩
        subst w2
        go_wp2_with fail
        go_ret2
        exact ⟨n, rfl, hn, HE.out⟩
      · intro k u w1 hok hlf hfk hrg1 hlt hk1 hs1 hen
        change (Instr.entry (.pointer (some ⟨r, 0, none⟩))).run Try.prog w1 = .ok (.tuple #[.string k, .agg #[]]) w1 at hen
        have hkl : k ∈ l := by
          have := fnd_mem hfk
          simp [setL] at this
          exact this
        have hv := (HSET.out.2.2 k).1 hkl
        obtain ⟨v, hv⟩ : ∃ v, s.V (k, i) = some v := by
          cases e : s.V (k, i) with
          | none => exact absurd e hv
          | some v => exact ⟨v, rfl⟩
        have his : IsS w1 p T (comD s i now (fun z => !lf z)) N := HC.out.is.keeps hk1 (fun b hb e => by
          have e' : b = r := e
          have h1 := HH.out.1.lt b hb
          have h2 := HR.out
          omega)
        obtain ⟨y1, hy1⟩ := his
        have hlast : (comD s i now (fun z => !lf z)).last k = s.last k := by simp [comD, hlf]
        obtain ⟨x, hx⟩ := hy1.hv k i ((comD_iff _).2 (by rw [hv]; simp))
        have hsl := hy1.sl k
        rw [hlast] at hsl
        simp only [lastOf, hx] at hsl
        have c1 := hy1.c1
        have hlk := lookL_some hy1.ml hok hx
        have d0 : w1.cell? ⟨x.p, 0, none⟩ = some (.int .u64 ((s.last k : Nat) : Int)) := by rw [hsl]; exact cell_of_blk (hy1.line _ (fnd_mem hx)).blk 0
        have K1 : Hid (IsS w1 p T (comD s i now (fun z => !lf z)) N ∧ Rng KT vvU w1 sb r (setL l) (fun z => lf z && !decide (z = k)) ∧ w1.rangeLeft sb r < wr.rangeLeft sb r ∧ Keeps (Mut T) w w1 ∧ s.V (k, i) = some v ∧ lf k = true) := ⟨⟨y1, hy1⟩, hrg1, hlt, HC.out.kp.then hk1 (fun b hb => .inr (by have : b = r := hb; have := HR.out; omega)), hv, hlf⟩
        have hlf2 : (fun z => !(lf z && !decide (z = k))) = (fun z => (!lf z) || decide (z = k)) := by
          funext z
          by_cases e : z = k <;> simp [e]
        have HLF : Hid ((fun z => !(lf z && !decide (z = k))) = (fun z => (!lf z) || decide (z = k))) := hlf2
        clear hrg hok hlf hfk hrg1 hlt hk1 hs1 hkl hv hy1 hlast hx hsl hlf2
        by_cases hup : s.last k < i
        · have hup' : ((s.last k : Nat) : Int) < i := by omega
          have hst : v.stamp = -1 := (HH.out.2.1.st (k, i) v K1.out.2.2.2.2.1).2 (by simp only; omega)
          have hubt : upB s i k = true := by unfold upB; rw [K1.out.2.2.2.2.1]; simp [hup]
          have hra := raise_any w1 p T _ N k i now v K1.out.1 (by simp [comD, K1.out.2.2.2.2.1, K1.out.2.2.2.2.2]) hst HH.out.2.2.2.2.1 HH.out.2.2.2.2.2
          rw [comD_raise (by simp [K1.out.2.2.2.2.2]) hubt] at hra
          clear hst hubt hup
          go_wp2_with fail
          refine hra.mono ?_
          rintro e w2 ⟨rfl, hi2, hk2⟩
          have hnr : ∀ b, (b = sb ∨ b = r) → ¬ RaT T k b := fun b hb hc => by
            rcases hb with e | e
            · rw [e] at hc
              have := HSET.out.2.1
              rcases hc with hc | hc | hc <;> rw [this] at hc <;> cases hc
            · have := HH.out.1.lt b hc.ne
              have := HR.out
              omega
          have HE : Hid (CI w p T s N i now sb r l (fun z => lf z && !decide (z = k)) w2 ∧ w2.rangeLeft sb r < wr.rangeLeft sb r) := by
            refine ⟨⟨by rw [HLF.out]; exact hi2, K1.out.2.1.keeps hk2 (hnr sb (.inl rfl)) (hnr r (.inr rfl)), K1.out.2.2.2.1.trans (hk2.mono fun b hb => hb.mut)⟩, ?_⟩
            rw [K1.out.2.1.left_keeps hk2 (hnr sb (.inl rfl)) (hnr r (.inr rfl))]
            exact K1.out.2.2.1
          clear hi2 hk2 hnr hra
          go_wp2_with fail
          go_roundw
          case rel => exact ⟨_, HE.out.1⟩
          case measure => exact HE.out.2
        · have hup' : ¬ ((s.last k : Nat) : Int) < i := by omega
          have HE : Hid (CI w p T s N i now sb r l (fun z => lf z && !decide (z = k)) w1) := by
            refine ⟨?_, K1.out.2.1, K1.out.2.2.2.1⟩
            rw [HLF.out, ← comD_skip (by unfold upB; simp [hup])]
            exact K1.out.1
          clear hup
          go_wp2_with fail
          go_roundw
          case rel => exact ⟨_, HE⟩
          case measure => exact K1.out.2.2.1
end Go.Proofs.Ytagekdmkidbhpaa
