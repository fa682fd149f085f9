/- A crash: of one file, of all. What a counted call does first. -/
import Derived.Test.YtgobakfffobpkaaD1
namespace Go.Proofs.Ytgobakfffobpkaa
open Go.RowKit Dk
set_option linter.unusedVariables false
set_option linter.unusedSimpArgs false

/-- a file behind a crash -/
def crLo (k : Int) (x : Lo) : Lo := ⟨x.p, x.o, x.c, x.bs.take (cutN k x.fl), cutN k x.fl⟩
theorem crLo_fl (k : Int) (x : Lo) : (crLo k x).fl = crF k x.fl := rfl

set_option maxRecDepth 10000 in
theorem fcrash_any (w : World) (x : Lo) (k : Int) (h : FileAt w x) (hs : x.sy ≤ x.bs.length) (hk : i64 k) :
    Calls Try.prog 43 #[.pointer (some ⟨x.p, 0, none⟩), .int .i64 k] w fun e w' => e = .returned (.tuple #[]) ∧ FileAt w' (crLo k x) ∧ Keeps (fun i => i = x.p) w w' := by
  obtain ⟨p, o, c, bs, sy⟩ := x
  obtain ⟨n, hn⟩ : ∃ n, n = bs.length := ⟨_, rfl⟩
  obtain ⟨q, hq⟩ : ∃ q, q = cutN k ⟨bs, sy⟩ := ⟨_, rfl⟩
  have hcap : n ≤ c ∧ c ≤ maxLen := ⟨hn ▸ h.own.cap.1, h.own.max⟩
  have hqv : q = sy + min k.toNat (n - sy) := by rw [hq, hn]; rfl
  have c0 : w.cell? ⟨p, 0, none⟩ = some (.slice o n c) := by rw [hn]; exact cell_of_blk h.blk 0
  have c1 : w.cell? ⟨p, 1, none⟩ = some (.int .i64 ((sy : Nat) : Int)) := cell_of_blk h.blk 1
  have f0 : w.frozen? ⟨p, 0, none⟩ = false := frozen_of_blk h.blk 0
  have f1 : w.frozen? ⟨p, 1, none⟩ = false := frozen_of_blk h.blk 1
  have hs' : sy ≤ n := by rw [hn]; exact hs
  have hm : c ≤ 9223372036854775807 := by have := hcap.2; unfold maxLen at this; omega
  have hn1 : n ≤ c := hcap.1
  have k1 := hk.1
  have k2 := hk.2
  have HN : Hid (n = bs.length) := hn
  have HQ : Hid (q = cutN k ⟨bs, sy⟩) := hq
  have HQV : Hid (((sy : Nat) : Int) + min (max k 0) ((n : Int) - sy) = ((q : Nat) : Int)) := (show _ = _ by omega)
  have hqn : q ≤ n := by omega
  have HH : Hid (FileAt w ⟨p, o, c, bs, sy⟩) := h
  clear hn hq hcap hqv h hs
  have HC : Hid (crLo k ⟨p, o, c, bs, sy⟩ = ⟨p, o, c, bs.take q, q⟩) := (show _ = _ by rw [HQ.out]; rfl)
  have HQN : Hid (q ≤ bs.length) := (show _ by rw [← HN.out]; exact hqn)
  have HK : Hid (∀ m, Keeps (fun i => i = p) w (((w.drewN m).setCell ⟨p, 1, none⟩ (.int .i64 ((q : Nat) : Int))).setCell ⟨p, 0, none⟩ (.slice o q c)).drew) := (show _ from fun m => ((((Keeps.refl (fun i => i = p) w).drewN m).trans (keeps_set _ p 1 _)).trans (keeps_set _ p 0 _)).drew)
  have HF : Hid (∀ m, FileAt (((w.drewN m).setCell ⟨p, 1, none⟩ (.int .i64 ((q : Nat) : Int))).setCell ⟨p, 0, none⟩ (.slice o q c)).drew (crLo k ⟨p, o, c, bs, sy⟩)) := (show _ from fun m => by
    have hb := blk_set (w := (w.drewN m).setCell ⟨p, 1, none⟩ (.int .i64 ((q : Nat) : Int))) (blk_set (w := w.drewN m) HH.out.blk 1 (.int .i64 ((q : Nat) : Int))) 0 (.slice o q c)
    have hl : (bs.take q).length = q := by rw [List.length_take, Nat.min_eq_left HQN.out]
    rw [HC.out]
    refine ⟨hb.trans ?_, (HH.out.own.cut okB HQN.out).keeps (HK.out m) (fun i hi e => HH.out.o_p HH.out i hi e)⟩
    simp [fcells, hl])
  have hcut := cutO o n c q (by omega) HH.out.own.cap.2
  go_enter Try.func43, Try.ntmps43
  go_wp2
  go_quiet (fail)
  go_wp2
  rw [HQV.out]
  go_region_with (fail)
  all_goals go_wp2
  all_goals go_end0
  all_goals exact ⟨rfl, HF.out nq, HK.out nq⟩
theorem grown_of {w w' : World} {a : Nat} (h : Keeps (fun i => i = a) w w') : w.grownBy w' (some a) := ⟨h.os, h.tape, h.output, h.size, fun i hi hne => h.block i hi (fun e => hne (by rw [e]))⟩
theorem keeps_of_grown {w w' : World} {a : Nat} (h : w.grownBy w' (some a)) : Keeps (fun i => i = a) w w' := (Keeps.refl _ w).grown h (fun k hk => .inl (by cases hk; rfl))

/-- the loop of a crash: what is still to come, what has crashed -/
def crIf (left : Lit → Bool) (k : Int) (q : Nm × Lo) : Lo := if left (.string q.1) then q.2 else crLo k q.2
theorem crIf_p (left : Lit → Bool) (k : Int) (q : Nm × Lo) : (crIf left k q).p = q.2.p ∧ (crIf left k q).o = q.2.o := by
  unfold crIf; split <;> exact ⟨rfl, rfl⟩

/-- the entry that has come is a file that has not crashed yet -/
theorem crash_one {L : LL} {k : Int} {wr : World} {left : Lit → Bool} {x : Tx} {kl : Lit} {a : Option Addr} {y : DataW Unit × List MemPlace} (hL : Inc L) (hkey : keyOf Try.prog 9 (.string x) = some kl) (hlk : left kl = true) (hR : R70 (.pointer a) = some y) (hat : ∀ zd, (dat L).atKey kl zd = y.1) (hF : ∀ q ∈ L, FileAt wr (crIf left k q)) :
    ∃ q ∈ L, kl = .string q.1 ∧ a = some ⟨q.2.p, 0, none⟩ ∧ Hid (FileAt wr q.2) := by
  obtain rfl := key9_lit hkey
  cases hf : find x.data.toList L with
  | none =>
    have h1 := hat .nil
    have h2 := hat (.lit (.bool true))
    rw [dat_at, hf] at h1 h2
    simp only at h1 h2
    rw [← h1] at h2
    cases h2
  | some lo =>
    have h1 := hat .nil
    rw [dat_at, hf] at h1
    simp only at h1
    have hm := find_mem hf
    refine ⟨(x.data.toList, lo), hm, rfl, ?_, ?_⟩
    · rcases R70_inv hR with ⟨_, e⟩ | ⟨p, e1, e2⟩
      · rw [e] at h1; cases h1
      · rw [e2] at h1
        have h3 := congrArg (fun d : DataW Unit => match d with | .lit (.int _ z) => z | _ => 0) h1
        simp only at h3
        have hp : p = lo.p := by omega
        rw [← hp]
        injection e1
    · have := hF _ hm
      unfold crIf at this
      rw [show left (.string (x.data.toList, lo).1) = true from hlk] at this
      exact this
theorem crash_step {w wr w1 w2 : World} {p : Nat} {F : Nat → Prop} {s : St} {bm : Nat} {c : Int} {L : LL} {k : Int} {left : Lit → Bool} {cnt1 : Nat} {q : Nm × Lo} {kl : Lit} (hD : DL w p F s bm c L) (hq : q ∈ L) (hkl : kl = .string q.1) (hlk : left kl = true) (hF : ∀ q ∈ L, FileAt wr (crIf left k q)) (hK : Keeps (fun i => ∃ q ∈ L, i = q.2.p) w wr)
    (hrg1 : w1.ranges Try.prog 9 R70 bm w.heap.size L.length (dat L) (fun z => left z && !z.sameKey kl) cnt1) (hg1 : wr.grownBy w1 (some w.heap.size)) (hX2 : FileAt w2 (crLo k q.2)) (hK2 : Keeps (fun i => i = q.2.p) w1 w2) :
    ∃ (left : Lit → Bool) (cnt : Nat), w2.ranges Try.prog 9 R70 bm w.heap.size L.length (dat L) left cnt ∧ Hid (∀ q ∈ L, FileAt w2 (crIf left k q)) ∧ Hid (Keeps (fun i => ∃ q ∈ L, i = q.2.p) w w2) := by
  subst hkl
  have hlt := fun r hr => hD.lt _ (hD.ff r hr).1
  have hbm : bm ≠ q.2.p := fun e => (hD.files q hq).ne_bm hD.map e.symm
  refine ⟨_, _, hrg1.kept (grown_of hK2) (fun e => hbm (by injection e)) (fun e => by injection e with e; have := hlt q hq; omega), ?_, ?_⟩
  · intro r hr
    by_cases hrn : r.1 = q.1
    · have e : r = q := by
        have h1 := find_of_mem hD.inc (show (r.1, r.2) ∈ L from hr)
        have h2 := find_of_mem hD.inc (show (q.1, q.2) ∈ L from hq)
        rw [hrn] at h1
        rw [h1] at h2
        injection h2 with h2
        exact Prod.ext hrn h2
      subst e
      unfold crIf
      have : (left (.string r.1) && !(Lit.string r.1).sameKey (.string r.1)) = false := by simp [Lit.sameKey]
      simp only [this]
      exact hX2
    · have hap := apart_of hD.apart hr hq hrn
      have e : crIf (fun z => left z && !z.sameKey (.string q.1)) k r = crIf left k r := by
        unfold crIf
        have : (left (.string r.1) && !(Lit.string r.1).sameKey (.string q.1)) = left (.string r.1) := by simp [Lit.sameKey, hrn]
        simp only [this]
      rw [e]
      obtain ⟨e1, e2⟩ := crIf_p left k r
      have hX1 := (hF r hr).keeps (keeps_of_grown hg1) (by rw [e1]; have := hlt r hr; omega) (by rw [e2]; intro i hi e; have := hD.lt _ ((hD.ff r hr).2 i hi); omega)
      refine hX1.keeps hK2 (by rw [e1]; exact hap.1) ?_
      intro i hi e
      subst e
      rw [e2] at hi
      exact (hD.files r hr).o_p (hD.files q hq) _ hi rfl
  · have h1 : Keeps (fun i => ∃ q ∈ L, i = q.2.p) w w1 := hK.grown hg1 (fun i hi => by cases hi; exact .inr (Nat.le_refl _))
    exact h1.then hK2 (fun i e => .inl ⟨q, hq, e⟩)
theorem crash_end {w wr w' : World} {p : Nat} {F : Nat → Prop} {s : St} {bm : Nat} {c : Int} {L : LL} {k : Int} {n : Nat} (hD : DL w p F s bm c L) (hoff : s.off = false) (hK : Keeps (fun i => ∃ q ∈ L, i = q.2.p) w wr) (hF : ∀ q ∈ L, FileAt wr (crLo k q.2)) (hm : wr.ownsMap Try.prog 9 R70 bm n (dat L))
    (hks : Keeps (fun i => i = p) wr w') (hb : w'.heap[p]? = some (.cells (dcells bm true s.ref (-1) s.keep) 68 (0, 0))) : IsD w' p F (crash k s) ∧ Keeps F w w' := by
  have ec : crash k s = ⟨mapv (crF k) s.fs, true, s.ref, -1, s.keep⟩ := by unfold crash; rw [hoff]; rfl
  have hbw : wr.heap[p]? = some (.cells (dcells bm s.off s.ref c s.keep) 68 (0, 0)) := hK.at hD.blk (by rintro ⟨q, hq, e⟩; exact (hD.files q hq).ne_p hD.blk e.symm)
  have hok := crash_ok (k := k) hD.ok
  refine ⟨⟨bm, -1, mapv (crLo k) L, ?_⟩, ?_⟩
  · rw [ec] at hok ⊢
    have hmem : ∀ r ∈ mapv (crLo k) L, ∃ q ∈ L, r = (q.1, crLo k q.2) := fun r hr => by
      simp only [mapv, List.mem_map] at hr
      obtain ⟨q, hq, rfl⟩ := hr
      exact ⟨q, hq, rfl⟩
    refine ⟨hb, ?_, ?_, ?_, ?_, hD.fp, hD.fm, ?_, ?_, hok, rfl, by unfold i64; omega, hD.ki, hD.ri⟩
    · have h1 : IsM wr bm L := isM_of hm
      have h2 : IsM w' bm L := h1.keeps hks (fun e => hD.p_bm e.symm)
      refine isM_of (n := L.length) ?_
      rw [dat_mapv (crLo k) (fun _ => rfl)]
      exact h2
    · show mapv (crF k) s.fs = _
      rw [hD.fs]
      simp [mapv, crLo_fl, Function.comp_def]
    · intro r hr
      obtain ⟨q, hq, rfl⟩ := hmem r hr
      exact (hF q hq).keeps hks ((hF q hq).ne_p hbw) ((hF q hq).o_d hbw)
    · simp only [mapv, List.pairwise_map]
      exact hD.apart
    · intro r hr
      obtain ⟨q, hq, rfl⟩ := hmem r hr
      exact hD.ff q hq
    · intro i hi
      exact Nat.lt_of_lt_of_le (hD.lt i hi) (Nat.le_trans hK.size hks.size)
  · refine Keeps.trans (hK.mono ?_) (hks.mono ?_)
    · rintro i ⟨q, hq, rfl⟩
      exact (hD.ff q hq).1
    · rintro i rfl
      exact hD.fp

set_option maxRecDepth 10000 in
theorem crash_on (w : World) (p : Nat) (F : Nat → Prop) (s : St) (k : Int) (h : IsD w p F s) (hoff : s.off = false) (hk : i64 k) :
    Calls Try.prog 25 #[.pointer (some ⟨p, 0, none⟩), .int .i64 k] w fun e w' => e = .returned (.tuple #[]) ∧ IsD w' p F (crash k s) ∧ Keeps F w w' := by
  obtain ⟨bm, c, L, h⟩ := h
  have c0 : w.cell? ⟨p, 0, none⟩ = some (.map (some bm)) := cell_of_blk h.blk 0
  have c1 : w.cell? ⟨p, 1, none⟩ = some (.bool false) := by rw [← hoff]; exact cell_of_blk h.blk 1
  have c3 : w.cell? ⟨p, 3, none⟩ = some (.int .i64 c) := cell_of_blk h.blk 3
  have f1 : w.frozen? ⟨p, 1, none⟩ = false := frozen_of_blk h.blk 1
  have f3 : w.frozen? ⟨p, 3, none⟩ = false := frozen_of_blk h.blk 3
  have HD : Hid (DL w p F s bm c L) := h
  have hmap : w.ownsMap Try.prog 9 R70 bm L.length (dat L) := h.map
  have HO : Hid (s.off = false) := hoff
  have HI : Hid (i64 k) := hk
  clear h hoff hk
  go_enter Try.func25, Try.ntmps25
  go_wp2_with (first | (at_range; refine wpList_range_own _ rfl _ 66 rfl 9 70 law9 Try.underlying66 _ bm _ _ rfl hmap ?_; intro w0 hrg0 hg0 hs0) | go_in)
  go_frame
  go_loopw [5] (fun _ wr => ∃ (left : Lit → Bool) (cnt : Nat), wr.ranges Try.prog 9 R70 bm w.heap.size L.length (dat L) left cnt ∧ Hid (∀ q ∈ L, FileAt wr (crIf left k q)) ∧ Hid (Keeps (fun i => ∃ q ∈ L, i = q.2.p) w wr))
    (fun _ wr => wr.rangeLeft bm w.heap.size)
  case atStart =>
    refine ⟨_, _, hrg0, ?_, (Keeps.refl _ w).grown hg0 (fun k hk => by cases hk)⟩
    intro q hq
    have : Maps.has (dat L) (.string q.1) = true := by rw [dat_has, find_of_mem HD.out.inc (show (q.1, q.2) ∈ L from hq)]; rfl
    unfold crIf
    rw [this]
    exact (HD.out.files q hq).keeps ((Keeps.refl no w).grown hg0 (fun k hk => by cases hk)) (fun h => h) (fun _ _ h => h)
  case round =>
    obtain ⟨left, cnt, hrg, HF, HK⟩ := hrel
    have hbw : wr.heap[p]? = some (.cells (dcells bm s.off s.ref c s.keep) 68 (0, 0)) := HK.out.at HD.out.blk (by rintro ⟨q, hq, e⟩; exact (HD.out.files q hq).ne_p HD.out.blk e.symm)
    have HB : Hid (wr.heap[p]? = some (.cells (dcells bm s.off s.ref c s.keep) 68 (0, 0))) := hbw
    have d1 : wr.cell? ⟨p, 1, none⟩ = some (.bool s.off) := cell_of_blk hbw 1
    have d3 : wr.cell? ⟨p, 3, none⟩ = some (.int .i64 c) := cell_of_blk hbw 3
    have g1 : wr.frozen? ⟨p, 1, none⟩ = false := frozen_of_blk hbw 1
    have g3 : wr.frozen? ⟨p, 3, none⟩ = false := frozen_of_blk hbw 3
    clear hbw
    go_wp2_with (first | (at_next; refine wpList_next_ranges _ rfl _ rfl 9 law9 R70 Value.string Value.pointer key9_inv R70_shape bm w.heap.size L.length _ _ _ rfl hrg ?_ ?_) | go_in)
    · intro _ hl0
      go_wp2
      go_end0
      have hks := (keeps_set wr p 1 (.bool true)).trans (keeps_set _ p 3 (.int .i64 (-1)))
      have hfin := crash_end HD.out HO.out HK.out (fun q hq => by have := HF.out q hq; unfold crIf at this; rw [hl0] at this; exact this) hrg.owns hks (blk_set (blk_set HB.out 1 (.bool true)) 3 (.int .i64 (-1)))
      exact ⟨rfl, hfin⟩
    · intro x a kl y yp w1 cnt1 hkey hlk hR hat hrg1 hlt hg1 hs1 hen
      obtain ⟨q, hqL, hqn, rfl, HX⟩ := crash_one (k := k) HD.out.inc hkey hlk hR hat HF.out
      have HQ : Hid (q ∈ L ∧ kl = .string q.1) := ⟨hqL, hqn⟩
      have hne : w.heap.size ≠ q.2.p := fun e => by have := HD.out.lt _ (HD.out.ff q hqL).1; omega
      have HX1 : Hid (FileAt w1 q.2) := (show _ from HX.out.keeps (keeps_of_grown hg1) hne.symm (fun i hi e => by have := HD.out.lt _ ((HD.out.ff q hqL).2 i hi); omega))
      have hsy : q.2.sy ≤ q.2.bs.length := HD.out.ok.sy (q.1, q.2.fl) (by rw [HD.out.fs]; exact List.mem_map.2 ⟨q, hqL, rfl⟩)
      clear hqL hqn hkey hR hat HB d1 d3 g1 g3
      go_wp2_with (go_at_call 43; refine (fcrash_any _ q.2 k HX1.out hsy HI.out).mono ?_; rintro e w2 ⟨rfl, HX2, HK2⟩)
      go_roundw
      case rel => exact crash_step HD.out HQ.out.1 HQ.out.2 hlk HF.out HK.out hrg1 hg1 HX2 HK2
      case measure => rw [(hrg1.kept (grown_of HK2) (fun e => (HD.out.files q HQ.out.1).ne_bm HD.out.map (by injection e with e; exact e.symm)) (fun e => hne (by injection e))).left_eq, hrg.left_eq]; exact hlt

theorem crash_any (w : World) (p : Nat) (F : Nat → Prop) (s : St) (k : Int) (h : IsD w p F s) (hk : i64 k) :
    Calls Try.prog 25 #[.pointer (some ⟨p, 0, none⟩), .int .i64 k] w fun e w' => e = .returned (.tuple #[]) ∧ IsD w' p F (crash k s) ∧ Keeps F w w' := by
  cases hoff : s.off with
  | false => exact crash_on w p F s k h hoff hk
  | true =>
    have h0 := h
    obtain ⟨bm, c, L, h⟩ := h
    have c1 : w.cell? ⟨p, 1, none⟩ = some (.bool true) := by rw [← hoff]; exact cell_of_blk h.blk 1
    have e : crash k s = s := by unfold crash; rw [hoff]; rfl
    rw [e]
    clear e
    go_enter Try.func25, Try.ntmps25
    go_wp2
    refine bodyPost_ret (results_none rfl _ _ _) rfl ?_
    exact ⟨rfl, h0, Keeps.refl _ _⟩

/-! ### what a counted call does first -/
theorem counts_any (w : World) (p : Nat) (F : Nat → Prop) (s : St) (h : IsD w p F s) :
    Calls Try.prog 36 #[.pointer (some ⟨p, 0, none⟩)] w fun e w' => e = .returned (.bool (!(tick s).off)) ∧ IsD w' p F (tick s) ∧ Keeps F w w' := by
  obtain ⟨bm, c, L, hd⟩ := h
  have c1 : w.cell? ⟨p, 1, none⟩ = some (.bool s.off) := cell_of_blk hd.blk 1
  have c3 : w.cell? ⟨p, 3, none⟩ = some (.int .i64 c) := cell_of_blk hd.blk 3
  have c4 : w.cell? ⟨p, 4, none⟩ = some (.int .i64 s.keep) := cell_of_blk hd.blk 4
  have f3 : w.frozen? ⟨p, 3, none⟩ = false := frozen_of_blk hd.blk 3
  have HD : Hid (DL w p F s bm c L) := hd
  have hc1 := hd.ci.1
  have hc2 := hd.ci.2
  have HCC : Hid (max c (-1) = s.calls) := hd.cc
  have HKI : Hid (i64 s.keep) := hd.ki
  by_cases h0 : c = 0
  · have et : tick s = crash s.keep s := by
      unfold tick; rw [if_pos (by have := HCC.out; omega)]
    rw [et]
    have HIS : Hid (IsD w p F s) := ⟨bm, c, L, hd⟩
    subst h0
    clear hd et
    go_enter Try.func36, Try.ntmps36
    go_wp2_with (go_at_call 25; refine (crash_any _ p F s s.keep HIS.out HKI.out).mono ?_; rintro e w1 ⟨rfl, ⟨bm1, cc1, L1, hd1⟩, HK⟩; have d1 := cell_of_blk hd1.blk 1; simp only [dcells] at d1)
    go_ret
    exact ⟨rfl, ⟨bm1, cc1, L1, hd1⟩, HK⟩
  · by_cases h1 : 0 < c
    · have et : tick s = { s with calls := s.calls - 1 } := by
        unfold tick; rw [if_neg (by have := HCC.out; omega), if_pos (by have := HCC.out; omega)]
      rw [et]
      clear hd et
      go_enter Try.func36, Try.ntmps36
      go_wp2
      go_ret
      have hks := keeps_set w p 3 (.int .i64 (c - 1))
      have := HCC.out
      refine ⟨rfl, ⟨bm, c - 1, L, HD.out.cells hks (blk_set HD.out.blk 3 _) rfl ?_ ?_ ⟨by omega, by omega⟩ HD.out.ki HD.out.ri⟩, hks.mono (fun i e => by subst e; exact HD.out.fp)⟩
      · exact ⟨HD.out.ok.inc, HD.out.ok.len, HD.out.ok.sy, HD.out.ok.nm, by simp; omega⟩
      · simp; omega
    · have et : tick s = s := by
        unfold tick; rw [if_neg (by have := HCC.out; omega), if_neg (by have := HCC.out; omega)]
      rw [et]
      clear hd et
      go_enter Try.func36, Try.ntmps36
      go_wp2
      go_ret
      exact ⟨rfl, ⟨bm, c, L, HD.out⟩, Keeps.refl _ _⟩
end Go.Proofs.Ytgobakfffobpkaa
