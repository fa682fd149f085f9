import Derived.Test.YtdemoghlibnooaaGreatDoorXB
/- boot: Open. -/
namespace Go.Proofs.YtdemoghlibnooaaGreatDoor
open Go.RowKit Go.Maps Go.Sort Orl Pk
set_option linter.unusedVariables false
set_option linter.unusedSimpArgs false

theorem results_tmp4 {fn : Func} {t u v x : Tmp} (h : fn.results = #[.tmp t, .tmp u, .tmp v, .tmp x]) (tmps : Array Value) (P : Program) (w : World) :
    (results fn tmps).run P w = .ok (.tuple #[tmps.getD t undef, tmps.getD u undef, tmps.getD v undef, tmps.getD x undef]) w := by
  simp [results, h]
/-! ### how long files are -/
def szB (n : Dk.Nm) : Nat := if n.head? = some 108 then 33554432 else 8000000000
def Sz (s : Dk.St) : Prop := ∀ q ∈ s.fs, q.2.bs.length ≤ szB q.1
theorem szB_snap : szB snapB = 8000000000 := if_neg (by decide)
theorem szB_log (g : Int) : szB (logB g) = 33554432 := if_pos (by rw [logB_eq]; rfl)
theorem Sz.crash {s : Dk.St} (h : Sz s) (k : Int) : Sz (Dk.crash k s) := by
  unfold Dk.crash
  split
  · exact h
  · intro q hq
    obtain ⟨x, hx, rfl⟩ := List.mem_map.1 hq
    have := h x hx
    show (x.2.bs.take _).length ≤ szB x.1
    rw [List.length_take]; omega
theorem Sz.tick {s : Dk.St} (h : Sz s) : Sz (Dk.tick s) := by
  unfold Dk.tick
  split
  · exact h.crash _
  · split
    · exact h
    · exact h
theorem Sz.del {s : Dk.St} (h : Sz s) (n : Dk.Nm) : Sz (Dk.counted s (Dk.deleteOn n)).1 := by
  unfold Dk.counted
  split
  · exact h.tick
  · unfold Dk.deleteOn Dk.onF
    split
    · exact h.tick
    · intro q hq
      exact h.tick q (Dk.mem_del.1 hq).1
theorem Sz.read {s : Dk.St} (h : Sz s) (n : Dk.Nm) : (Dk.readB n s).length ≤ szB n := by
  unfold Dk.readB
  split
  · simp
  · split
    · simp
    · rename_i f hf
      exact h _ (Dk.find_mem hf)
theorem Sz.sweep (g : Dk.Nm) : ∀ (l : List Dk.Nm) {s : Dk.St}, Sz s → Sz (sweepS g l s).1
  | [], s, h => h
  | n :: r, s, h => by
    unfold sweepS
    split
    · exact Sz.sweep g r h
    · split
      · exact Sz.sweep g r (h.del n)
      · exact h.del n
theorem Sz.base {t : Dk.St} (h : Sz t) : Sz (baseD t) := by
  unfold baseD
  split
  · exact h.tick
  · exact h
theorem Sz.swept {t : Dk.St} (h : Sz t) : Sz (swept t).1 := Sz.sweep _ _ h.base
theorem baseG_le {now : Int} {t : Dk.St} (h : baseE now t = 0) : baseG t ≤ 9223372036854775807 := by
  unfold baseE at h
  unfold baseG
  split
  · rename_i hs
    rw [if_pos hs] at h
    split at h
    · cases h
    · split at h
      · rename_i hk
        unfold snOk rdOk bodyOk headOk genOk at hk
        simp only [Bool.and_eq_true, decide_eq_true_eq] at hk
        exact hk.2.1.1.2.2
      · cases h
  · omega
/-- the records that a log tells -/
theorem opn_recs {n : Dk.Nm} {s s' : Dk.St} {E : Int} {k : Nat} {rs : List Rec} (h : Opn n s s' E k rs) : (∀ r ∈ rs, may r = true ∧ r.id < 18446744073709551616) ∧ prs rs ≤ (Dk.readB n (Dk.tick s)).length := by
  cases h with
  | gone h => exact ⟨(fun r hr => by cases hr), by simp [prs]⟩
  | err h h0 => exact ⟨(fun r hr => by cases hr), by simp [prs]⟩
  | whole h hs hk =>
    have := hs.1.all (nts_lt _)
    have l := (hs.1.le (nts_lt _)).1
    rw [nts_length] at l
    exact ⟨this.1, by omega⟩
  | cut h hs hk hc =>
    have := hs.1.all (nts_lt _)
    have l := (hs.1.le (nts_lt _)).1
    rw [nts_length] at l
    exact ⟨this.1, by omega⟩
  | fail h hs hk hc => exact ⟨(fun r hr => by cases hr), by simp [prs]⟩

/-- no more versions than the snapshot's and the log's -/
def NvB (s : Dk.St) (N : Nat) : Prop := ∀ s2 k2 rs2, Opn (logB (baseG (Dk.tick s))) (swept (Dk.tick s)).1 s2 0 k2 rs2 → N ≤ baseN (Dk.tick s) + prs rs2
def NoBoot (w : World) (p : Nat) (F : Nat → Prop) (s : Dk.St) (now : Int) (e : Ending) (w' : World) : Prop :=
  ∃ (s' : Dk.St) (E : Int), e = .returned (.tuple #[.pointer none, .pointer none, .int .i64 0, .int .i64 E]) ∧ Hid (Boot now s s' E 0 St.new 0) ∧ E ≠ 0 ∧ Hid (IsD w' p F s' ∧ Keeps F w w')
def ABoot (w : World) (p : Nat) (F : Nat → Prop) (s : Dk.St) (now : Int) (e : Ending) (w' : World) : Prop :=
  ∃ (s' : Dk.St) (g : Nat) (st : St) (k q l : Nat), e = .returned (.tuple #[.pointer (some ⟨q, 0, none⟩), .pointer (some ⟨l, 0, none⟩), .int .i64 (g : Nat), .int .i64 0]) ∧ Hid (Boot now s s' 0 g st k) ∧ Hid (IsL w' l p (logN g) k ∧ w.heap.size ≤ l) ∧ Hid (∃ N, N ≤ 440000000 ∧ NvB s N ∧ Sto w.heap.size w' q st N (fun b => b = l)) ∧ Hid (IsD w' p F s' ∧ Keeps F w w')
def BootTo (w : World) (p : Nat) (F : Nat → Prop) (s : Dk.St) (now : Int) (e : Ending) (w' : World) : Prop := NoBoot w p F s now e w' ∨ ABoot w p F s now e w'

theorem Scn.blocks {w w' : World} {o : Option Addr} {c : Nat} {vs : List CV} {rs : List Rec} (h : Scn w w' o c vs rs) : ∀ b, RsP o vs b → w.heap.size ≤ b ∧ b < w'.heap.size := by
  rintro b (hb | ⟨v, hv, hb⟩)
  · exact ⟨h.new b hb, h.own.lt b hb⟩
  · obtain ⟨j, hj, rfl⟩ := List.mem_iff_getElem.1 hv
    have hg := h.each j (by rw [← h.len]; exact hj)
    have e : vs.getD j cv0 = vs[j] := by simp [List.getD, hj]
    rw [e] at hg
    exact ⟨hg.ge b hb, hg.lt b hb⟩

theorem open_arg (w : World) (d : Option Addr) (now : Int) (h : d = none ∨ tickB now = false) :
    Calls Tryz.prog 13 #[.pointer d, .int .i64 now] w fun e w' => e = .returned (.tuple #[.pointer none, .pointer none, .int .i64 0, .int .i64 1]) ∧ w' = w := by
  cases d with
  | none =>
    go_enter Tryz.func13, Tryz.ntmps13
    go_wp2
    (try simp only [Exit.inBlock, Exit.then]); refine bodyPost_ret (results_tmp4 rfl _ _ _) rfl ?_
    exact ⟨rfl, rfl⟩
  | some d =>
    have h1 : tickB now = false := by rcases h with h | h; cases h; exact h
    unfold tickB at h1
    rw [decide_eq_false_iff_not] at h1
    clear h
    by_cases h2 : now < 0
    · go_enter Tryz.func13, Tryz.ntmps13
      go_wp2
      (try simp only [Exit.inBlock, Exit.then]); refine bodyPost_ret (results_tmp4 rfl _ _ _) rfl ?_
      exact ⟨rfl, rfl⟩
    · have h3 : 1099511627776 < now := by omega
      clear h1
      go_enter Tryz.func13, Tryz.ntmps13
      go_wp2
      (try simp only [Exit.inBlock, Exit.then]); refine bodyPost_ret (results_tmp4 rfl _ _ _) rfl ?_
      exact ⟨rfl, rfl⟩

set_option maxRecDepth 10000 in
theorem boot_any (w : World) (p : Nat) (F : Nat → Prop) (s : Dk.St) (h : IsD w p F s) (now : Int) (hnow : tickB now = true) (ht : Tabs w) (h0 : ¬ F 2) (h1 : ¬ F 1) (hz : Sz s) :
    Calls Tryz.prog 13 #[.pointer (some ⟨p, 0, none⟩), .int .i64 now] w (BootTo w p F s now) := by
  have n1 : ¬ now < 0 := by unfold tickB at hnow; rw [decide_eq_true_eq] at hnow; omega
  have n2 : ¬ 1099511627776 < now := by unfold tickB at hnow; rw [decide_eq_true_eq] at hnow; omega
  have HW : Hid (IsD w p F s ∧ tickB now = true ∧ Tabs w ∧ ¬ F 2 ∧ ¬ F 1 ∧ Sz s) := ⟨h, hnow, ht, h0, h1, hz⟩
  clear h hnow ht h0 h1 hz
  obtain ⟨t, htt⟩ : ∃ t, t = Dk.tick s := ⟨_, rfl⟩
  have HT : Hid (t = Dk.tick s) := htt
  have hL := list_any w p F s HW.out.1
  rw [← htt] at hL
  clear htt
  cases hoff : t.off with
  | true =>
    rw [show Dk.listE t = 62 by unfold Dk.listE; rw [hoff]; rfl] at hL
    go_enter Tryz.func13, Tryz.ntmps13
    go_wp2_with (go_at_call 18; refine hL.mono ?_; rintro e w1 ⟨o1, c1, m1, rfl, H1⟩)
    (try simp only [Exit.inBlock, Exit.then]); refine bodyPost_ret (results_tmp4 rfl _ _ _) rfl ?_
    refine .inl ⟨t, 62, rfl, ?_, by decide, H1.2.2.2.1, H1.2.2.2.2⟩
    have := Boot.list (now := now) (s := s) (by rw [← HT.out]; exact hoff)
    rw [← HT.out] at this
    exact this
  | false =>
    rw [show Dk.listE t = 0 by unfold Dk.listE; rw [hoff]; rfl, show Dk.listN t = Dk.names t.fs by unfold Dk.listN; rw [hoff]; rfl] at hL
    have hOn : Hid (t.off = false) := hoff
    clear hoff
    go_enter Tryz.func13, Tryz.ntmps13
    go_wp2_with (go_at_call 18; refine hL.mono ?_; rintro e w1 ⟨o1, c1, m1, rfl, hm1, H1'⟩; have H1 : Hid (Own TE w1 o1 c1 ((Dk.names t.fs).map mkT) ∧ New w o1 ∧ IsD w1 p F t ∧ Keeps F w w1) := H1'; clear H1')
    clear hL
    have hFw : Hid (∀ b, F b → b < w.heap.size) := HW.out.1.lt
    have hm : Hid (m1 = (Dk.names t.fs).length) := hm1.out
    have hSz : Hid (Sz t) := by rw [HT.out]; exact HW.out.2.2.2.2.2.tick
    have hT1 : Hid (Tabs w1) := HW.out.2.2.1.keeps H1.out.2.2.2 HW.out.2.2.2.1 HW.out.2.2.2.2.1
    have hs1 : Hid (w.heap.size ≤ w1.heap.size) := H1.out.2.2.2.size
    have h16 : m1 ≤ 16 := by have := H1.out.2.2.1.ok.len; rw [hm.out]; unfold Dk.names; rw [List.length_map]; exact this
    clear hm1
    refine (base_any w1 p F t H1.out.2.2.1 o1 m1 c1 hm.out H1.out.1.sl now HW.out.2.1 hT1.out.crc HW.out.2.2.2.1 (by have := hSz.out.tick.read snapB; rw [szB_snap] at this; exact this)).mono ?_
    rintro e w2 (⟨hE, rfl, H2⟩ | ⟨hE, q, rfl, H2⟩)
    · have HE : Hid (baseE now t ≠ 0) := hE
      have HB : Hid (Boot now s (baseD t) (baseE now t) 0 St.new 0) := by
        have := Boot.base (now := now) (s := s) (by rw [← HT.out]; exact hOn.out) (by rw [← HT.out]; exact HE.out)
        rw [← HT.out] at this
        exact this
      generalize baseE now t = E at *
      have hE' : ¬ E = 0 := HE.out
      go_wp2
      (try simp only [Exit.inBlock, Exit.then]); refine bodyPost_ret (results_tmp4 rfl _ _ _) rfl ?_
      exact .inl ⟨_, _, rfl, HB, HE.out, H2.out.1, H1.out.2.2.2.trans H2.out.2⟩
    · have HE : Hid (baseE now t = 0) := hE
      clear hE
      obtain ⟨N, H2'⟩ := H2.out
      have HNv : Hid (N ≤ baseN t) := H2'.2.1
      have H3 : Hid (N ≤ 400000000 ∧ Sto w1.heap.size w2 q (baseS now t) N no ∧ IsD w2 p F (baseD t) ∧ Keeps F w1 w2) := ⟨H2'.1, H2'.2.2⟩
      clear H2 H2'
      obtain ⟨g, hg⟩ : ∃ g, g = baseG t := ⟨_, rfl⟩
      have HG : Hid (g = baseG t) := hg
      rw [← hg]
      have hg1 : (g : Int) ≤ 9223372036854775807 := by have := baseG_le HE.out; omega
      clear hg
      have hT2 : Hid (Tabs w2) := hT1.out.keeps H3.out.2.2.2 HW.out.2.2.2.1 HW.out.2.2.2.2.1
      have hsl2 : Hid (Sl TE w2 o1 c1 ((Dk.names t.fs).map mkT) ∧ (∀ b, inO o1 b → ¬ F b)) := by
        have hx : ∀ b, inO o1 b → ¬ F b := fun b hb hF => by have := hFw.out b hF; have := H1.out.2.1 b hb; omega
        exact ⟨H1.out.1.sl.keeps H3.out.2.2.2 hx, hx⟩
      go_wp2_with (go_at_call 49; refine (log_any w2 hT2.out.pow (g : Int) (by omega) hg1).mono ?_; rintro e w3 ⟨rfl, hk3⟩)
      have hgood : Hid (∀ x ∈ Dk.names t.fs, Dk.good x = true) := fun x hx => by
        obtain ⟨y, hy, rfl⟩ := List.mem_map.1 hx
        exact H1.out.2.2.1.ok.nm y hy
      have hsw := sweep_any w3 p F (baseD t) (H3.out.2.2.1.keepsN hk3) o1 m1 c1 (Dk.names t.fs) hgood.out hm.out h16 (hsl2.out.1.keepsN hk3) hsl2.out.2 (logB g)
      rw [mkT_log, show sweepS (logB g) (Dk.names t.fs) (baseD t) = swept t by unfold swept; rw [HG.out]] at hsw
      have K3 : Hid (Keeps no w2 w3) := hk3
      clear hk3
      refine hsw.mono ?_
      rintro e w4 ⟨rfl, H4⟩
      clear hsw
      by_cases hse : (swept t).2 = 0
      · rw [hse]
        have hSE : Hid ((swept t).2 = 0) := hse
        clear hse
        have hT4 : Hid (Tabs w4) := (hT2.out.keepsN K3.out).keeps H4.out.2 HW.out.2.2.2.1 HW.out.2.2.2.2.1
        go_wp2_with (go_at_call 49; refine (log_any w4 hT4.out.pow (g : Int) (by omega) hg1).mono ?_; rintro e w5 ⟨rfl, hk5⟩)
        have K5 : Hid (Keeps no w4 w5) := hk5
        clear hk5
        have hS5 : Hid (Sto w1.heap.size w5 q (baseS now t) N no) := by
          have a := H3.out.2.1.other K3.out (fun b hb => hb.elim)
          have b := (a.sub (Q := no) (fun b hb => hb.elim)).other H4.out.2 (fun b hb => .inl (by have := hFw.out b hb; have := hs1.out; omega))
          have c := (b.sub (Q := no) (fun b hb => hb.elim)).other K5.out (fun b hb => hb.elim)
          exact c.sub (fun b hb => hb.elim)
        have hop := Open_any w5 p F (swept t).1 (logN g) (H4.out.1.keepsN K5.out) (Nat.le_trans (logN_size (by omega) hg1) (by decide)) (hT4.out.crc.keepsN K5.out) HW.out.2.2.2.1 (by have := hSz.out.swept.tick.read (logB g); rw [szB_log] at this; exact Nat.le_trans this (by decide))
        refine hop.mono ?_
        clear hop
        have hK5 : Hid (Keeps F w w5) := H1.out.2.2.2.trans (H3.out.2.2.2.trans (K3.out.of_no.trans (H4.out.2.trans K5.out.of_no)))
        rintro e w6 (⟨s6, E, rfl, hO6, hE6, hi6, hk6⟩ | ⟨s6, l, o6, m6, c6, k6, vs, rs, rfl, hO6, hm6, hL6, hS6, hkb, hmb, hi6, hk6⟩)
        · have HB : Hid (Boot now s s6 E 0 St.new 0) := by
            refine Boot.wal (by rw [← HT.out]; exact hOn.out) (by rw [← HT.out]; exact HE.out) (by rw [← HT.out]; exact hSE.out) ?_ hE6
            rw [← HT.out, ← HG.out]
            exact hO6.out
          have HE6 : Hid (E ≠ 0) := hE6
          go_wp2
          (try simp only [Exit.inBlock, Exit.then]); refine bodyPost_ret (results_tmp4 rfl _ _ _) rfl ?_
          exact .inl ⟨_, _, rfl, HB, HE6.out, hi6.out, hK5.out.trans hk6.out⟩
        · have hrec : Hid ((∀ r ∈ rs, may r = true ∧ r.id < 18446744073709551616) ∧ prs rs ≤ 33554432) := by
            have := opn_recs hO6.out
            have h2 := hSz.out.swept.tick.read (logB g)
            rw [szB_log] at h2
            exact ⟨this.1, Nat.le_trans this.2 h2⟩
          have hS6' : Hid (Sto w1.heap.size w6 q (baseS now t) N (fun b => w5.heap.size ≤ b ∧ b < w6.heap.size)) := by
            have a := hS5.out.other hk6.out (fun b hb => .inl (by have := hFw.out b hb; have := hs1.out; omega))
            exact a.sub (fun b hb => .inr hb)
          have hre := redo_any hS6'.out o6 m6 c6 vs rs hm6.out hmb hS6.out.rsIn (fun b hb => hS6.out.blocks b hb) (fun r hr => (hrec.out.1 r hr).1) now HW.out.2.1 (by have := hrec.out.2; have := H3.out.1; omega)
          have HB : Hid (Boot now s s6 0 g (redoS now (baseS now t) rs) k6) := by
            have := Boot.ok (now := now) (s := s) (s' := s6) (k := k6) (rs := rs) (by rw [← HT.out]; exact hOn.out) (by rw [← HT.out]; exact HE.out) (by rw [← HT.out]; exact hSE.out) (by rw [← HT.out, ← HG.out]; exact hO6.out)
            rw [← HT.out, ← HG.out] at this
            exact this
          have hll : Hid (l < w6.heap.size ∧ w5.heap.size ≤ l ∧ w.heap.size ≤ w5.heap.size) := ⟨lt_of_block hL6.out.1.blk, hL6.out.2, hK5.out.size⟩
          go_wp2_with (go_at_call 54; refine hre.mono ?_; rintro e w7 ⟨rfl, H7⟩)
          (try simp only [Exit.inBlock, Exit.then]); refine bodyPost_ret (results_tmp4 rfl _ _ _) rfl ?_
          have hk7 : Keeps F w w7 := (hK5.out.trans hk6.out).then H7.out.2 (fun b hb => .inr (by have := hb.1; have := hs1.out; omega))
          refine .inr ⟨s6, g, _, k6, q, l, rfl, HB, ⟨hL6.out.1.keeps H7.out.2 (fun hb => hb.2 ⟨hll.out.2.1, hll.out.1⟩), by have := hll.out; omega⟩, ⟨N + prs rs, by have := hrec.out.2; have := H3.out.1; omega, ?_, ?_⟩, hi6.out.keeps H7.out.2 (fun b hb hs => by have := hFw.out b hb; have := hs.1; have := hs1.out; omega), hk7⟩
          · intro s2 k2 rs2 h2
            rw [← HT.out, ← HG.out] at h2
            obtain ⟨_, _, _, e⟩ := hO6.out.one h2
            rw [← HT.out, ← e]
            have := HNv.out
            omega
          obtain ⟨T, hTi, hTo, hTB, hTP⟩ := H7.out.1
          exact ⟨T, hTi, hTo, fun b hb => by have := hTB b hb; have := hs1.out; omega, fun b hb => by subst hb; exact ⟨(hTP _ ⟨hll.out.2.1, hll.out.1⟩).1, (hTP _ ⟨hll.out.2.1, hll.out.1⟩).2⟩⟩
      · have hSE : Hid ((swept t).2 ≠ 0) := hse
        have HB : Hid (Boot now s (swept t).1 (swept t).2 0 St.new 0) := by
          have := Boot.sweep (now := now) (s := s) (by rw [← HT.out]; exact hOn.out) (by rw [← HT.out]; exact HE.out) (by rw [← HT.out]; exact hSE.out)
          rw [← HT.out] at this
          exact this
        generalize swept t = R at *
        obtain ⟨R1, R2⟩ := R
        simp only at hse HB hSE H4 ⊢
        go_wp2
        (try simp only [Exit.inBlock, Exit.then]); refine bodyPost_ret (results_tmp4 rfl _ _ _) rfl ?_
        exact .inl ⟨_, _, rfl, HB, hSE.out, H4.out.1, H1.out.2.2.2.trans (H3.out.2.2.2.trans (K3.out.of_no.trans H4.out.2))⟩
end Go.Proofs.YtdemoghlibnooaaGreatDoor
