/- alive. -/
import Derived.Test.YtghnhkhhpeoheaaGreatW3
namespace Go.Proofs.YtghnhkhhpeoheaaGreat
open Go.RowKit Go.Sort Orl
set_option linter.unusedVariables false
set_option linter.unusedSimpArgs false

def alP : List Pr := [(⟨#[97]⟩, ⟨#[49]⟩)]
theorem al_good : GoodP alP := by
  refine ⟨by decide, fun p hp => ?_, by simp [alP, kys]⟩
  rcases List.mem_cons.1 hp with rfl | hp
  · exact ⟨by decide, by decide⟩
  · cases hp
def s0A : WS := startS 65539 alP 1
theorem s0A_wf : WfS s0A := start_wf (by decide) (by decide) (by decide) (by decide) (by decide) (by decide)
theorem s0A_len : s0A.ps.length = 1 := by
  have h1 : s0A.ps.length ≤ 1 := prt_len 1 Prod.fst (nrm alP) 1
  have h2 := s0A_wf.pos
  omega
theorem s0A_part : (s0A.ps.getD 0 pp0).1 = 0 := by
  have h := prt_mem 1 Prod.fst (nrm alP) 1 (s0A.ps.getD 0 pp0) (getD_mem_lt pp0 (by show 0 < s0A.ps.length; rw [s0A_len]; omega))
  omega
def s1A : WS := askS s0A 7
def s2A : WS := askS s1A 8
theorem s1A_wf : WfS s1A := s0A_wf.ask 7 (by show 0 ≤ 1; omega)
theorem s2A_wf : WfS s2A := s1A_wf.ask 8 (by show 1 ≤ 1; omega)
theorem begin_A : beginS s0A 7 = ⟨s1A, askedS s1A, 8⟩ := by
  unfold beginS
  rw [if_pos ⟨rfl, rfl⟩]
  show (⟨askS s0A 7, askedS (askS s0A 7), numS s0A 7⟩ : Out) = _
  unfold numS
  rw [s0A_len]
  rfl
theorem q_A (s : WS) (hs : s.ps = s0A.ps) (hi : s.id = 65539) : (qAt s 0).part = 0 ∧ (qAt s 0).client = 3 ∧ (qAt s 0).id = 65539 ∧ (qAt s 0).req = w64 s.req ∧ (qAt s 0).kind = if s.round = 1 then 1 else 2 := by
  refine ⟨?_, ?_, hi, rfl, rfl⟩
  · show (((s.ps.getD 0 pp0).1 : Nat) : Int) = 0
    rw [hs, s0A_part]; rfl
  · show ((s.id % 65536 : Nat) : Int) = 3
    rw [hi]; rfl
theorem recv_A1 : recvS s1A 8 0 5 7 65539 = ⟨s2A, askedS s2A, 9⟩ := by
  have h := recv_ord s1A_wf (by show ¬ 1 = 0; omega) rfl (i := 0) (by show 0 < s0A.ps.length; rw [s0A_len]; omega) 8
  obtain ⟨h1, h2, h3, h4, h5⟩ := q_A s1A rfl rfl
  have hk : ansK (qAt s1A 0) = 5 := by unfold ansK; rw [h5]; rfl
  rw [← show s1A = ordS s1A 0 from ask_ord s0A 7, hk, h1, h3, h4] at h
  have hl : s1A.ps.length = 1 := s0A_len
  rw [if_pos (by rw [hl]), if_neg (by show ¬ 1 = 2; omega)] at h
  have h7 : w64 s1A.req = 7 := rfl
  rw [h7] at h
  rw [h]
  show (⟨askS s1A 8, askedS (askS s1A 8), numS s1A 8⟩ : Out) = _
  unfold numS
  rw [hl]
  rfl
theorem recv_A2 : (recvS s2A 9 0 6 8 65539).s.ended = 1 ∧ (recvS s2A 9 0 6 8 65539).s.id = 65539 := by
  have h := recv_ord s2A_wf (by show ¬ 2 = 0; omega) rfl (i := 0) (by show 0 < s0A.ps.length; rw [s0A_len]; omega) 9
  obtain ⟨h1, h2, h3, h4, h5⟩ := q_A s2A rfl rfl
  have hk : ansK (qAt s2A 0) = 6 := by unfold ansK; rw [h5]; rfl
  rw [← show s2A = ordS s2A 0 from ask_ord s1A 8, hk, h1, h3, h4] at h
  have hl : s2A.ps.length = 1 := s0A_len
  rw [if_pos (by rw [hl]), if_pos (show s2A.round = 2 from rfl)] at h
  have h7 : w64 s2A.req = 8 := rfl
  rw [h7] at h
  rw [h]
  exact ⟨rfl, rfl⟩
/-- the first question's cells -/
theorem Tq.first {w : World} {o : Option Addr} {c : Nat} {rs : List RQ} {qs : List Qn} (h : Tq w o c rs qs) (hl : 0 < qs.length) : ∃ b, o = some ⟨b, 0, none⟩ ∧ w.cell? ⟨b, 1, none⟩ = some (.int .i64 (qs.getD 0 q0).kind) ∧ w.cell? ⟨b, 2, none⟩ = some (.int .i64 (qs.getD 0 q0).client) ∧ w.cell? ⟨b, 3, none⟩ = some (.int .u64 ((qs.getD 0 q0).req : Nat)) := by
  obtain ⟨b, off, e, h9⟩ := h.own.sl.atQ (j := 0) (by rw [h.len]; exact hl)
  have hoff : off = 0 := by
    rcases h.own.shape with ⟨e', _⟩ | ⟨g, cur, e', _⟩
    · rw [e'] at e; cases e
    · rw [e'] at e; cases e; rfl
  subst hoff
  have hq := h.each 0 hl
  have c1 := h9.c1
  have c2 := h9.c2
  have c3 := h9.c3
  rw [hq.kind] at c1
  rw [hq.client] at c2
  rw [hq.req] at c3
  simp only [Nat.zero_add, Nat.zero_mul] at c1 c2 c3
  exact ⟨b, e, c1, c2, c3⟩
set_option maxRecDepth 10000 in
set_option maxHeartbeats 2000000 in
theorem alive_any (w : World) : Calls Tryz.prog 4 #[] w fun e w' => e = .returned (.bool true) ∧ Keeps no w w' := by
  obtain ⟨cp, hcp⟩ : ∃ cp, cp = w.heap.size := ⟨_, rfl⟩
  obtain ⟨wb, hwb⟩ : ∃ wb, wb = (w.alloc (.cells #[.int .u64 ((7 : Nat) : Int)] 28)).alloc (.cells #[.string ⟨#[97]⟩, .string ⟨#[49]⟩] 61) := ⟨_, rfl⟩
  have HB : Hid (IsCt wb cp 7 ∧ Sl PE wb (some ⟨w.heap.size + 1, 0, none⟩) 1 alP ∧ Keeps no w wb) := by
    subst hwb
    refine ⟨?_, ?_, ((Keeps.refl no w).alloc _).alloc _⟩
    · rw [hcp]; exact blk_alloc (blk_new w _) _
    · have h := own_oneP (w.alloc (.cells #[.int .u64 ((7 : Nat) : Int)] 28)) ⟨#[97]⟩ ⟨#[49]⟩
      have e : (w.alloc (.cells #[.int .u64 ((7 : Nat) : Int)] 28)).heap.size = w.heap.size + 1 := by simp
      rw [e] at h
      exact h
  have HNW : Hid (Calls Tryz.prog 7 #[.slice (some ⟨w.heap.size + 1, 0, none⟩) 1 1, .int .u64 65539, .int .i64 1, .func (.func 5) #[.pointer (some ⟨w.heap.size, 0, none⟩)] #[]] wb (NewTo wb alP 65539 1 cp)) := by
    have h := wNew_any wb _ 1 1 alP 65539 1 cp rfl (by decide) (fun p hp => by have := al_good.size p hp; unfold maxLen; omega) HB.out.2.1 (by decide) (by decide)
    unfold fnC at h
    rw [hcp] at h ⊢
    exact h
  have HCP : Hid (cp = w.heap.size) := hcp
  rw [hwb] at HNW
  have HWB : Hid (wb = (w.alloc (.cells #[.int .u64 ((7 : Nat) : Int)] 28)).alloc (.cells #[.string ⟨#[97]⟩, .string ⟨#[49]⟩] 61)) := hwb
  clear hcp hwb
  go_enter Tryz.func4, Tryz.ntmps4
  go_wp2_with fail
  refine Calls.mono HNW.out ?_
  intro e w1 hnt
  rw [← HWB.out] at hnt
  obtain ⟨p, F, rfl, hi, hF, hk1⟩ := hnt.2.2 ⟨by decide, by decide, by decide⟩ (al_good.val (by decide))
  have HW1 : Hid (Wc w w1 p cp s0A 7 F) := by
    have hlt := lt_of_block HB.out.1
    refine ⟨hi, s0A_wf, HB.out.1.keeps hk1 (fun h => h), by decide, fun h => ?_, ?_, HB.out.2.2.trans hk1⟩
    · have := hF cp h; omega
    · rintro i (h | rfl)
      · exact Nat.le_trans HB.out.2.2.size (hF i h)
      · exact Nat.le_of_eq HCP.out.symm
  clear hnt hi hF hk1 HNW HB HWB
  have HBG : Hid (Calls Tryz.prog 10 #[.pointer (some ⟨p, 0, none⟩)] w1 (TellTo w1 p cp F ⟨s1A, askedS s1A, 8⟩)) := by
    have h := wBegin_any w1 p cp F _ 7 HW1.out.is HW1.out.wf HW1.out.ct HW1.out.lt HW1.out.cF
    rw [begin_A] at h
    exact h
  go_wp2_with fail
  refine Calls.mono HBG.out ?_
  rintro e w2 ⟨o2, n2, c2, rs, G, rfl, ht⟩
  have HW2 : Hid (Wc w w2 p cp s1A 8 G) := HW1.out.tell ht s1A_wf (by decide)
  have hn2 : n2 = 1 := by rw [ht.n]; show (askedS s1A).length = 1; rw [asked_len]; exact s0A_len
  subst n2
  obtain ⟨b2, rfl, x1, x2, x3⟩ := ht.tq.first (by show 0 < (askedS s1A).length; rw [asked_len]; have := s0A_len; show 0 < s0A.ps.length; omega)
  obtain ⟨g1, g2, g3, g4, g5⟩ := q_A s1A rfl rfl
  have hq : ((⟨s1A, askedS s1A, 8⟩ : Out).told).getD 0 q0 = qAt s1A 0 := asked_at s1A (by show 0 < s0A.ps.length; rw [s0A_len]; omega)
  rw [hq, g5] at x1
  rw [hq, g2] at x2
  rw [hq, g4] at x3
  have y1 : w2.cell? ⟨b2, 1, none⟩ = some (.int .i64 1) := x1
  have y3 : w2.cell? ⟨b2, 3, none⟩ = some (.int .u64 7) := x3
  have HRS : Hid (Calls Tryz.prog 20 #[.pointer (some ⟨p, 0, none⟩)] w2 fun e w' => e = .returned (.int .i64 0) ∧ Keeps no w2 w') := wResult_any w2 p cp G s1A HW2.out.is HW2.out.wf
  clear ht hq g1 g2 g3 g4 g5 x1 x3 HBG HW1
  go_wp2_with fail
  refine Calls.mono HRS.out ?_
  rintro e w3 ⟨rfl, hk3⟩
  have HW3 : Hid (Wc w w3 p cp s1A 8 G) := HW2.out.keepsN hk3
  clear hk3 HRS HW2 x2 y1 y3
  have HRC : Hid (Calls Tryz.prog 13 #[.pointer (some ⟨p, 0, none⟩), .int .i64 0, .agg #[.int .i64 5, .int .i64 0, .int .u64 7, .int .u64 65539, .slice none 0 0, .slice none 0 0, .slice none 0 0, .slice none 0 0]] w3 (TellTo w3 p cp G ⟨s2A, askedS s2A, 9⟩)) := by
    have h := wRecv_any w3 p cp G s1A 8 0 5 0 7 65539 none none none none 0 0 0 0 0 0 0 0 HW3.out.is HW3.out.wf HW3.out.ct HW3.out.lt HW3.out.cF (by decide) (by decide)
    rw [recv_A1] at h
    exact h
  go_wp2_with fail
  refine Calls.mono HRC.out ?_
  rintro e w4 ⟨o4, n4, c4, rs4, G4, rfl, ht⟩
  have HW4 : Hid (Wc w w4 p cp s2A 9 G4) := HW3.out.tell ht s2A_wf (by decide)
  have hn4 : n4 = 1 := by rw [ht.n]; show (askedS s2A).length = 1; rw [asked_len]; exact s0A_len
  subst n4
  obtain ⟨b4, rfl, x1, x2, x3⟩ := ht.tq.first (by show 0 < (askedS s2A).length; rw [asked_len]; have := s0A_len; show 0 < s0A.ps.length; omega)
  obtain ⟨g1, g2, g3, g4, g5⟩ := q_A s2A rfl rfl
  have hq : ((⟨s2A, askedS s2A, 9⟩ : Out).told).getD 0 q0 = qAt s2A 0 := asked_at s2A (by show 0 < s0A.ps.length; rw [s0A_len]; omega)
  rw [hq, g5] at x1
  rw [hq, g4] at x3
  have y1 : w4.cell? ⟨b4, 1, none⟩ = some (.int .i64 2) := x1
  have y3 : w4.cell? ⟨b4, 3, none⟩ = some (.int .u64 8) := x3
  have HR2 : Hid (Calls Tryz.prog 13 #[.pointer (some ⟨p, 0, none⟩), .int .i64 0, .agg #[.int .i64 6, .int .i64 0, .int .u64 8, .int .u64 65539, .slice none 0 0, .slice none 0 0, .slice none 0 0, .slice none 0 0]] w4 (TellTo w4 p cp G4 (recvS s2A 9 0 6 8 65539))) := wRecv_any w4 p cp G4 s2A 9 0 6 0 8 65539 none none none none 0 0 0 0 0 0 0 0 HW4.out.is HW4.out.wf HW4.out.ct HW4.out.lt HW4.out.cF (by decide) (by decide)
  clear ht hq g1 g2 g3 g4 g5 x1 x2 x3 HRC HW3
  go_wp2_with fail
  refine Calls.mono HR2.out ?_
  rintro e w5 ⟨o5, n5, c5, rs5, G5, rfl, ht⟩
  have HW5 : Hid (Wc w w5 p cp (recvS s2A 9 0 6 8 65539).s (recvS s2A 9 0 6 8 65539).m G5) := HW4.out.tell ht (s2A_wf.recv 9 0 6 8 65539).1 (recv_m s2A 9 0 6 8 65539 (by decide))
  have HRS : Hid (Calls Tryz.prog 20 #[.pointer (some ⟨p, 0, none⟩)] w5 fun e w' => e = .returned (.int .i64 1) ∧ Keeps no w5 w') := by
    have h := wResult_any w5 p cp G5 _ HW5.out.is HW5.out.wf
    rw [recv_A2.1] at h
    exact h
  have HID : Hid (∀ X, Keeps no w5 X → Calls Tryz.prog 22 #[.pointer (some ⟨p, 0, none⟩)] X fun e w' => e = .returned (.int .u64 65539) ∧ Keeps no X w') := fun X hX => by
    have h := wID_any X p cp G5 _ (HW5.out.keepsN hX).is HW5.out.wf
    rw [recv_A2.2] at h
    exact h
  have HKE : Hid (Keeps no w w5) := HW5.out.kp
  clear ht HR2 HW4 HW5 y1 y3
  go_wp2_with fail
  refine Calls.mono HRS.out ?_
  rintro e w6 ⟨rfl, hk6⟩
  have HK6 : Hid (Keeps no w5 w6) := hk6
  clear hk6 HRS
  go_wp2_with fail
  refine Calls.mono (HID.out _ HK6.out) ?_
  rintro e w7 ⟨rfl, hk7⟩
  go_wp2_with fail
  go_ret
  exact ⟨rfl, (HKE.out.trans HK6.out).trans hk7⟩
end Go.Proofs.YtghnhkhhpeoheaaGreat
