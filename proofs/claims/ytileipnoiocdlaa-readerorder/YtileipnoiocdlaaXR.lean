import Derived.Test.YtileipnoiocdlaaX6
import Derived.Test.YtileipnoiocdlaaLG
/- run. -/
namespace Go.Proofs.Ytileipnoiocdlaa
open Go.RowKit Go.Sort Orl
set_option linter.unusedVariables false
set_option linter.unusedSimpArgs false

/-- the world's box -/
structure Bw (w : World) (F : Nat → Prop) (cp A : Nat) (P : Nat) (wo : Option Addr) (wn wc : Nat) : Prop where
  blk : w.heap[A]? = some (.cells #[.int .i64 (P : Nat), .slice wo wn wc] 59 (0, 0))
  far : ¬ (F A ∨ A = cp)
theorem Bw.keepsN {w w' : World} {F : Nat → Prop} {cp A P : Nat} {wo : Option Addr} {wn wc : Nat} (h : Bw w F cp A P wo wn wc) (k : Keeps no w w') : Bw w' F cp A P wo wn wc := ⟨k.at h.blk id, h.far⟩
theorem Bw.tell {w w' : World} {p cp fr st : Nat} {F G : Nat → Prop} {O : Out} {o : Option Addr} {n c : Nat} {rs : List RQ} {A P : Nat} {wo : Option Addr} {wn wc : Nat} (h : Bw w F cp A P wo wn wc) (t : Tell w p cp fr st F O o n c rs G w') : Bw w' G cp A P wo wn wc := by
  refine ⟨t.kp.at h.blk h.far, fun hg => ?_⟩
  rcases hg with hg | hg
  · rcases t.foot A hg with h1 | h1
    · exact h.far (.inl h1)
    · have := lt_of_block h.blk; omega
  · exact h.far (.inr hg)
theorem Bw.ap {w w' : World} {F : Nat → Prop} {cp A P : Nat} {wo : Option Addr} {wn wc : Nat} (h : Bw w F cp A P wo wn wc) {o o' : Option Addr} {t : TypeId} (ht : t ≠ 59) (tag : ∀ i, inO o i → ∃ cur, w.heap[i]? = some (.cells cur t (0, 0))) (ha : Ap w o o' w') : Bw w' F cp A P wo wn wc := by
  rcases ha with ⟨_, k⟩ | ⟨_, k⟩
  · refine ⟨k.at h.blk (fun hi => ?_), h.far⟩
    obtain ⟨cur, hc⟩ := tag A hi
    rw [h.blk] at hc
    injection hc with e
    injection e with _ e _
    exact ht e.symm
  · exact h.keepsN k
/-- the answer in its box -/
structure Xm (w5 w : World) (F : Nat → Prop) (cp X : Nat) (oo : Option Addr) (x0 : Int) (rreq rB : Nat) (v : Ver) : Prop where
  blk : w.heap[X]? = some (.cells #[.int .i64 x0, .int .i64 7, .int .i64 3, .int .u64 (rreq : Nat), .int .u64 0, .slice none 0 0, .slice none 0 0, .slice none 0 0, .slice (some ⟨rB, 0, none⟩) 1 1] 67 (0, 0))
  far : ¬ (F X ∨ X = cp)
  msg : MsgAt w (fun i => Zr w5 F cp i ∧ ¬ inO oo i) rB v
  fit : FitV v
theorem Xm.keepsN {w5 w w' : World} {F : Nat → Prop} {cp X : Nat} {oo : Option Addr} {x0 : Int} {rreq rB : Nat} {v : Ver} (h : Xm w5 w F cp X oo x0 rreq rB v) (k : Keeps no w w') : Xm w5 w' F cp X oo x0 rreq rB v := ⟨k.at h.blk id, h.far, h.msg.keepsN k, h.fit⟩
theorem Xm.tell {w5 w w' : World} {p cp fr st : Nat} {F G : Nat → Prop} {O : Out} {o oo : Option Addr} {n c : Nat} {rs : List RQ} {X : Nat} {x0 : Int} {rreq rB : Nat} {v : Ver} (h : Xm w5 w F cp X oo x0 rreq rB v) (t : Tell w p cp fr st F O o n c rs G w') : Xm w5 w' G cp X oo x0 rreq rB v := by
  refine ⟨t.kp.at h.blk h.far, fun hg => ?_, ?_, h.fit⟩
  · rcases hg with hg | hg
    · rcases t.foot X hg with h1 | h1
      · exact h.far (.inl h1)
      · have := lt_of_block h.blk; omega
    · exact h.far (.inr hg)
  · have h1 := h.msg.mono (Y := fun i => (Zr w5 F cp i ∧ ¬ inO oo i) ∧ i < w.heap.size) (fun i h1 h2 => ⟨h1, h2⟩)
    exact (h1.keeps t.kp (fun i h1 _ => h1.1.1.1)).mono (fun i h1 _ => ⟨h1.1.1.tell h1.2 t, h1.1.2⟩)
theorem Xm.ap {w5 w w' : World} {F : Nat → Prop} {cp X : Nat} {oo o' : Option Addr} {x0 : Int} {rreq rB : Nat} {v : Ver} (h : Xm w5 w F cp X oo x0 rreq rB v) {t : TypeId} (ht : t ≠ 67) (tag : ∀ i, inO oo i → ∃ cur, w.heap[i]? = some (.cells cur t (0, 0))) (ha : Ap w oo o' w') : Xm w5 w' F cp X o' x0 rreq rB v := by
  rcases ha with ⟨rfl, k⟩ | ⟨⟨g, rfl, hg⟩, k⟩
  · refine ⟨k.at h.blk (fun hi => ?_), h.far, h.msg.keeps k (fun i h1 _ => h1.2), h.fit⟩
    obtain ⟨cur, hc⟩ := tag X hi
    rw [h.blk] at hc
    injection hc with e
    injection e with _ e _
    exact ht e.symm
  · exact ⟨k.at h.blk id, h.far, (h.msg.mono (fun i h1 h2 => ⟨h1.1, by rintro ⟨x, e, rfl⟩; cases e; simp only at h2; omega⟩)).keepsN k, h.fit⟩
structure Rk (w5 wa wb wk : World) (p cp fr : Nat) (s : RS) (t : Nat) (F : Nat → Prop) (oa : Option Addr) (ca : Nat) (arq : List RQ) (allQ : List Qn) (oo : Option Addr) (co : Nat) (rq : List RQ) (outQ : List Qn) (ol : Option Addr) (cl : Nat) (rs : List RT) (ts : List Tl) (om : Option Addr) (cm : Nat) (rms : List RM) (vs : List Ver) (req : Nat) : Prop where
  rf : Rf w5 wk p cp fr s t F oa ca arq allQ oo co rq outQ ol cl rs ts
  ms : Msgs wk (fun x => wa.heap.size ≤ x ∧ x < wb.heap.size) om cm rms vs req
  far : ∀ x, inO ol x → x < wa.heap.size ∨ wb.heap.size ≤ x
  ge : wb.heap.size ≤ wk.heap.size
theorem Rk.push {w5 wa wb wk w2 w' : World} {p cp fr : Nat} {s : RS} {t : Nat} {F : Nat → Prop} {oa : Option Addr} {ca : Nat} {arq : List RQ} {allQ : List Qn} {oo : Option Addr} {co : Nat} {rq : List RQ} {outQ : List Qn} {ol o' : Option Addr} {cl c' : Nat} {rs : List RT} {ts : List Tl} {om : Option Addr} {cm : Nat} {rms : List RM} {vs : List Ver} {req : Nat} (h : Rk w5 wa wb wk p cp fr s t F oa ca arq allQ oo co rq outQ ol cl rs ts om cm rms vs req) (hz : ∀ i, wa.heap.size ≤ i → Zr w5 F cp i) (k : Keeps no wk w2) {j : Nat} (hj : j < vs.length) {pt : Int} (hf : FitV (vs.getD j v0)) (ho : OwnT LE w' o' c' (rs ++ [⟨pt, (rms.getD j rm0).req, (rms.getD j rm0).B⟩])) (ha : Ap w2 ol o' w') :
    Rk w5 wa wb w' p cp fr s t F oa ca arq allQ oo co rq outQ o' c' (rs ++ [⟨pt, (rms.getD j rm0).req, (rms.getD j rm0).B⟩]) (ts ++ [⟨pt, (rms.getD j rm0).req, vs.getD j v0⟩]) om cm rms vs req := by
  have hm := ((h.ms.each j hj).2.keepsN k).mono (Y := fun i => Zr w5 F cp i ∧ ¬ inO ol i) (fun i h1 _ => ⟨hz i h1.1.1, fun h2 => by have := h.far i h2; have := h1.1; omega⟩)
  have hp := h.rf.push k (r := ⟨pt, (rms.getD j rm0).req, (rms.getD j rm0).B⟩) (x := ⟨pt, (rms.getD j rm0).req, vs.getD j v0⟩) rfl rfl hm hf ho ha
  refine ⟨hp.1, h.ms.keeps hp.2 (fun i h1 h2 => by have := h.far i h2; omega), fun x hx => ?_, Nat.le_trans h.ge hp.2.size⟩
  rcases ha with ⟨rfl, _⟩ | ⟨⟨g, rfl, hg⟩, _⟩
  · exact h.far x hx
  · obtain ⟨y, e, rfl⟩ := hx; cases e; exact .inr (Nat.le_trans (Nat.le_trans h.ge k.size) hg)
def lenS : Value → Nat
  | .slice _ n _ => n
  | _ => 0
/-- run's end -/
def RunTo (w5 : World) (p cp fr : Nat) (P : Nat) (ws : List Wr) (g : Nat) (s1 : RS) (t1 : Nat) (e : Ending) (w' : World) : Prop := ∃ oa na ca arq G k s t all, e = .returned (.tuple #[.slice oa na ca, .bool true]) ∧ na = all.length ∧ RunAt P ws g fr s1 t1 k s t [] all ∧ Rc w5 w' p cp fr 1 s t G ∧ OutS w' (Zr w5 G cp) oa ca arq all
theorem tb2_again {s : RS} (h : WfR s) (t : Nat) : TB2 ⟨s, askedR s, t⟩ t := ⟨Nat.le_add_right _ _, (tb2_asked h t).n, (tb2_asked h t).f⟩
theorem endF_pt (s : RS) (fr st t : Nat) (hp : s.parts ≤ 64) : (endFO s fr st t).s.parts ≤ 64 ∧ (endFO s fr st t).t ≤ t + 64 := by
  unfold endFO
  split
  · exact ⟨hp, Nat.le_add_right _ _⟩
  · split
    · exact ⟨hp, Nat.le_add_right _ _⟩
    · refine ⟨hp, ?_⟩
      show t + (psR (fetS s (needsV s.came) s.came fr st t)).length ≤ t + 64
      have h1 := ps_le (fetS s (needsV s.came) s.came fr st t)
      have h2 : (fetS s (needsV s.came) s.came fr st t).parts ≤ 64 := hp
      omega
theorem endS2_parts (s : RS) : (endS2 s).parts = s.parts := by
  unfold endS2
  split
  · rfl
  · split
    · split <;> rfl
    · rfl
theorem rnd_pt (P : Nat) (ws : List Wr) (g fr : Nat) (s : RS) (t : Nat) (hp : s.parts ≤ 64) : (rndO P ws g fr s t).s.parts ≤ 64 ∧ (rndO P ws g fr s t).t ≤ t + 64 := by
  have hq : (finS s (ansF P ws g s)).parts ≤ 64 := hp
  unfold rndO behindO
  split
  · split
    · exact endF_pt _ _ _ _ hq
    · exact ⟨by rw [endS2_parts]; exact hq, Nat.le_add_right _ _⟩
  · exact ⟨hq, Nat.le_add_right _ _⟩
theorem RunAt.t_le {P : Nat} {ws : List Wr} {g fr : Nat} {s1 : RS} {t1 : Nat} {k : Nat} {s : RS} {t : Nat} {out all : List Qn} (h : RunAt P ws g fr s1 t1 k s t out all) (hp : s1.parts ≤ 64) : t ≤ t1 + 128 := by
  have h1 := rnd_pt P ws g fr s1 t1 hp
  cases h with
  | start => omega
  | mid h => omega
  | fin1 h => omega
  | fin2 h =>
    have h2 := rnd_pt P ws g fr (rndO P ws g fr s1 t1).s (rndO P ws g fr s1 t1).t h1.1
    omega
theorem beg_pend {s0 : RS} (hw : WfR s0) (he : s0.ended = 0) (fr t : Nat) : Pend (begS s0 fr 1 t) 1 := by
  obtain ⟨⟨h1, h2⟩, h3, h4⟩ := (valK_iff s0.names).1 hw.nk
  exact ⟨hw.p1, rfl, he, h4, h1, h2, rfl, rfl⟩
set_option maxRecDepth 10000 in
set_option maxHeartbeats 16000000 in
theorem run_any (w5 w : World) (p cp fr t0 : Nat) (F : Nat → Prop) (s0 : RS) (hrc : Rc w5 w p cp fr 1 s0 t0 F) (he : s0.ended = 0) (hr0 : s0.round = 0) (P : Nat) (wo : Option Addr) (wn wc : Nat) (rw5 : List RWr) (ws : List Wr) (hwr : Wrs w5 wo wc rw5 ws) (hg : GoodW ws) (hwn : wn = ws.length) (h1 : 1 ≤ P) (h2 : P ≤ 64) (g : Nat) (hgn : g ≤ 100) (po : Option Addr) (pn pc : Nat) (pk : List Int) (hpn : pn = pk.length) (hpk : ∀ z ∈ pk, I64 z) (hpl : pk.length ≤ 17592186044416) (hps : Sl ZE w5 po pc pk) (hfr : fr ≤ 1000) (ht0 : t0 ≤ 1000) :
    Calls Try.prog 22 #[.pointer (some ⟨p, 0, none⟩), aggWd (P : Int) wo wn wc, .int .i64 (g : Nat), .slice po pn pc] w (RunTo w5 p cp fr P ws g (begS s0 fr 1 t0) (t0 + (psR (begS s0 fr 1 t0)).length)) := by
  have HW : Hid (Wrs w5 wo wc rw5 ws ∧ GoodW ws ∧ wn = ws.length ∧ (1 ≤ P ∧ P ≤ 64) ∧ g ≤ 100) := ⟨hwr, hg, hwn, ⟨h1, h2⟩, hgn⟩
  have HPK : Hid (pn = pk.length ∧ (∀ z ∈ pk, I64 z) ∧ Sl ZE w5 po pc pk) := ⟨hpn, hpk, hps⟩
  have hgi : (g : Int) ≤ 100 := by omega
  have hwn12 : (wn : Int) ≤ 12 := by have := hg.len; omega
  have hpnb : (pn : Int) ≤ 17592186044416 := by omega
  have hBG := rBegin_any w p cp fr 1 F s0 t0 hrc.is hrc.wf hrc.ct (by omega) hrc.cF
  have hbo : beginO s0 fr 1 t0 = ⟨begS s0 fr 1 t0, askedR (begS s0 fr 1 t0), t0 + (psR (begS s0 fr 1 t0)).length⟩ := by unfold beginO; rw [if_pos ⟨he, hr0⟩]
  have hwf1 := hrc.wf.beg fr 1 t0
  have hpd := beg_pend hrc.wf he fr t0
  have hps64 := ps_64 hwf1
  have hrq : (begS s0 fr 1 t0).reqs = drawn fr 1 t0 (psR (begS s0 fr 1 t0)).length := rfl
  have htb := begin_tb hrc.wf fr 1 t0
  rw [hbo] at htb
  have HBG : Hid (∀ Y, Keeps no w Y → Calls Try.prog 10 #[.pointer (some ⟨p, 0, none⟩)] Y (TellTo Y p cp fr 1 F ⟨begS s0 fr 1 t0, askedR (begS s0 fr 1 t0), t0 + (psR (begS s0 fr 1 t0)).length⟩)) := fun Y hY => by
    have h := rBegin_any Y p cp fr 1 F s0 t0 (hrc.keepsN hY).is hrc.wf (hrc.keepsN hY).ct (by omega) hrc.cF
    rwa [hbo] at h
  obtain ⟨s1, hs1⟩ : ∃ s1, s1 = begS s0 fr 1 t0 := ⟨_, rfl⟩
  obtain ⟨t1, ht1⟩ : ∃ t1, t1 = t0 + (psR (begS s0 fr 1 t0)).length := ⟨_, rfl⟩
  rw [← ht1] at HBG htb ⊢
  rw [← hs1] at HBG hpd hrq hps64 hwf1 htb ht1 ⊢
  have HS1 : Hid (Pend s1 1 ∧ s1.reqs = drawn fr 1 t0 (psR s1).length ∧ t1 = t0 + (psR s1).length ∧ WfR s1 ∧ TB2 ⟨s1, askedR s1, t1⟩ t0 ∧ fr ≤ 1000 ∧ t1 ≤ 1064) := ⟨hpd, hrq, ht1, hwf1, htb, hfr, by omega⟩
  have HRC : Hid (Rc w5 w p cp fr 1 s0 t0 F) := hrc
  obtain ⟨A, hA⟩ : ∃ A, A = w.heap.size := ⟨_, rfl⟩
  have HK : Hid (∀ W, W = w.alloc (.cells #[.int .i64 P, .slice wo wn wc] 59) → Bw W F cp A P wo wn wc ∧ Keeps no w W) := by
    rintro W rfl
    refine ⟨⟨by rw [hA]; exact blk_new w _, fun h => ?_⟩, (Keeps.refl _ _).alloc _⟩
    have := HRC.out.lt A h
    omega
  clear hrc he hr0 hwr hg hwn h1 h2 hgn hpn hpk hpl hps hfr ht0 hBG hbo hwf1 hpd hps64 hrq htb hs1 ht1
  unfold aggWd
  go_enter Try.func22, Try.ntmps22
  go_upto_region 1 with fail
  have h1 := HK.out _ rfl
  rw [← hA]
  clear hA HK
  generalize w.alloc (.cells #[.int .i64 P, .slice wo wn wc] 59) = w1 at h1 ⊢
  have HB1 : Hid (Bw w1 F cp A P wo wn wc ∧ Keeps no w w1) := h1
  clear h1
  go_wp2_with fail
  refine (HBG.out _ HB1.out.2).mono ?_
  rintro e w2 ⟨oo, nq, co, rq, G, rfl, ht⟩
  have HRV : Hid (∃ h F oa ca arq rq s t out all, Rv w5 w2 h p cp fr s t F oa ca arq all oo co rq out ∧ RunAt P ws g fr s1 t1 0 s t out all ∧ Bw w2 F cp A P wo wn wc ∧ oa = none ∧ ca = 0 ∧ 0 = all.length ∧ nq = out.length) := by
    have hr1 := HRC.out.keepsN HB1.out.2
    refine ⟨w1.heap.size, G, none, 0, [], rq, s1, t1, _, _, ⟨hr1.tell ht HS1.out.2.2.2.1, outS_nil _ _, ht.tq.outS HS1.out.2.2.2.2.1.f _ (fun i hi => ⟨⟨ht.far (lt_of_block hr1.ct) i hi, Nat.le_trans hr1.kp.size (ht.new i hi)⟩, ht.new i hi⟩), ht.kp.size⟩, .start, HB1.out.1.tell ht, rfl, rfl, rfl, ht.n⟩
  clear ht HBG HRC HB1
  go_wp2_with fail
  go_loopw [10, 11, 12, 13] (fun s10 s11 s12 s13 wr => ∃ (k n : Nat) (oa : Option Addr) (na ca : Nat) (oo : Option Addr) (nq co : Nat), (k : Int) ≤ 2 ∧ n ≤ k * 300000 ∧ s13 = .int .i64 (k : Nat) ∧ s12 = .int .i64 (n : Nat) ∧ s10 = .slice oa na ca ∧ s11 = .slice oo nq co ∧ Hid (∃ h F arq rq s t out all, Rv w5 wr h p cp fr s t F oa ca arq all oo co rq out ∧ RunAt P ws g fr s1 t1 k s t out all ∧ Bw wr F cp A P wo wn wc ∧ na = all.length ∧ nq = out.length)) (fun _ _ _ s13 _ => 3 - (intOf s13).toNat)
  case atStart =>
    obtain ⟨h, F, oa, ca, arq, rq, s, t, out, all, h1, h2, h3, rfl, rfl, h6, h7⟩ := HRV.out
    exact ⟨0, 0, none, 0, 0, oo, nq, co, by omega, by omega, rfl, rfl, rfl, rfl, h, F, arq, rq, s, t, out, all, h1, h2, h3, h6, h7⟩
  case round =>
    clear HRV
    rename World => wr
    obtain ⟨kr, n, oa, na, ca, oo, nq, co, hk2, hnk, rfl, rfl, rfl, rfl, HR⟩ := hrel
    have hk3 : (kr : Int) < 3 := by omega
    by_cases hq : 0 < nq
    · have hq' : (0 : Int) < (nq : Int) := by omega
      obtain ⟨h, F, arq, rq, s, t, out, all, h1, h2, h3, h4, h5⟩ := HR.out
      have hne : out ≠ [] := fun e => by rw [e] at h5; simp at h5; omega
      have hps2 : (psR (rndO P ws g fr s1 t1).s).length ≤ 64 := Nat.le_trans (ps_le _) (rnd_pt P ws g fr s1 t1 HS1.out.2.2.2.1.p2).1
      have hN := h2.next HW.out.2.1 HS1.out.1 HS1.out.2.1 HS1.out.2.2.1 (by have := HS1.out.2.2.2.2.2; omega) (fun _ _ => trivial) hps2 hne
      have hal := h2.all_len (by have := HS1.out.2.2.2.2.1.n; exact this) (by rw [askedR_len]; exact Nat.le_trans (undone_le _) hps2)
      have HN : Hid (RunN P ws g fr s1 t1 kr s t out all ∧ na = all.length ∧ nq = out.length ∧ all.length ≤ 128 ∧ out.length ≤ 64 ∧ t ≤ 2000) := ⟨hN, h4, h5, hal.1, hal.2, Nat.le_trans (h2.t_le HS1.out.2.2.2.1.p2) (by have := HS1.out.2.2.2.2.2; omega)⟩
      have HV : Hid (Rv w5 wr h p cp fr s t F oa ca arq all oo co rq out ∧ Bw wr F cp A P wo wn wc) := ⟨h1, h3⟩
      have hnab : (na : Int) ≤ 128 := by omega
      have hnqb : (nq : Int) ≤ 64 := by omega
      clear h1 h2 h3 h4 h5 hne hps2 hN hal HR
      go_upto_region 8 with (at_builtin; refine wpList_app okQ rfl _ _ rfl oa na ca arq rfl (by rw [HN.out.2.1, HV.out.1.all.len]) HV.out.1.all.own oo nq co rq rfl (by rw [HN.out.2.2.1, HV.out.1.out.len]) HV.out.1.out.own.cap.2 HV.out.1.out.own.row (by have := HN.out.2.2.2; have := HV.out.1.all.len; have := HV.out.1.out.len; simp [QE]; omega) (by have := HN.out.2.2.2; have := HV.out.1.all.len; have := HV.out.1.out.len; omega) ?_; intro oa2 ca2 wA hoA haA; have HF1 : Hid (Rf w5 wA p cp fr s t F oa2 ca2 (arq ++ rq) (all ++ out) oo co rq out none 0 [] [] ∧ Bw wA F cp A P wo wn wc) := And.intro (HV.out.1.app hoA haA) (HV.out.2.ap (by decide) HV.out.1.all.own.tag haA); clear hoA haA)
      clear HV
      go_wp2_with fail
      go_loopw [14, 15] (fun s14 s15 wf => ∃ (i : Nat) (ol : Option Addr) (nl cl : Nat), i ≤ nq ∧ s15 = .int .i64 (i : Nat) ∧ s14 = .slice ol nl cl ∧ Hid (∃ rs ts, Rf w5 wf p cp fr s t F oa2 ca2 (arq ++ rq) (all ++ out) oo co rq out ol cl rs ts ∧ Bw wf F cp A P wo wn wc ∧ nl = ts.length ∧ ts.length ≤ i * 4000 ∧ ts = wayL P ws g (out.take i))) (fun _ s15 _ => nq - (intOf s15).toNat)
      case atStart => exact ⟨0, none, 0, 0, by omega, rfl, rfl, [], [], HF1.out.1, HF1.out.2, rfl, by simp, rfl⟩
      case round =>
        clear HF1
        rename World => wa
        obtain ⟨i, ol, nl, cl, hi, rfl, rfl, HF⟩ := hrel
        by_cases hlt : i < nq
        · have hlt' : (i : Int) < nq := by omega
          obtain ⟨rs, ts, hf, hbw, hnl, hlb, hts⟩ := HF.out
          have hiq : i < out.length := by rw [← HN.out.2.2.1]; exact hlt
          obtain ⟨b, off, rfl, h9⟩ := hf.out.own.sl.atQ (j := i) (by rw [hf.out.len]; exact hiq)
          have hqn := hf.out.each i hiq
          have hqf := hf.out.fit i hiq
          have y0 : wa.cell? ⟨A, 0, none⟩ = some (.int .i64 (P : Nat)) := by rw [cell_of_blk hbw.blk]; rfl
          have y1 : wa.cell? ⟨A, 1, none⟩ = some (.slice wo wn wc) := by rw [cell_of_blk hbw.blk]; rfl
          obtain ⟨vs, hvs⟩ : ∃ vs, vs = askV P ws g (out.getD i q0) := ⟨_, rfl⟩
          have HVS : Hid (vs.length ≤ 4000 ∧ ∀ v ∈ vs, FitV v) := by rw [hvs]; exact ⟨ask_len hqf, ask_fit HW.out.2.1 hqf⟩
          obtain ⟨r, hr⟩ : ∃ r, r = rq.getD i rq0 := ⟨_, rfl⟩
          obtain ⟨req, hreq⟩ : ∃ req, req = (out.getD i q0).req := ⟨_, rfl⟩
          have HWL : Hid (wayL P ws g (out.take (i + 1)) = wayL P ws g (out.take i) ++ vs.map fun v => (⟨r.part, req, v⟩ : Tl)) := by
            show _ = _
            rw [take_succ_getD out i q0 hiq]
            unfold wayL
            rw [List.flatMap_append]
            congr 1
            rw [hvs, hr, hreq, hqn.part]
            simp
          rw [← hr] at h9 hqn
          have HAS : Hid (∀ Y, Keeps (fun _ => False) wa Y → Calls Try.prog 20 #[.agg #[.int .i64 (P : Nat), .slice wo wn wc], .agg #[.int .i64 r.part, .int .i64 r.kind, .int .i64 r.client, .int .u64 (r.req : Nat), .int .u64 0, .slice none 0 0, .slice r.ko r.kn r.kc, .slice r.wo r.wn r.wc, .slice none 0 0], .int .i64 (g : Nat)] Y (AskTo Y req vs)) := fun Y hY => by
            rw [hvs, hreq]
            exact asked_any Y P wo wn wc rw5 ws HW.out.2.2.1 ((HW.out.1.keepsN hf.rc.kp).keepsN hY) HW.out.2.1 HW.out.2.2.2.1.1 HW.out.2.2.2.1.2 r _ (hqn.keepsN hY).of hqf g HW.out.2.2.2.2
          have HGA : Hid (Rf w5 wa p cp fr s t F oa2 ca2 (arq ++ rq) (all ++ out) (some ⟨b, off, none⟩) co rq out ol cl rs ts ∧ Bw wa F cp A P wo wn wc ∧ nl = ts.length ∧ ts.length ≤ i * 4000 ∧ ts = wayL P ws g (out.take i) ∧ r = rq.getD i rq0 ∧ i < out.length) := ⟨hf, hbw, hnl, hlb, hts, hr, hiq⟩
          obtain ⟨x0, x1, x2, x3, xko, xkn, xkc, xwo, xwn, xwc⟩ := r
          have HS9 : Hid (At9 wa b off i 9 ⟨x0, x1, x2, x3, xko, xkn, xkc, xwo, xwn, xwc⟩ ∧ wa.cell? ⟨A, 0, none⟩ = some (.int .i64 (P : Nat)) ∧ wa.cell? ⟨A, 1, none⟩ = some (.slice wo wn wc)) := ⟨h9, y0, y1⟩
          have hib : (i : Int) ≤ 64 := by omega
          simp only at HAS HWL
          clear hf hbw hnl hlb hts hiq h9 hqn hqf y0 y1 hvs hr hreq HF
          go_wp2_with fail
          refine wp_region_held_drew (S := fun X => At9 X b off i 9 ⟨x0, x1, x2, x3, xko, xkn, xkc, xwo, xwn, xwc⟩ ∧ X.cell? ⟨A, 0, none⟩ = some (.int .i64 (P : Nat)) ∧ X.cell? ⟨A, 1, none⟩ = some (.slice wo wn wc)) (by kernel_rfl) ?_ (fun hHeld => ?_)
          · exact ⟨HS9.out.1.keepsN ((Keeps.refl no _).drew), HS9.out.2.1, HS9.out.2.2⟩
          refine wpAnyH_take (i := 0) (v := ?_) (by simp only [List.getElem?_toArray, List.getElem?_cons_succ, List.getElem?_cons_zero]; rfl) (by kernel_rfl) (by kernel_rfl) (by kernel_rfl) (by exact fun _ _ _ h => h) (Or.inl ⟨by rfl, ?_⟩) (by assumption) ?_
          rotate_left
          · (intro _ hSw; (try dsimp only at hSw); have z0 := hSw.2.1; have z1 := hSw.2.2; go_simp; (try with_reducible rfl))
          try simp only [Act.put, List.setIfInBounds_toArray, List.set_cons_zero, List.set_cons_succ]
          refine wpAnyH_take (i := 1) (v := ?_) (by simp only [List.getElem?_toArray, List.getElem?_cons_succ, List.getElem?_cons_zero]; rfl) (by kernel_rfl) (by kernel_rfl) (by kernel_rfl) (by exact fun _ _ _ h => h) (Or.inl ⟨by rfl, ?_⟩) (by assumption) ?_
          rotate_left
          · (intro _ hSw; (try dsimp only at hSw); go_simp; (try with_reducible rfl))
          try simp only [Act.put, List.setIfInBounds_toArray, List.set_cons_zero, List.set_cons_succ]
          refine wpAnyH_take (i := 2) (v := ?_) (by simp only [List.getElem?_toArray, List.getElem?_cons_succ, List.getElem?_cons_zero]; rfl) (by kernel_rfl) (by kernel_rfl) (by kernel_rfl) (by exact fun _ _ _ h => h) (Or.inl ⟨by rfl, ?_⟩) (by assumption) ?_
          rotate_left
          · (intro _ hSw; (try dsimp only at hSw); go_simp; (try with_reducible rfl))
          try simp only [Act.put, List.setIfInBounds_toArray, List.set_cons_zero, List.set_cons_succ]
          refine wpAnyH_take (i := 3) (v := ?_) (by simp only [List.getElem?_toArray, List.getElem?_cons_succ, List.getElem?_cons_zero]; rfl) (by kernel_rfl) (by kernel_rfl) (by kernel_rfl) (by exact fun _ _ _ h => h) (Or.inl ⟨by rfl, ?_⟩) (by assumption) ?_
          rotate_left
          · (intro _ hSw; (try dsimp only at hSw); go_simp; (try with_reducible rfl))
          try simp only [Act.put, List.setIfInBounds_toArray, List.set_cons_zero, List.set_cons_succ]
          refine wpAnyH_take (i := 4) (v := ?_) (by simp only [List.getElem?_toArray, List.getElem?_cons_succ, List.getElem?_cons_zero]; rfl) (by kernel_rfl) (by kernel_rfl) (by kernel_rfl) (by exact fun _ _ _ h => h) (Or.inl ⟨by rfl, ?_⟩) (by assumption) ?_
          rotate_left
          · (intro _ hSw; (try dsimp only at hSw); have z0 := hSw.1.c0; have z1 := hSw.1.c1; have z2 := hSw.1.c2; have z3 := hSw.1.c3; have z4 := hSw.1.c4; have z5 := hSw.1.c5; have z6 := hSw.1.c6; have z7 := hSw.1.c7; have z8 := hSw.1.c8; go_simp; (try with_reducible rfl))
          try simp only [Act.put, List.setIfInBounds_toArray, List.set_cons_zero, List.set_cons_succ]
          refine wpAnyH_take (i := 5) (v := ?_) (by simp only [List.getElem?_toArray, List.getElem?_cons_succ, List.getElem?_cons_zero]; rfl) (by kernel_rfl) (by kernel_rfl) (by kernel_rfl) (by exact fun _ _ _ h => h) (Or.inl ⟨by rfl, ?_⟩) (by assumption) ?_
          rotate_left
          · (intro _ hSw; (try dsimp only at hSw); go_simp; (try with_reducible rfl))
          try simp only [Act.put, List.setIfInBounds_toArray, List.set_cons_zero, List.set_cons_succ]
          refine wpAnyH_ready (rs := [6]) (by kernel_rfl) (by simp) ?_
          refine (AllReadyH.cons (by simp only [List.getElem?_toArray, List.getElem?_cons_succ, List.getElem?_cons_zero]; rfl) (fun Kq hKq => ?_) AllReadyH.nil)
          go_simp
          refine Calls.mono (HAS.out _ ((Keeps.refl no wa).drew)) ?_
          rintro e wb ⟨om, nm, cm, rms, rfl, hnm, hms, hkb⟩
          have hkab : Keeps no wa wb := ((Keeps.refl no wa).drew).trans hkb
          have HKB : Hid (Rk w5 wa wb wb p cp fr s t F oa2 ca2 (arq ++ rq) (all ++ out) (some ⟨b, off, none⟩) co rq out ol cl rs ts om cm rms vs req ∧ nm = vs.length ∧ Bw wb F cp A P wo wn wc) := ⟨⟨HGA.out.1.keepsN hkab, hms.mono (fun i h1 h2 => ⟨h1, h2⟩), fun x hx => .inl (HGA.out.1.tls.own.lt x hx), Nat.le_refl _⟩, hnm, HGA.out.2.1.keepsN hkab⟩
          have hS2 : At9 wb b off i 9 ⟨x0, x1, x2, x3, xko, xkn, xkc, xwo, xwn, xwc⟩ ∧ wb.cell? ⟨A, 0, none⟩ = some (.int .i64 (P : Nat)) ∧ wb.cell? ⟨A, 1, none⟩ = some (.slice wo wn wc) := ⟨HS9.out.1.keepsN hkab, hkab.cellN HS9.out.2.1, hkab.cellN HS9.out.2.2⟩
          clear hms hkb hkab hnm
          refine hKq.out _ _ ?_ (fun hHeldN => ?_)
          · exact hS2
          clear hKq Kq hHeld
          have hHeld := hHeldN
          clear hHeldN
          refine wpAnyH_take (i := 7) (v := ?_) (by simp only [List.getElem?_toArray, List.getElem?_cons_succ, List.getElem?_cons_zero]; rfl) (by kernel_rfl) (by kernel_rfl) (by kernel_rfl) (by exact fun _ _ _ h => h) (Or.inl ⟨by rfl, ?_⟩) (by assumption) ?_
          rotate_left
          · (intro _ hSw; (try dsimp only at hSw); go_simp; (try with_reducible rfl))
          try simp only [Act.put, List.setIfInBounds_toArray, List.set_cons_zero, List.set_cons_succ]
          refine wpAnyH_done (by kernel_rfl) ?_ _
          clear hHeld hS2 HAS HS9
          go_wp2_with fail
          go_loopw [14, 17] (fun s14 s17 wk => ∃ (k : Nat) (ol : Option Addr) (nl cl : Nat), k ≤ nm ∧ s17 = .int .i64 (k : Nat) ∧ s14 = .slice ol nl cl ∧ Hid (∃ rs ts, Rk w5 wa wb wk p cp fr s t F oa2 ca2 (arq ++ rq) (all ++ out) (some ⟨b, off, none⟩) co rq out ol cl rs ts om cm rms vs req ∧ Bw wk F cp A P wo wn wc ∧ nl = ts.length ∧ ts.length ≤ i * 4000 + k ∧ ts = wayL P ws g (out.take i) ++ (vs.take k).map fun v => (⟨x0, req, v⟩ : Tl))) (fun _ s17 _ => nm - (intOf s17).toNat)
          case atStart => exact ⟨0, ol, nl, cl, by omega, rfl, rfl, rs, ts, HKB.out.1, HKB.out.2.2, HGA.out.2.2.1, by have := HGA.out.2.2.2.1; omega, by rw [HGA.out.2.2.2.2.1]; simp⟩
          case round =>
            rename World => wk
            obtain ⟨k, ol, nl, cl, hk, rfl, rfl, HF⟩ := hrel
            by_cases hltk : k < nm
            · have hltk' : (k : Int) < nm := by omega
              obtain ⟨rs, ts, hgk, hbw, hnl, hlb, hts⟩ := HF.out
              have hkv : k < vs.length := by rw [← HKB.out.2.1]; exact hltk
              obtain ⟨bm, rfl, h8⟩ := hgk.ms.at hkv
              have hreq := (hgk.ms.each k hkv).1
              obtain ⟨b', off', e', hp9⟩ := hgk.rf.out.own.sl.atQ (j := i) (by rw [hgk.rf.out.len]; exact HGA.out.2.2.2.2.2.2)
              cases e'
              rw [← HGA.out.2.2.2.2.2.1] at hp9
              have HKK : Hid (Rk w5 wa wb wk p cp fr s t F oa2 ca2 (arq ++ rq) (all ++ out) (some ⟨b, off, none⟩) co rq out ol cl rs ts (some ⟨bm, 0, none⟩) cm rms vs req ∧ nl = ts.length ∧ ts.length ≤ i * 4000 + k ∧ k < vs.length ∧ rs.length = ts.length ∧ Bw wk F cp A P wo wn wc ∧ ts = wayL P ws g (out.take i) ++ (vs.take k).map fun v => (⟨x0, req, v⟩ : Tl)) := ⟨hgk, hnl, hlb, hkv, hgk.rf.tls.len, hbw, hts⟩
              obtain ⟨rm, hrm⟩ : ∃ rm, rm = rms.getD k rm0 := ⟨_, rfl⟩
              rw [← hrm] at h8 hreq
              have HRM : Hid (rms.getD k rm0 = rm) := hrm.symm
              obtain ⟨rreq, rB⟩ := rm
              have hreq' : rreq = req := hreq
              subst hreq'
              have HS8 : Hid (At8m wk bm (k * 8) ⟨rreq, rB⟩ ∧ wk.cell? ⟨b, off + i * 9, none⟩ = some (.int .i64 x0)) := ⟨h8, hp9.c0⟩
              have hkb4 : (k : Int) ≤ 4000 := by have := HVS.out.1; omega
              clear hgk hbw hnl hlb hts hkv h8 hp9 hrm hreq HF
              go_wp2_with fail
              refine wp_region_held_drew (S := fun X => At8m X bm (k * 8) ⟨rreq, rB⟩ ∧ X.cell? ⟨b, off + i * 9, none⟩ = some (.int .i64 x0)) (by kernel_rfl) ?_ (fun hHeld => ?_)
              · exact ⟨HS8.out.1.keepsN ((Keeps.refl _ _).drew), HS8.out.2⟩
              refine wpAnyH_take (i := 0) (v := ?_) (by simp only [List.getElem?_toArray, List.getElem?_cons_succ, List.getElem?_cons_zero]; rfl) (by kernel_rfl) (by kernel_rfl) (by kernel_rfl) (by exact fun _ _ _ h => h) (Or.inl ⟨by rfl, ?_⟩) (by assumption) ?_
              rotate_left
              · (intro _ hSw; (try dsimp only at hSw); go_simp; (try with_reducible rfl))
              try simp only [Act.put, List.setIfInBounds_toArray, List.set_cons_zero, List.set_cons_succ]
              refine wpAnyH_take (i := 1) (v := ?_) (by simp only [List.getElem?_toArray, List.getElem?_cons_succ, List.getElem?_cons_zero]; rfl) (by kernel_rfl) (by kernel_rfl) (by kernel_rfl) (by exact fun _ _ _ h => h) (Or.inl ⟨by rfl, ?_⟩) (by assumption) ?_
              rotate_left
              · (intro _ hSw; (try dsimp only at hSw); go_simp; (try with_reducible rfl))
              try simp only [Act.put, List.setIfInBounds_toArray, List.set_cons_zero, List.set_cons_succ]
              refine wpAnyH_take (i := 2) (v := ?_) (by simp only [List.getElem?_toArray, List.getElem?_cons_succ, List.getElem?_cons_zero]; rfl) (by kernel_rfl) (by kernel_rfl) (by kernel_rfl) (by exact fun _ _ _ h => h) (Or.inl ⟨by rfl, ?_⟩) (by assumption) ?_
              rotate_left
              · (intro _ hSw; (try dsimp only at hSw); go_simp; (try with_reducible rfl))
              try simp only [Act.put, List.setIfInBounds_toArray, List.set_cons_zero, List.set_cons_succ]
              refine wpAnyH_take (i := 3) (v := ?_) (by simp only [List.getElem?_toArray, List.getElem?_cons_succ, List.getElem?_cons_zero]; rfl) (by kernel_rfl) (by kernel_rfl) (by kernel_rfl) (by exact fun _ _ _ h => h) (Or.inl ⟨by rfl, ?_⟩) (by assumption) ?_
              rotate_left
              · (intro _ hSw; (try dsimp only at hSw); go_simp; (try with_reducible rfl))
              try simp only [Act.put, List.setIfInBounds_toArray, List.set_cons_zero, List.set_cons_succ]
              refine wpAnyH_take (i := 4) (v := ?_) (by simp only [List.getElem?_toArray, List.getElem?_cons_succ, List.getElem?_cons_zero]; rfl) (by kernel_rfl) (by kernel_rfl) (by kernel_rfl) (by exact fun _ _ _ h => h) (Or.inl ⟨by rfl, ?_⟩) (by assumption) ?_
              rotate_left
              · (intro _ hSw; (try dsimp only at hSw); go_simp; (try with_reducible rfl))
              try simp only [Act.put, List.setIfInBounds_toArray, List.set_cons_zero, List.set_cons_succ]
              refine wpAnyH_take (i := 5) (v := ?_) (by simp only [List.getElem?_toArray, List.getElem?_cons_succ, List.getElem?_cons_zero]; rfl) (by kernel_rfl) (by kernel_rfl) (by kernel_rfl) (by exact fun _ _ _ h => h) (Or.inl ⟨by rfl, ?_⟩) (by assumption) ?_
              rotate_left
              · (intro _ hSw; (try dsimp only at hSw); have z9 := hSw.2; go_simp; (try with_reducible rfl))
              try simp only [Act.put, List.setIfInBounds_toArray, List.set_cons_zero, List.set_cons_succ]
              refine wpAnyH_take (i := 6) (v := ?_) (by simp only [List.getElem?_toArray, List.getElem?_cons_succ, List.getElem?_cons_zero]; rfl) (by kernel_rfl) (by kernel_rfl) (by kernel_rfl) (by exact fun _ _ _ h => h) (Or.inl ⟨by rfl, ?_⟩) (by assumption) ?_
              rotate_left
              · (intro _ hSw; (try dsimp only at hSw); go_simp; (try with_reducible rfl))
              try simp only [Act.put, List.setIfInBounds_toArray, List.set_cons_zero, List.set_cons_succ]
              refine wpAnyH_take (i := 7) (v := ?_) (by simp only [List.getElem?_toArray, List.getElem?_cons_succ, List.getElem?_cons_zero]; rfl) (by kernel_rfl) (by kernel_rfl) (by kernel_rfl) (by exact fun _ _ _ h => h) (Or.inl ⟨by rfl, ?_⟩) (by assumption) ?_
              rotate_left
              · (intro _ hSw; (try dsimp only at hSw); go_simp; (try with_reducible rfl))
              try simp only [Act.put, List.setIfInBounds_toArray, List.set_cons_zero, List.set_cons_succ]
              refine wpAnyH_take (i := 8) (v := ?_) (by simp only [List.getElem?_toArray, List.getElem?_cons_succ, List.getElem?_cons_zero]; rfl) (by kernel_rfl) (by kernel_rfl) (by kernel_rfl) (by exact fun _ _ _ h => h) (Or.inl ⟨by rfl, ?_⟩) (by assumption) ?_
              rotate_left
              · (intro _ hSw; (try dsimp only at hSw); go_simp; (try with_reducible rfl))
              try simp only [Act.put, List.setIfInBounds_toArray, List.set_cons_zero, List.set_cons_succ]
              refine wpAnyH_take (i := 9) (v := ?_) (by simp only [List.getElem?_toArray, List.getElem?_cons_succ, List.getElem?_cons_zero]; rfl) (by kernel_rfl) (by kernel_rfl) (by kernel_rfl) (by exact fun _ _ _ h => h) (Or.inl ⟨by rfl, ?_⟩) (by assumption) ?_
              rotate_left
              · (intro _ hSw; (try dsimp only at hSw); have z0 := hSw.1.c0; have z1 := hSw.1.c1; have z2 := hSw.1.c2; have z3 := hSw.1.c3; have z4 := hSw.1.c4; have z5 := hSw.1.c5; have z6 := hSw.1.c6; have z7 := hSw.1.c7; go_simp; (try with_reducible rfl))
              try simp only [Act.put, List.setIfInBounds_toArray, List.set_cons_zero, List.set_cons_succ]
              refine wpAnyH_take (i := 10) (v := ?_) (by simp only [List.getElem?_toArray, List.getElem?_cons_succ, List.getElem?_cons_zero]; rfl) (by kernel_rfl) (by kernel_rfl) (by kernel_rfl) (by exact fun _ _ _ h => h) (Or.inl ⟨by rfl, ?_⟩) (by assumption) ?_
              rotate_left
              · (intro _ hSw; (try dsimp only at hSw); go_simp; (try with_reducible rfl))
              try simp only [Act.put, List.setIfInBounds_toArray, List.set_cons_zero, List.set_cons_succ]
              refine wpAnyH_ready (rs := [11]) (by kernel_rfl) (by simp) ?_
              refine (AllReadyH.cons (by simp only [List.getElem?_toArray, List.getElem?_cons_succ, List.getElem?_cons_zero]; rfl) (fun Kq hKq => ?_) AllReadyH.nil)
              have hxc : Keeps (fun _ => False) wk ((wk.alloc (.cells #[.int .i64 x0, .int .i64 7, .int .i64 3, .int .u64 (rreq : Nat), .int .u64 0, .slice none 0 0, .slice none 0 0, .slice none 0 0, .slice (some ⟨rB, 0, none⟩) 1 1] 67)).drew) := ((Keeps.refl _ _).alloc _).drew
              have HRX : Hid (Row LE ((wk.alloc (.cells #[.int .i64 x0, .int .i64 7, .int .i64 3, .int .u64 (rreq : Nat), .int .u64 0, .slice none 0 0, .slice none 0 0, .slice none 0 0, .slice (some ⟨rB, 0, none⟩) 1 1] 67)).drew) (some ⟨wk.heap.size, 0, none⟩) [⟨x0, rreq, rB⟩] ∧ Keeps (fun _ => False) wk ((wk.alloc (.cells #[.int .i64 x0, .int .i64 7, .int .i64 3, .int .u64 (rreq : Nat), .int .u64 0, .slice none 0 0, .slice none 0 0, .slice none 0 0, .slice (some ⟨rB, 0, none⟩) 1 1] 67)).drew)) := ⟨((lit_one (E := LE) wk ⟨x0, rreq, rB⟩ #[.int .i64 x0, .int .i64 7, .int .i64 3, .int .u64 (rreq : Nat), .int .u64 0, .slice none 0 0, .slice none 0 0, .slice none 0 0, .slice (some ⟨rB, 0, none⟩) 1 1] rfl).row).keepsN ((Keeps.refl (fun _ => False) _).drew), hxc⟩
              go_simp
              generalize wk.heap.size = Z at HRX ⊢
              generalize (wk.alloc (.cells #[.int .i64 x0, .int .i64 7, .int .i64 3, .int .u64 (rreq : Nat), .int .u64 0, .slice none 0 0, .slice none 0 0, .slice none 0 0, .slice (some ⟨rB, 0, none⟩) 1 1] 67)).drew = w4x at hxc HRX ⊢
              have hS4 : At8m w4x bm (k * 8) ⟨rreq, rB⟩ ∧ w4x.cell? ⟨b, off + i * 9, none⟩ = some (.int .i64 x0) := ⟨HS8.out.1.keepsN hxc, hxc.cellN HS8.out.2⟩
              refine hKq.out _ _ ?_ (fun hHeldN => ?_)
              · exact hS4
              clear hKq Kq hHeld
              have hHeld := hHeldN
              clear hHeldN
              refine wpAnyH_ready (rs := [12]) (by kernel_rfl) (by simp) ?_
              refine (AllReadyH.cons (by simp only [List.getElem?_toArray, List.getElem?_cons_succ, List.getElem?_cons_zero]; rfl) (fun Kq hKq => ?_) AllReadyH.nil)
              refine oper_appT okLE rfl (.tmp 55) (.tmp 66) rfl ol nl cl rs rfl (by have := HKK.out.2.1; have := HKK.out.2.2.2.2.1; omega) (HKK.out.1.rf.tls.own.keepsN HRX.out.2) (Addr.mk Z 0 none) 1 1 [⟨x0, rreq, rB⟩] rfl rfl HRX.out.1 (by have := HKK.out.2.2; have := HVS.out.1; simp [LE]; omega) (by have := HKK.out.2.2; simp; omega) ?_
              intro o5 c5 w6 ho5 hap5
              have HP : Hid (Rk w5 wa wb w6 p cp fr s t F oa2 ca2 (arq ++ rq) (all ++ out) (some ⟨b, off, none⟩) co rq out o5 c5 (rs ++ [⟨x0, rreq, rB⟩]) (ts ++ [⟨x0, rreq, vs.getD k v0⟩]) (some ⟨bm, 0, none⟩) cm rms vs rreq ∧ Bw w6 F cp A P wo wn wc) := by
                have hrm := HRM.out
                have hp := HKK.out.1.push (fun i hi => HGA.out.1.rc.zr_new i hi) HRX.out.2 HKK.out.2.2.2.1 (pt := x0) (w' := w6) (o' := o5) (c' := c5) (HVS.out.2 _ (getD_mem_lt v0 HKK.out.2.2.2.1)) (by rw [hrm]; exact ho5) hap5
                rw [hrm] at hp
                exact ⟨hp, (HKK.out.2.2.2.2.2.1.keepsN HRX.out.2).ap (by decide) (HKK.out.1.rf.tls.own.keepsN HRX.out.2).tag hap5⟩
              have hS6 : At8m w6 bm (k * 8) ⟨rreq, rB⟩ ∧ w6.cell? ⟨b, off + i * 9, none⟩ = some (.int .i64 x0) := by
                obtain ⟨b6, e6, h6⟩ := HP.out.1.ms.at HKK.out.2.2.2.1
                cases e6
                rw [HRM.out] at h6
                obtain ⟨b7, off7, e7, hp9⟩ := HP.out.1.rf.out.own.sl.atQ (j := i) (by rw [HP.out.1.rf.out.len]; exact HGA.out.2.2.2.2.2.2)
                cases e7
                rw [← HGA.out.2.2.2.2.2.1] at hp9
                exact ⟨h6, hp9.c0⟩
              clear ho5 hap5
              refine hKq.out _ _ ?_ (fun hHeldN => ?_)
              · exact hS6
              clear hKq Kq hHeld
              have hHeld := hHeldN
              clear hHeldN
              refine wpAnyH_take (i := 13) (v := ?_) (by simp only [List.getElem?_toArray, List.getElem?_cons_succ, List.getElem?_cons_zero]; rfl) (by kernel_rfl) (by kernel_rfl) (by kernel_rfl) (by exact fun _ _ _ h => h) (Or.inl ⟨by rfl, ?_⟩) (by assumption) ?_
              rotate_left
              · (intro _ hSw; (try dsimp only at hSw); go_simp; (try with_reducible rfl))
              try simp only [Act.put, List.setIfInBounds_toArray, List.set_cons_zero, List.set_cons_succ]
              refine wpAnyH_done (by kernel_rfl) ?_ _
              clear hHeld hS4 hS6 hxc
              go_wp2_with fail
              go_roundw
              case rel =>
                refine ⟨k + 1, o5, nl + 1, c5, by omega, by go_num, rfl, _, _, HP.out.1, HP.out.2, ?_, ?_, ?_⟩
                · rw [List.length_append, ← HKK.out.2.1]; rfl
                · rw [List.length_append]; have := HKK.out.2.2.1; simp; omega
                · rw [take_succ_getD vs k v0 HKK.out.2.2.2.1, List.map_append, ← List.append_assoc, ← HKK.out.2.2.2.2.2.2]; rfl
              case measure => first | (simp [intOf]; done) | (simp [intOf]; omega)
            · have hltk' : ¬ (k : Int) < nm := by omega
              have HE : Hid (∃ rs ts, Rf w5 wk p cp fr s t F oa2 ca2 (arq ++ rq) (all ++ out) (some ⟨b, off, none⟩) co rq out ol cl rs ts ∧ Bw wk F cp A P wo wn wc ∧ nl = ts.length ∧ ts.length ≤ (i + 1) * 4000 ∧ ts = wayL P ws g (out.take (i + 1))) := by
                obtain ⟨rs, ts, hgk, hbw, hnl, hlb, hts⟩ := HF.out
                have e : vs.take k = vs := List.take_of_length_le (by have := HKB.out.2.1; omega)
                rw [e] at hts
                refine ⟨rs, ts, hgk.rf, hbw, hnl, ?_, by rw [hts, HWL.out]⟩
                have := HVS.out.1
                have := HKB.out.2.1
                omega
              clear HF HKB HWL
              go_wp2_with fail
              go_roundw
              case rel => exact ⟨i + 1, ol, nl, cl, by omega, by go_num, rfl, HE.out⟩
              case measure => first | (simp [intOf]; done) | (simp [intOf]; omega)
        · have hlt' : ¬ (i : Int) < nq := by omega
          have HGI : Hid (∃ rs ts, Rf w5 wa p cp fr s t F oa2 ca2 (arq ++ rq) (all ++ out) oo co rq out ol cl rs ts ∧ Bw wa F cp A P wo wn wc ∧ nl = ts.length ∧ ts.length ≤ 256000 ∧ ts = wayL P ws g out) := by
            obtain ⟨rs, ts, h1, h2, h3, h4, h5⟩ := HF.out
            have e : out.take i = out := List.take_of_length_le (by have := HN.out.2.2.1; omega)
            rw [e] at h5
            exact ⟨rs, ts, h1, h2, h3, by omega, h5⟩
          clear HF
          obtain ⟨hI, hhI⟩ : ∃ hI, hI = wa.heap.size := ⟨_, rfl⟩
          have HG : Hid (∃ sc tc F2 rs ts rq2 o2, Ri w5 wa hI p cp fr sc tc F2 oa2 ca2 (arq ++ rq) (all ++ out) none 0 rq2 o2 ol cl rs ts ∧ RoundAt P ws g fr s t ts sc tc o2 ∧ Bw wa F2 cp A P wo wn wc ∧ nl = ts.length ∧ 0 = o2.length) := by
            obtain ⟨rs, ts, h1, h2, h3, h4, h5⟩ := HGI.out
            obtain ⟨m, hp⟩ := HN.out.1.pend
            rw [hhI]
            refine ⟨s, t, F, rs, ts, [], [], h1.ri, ?_, h2, h3, rfl⟩
            rw [h5, HN.out.1.eqo]
            exact way_start_going hp t
          have hnlb : nl ≤ 256000 := by obtain ⟨rs, ts, h1, h2, h3, h4, h5⟩ := HGI.out; omega
          clear HGI hhI
          go_wp2_with fail
          go_loopw [11, 12, 14] (fun s11 s12 s14 wi => ∃ (n2 : Nat) (ol : Option Addr) (nl cl : Nat) (oo : Option Addr) (nz co : Nat), n2 + nl ≤ n + 256000 ∧ nl ≤ 256000 ∧ s12 = .int .i64 (n2 : Nat) ∧ s14 = .slice ol nl cl ∧ s11 = .slice oo nz co ∧ Hid (∃ sc tc F2 rs ts rq2 o2, Ri w5 wi hI p cp fr sc tc F2 oa2 ca2 (arq ++ rq) (all ++ out) oo co rq2 o2 ol cl rs ts ∧ RoundAt P ws g fr s t ts sc tc o2 ∧ Bw wi F2 cp A P wo wn wc ∧ nl = ts.length ∧ nz = o2.length)) (fun _ _ s14 _ => lenS s14)
          case atStart => exact ⟨n, ol, nl, cl, none, 0, 0, by omega, hnlb, rfl, rfl, rfl, HG.out⟩
          case round =>
            clear HG hnlb
            rename World => wi
            obtain ⟨n2, ol, nl, cl, oo, nz, co, hnn, hnlb, rfl, rfl, rfl, HG⟩ := hrel
            by_cases hl0 : 0 < nl
            · have hl0' : (0 : Int) < (nl : Int) := by omega
              have hn2b : (n2 : Int) ≤ 1000000 := by omega
              have hnlI : (nl : Int) ≤ 256000 := by omega
              obtain ⟨c3, hc3⟩ : ∃ c3, c3 = decide (0 < pn) := ⟨_, rfl⟩
              have hcN : decide (0 < pn) = c3 := hc3.symm
              have hcI : decide ((0 : Int) < (pn : Int)) = c3 := by rw [hc3]; simp
              have HC3 : Hid (c3 = decide (0 < pn)) := hc3
              clear hc3
              go_upto_if 73 with fail
              go_cut [18, 19] from 74 to 95 (fun t18 t19 wx => ∃ (j : Nat) (b : Bool), t18 = .int .i64 (j : Nat) ∧ Hid (j < nl) ∧ t19 = .bool b ∧ wx = wi)
              case first =>
                as_aux_lemma =>
                clear hcN hcI
                cases c3 with
                | true =>
                  have hp0 : 0 < pn := by simpa using HC3.out.symm
                  have hpI : ¬ (pn : Int) = 0 := by omega
                  have htm : (n2 : Int).tmod (pn : Int) = ((n2 % pn : Nat) : Int) := (Int.ofNat_tmod _ _).symm
                  have hml : n2 % pn < pn := Nat.mod_lt _ hp0
                  have hmlI : ((n2 % pn : Nat) : Int) < (pn : Int) := by omega
                  have hw5 : Keeps (fun _ => False) w5 wi := by obtain ⟨_, _, _, _, _, _, _, h, _⟩ := HG.out; exact h.rc.kp
                  obtain ⟨pb, poff, rfl, d1⟩ := (HPK.out.2.2.keepsN hw5).atZ (j := n2 % pn) (by rw [← HPK.out.1]; exact hml)
                  have hz := HPK.out.2.1 _ (getD_mem_lt 0 (show n2 % pn < pk.length by rw [← HPK.out.1]; exact hml))
                  generalize pk.getD (n2 % pn) 0 = z at d1 hz
                  generalize n2 % pn = J at htm hml hmlI d1
                  obtain ⟨U, hU⟩ : ∃ U : Int, U = z % 18446744073709551616 := ⟨_, rfl⟩
                  have e1 : IntKind.u64.wrap z = U := by rw [IntKind.wrap_u64, hU]
                  have hnlz : ¬ (nl : Int) = 0 := by omega
                  obtain ⟨K, hK⟩ : ∃ K : Nat, K = (U % (nl : Int)).toNat := ⟨_, rfl⟩
                  have e2' : U % (nl : Int) = (K : Int) := by rw [hK, Int.toNat_of_nonneg (Int.emod_nonneg _ hnlz)]
                  have e2 : Int.tmod U (nl : Int) = (K : Int) := by rw [Int.tmod_eq_emod_of_nonneg (by omega), e2']
                  have HKL : Hid (K < nl) := by
                    have := Int.emod_lt_of_pos U hl0'
                    show K < nl
                    omega
                  have hKb : (K : Int) ≤ 256000 := by have := HKL.out; omega
                  clear hK hU HG hw5 hz
                  go_wp2_with fail
                  go_meet
                  exact ⟨K, _, rfl, HKL, rfl, rfl⟩
                | false =>
                  have HKL : Hid (0 < nl) := hl0
                  clear HG
                  go_wp2_with fail
                  go_meet
                  exact ⟨0, false, rfl, HKL, rfl, rfl⟩
              case rest =>
                obtain ⟨j, b, rfl, HJ, rfl, hwx⟩ := hcut
                rename World => wcut
                subst wcut
                clear hcN hcI HC3
                obtain ⟨sc, tc, F2, rs, ts, rq2, o2, h1, h2, h3, h4, h5⟩ := HG.out
                have hjt : j < ts.length := by rw [← h4]; exact HJ.out
                obtain ⟨m2, hpd⟩ := HN.out.1.pend
                obtain ⟨s2, t2, o3, htk, ho2⟩ := h2.take hpd HN.out.1.old hjt
                obtain ⟨bl, offl, rfl, h9⟩ := h1.tls.at hjt
                have hrl : rs.length = ts.length := h1.tls.len
                have hlc : ts.length ≤ cl := by
                  rw [← hrl]
                  rcases h1.tls.own.ex with ⟨e, _, _⟩ | ⟨g, off, cur, _, _, hc, _⟩
                  · cases e
                  · exact hc
                have htc : tc = t := by
                  cases h2 with
                  | going => rfl
                  | done => simp at hjt
                subst ho2
                have hnz : nz = 0 := h5
                have HTC : Hid (tc ≤ 2000 ∧ nz = 0 ∧ rq2.length = 0) := ⟨by rw [htc]; exact HN.out.2.2.2.2.2, hnz, h1.out.len⟩
                clear htc hnz
                have HV : Hid (Ri w5 wi hI p cp fr sc tc F2 oa2 ca2 (arq ++ rq) (all ++ out) oo co rq2 [] (some ⟨bl, offl, none⟩) cl rs ts ∧ TakeN P ws g fr s t ts sc tc j s2 t2 o3 ∧ Bw wi F2 cp A P wo wn wc ∧ nl = ts.length ∧ j < ts.length) := ⟨h1, htk, h3, h4, hjt⟩
                have hjI : (j : Int) < (nl : Int) := by omega
                have hjc : (j : Int) ≤ (cl : Int) := by omega
                have hnc : (nl : Int) ≤ (cl : Int) := by omega
                have hj1 : (j : Int) + 1 ≤ (nl : Int) := by omega
                have hjb : (j : Int) ≤ 256000 := by omega
                obtain ⟨J1, hJ1⟩ : ∃ J1, J1 = j + 1 := ⟨_, rfl⟩
                have hJn : (J1 : Int) ≤ (nl : Int) := by omega
                have HT : Hid (j = (rs.take j).length ∧ nl - J1 = (rs.drop J1).length ∧ rs.length = nl ∧ nl ≤ 256000 ∧ nl ≤ cl ∧ j < nl ∧ J1 = j + 1 ∧ IntKind.i64.wrap ((j : Int) + 1) = (J1 : Int)) := by
                  refine ⟨?_, ?_, by omega, by omega, by omega, by omega, hJ1, ?_⟩
                  · rw [List.length_take]; omega
                  · rw [List.length_drop]; omega
                  · rw [IntKind.wrap_i64]; omega
                clear hJ1
                obtain ⟨r, hr⟩ : ∃ r, r = rs.getD j rt0 := ⟨_, rfl⟩
                have HRR : Hid (rs.getD j rt0 = r) := hr.symm
                rw [← hr] at h9
                obtain ⟨d0, d1, d2, d3, d4, d5, d6, d7, d8⟩ := h9
                obtain ⟨rp, rreq, rB⟩ := r
                simp only at d0 d1 d2 d3 d4 d5 d6 d7 d8
                obtain ⟨v, hv⟩ : ∃ v, v = (ts.getD j tl0).v := ⟨_, rfl⟩
                have HEA : Hid (rp = (ts.getD j tl0).part ∧ rreq = (ts.getD j tl0).req ∧ v = (ts.getD j tl0).v) := by
                  have he := h1.tls.each j hjt
                  rw [← hr] at he
                  exact ⟨he.1, he.2.1, hv⟩
                obtain ⟨X, hX⟩ : ∃ X, X = wi.heap.size := ⟨_, rfl⟩
                have HC25 : Hid (∀ W, W = wi.alloc (.cells #[.int .i64 rp, .int .i64 7, .int .i64 3, .int .u64 (rreq : Nat), .int .u64 0, .slice none 0 0, .slice none 0 0, .slice none 0 0, .slice (some ⟨rB, 0, none⟩) 1 1] 67) → Ri w5 W hI p cp fr sc tc F2 oa2 ca2 (arq ++ rq) (all ++ out) oo co rq2 [] (some ⟨bl, offl, none⟩) cl rs ts ∧ Xm w5 W F2 cp X oo rp rreq rB v ∧ Bw W F2 cp A P wo wn wc) := by
                  rintro W rfl
                  have kk := (Keeps.refl no wi).alloc (.cells #[.int .i64 rp, .int .i64 7, .int .i64 3, .int .u64 (rreq : Nat), .int .u64 0, .slice none 0 0, .slice none 0 0, .slice none 0 0, .slice (some ⟨rB, 0, none⟩) 1 1] 67)
                  have he := h1.tls.each j hjt
                  rw [← hr, ← hv] at he
                  refine ⟨h1.keepsN kk, ⟨by rw [hX]; exact blk_new wi _, fun h => ?_, (he.2.2.1.mono (fun i h1 _ => h1.1)).keepsN kk, he.2.2.2⟩, h3.keepsN kk⟩
                  have := h1.rc.lt X h
                  omega
                clear h1 h2 h3 h4 h5 hjt hpd htk hr hrl hlc hv HG
                go_wp2_with fail
                have h25 := HC25.out _ rfl
                rw [← hX]
                clear hX HC25 d0 d1 d2 d3 d4 d5 d6 d7 d8
                generalize wi.alloc (.cells #[.int .i64 rp, .int .i64 7, .int .i64 3, .int .u64 (rreq : Nat), .int .u64 0, .slice none 0 0, .slice none 0 0, .slice none 0 0, .slice (some ⟨rB, 0, none⟩) 1 1] 67) = w20 at h25 ⊢
                have H25 : Hid (Ri w5 w20 hI p cp fr sc tc F2 oa2 ca2 (arq ++ rq) (all ++ out) oo co rq2 [] (some ⟨bl, offl, none⟩) cl rs ts ∧ Xm w5 w20 F2 cp X oo rp rreq rB v ∧ Bw w20 F2 cp A P wo wn wc) := h25
                clear h25
                refine wp_region_held_drew (S := fun _ => True) (by kernel_rfl) ?_ (fun hHeld => ?_)
                · trivial
                refine wpAnyH_take (i := 1) (v := ?_) (by simp only [List.getElem?_toArray, List.getElem?_cons_succ, List.getElem?_cons_zero]; rfl) (by kernel_rfl) (by kernel_rfl) (by kernel_rfl) (by exact fun _ _ _ h => h) (Or.inl ⟨by rfl, ?_⟩) (by assumption) ?_
                rotate_left
                · (intro _ hSw; (try dsimp only at hSw); go_simp; (try with_reducible rfl))
                try simp only [Act.put, List.setIfInBounds_toArray, List.set_cons_zero, List.set_cons_succ]
                refine wpAnyH_take (i := 2) (v := ?_) (by simp only [List.getElem?_toArray, List.getElem?_cons_succ, List.getElem?_cons_zero]; rfl) (by kernel_rfl) (by kernel_rfl) (by kernel_rfl) (by exact fun _ _ _ h => h) (Or.inl ⟨by rfl, ?_⟩) (by assumption) ?_
                rotate_left
                · (intro _ hSw; (try dsimp only at hSw); go_simp; (try with_reducible rfl))
                try simp only [Act.put, List.setIfInBounds_toArray, List.set_cons_zero, List.set_cons_succ]
                refine wpAnyH_take (i := 3) (v := ?_) (by simp only [List.getElem?_toArray, List.getElem?_cons_succ, List.getElem?_cons_zero]; rfl) (by kernel_rfl) (by kernel_rfl) (by kernel_rfl) (by exact fun _ _ _ h => h) (Or.inl ⟨by rfl, ?_⟩) (by assumption) ?_
                rotate_left
                · (intro _ hSw; (try dsimp only at hSw); go_simp; (try with_reducible rfl))
                try simp only [Act.put, List.setIfInBounds_toArray, List.set_cons_zero, List.set_cons_succ]
                refine wpAnyH_take (i := 5) (v := ?_) (by simp only [List.getElem?_toArray, List.getElem?_cons_succ, List.getElem?_cons_zero]; rfl) (by kernel_rfl) (by kernel_rfl) (by kernel_rfl) (by exact fun _ _ _ h => h) (Or.inl ⟨by rfl, ?_⟩) (by assumption) ?_
                rotate_left
                · (intro _ hSw; (try dsimp only at hSw); go_simp; (try with_reducible rfl))
                try simp only [Act.put, List.setIfInBounds_toArray, List.set_cons_zero, List.set_cons_succ]
                refine wpAnyH_take (i := 6) (v := ?_) (by simp only [List.getElem?_toArray, List.getElem?_cons_succ, List.getElem?_cons_zero]; rfl) (by kernel_rfl) (by kernel_rfl) (by kernel_rfl) (by exact fun _ _ _ h => h) (Or.inl ⟨by rfl, ?_⟩) (by assumption) ?_
                rotate_left
                · (intro _ hSw; (try dsimp only at hSw); go_simp; (try with_reducible rfl))
                try simp only [Act.put, List.setIfInBounds_toArray, List.set_cons_zero, List.set_cons_succ]
                refine wpAnyH_take (i := 7) (v := .int .i64 (J1 : Int)) (by simp only [List.getElem?_toArray, List.getElem?_cons_succ, List.getElem?_cons_zero]; rfl) (by kernel_rfl) (by kernel_rfl) (by kernel_rfl) (by exact fun _ _ _ h => h) (Or.inl ⟨by rfl, ?_⟩) (by assumption) ?_
                · (intro _ hSw; (try dsimp only at hSw); go_simp; rw [HT.out.2.2.2.2.2.2.2])
                try simp only [Act.put, List.setIfInBounds_toArray, List.set_cons_zero, List.set_cons_succ]
                refine wpAnyH_take (i := 8) (v := ?_) (by simp only [List.getElem?_toArray, List.getElem?_cons_succ, List.getElem?_cons_zero]; rfl) (by kernel_rfl) (by kernel_rfl) (by kernel_rfl) (by exact fun _ _ _ h => h) (Or.inl ⟨by rfl, ?_⟩) (by assumption) ?_
                rotate_left
                · (intro _ hSw; (try dsimp only at hSw); go_simp; (try with_reducible rfl))
                try simp only [Act.put, List.setIfInBounds_toArray, List.set_cons_zero, List.set_cons_succ]
                refine wpAnyH_ready (rs := [0]) (by kernel_rfl) (by simp) ?_
                refine (AllReadyH.cons (by simp only [List.getElem?_toArray, List.getElem?_cons_succ, List.getElem?_cons_zero]; rfl) (fun Kq hKq => ?_) AllReadyH.nil)
                have P2 : Hid (Own LE (w20.alloc (.cells #[] LE.e)).drew (some ⟨w20.heap.size, 0, none⟩) 0 [] ∧ Keeps no w20 (w20.alloc (.cells #[] LE.e)).drew) := ⟨(own0 okLE w20).keepsN ((Keeps.refl no _).drew), ((Keeps.refl no w20).alloc _).drew⟩
                go_simp
                generalize hZ9 : w20.heap.size = Z9 at P2 ⊢
                have HZ9 : Hid (w20.heap.size = Z9) := hZ9
                clear hZ9
                generalize hw7 : (w20.alloc (.cells #[] 67)).drew = w7
                have HW7 : Hid (Own LE w7 (some ⟨Z9, 0, none⟩) 0 [] ∧ Keeps no w20 w7) := by rw [← hw7]; exact P2.out
                clear hw7 P2
                refine hKq.out _ _ ?_ (fun hHeldN => ?_)
                · trivial
                clear hKq Kq hHeld
                have hHeld := hHeldN
                clear hHeldN
                refine wpAnyH_ready (rs := [4]) (by kernel_rfl) (by simp) ?_
                refine (AllReadyH.cons (by simp only [List.getElem?_toArray, List.getElem?_cons_succ, List.getElem?_cons_zero]; rfl) (fun Kq hKq => ?_) AllReadyH.nil)
                refine step_app1 okLE rfl (.tmp 102) (.tmp 105) rfl (some ⟨Z9, 0, none⟩) 0 0 [] rfl rfl HW7.out.1 (some ⟨bl, offl, none⟩) j cl (rs.take j) rfl HT.out.1 (fun h => by cases h) ((H25.out.1.tls.own.sl.keepsN HW7.out.2).row.take okLE j) (by have := HT.out; simp [LE]; omega) (by have := HT.out; simp; omega) ?_
                intro o8 c8 w8 ho8 hap8
                have hn8 := hap8.new (w0 := w20) (fun k hk => by obtain ⟨x, e, rfl⟩ := hk; cases e; exact Nat.le_of_eq HZ9.out) HW7.out.2
                have HW8 : Hid (Own LE w8 o8 c8 (rs.take j) ∧ Keeps no w20 w8 ∧ New w20 o8) := ⟨by simpa using ho8, hn8.2, hn8.1⟩
                clear ho8 hap8 hn8 HW7
                refine hKq.out _ _ ?_ (fun hHeldN => ?_)
                · trivial
                clear hKq Kq hHeld
                have hHeld := hHeldN
                clear hHeldN
                refine wpAnyH_ready (rs := [9]) (by kernel_rfl) (by simp) ?_
                refine (AllReadyH.cons (by simp only [List.getElem?_toArray, List.getElem?_cons_succ, List.getElem?_cons_zero]; rfl) (fun Kq hKq => ?_) AllReadyH.nil)
                refine step_app1 okLE rfl (.tmp 106) (.tmp 110) rfl o8 (0 + j) c8 (rs.take j) rfl (by rw [← HT.out.1]; exact Nat.zero_add j) HW8.out.1 (if cl = J1 then some ⟨bl, offl, none⟩ else some ⟨bl, offl + J1 * 9, none⟩) (nl - J1) (cl - J1) (rs.drop J1) rfl HT.out.2.1 (by split <;> (intro h; cases h)) ((H25.out.1.tls.own.sl.keepsN HW8.out.2.1).row.drop okLE J1 (fun hl b off e => by cases e; rw [if_neg (by have := HT.out; omega)]; rfl)) (by have := HT.out; simp [LE]; omega) (by have := HT.out; simp; omega) ?_
                intro o9 c9 w9 ho9 hap9
                have hn9 := hap9.new (w0 := w20) HW8.out.2.2 HW8.out.2.1
                have HW9 : Hid (Ri w5 w9 hI p cp fr sc tc F2 oa2 ca2 (arq ++ rq) (all ++ out) oo co rq2 [] o9 c9 (rs.eraseIdx j) (ts.eraseIdx j) ∧ Xm w5 w9 F2 cp X oo rp rreq rB v ∧ Bw w9 F2 cp A P wo wn wc) := ⟨H25.out.1.pick hn9.2 HV.out.2.2.2.2 (by rw [List.eraseIdx_eq_take_drop_succ, ← HT.out.2.2.2.2.2.2.1]; exact ho9) hn9.1, H25.out.2.1.keepsN hn9.2, H25.out.2.2.keepsN hn9.2⟩
                clear ho9 hap9 hn9 HW8
                refine hKq.out _ _ ?_ (fun hHeldN => ?_)
                · trivial
                clear hKq Kq hHeld
                have hHeld := hHeldN
                clear hHeldN
                refine wpAnyH_take (i := 10) (v := ?_) (by simp only [List.getElem?_toArray, List.getElem?_cons_succ, List.getElem?_cons_zero]; rfl) (by kernel_rfl) (by kernel_rfl) (by kernel_rfl) (by exact fun _ _ _ h => h) (Or.inl ⟨by rfl, ?_⟩) (by assumption) ?_
                rotate_left
                · (intro _ hSw; (try dsimp only at hSw); go_simp; (try with_reducible rfl))
                try simp only [Act.put, List.setIfInBounds_toArray, List.set_cons_zero, List.set_cons_succ]
                refine wpAnyH_done (by kernel_rfl) ?_ _
                clear hHeld H25 HZ9
                have HN2 : Hid (j + (nl - J1) = (ts.eraseIdx j).length ∧ j + (nl - J1) + 1 = nl) := by
                  have h1 := HV.out.2.2.2.1
                  have h2 := HT.out.2.2.2.2.2.2.1
                  have h3 := HT.out.2.2.2.2.2.1
                  rw [List.length_eraseIdx, if_pos HV.out.2.2.2.2]
                  refine ⟨?_, ?_⟩ <;> omega
                go_simp
                generalize j + (nl - J1) = nl2 at HN2 ⊢
                generalize (if cl = J1 then (some ⟨bl, offl, none⟩ : Option Addr) else some ⟨bl, offl + J1 * 9, none⟩) = oq
                have HAG : Hid (∀ Y, Keeps no w9 Y → Calls Try.prog 11 #[.pointer (some ⟨p, 0, none⟩)] Y (TellTo Y p cp fr 1 F2 ⟨sc, askedR sc, tc⟩)) := fun Y hY => by
                  have h := HW9.out.1.keepsN hY
                  exact rAgain_any Y p cp fr 1 F2 sc tc h.rc.is h.rc.wf h.rc.ct h.rc.cF HV.out.2.1.en
                have HFL : Hid (FitL [v]) := ⟨by simp, fun u hu => by rcases List.mem_cons.1 hu with rfl | hu; exact HW9.out.2.1.fit; cases hu⟩
                have HF1 : Hid (recvO sc rp 7 rreq [v] fr 1 tc = ⟨s2, o3, t2⟩) := by
                  have h := HV.out.2.1.first
                  rwa [← HEA.out.1, ← HEA.out.2.1, ← HEA.out.2.2] at h
                have HF2 : Hid (recvO s2 rp 7 rreq [v] fr 1 t2 = ⟨s2, [], t2⟩) := by
                  have h := HV.out.2.1.again
                  rwa [← HEA.out.1, ← HEA.out.2.1, ← HEA.out.2.2] at h
                go_wp2_with fail
                refine (HAG.out _ (Keeps.refl _ _)).mono ?_
                rintro e w10 ⟨og, ng, cg, rg, G10, rfl, ht⟩
                have HR10 : Hid (Ri w5 w10 hI p cp fr sc tc G10 oa2 ca2 (arq ++ rq) (all ++ out) oo co rq2 [] o9 c9 (rs.eraseIdx j) (ts.eraseIdx j) ∧ Xm w5 w10 G10 cp X oo rp rreq rB v ∧ Bw w10 G10 cp A P wo wn wc) := by
                  have hx := HW9.out.1.tell ht HW9.out.1.rc.wf (tb2_again HW9.out.1.rc.wf tc)
                  exact ⟨⟨hx.rc, hx.all, hx.out, hx.tls, hx.hi⟩, HW9.out.2.1.tell ht, HW9.out.2.2.tell ht⟩
                have hng : ng = (askedR sc).length := ht.n
                have hng1 : 1 ≤ ng := by have := HV.out.2.1.ask1; omega
                have hng2 : ng ≤ na + nq := by
                  have h1 := HV.out.2.1.ask2
                  have h2 := HN.out.1.eqo
                  have h3 := HN.out.2.2.1
                  rw [← h2] at h1
                  omega
                have hg0 : ¬ ng = 0 := by omega
                have hg0I : ¬ (ng : Int) = 0 := by omega
                have hg0b : ((ng : Int) == 0) = false := by
                  rw [beq_eq_false_iff_ne]
                  exact hg0I
                have hg2I : ¬ ((na + nq : Nat) : Int) < (ng : Int) := by omega
                have hg3I : ¬ ((na : Int) + (nq : Int)) < (ng : Int) := by omega
                have hg2 : ¬ na + nq < ng := by omega
                have HTD : Hid (t2 ≤ t2) := Nat.le_refl _
                have HO64 : Hid (o3.length ≤ o3.length) := Nat.le_refl _
                have HOW : Hid (∀ Y, Keeps no w10 Y → Calls Try.prog 41 #[.agg #[.int .i64 7, .int .i64 3, .int .u64 (rreq : Nat), .int .u64 0, .slice none 0 0, .slice none 0 0, .slice none 0 0, .slice (some ⟨rB, 0, none⟩) 1 1]] Y (OwnTo Y 7 3 rreq 0 0 0 0 1 [v])) := fun Y hY => by
                  obtain ⟨rv, h1, h2, h3⟩ := (HR10.out.2.1.msg.keepsN hY).ex
                  exact own_any Y 7 3 rreq 0 none none none (some ⟨rB, 0, none⟩) 0 0 0 1 0 0 0 1 [] [] [] [rv] [v] rfl rfl rfl rfl (by decide) (by decide) (by decide) (by decide) (own_nil Y).sl (own_nil Y).sl (own_nil Y).sl (vers_one h1 h2) HFL.out
                clear ht HAG HW9 hng hng1 hng2
                go_wp2_with fail
                refine wp_region_held_drew (S := fun Y => Y.heap[X]? = some (.cells #[.int .i64 rp, .int .i64 7, .int .i64 3, .int .u64 (rreq : Nat), .int .u64 0, .slice none 0 0, .slice none 0 0, .slice none 0 0, .slice (some ⟨rB, 0, none⟩) 1 1] 67 (0, 0))) (by kernel_rfl) ?_ (fun hHeld => ?_)
                · exact ((Keeps.refl no w10).drew).at HR10.out.2.1.blk (fun h => h)
                refine wpAnyH_take (i := 0) (v := ?_) (by simp only [List.getElem?_toArray, List.getElem?_cons_succ, List.getElem?_cons_zero]; rfl) (by kernel_rfl) (by kernel_rfl) (by kernel_rfl) (by exact fun _ _ _ h => h) (Or.inl ⟨by rfl, ?_⟩) (by assumption) ?_
                rotate_left
                · (intro _ hSw; (try dsimp only at hSw); go_simp; (try with_reducible rfl))
                try simp only [Act.put, List.setIfInBounds_toArray, List.set_cons_zero, List.set_cons_succ]
                refine wpAnyH_take (i := 1) (v := ?_) (by simp only [List.getElem?_toArray, List.getElem?_cons_succ, List.getElem?_cons_zero]; rfl) (by kernel_rfl) (by kernel_rfl) (by kernel_rfl) (by exact fun _ _ _ h => h) (Or.inl ⟨by rfl, ?_⟩) (by assumption) ?_
                rotate_left
                · (intro _ hSw; (try dsimp only at hSw); go_simp; (try with_reducible rfl))
                try simp only [Act.put, List.setIfInBounds_toArray, List.set_cons_zero, List.set_cons_succ]
                refine wpAnyH_take (i := 2) (v := ?_) (by simp only [List.getElem?_toArray, List.getElem?_cons_succ, List.getElem?_cons_zero]; rfl) (by kernel_rfl) (by kernel_rfl) (by kernel_rfl) (by exact fun _ _ _ h => h) (Or.inl ⟨by rfl, ?_⟩) (by assumption) ?_
                rotate_left
                · (intro _ hSw; (try dsimp only at hSw); go_simp; (try with_reducible rfl))
                try simp only [Act.put, List.setIfInBounds_toArray, List.set_cons_zero, List.set_cons_succ]
                refine wpAnyH_take (i := 3) (v := ?_) (by simp only [List.getElem?_toArray, List.getElem?_cons_succ, List.getElem?_cons_zero]; rfl) (by kernel_rfl) (by kernel_rfl) (by kernel_rfl) (by exact fun _ _ _ h => h) (Or.inl ⟨by rfl, ?_⟩) (by assumption) ?_
                rotate_left
                · (intro _ hSw; (try dsimp only at hSw); have z0 := cell_of_blk hSw 0; simp only [List.getElem?_toArray, List.getElem?_cons_succ, List.getElem?_cons_zero] at z0; go_simp; (try with_reducible rfl))
                try simp only [Act.put, List.setIfInBounds_toArray, List.set_cons_zero, List.set_cons_succ]
                refine wpAnyH_take (i := 4) (v := ?_) (by simp only [List.getElem?_toArray, List.getElem?_cons_succ, List.getElem?_cons_zero]; rfl) (by kernel_rfl) (by kernel_rfl) (by kernel_rfl) (by exact fun _ _ _ h => h) (Or.inl ⟨by rfl, ?_⟩) (by assumption) ?_
                rotate_left
                · (intro _ hSw; (try dsimp only at hSw); go_simp; (try with_reducible rfl))
                try simp only [Act.put, List.setIfInBounds_toArray, List.set_cons_zero, List.set_cons_succ]
                refine wpAnyH_take (i := 5) (v := ?_) (by simp only [List.getElem?_toArray, List.getElem?_cons_succ, List.getElem?_cons_zero]; rfl) (by kernel_rfl) (by kernel_rfl) (by kernel_rfl) (by exact fun _ _ _ h => h) (Or.inl ⟨by rfl, ?_⟩) (by assumption) ?_
                rotate_left
                · (intro _ hSw; (try dsimp only at hSw); have z1 := cell_of_blk hSw 1; simp only [List.getElem?_toArray, List.getElem?_cons_succ, List.getElem?_cons_zero] at z1; have z2 := cell_of_blk hSw 2; simp only [List.getElem?_toArray, List.getElem?_cons_succ, List.getElem?_cons_zero] at z2; have z3 := cell_of_blk hSw 3; simp only [List.getElem?_toArray, List.getElem?_cons_succ, List.getElem?_cons_zero] at z3; have z4 := cell_of_blk hSw 4; simp only [List.getElem?_toArray, List.getElem?_cons_succ, List.getElem?_cons_zero] at z4; have z5 := cell_of_blk hSw 5; simp only [List.getElem?_toArray, List.getElem?_cons_succ, List.getElem?_cons_zero] at z5; have z6 := cell_of_blk hSw 6; simp only [List.getElem?_toArray, List.getElem?_cons_succ, List.getElem?_cons_zero] at z6; have z7 := cell_of_blk hSw 7; simp only [List.getElem?_toArray, List.getElem?_cons_succ, List.getElem?_cons_zero] at z7; have z8 := cell_of_blk hSw 8; simp only [List.getElem?_toArray, List.getElem?_cons_succ, List.getElem?_cons_zero] at z8; go_simp; (try with_reducible rfl))
                try simp only [Act.put, List.setIfInBounds_toArray, List.set_cons_zero, List.set_cons_succ]
                refine wpAnyH_ready (rs := [6]) (by kernel_rfl) (by simp) ?_
                refine (AllReadyH.cons (by simp only [List.getElem?_toArray, List.getElem?_cons_succ, List.getElem?_cons_zero]; rfl) (fun Kq hKq => ?_) AllReadyH.nil)
                go_simp
                refine Calls.mono (HOW.out _ ((Keeps.refl no w10).drew)) ?_
                rintro e w11 ⟨v4, v5, v6, v7, e4, e5, e6, e7, vrs, rfl, -, hvs, hvb, hk⟩
                have hk2 := ((Keeps.refl no w10).drew).trans hk
                have HWo : Hid (Ri w5 w11 hI p cp fr sc tc G10 oa2 ca2 (arq ++ rq) (all ++ out) oo co rq2 [] o9 c9 (rs.eraseIdx j) (ts.eraseIdx j) ∧ Xm w5 w11 G10 cp X oo rp rreq rB v ∧ Bw w11 G10 cp A P wo wn wc ∧ Vers w11 v7 e7 vrs [v]) := ⟨HR10.out.1.keepsN hk2, HR10.out.2.1.keepsN hk2, HR10.out.2.2.keepsN hk2, hvs⟩
                have HO12 : Hid (WfR s2 ∧ TB2 ⟨s2, o3, t2⟩ tc) := by
                  have hw := HWo.out.1.rc.wf.recv HFL.out (part := rp) (kind := 7) (req := rreq) (fr := fr) (st := 1) (t := tc)
                  have hb := recv_tb HWo.out.1.rc.wf HFL.out (part := rp) (kind := 7) (req := rreq) (fr := fr) (st := 1) (t := tc)
                  rw [HF1.out] at hw hb
                  exact ⟨hw, hb⟩
                clear hvs hvb hk hk2
                refine hKq.out _ _ ?_ (fun hHeldN => ?_)
                · exact HWo.out.2.1.blk
                clear hKq Kq hHeld
                have hHeld := hHeldN
                clear hHeldN
                refine wpAnyH_ready (rs := [7]) (by kernel_rfl) (by simp) ?_
                refine (AllReadyH.cons (by simp only [List.getElem?_toArray, List.getElem?_cons_succ, List.getElem?_cons_zero]; rfl) (fun Kq hKq => ?_) AllReadyH.nil)
                have HRV : Hid (Calls Try.prog 13 #[.pointer (some ⟨p, 0, none⟩), .int .i64 rp, aggC 7 3 rreq 0 v4 v5 v6 v7 0 0 0 1 e4 e5 e6 e7] w11 (TellTo w11 p cp fr 1 G10 ⟨s2, o3, t2⟩)) := by
                  have h := rReceive_any w11 p cp fr 1 G10 sc tc HWo.out.1.rc.is HWo.out.1.rc.wf HWo.out.1.rc.ct (by have := HTC.out; have := HTD.out; omega) HWo.out.1.rc.cF rp 7 3 rreq 0 v4 v5 v6 v7 0 0 0 1 e4 e5 e6 e7 vrs [v] rfl HWo.out.2.2.2 HFL.out
                  rwa [HF1.out] at h
                go_simp
                refine Calls.mono HRV.out ?_
                rintro e w12 ⟨x12, n12, c12, r12, G12, rfl, ht⟩
                have HX12 : Hid (Rx w5 w12 hI p cp fr ⟨s2, o3, t2⟩ G12 oa2 ca2 (arq ++ rq) (all ++ out) oo co rq2 [] o9 c9 (rs.eraseIdx j) (ts.eraseIdx j) x12 c12 r12 ∧ Xm w5 w12 G12 cp X oo rp rreq rB v ∧ Bw w12 G12 cp A P wo wn wc ∧ n12 = (o3 : List Qn).length) := ⟨HWo.out.1.tell ht HO12.out.1 HO12.out.2, HWo.out.2.1.tell ht, HWo.out.2.2.1.tell ht, ht.n⟩
                clear ht HRV HWo
                refine hKq.out _ _ ?_ (fun hHeldN => ?_)
                · exact HX12.out.2.1.blk
                clear hKq Kq hHeld
                have hHeld := hHeldN
                clear hHeldN
                refine wpAnyH_ready (rs := [8]) (by kernel_rfl) (by simp) ?_
                refine (AllReadyH.cons (by simp only [List.getElem?_toArray, List.getElem?_cons_succ, List.getElem?_cons_zero]; rfl) (fun Kq hKq => ?_) AllReadyH.nil)
                refine step_app1 okQ rfl (.tmp 124) (.tmp 131) rfl oo nz co rq2 rfl (by rw [HTC.out.2.1, HTC.out.2.2]) HX12.out.1.out.own x12 n12 c12 r12 rfl (by rw [HX12.out.2.2.2, HX12.out.1.told.len]) HX12.out.1.told.own.cap.2 HX12.out.1.told.own.row (by have h1 : rq2.length = ([] : List Qn).length := HX12.out.1.out.len; have h2 : r12.length = (o3 : List Qn).length := HX12.out.1.told.len; have h3 : (o3 : List Qn).length ≤ 64 := HO12.out.2.n; have h4 : ([] : List Qn).length ≤ 64 := (by decide); (try simp only [List.length_nil] at h1 h2 h3 h4); show (rq2.length + r12.length) * 136 ≤ 140737488355328; omega) (by have h1 : rq2.length = ([] : List Qn).length := HX12.out.1.out.len; have h2 : r12.length = (o3 : List Qn).length := HX12.out.1.told.len; have h3 : (o3 : List Qn).length ≤ 64 := HO12.out.2.n; have h4 : ([] : List Qn).length ≤ 64 := (by decide); (try simp only [List.length_nil] at h1 h2 h3 h4); show rq2.length + r12.length ≤ 140737488355328; omega) ?_
                intro o13 c13 w13 ho ha
                have HR13 : Hid (Ri w5 w13 hI p cp fr s2 t2 G12 oa2 ca2 (arq ++ rq) (all ++ out) o13 c13 (rq2 ++ r12) ([] ++ o3) o9 c9 (rs.eraseIdx j) (ts.eraseIdx j) ∧ Xm w5 w13 G12 cp X o13 rp rreq rB v ∧ Bw w13 G12 cp A P wo wn wc) := ⟨HX12.out.1.app ho ha, HX12.out.2.1.ap (t := 44) (by decide) HX12.out.1.out.own.tag ha, HX12.out.2.2.1.ap (t := 44) (by decide) HX12.out.1.out.own.tag ha⟩
                clear ho ha
                refine hKq.out _ _ ?_ (fun hHeldN => ?_)
                · exact HR13.out.2.1.blk
                clear hKq Kq hHeld
                have hHeld := hHeldN
                clear hHeldN
                refine wpAnyH_take (i := 9) (v := ?_) (by simp only [List.getElem?_toArray, List.getElem?_cons_succ, List.getElem?_cons_zero]; rfl) (by kernel_rfl) (by kernel_rfl) (by kernel_rfl) (by exact fun _ _ _ h => h) (Or.inl ⟨by rfl, ?_⟩) (by assumption) ?_
                rotate_left
                · (intro _ hSw; (try dsimp only at hSw); go_simp; (try with_reducible rfl))
                try simp only [Act.put, List.setIfInBounds_toArray, List.set_cons_zero, List.set_cons_succ]
                refine wpAnyH_done (by kernel_rfl) ?_ _
                clear hHeld
                have HN3 : Hid (nz + n12 = o3.length ∧ nz + n12 ≤ 64) := by
                  have h1 := HX12.out.2.2.2
                  have h2 := HO12.out.2.n
                  have h3 := HTC.out.2.1
                  rw [h3, Nat.zero_add]
                  exact ⟨h1, by rw [h1]; exact h2⟩
                generalize nz + n12 = nz2 at HN3 ⊢
                have HTD : Hid (t2 ≤ 4000) := by have h1 := HO12.out.2.t; have h2 := HTC.out.1; simp only at h1; show t2 ≤ 4000; omega
                have HO64 : Hid (o3.length ≤ 64) := HO12.out.2.n
                have HR13' : Hid (Ri w5 w13 hI p cp fr s2 t2 G12 oa2 ca2 (arq ++ rq) (all ++ out) o13 c13 (rq2 ++ r12) o3 o9 c9 (rs.eraseIdx j) (ts.eraseIdx j) ∧ Xm w5 w13 G12 cp X o13 rp rreq rB v ∧ Bw w13 G12 cp A P wo wn wc) := HR13.out
                clear HR13 HX12 HO12 HR10 HOW
                have HR13 := HR13'
                clear HR13'
                generalize rq2 ++ r12 = r13 at HR13
                have HOW2 : Hid (∀ Y, Keeps no w13 Y → Calls Try.prog 41 #[.agg #[.int .i64 7, .int .i64 3, .int .u64 (rreq : Nat), .int .u64 0, .slice none 0 0, .slice none 0 0, .slice none 0 0, .slice (some ⟨rB, 0, none⟩) 1 1]] Y (OwnTo Y 7 3 rreq 0 0 0 0 1 [v])) := fun Y hY => by
                  obtain ⟨rv, h1, h2, h3⟩ := (HR13.out.2.1.msg.keepsN hY).ex
                  exact own_any Y 7 3 rreq 0 none none none (some ⟨rB, 0, none⟩) 0 0 0 1 0 0 0 1 [] [] [] [rv] [v] rfl rfl rfl rfl (by decide) (by decide) (by decide) (by decide) (own_nil Y).sl (own_nil Y).sl (own_nil Y).sl (vers_one h1 h2) HFL.out
                go_upto_if 133 with fail
                go_cut [11] from 134 to 142 (fun t11 wx => ∃ (oy : Option Addr) (cy : Nat), t11 = .slice oy nz2 cy ∧ Hid (∃ G rq', Ri w5 wx hI p cp fr s2 t2 G oa2 ca2 (arq ++ rq) (all ++ out) oy cy rq' o3 o9 c9 (rs.eraseIdx j) (ts.eraseIdx j) ∧ Bw wx G cp A P wo wn wc))
                case first =>
                  as_aux_lemma =>
                  cases b with
                  | true =>
                    go_wp2_with fail
                    refine wp_region_held_drew (S := fun Y => Y.heap[X]? = some (.cells #[.int .i64 rp, .int .i64 7, .int .i64 3, .int .u64 (rreq : Nat), .int .u64 0, .slice none 0 0, .slice none 0 0, .slice none 0 0, .slice (some ⟨rB, 0, none⟩) 1 1] 67 (0, 0))) (by kernel_rfl) ?_ (fun hHeld => ?_)
                    · exact ((Keeps.refl no w13).drew).at HR13.out.2.1.blk (fun h => h)
                    refine wpAnyH_take (i := 0) (v := ?_) (by simp only [List.getElem?_toArray, List.getElem?_cons_succ, List.getElem?_cons_zero]; rfl) (by kernel_rfl) (by kernel_rfl) (by kernel_rfl) (by exact fun _ _ _ h => h) (Or.inl ⟨by rfl, ?_⟩) (by assumption) ?_
                    rotate_left
                    · (intro _ hSw; (try dsimp only at hSw); go_simp; (try with_reducible rfl))
                    try simp only [Act.put, List.setIfInBounds_toArray, List.set_cons_zero, List.set_cons_succ]
                    refine wpAnyH_take (i := 1) (v := ?_) (by simp only [List.getElem?_toArray, List.getElem?_cons_succ, List.getElem?_cons_zero]; rfl) (by kernel_rfl) (by kernel_rfl) (by kernel_rfl) (by exact fun _ _ _ h => h) (Or.inl ⟨by rfl, ?_⟩) (by assumption) ?_
                    rotate_left
                    · (intro _ hSw; (try dsimp only at hSw); go_simp; (try with_reducible rfl))
                    try simp only [Act.put, List.setIfInBounds_toArray, List.set_cons_zero, List.set_cons_succ]
                    refine wpAnyH_take (i := 2) (v := ?_) (by simp only [List.getElem?_toArray, List.getElem?_cons_succ, List.getElem?_cons_zero]; rfl) (by kernel_rfl) (by kernel_rfl) (by kernel_rfl) (by exact fun _ _ _ h => h) (Or.inl ⟨by rfl, ?_⟩) (by assumption) ?_
                    rotate_left
                    · (intro _ hSw; (try dsimp only at hSw); go_simp; (try with_reducible rfl))
                    try simp only [Act.put, List.setIfInBounds_toArray, List.set_cons_zero, List.set_cons_succ]
                    refine wpAnyH_take (i := 3) (v := ?_) (by simp only [List.getElem?_toArray, List.getElem?_cons_succ, List.getElem?_cons_zero]; rfl) (by kernel_rfl) (by kernel_rfl) (by kernel_rfl) (by exact fun _ _ _ h => h) (Or.inl ⟨by rfl, ?_⟩) (by assumption) ?_
                    rotate_left
                    · (intro _ hSw; (try dsimp only at hSw); have z0 := cell_of_blk hSw 0; simp only [List.getElem?_toArray, List.getElem?_cons_succ, List.getElem?_cons_zero] at z0; go_simp; (try with_reducible rfl))
                    try simp only [Act.put, List.setIfInBounds_toArray, List.set_cons_zero, List.set_cons_succ]
                    refine wpAnyH_take (i := 4) (v := ?_) (by simp only [List.getElem?_toArray, List.getElem?_cons_succ, List.getElem?_cons_zero]; rfl) (by kernel_rfl) (by kernel_rfl) (by kernel_rfl) (by exact fun _ _ _ h => h) (Or.inl ⟨by rfl, ?_⟩) (by assumption) ?_
                    rotate_left
                    · (intro _ hSw; (try dsimp only at hSw); go_simp; (try with_reducible rfl))
                    try simp only [Act.put, List.setIfInBounds_toArray, List.set_cons_zero, List.set_cons_succ]
                    refine wpAnyH_take (i := 5) (v := ?_) (by simp only [List.getElem?_toArray, List.getElem?_cons_succ, List.getElem?_cons_zero]; rfl) (by kernel_rfl) (by kernel_rfl) (by kernel_rfl) (by exact fun _ _ _ h => h) (Or.inl ⟨by rfl, ?_⟩) (by assumption) ?_
                    rotate_left
                    · (intro _ hSw; (try dsimp only at hSw); have z1 := cell_of_blk hSw 1; simp only [List.getElem?_toArray, List.getElem?_cons_succ, List.getElem?_cons_zero] at z1; have z2 := cell_of_blk hSw 2; simp only [List.getElem?_toArray, List.getElem?_cons_succ, List.getElem?_cons_zero] at z2; have z3 := cell_of_blk hSw 3; simp only [List.getElem?_toArray, List.getElem?_cons_succ, List.getElem?_cons_zero] at z3; have z4 := cell_of_blk hSw 4; simp only [List.getElem?_toArray, List.getElem?_cons_succ, List.getElem?_cons_zero] at z4; have z5 := cell_of_blk hSw 5; simp only [List.getElem?_toArray, List.getElem?_cons_succ, List.getElem?_cons_zero] at z5; have z6 := cell_of_blk hSw 6; simp only [List.getElem?_toArray, List.getElem?_cons_succ, List.getElem?_cons_zero] at z6; have z7 := cell_of_blk hSw 7; simp only [List.getElem?_toArray, List.getElem?_cons_succ, List.getElem?_cons_zero] at z7; have z8 := cell_of_blk hSw 8; simp only [List.getElem?_toArray, List.getElem?_cons_succ, List.getElem?_cons_zero] at z8; go_simp; (try with_reducible rfl))
                    try simp only [Act.put, List.setIfInBounds_toArray, List.set_cons_zero, List.set_cons_succ]
                    refine wpAnyH_ready (rs := [6]) (by kernel_rfl) (by simp) ?_
                    refine (AllReadyH.cons (by simp only [List.getElem?_toArray, List.getElem?_cons_succ, List.getElem?_cons_zero]; rfl) (fun Kq hKq => ?_) AllReadyH.nil)
                    go_simp
                    refine Calls.mono (HOW2.out _ ((Keeps.refl no w13).drew)) ?_
                    rintro e w14 ⟨v4, v5, v6, v7, e4, e5, e6, e7, vrs, rfl, -, hvs, hvb, hk⟩
                    have hk2 := ((Keeps.refl no w13).drew).trans hk
                    have HWo : Hid (Ri w5 w14 hI p cp fr s2 t2 G12 oa2 ca2 (arq ++ rq) (all ++ out) o13 c13 r13 o3 o9 c9 (rs.eraseIdx j) (ts.eraseIdx j) ∧ Xm w5 w14 G12 cp X o13 rp rreq rB v ∧ Bw w14 G12 cp A P wo wn wc ∧ Vers w14 v7 e7 vrs [v]) := ⟨HR13.out.1.keepsN hk2, HR13.out.2.1.keepsN hk2, HR13.out.2.2.keepsN hk2, hvs⟩
                    have HO15 : Hid (WfR s2 ∧ TB2 ⟨s2, [], t2⟩ t2) := by
                      have hw := HWo.out.1.rc.wf.recv HFL.out (part := rp) (kind := 7) (req := rreq) (fr := fr) (st := 1) (t := t2)
                      have hb := recv_tb HWo.out.1.rc.wf HFL.out (part := rp) (kind := 7) (req := rreq) (fr := fr) (st := 1) (t := t2)
                      rw [HF2.out] at hw hb
                      exact ⟨hw, hb⟩
                    clear hvs hvb hk hk2
                    refine hKq.out _ _ ?_ (fun hHeldN => ?_)
                    · exact HWo.out.2.1.blk
                    clear hKq Kq hHeld
                    have hHeld := hHeldN
                    clear hHeldN
                    refine wpAnyH_ready (rs := [7]) (by kernel_rfl) (by simp) ?_
                    refine (AllReadyH.cons (by simp only [List.getElem?_toArray, List.getElem?_cons_succ, List.getElem?_cons_zero]; rfl) (fun Kq hKq => ?_) AllReadyH.nil)
                    have HRV : Hid (Calls Try.prog 13 #[.pointer (some ⟨p, 0, none⟩), .int .i64 rp, aggC 7 3 rreq 0 v4 v5 v6 v7 0 0 0 1 e4 e5 e6 e7] w14 (TellTo w14 p cp fr 1 G12 ⟨s2, [], t2⟩)) := by
                      have h := rReceive_any w14 p cp fr 1 G12 s2 t2 HWo.out.1.rc.is HWo.out.1.rc.wf HWo.out.1.rc.ct (by have := HTC.out; have := HTD.out; omega) HWo.out.1.rc.cF rp 7 3 rreq 0 v4 v5 v6 v7 0 0 0 1 e4 e5 e6 e7 vrs [v] rfl HWo.out.2.2.2 HFL.out
                      rwa [HF2.out] at h
                    go_simp
                    refine Calls.mono HRV.out ?_
                    rintro e w15 ⟨x15, n15, c15, r15, G15, rfl, ht⟩
                    have HX15 : Hid (Rx w5 w15 hI p cp fr ⟨s2, [], t2⟩ G15 oa2 ca2 (arq ++ rq) (all ++ out) o13 c13 r13 o3 o9 c9 (rs.eraseIdx j) (ts.eraseIdx j) x15 c15 r15 ∧ Xm w5 w15 G15 cp X o13 rp rreq rB v ∧ Bw w15 G15 cp A P wo wn wc ∧ n15 = ([] : List Qn).length) := ⟨HWo.out.1.tell ht HO15.out.1 HO15.out.2, HWo.out.2.1.tell ht, HWo.out.2.2.1.tell ht, ht.n⟩
                    clear ht HRV HWo
                    refine hKq.out _ _ ?_ (fun hHeldN => ?_)
                    · exact HX15.out.2.1.blk
                    clear hKq Kq hHeld
                    have hHeld := hHeldN
                    clear hHeldN
                    refine wpAnyH_ready (rs := [8]) (by kernel_rfl) (by simp) ?_
                    refine (AllReadyH.cons (by simp only [List.getElem?_toArray, List.getElem?_cons_succ, List.getElem?_cons_zero]; rfl) (fun Kq hKq => ?_) AllReadyH.nil)
                    refine step_app1 okQ rfl (.tmp 134) (.tmp 141) rfl o13 nz2 c13 r13 rfl (by rw [HN3.out.1, HR13.out.1.out.len]) HX15.out.1.out.own x15 n15 c15 r15 rfl (by rw [HX15.out.2.2.2, HX15.out.1.told.len]) HX15.out.1.told.own.cap.2 HX15.out.1.told.own.row (by have h1 : r13.length = (o3 : List Qn).length := HX15.out.1.out.len; have h2 : r15.length = ([] : List Qn).length := HX15.out.1.told.len; have h3 : ([] : List Qn).length ≤ 64 := HO15.out.2.n; have h4 : (o3 : List Qn).length ≤ 64 := HO64.out; (try simp only [List.length_nil] at h1 h2 h3 h4); show (r13.length + r15.length) * 136 ≤ 140737488355328; omega) (by have h1 : r13.length = (o3 : List Qn).length := HX15.out.1.out.len; have h2 : r15.length = ([] : List Qn).length := HX15.out.1.told.len; have h3 : ([] : List Qn).length ≤ 64 := HO15.out.2.n; have h4 : (o3 : List Qn).length ≤ 64 := HO64.out; (try simp only [List.length_nil] at h1 h2 h3 h4); show r13.length + r15.length ≤ 140737488355328; omega) ?_
                    intro o16 c16 w16 ho ha
                    have HR16 : Hid (Ri w5 w16 hI p cp fr s2 t2 G15 oa2 ca2 (arq ++ rq) (all ++ out) o16 c16 (r13 ++ r15) (o3 ++ []) o9 c9 (rs.eraseIdx j) (ts.eraseIdx j) ∧ Xm w5 w16 G15 cp X o16 rp rreq rB v ∧ Bw w16 G15 cp A P wo wn wc) := ⟨HX15.out.1.app ho ha, HX15.out.2.1.ap (t := 44) (by decide) HX15.out.1.out.own.tag ha, HX15.out.2.2.1.ap (t := 44) (by decide) HX15.out.1.out.own.tag ha⟩
                    clear ho ha
                    refine hKq.out _ _ ?_ (fun hHeldN => ?_)
                    · exact HR16.out.2.1.blk
                    clear hKq Kq hHeld
                    have hHeld := hHeldN
                    clear hHeldN
                    refine wpAnyH_take (i := 9) (v := ?_) (by simp only [List.getElem?_toArray, List.getElem?_cons_succ, List.getElem?_cons_zero]; rfl) (by kernel_rfl) (by kernel_rfl) (by kernel_rfl) (by exact fun _ _ _ h => h) (Or.inl ⟨by rfl, ?_⟩) (by assumption) ?_
                    rotate_left
                    · (intro _ hSw; (try dsimp only at hSw); go_simp; (try with_reducible rfl))
                    try simp only [Act.put, List.setIfInBounds_toArray, List.set_cons_zero, List.set_cons_succ]
                    refine wpAnyH_done (by kernel_rfl) ?_ _
                    clear hHeld
                    have hn15 : n15 = 0 := HX15.out.2.2.2
                    subst hn15
                    have HR16y := HR16.out.1
                    rw [List.append_nil] at HR16y
                    have HM16 : Hid (Ri w5 w16 hI p cp fr s2 t2 G15 oa2 ca2 (arq ++ rq) (all ++ out) o16 c16 (r13 ++ r15) o3 o9 c9 (rs.eraseIdx j) (ts.eraseIdx j) ∧ Bw w16 G15 cp A P wo wn wc) := ⟨HR16y, HR16.out.2.2⟩
                    clear HR16y HR16 HX15 HO15
                    go_wp2_with fail
                    go_meet
                    exact ⟨o16, c16, rfl, G15, _, HM16.out.1, HM16.out.2⟩
                  | false =>
                    go_wp2_with fail
                    go_meet
                    exact ⟨o13, c13, rfl, G12, r13, HR13.out.1, HR13.out.2.2⟩
                case rest =>
                  obtain ⟨oy, cy, rfl, HRY⟩ := hcut
                  rename World => w17
                  have hn2l : nl2 < nl := by have := HN2.out; omega
                  have HE : Hid (∃ sc tc F2 rs ts rq2 o2, Ri w5 w17 hI p cp fr sc tc F2 oa2 ca2 (arq ++ rq) (all ++ out) oy cy rq2 o2 o9 c9 rs ts ∧ RoundAt P ws g fr s t ts sc tc o2 ∧ Bw w17 F2 cp A P wo wn wc ∧ nl2 = ts.length ∧ nz2 = o2.length) := by
                    obtain ⟨G, rq', h1, h2⟩ := HRY.out
                    exact ⟨s2, t2, G, _, _, rq', o3, h1, HV.out.2.1.next, h2, HN2.out.1, HN3.out.1⟩
                  have HQ : Hid (nz2 = 0 ∨ nl2 = 0) := by
                    rcases HV.out.2.1.quiet with h | h
                    · right; have h1 := HN2.out.1; rw [h] at h1; exact h1
                    · left; have h1 := HN3.out.1; rw [h] at h1; exact h1
                  have hn2x : n2 + 1 + nl2 ≤ n + 256000 := by have := HN2.out; omega
                  have hnl2b : nl2 ≤ 256000 := by omega
                  clear HRY HR13 HF1 HF2 HFL HOW2 HV HT HN2 HEA
                  by_cases hz : 0 < nz2
                  · have hzI : (0 : Int) < (nz2 : Int) := by omega
                    have hl2 : nl2 = 0 := by rcases HQ.out with h | h <;> omega
                    have hl2I : ¬ (0 : Int) < (nl2 : Int) := by omega
                    go_wp2_with fail
                    go_roundw
                    case rel => exact ⟨n2 + 1, o9, nl2, c9, oy, nz2, cy, hn2x, hnl2b, by go_num, rfl, rfl, HE.out⟩
                    case measure => first | (simp [lenS]; done) | (simp [lenS]; omega) | exact hn2l
                  · have hzI : ¬ (0 : Int) < (nz2 : Int) := by omega
                    go_wp2_with fail
                    go_roundw
                    case rel => exact ⟨n2 + 1, o9, nl2, c9, oy, nz2, cy, hn2x, hnl2b, by go_num, rfl, rfl, HE.out⟩
                    case measure => first | (simp [lenS]; done) | (simp [lenS]; omega) | exact hn2l
            · have hl0' : ¬ (0 : Int) < (nl : Int) := by omega
              have HE : Hid (∃ h F arq rq' s t out' all', Rv w5 wi h p cp fr s t F oa2 ca2 arq all' oo co rq' out' ∧ RunAt P ws g fr s1 t1 (kr + 1) s t out' all' ∧ Bw wi F cp A P wo wn wc ∧ na + nq = all'.length ∧ nz = out'.length) := by
                obtain ⟨sc, tc, F2, rs, ts, rq2, o2, h1, h2, h3, h4, h5⟩ := HG.out
                have e : ts = [] := List.length_eq_zero_iff.1 (by omega)
                subst e
                cases h2 with
                | going gs l hl hw => exact absurd rfl hl
                | done => exact ⟨hI, F2, arq ++ rq, rq2, _, _, _, all ++ out, h1.rv, HN.out.1.next, h3, by rw [List.length_append, HN.out.2.1, HN.out.2.2.1], h5⟩
              have HK2 : Hid (kr + 1 ≤ 2) := by
                obtain ⟨_, _, _, _, _, _, _, _, _, h2, _⟩ := HE.out
                exact h2.le.1
              have hk2' : ((kr + 1 : Nat) : Int) ≤ 2 := by have := HK2.out; omega
              clear HG
              go_wp2_with fail
              go_roundw
              case rel => exact ⟨kr + 1, n2, oa2, na + nq, ca2, oo, nz, co, hk2', by omega, by go_num, rfl, rfl, rfl, HE.out⟩
              case measure => first | (simp [intOf]; done) | (simp [intOf]; omega)
    · have hq' : ¬ (0 : Int) < (nq : Int) := by omega
      have HE : Hid (∃ G arq s t all, na = all.length ∧ RunAt P ws g fr s1 t1 kr s t [] all ∧ Rc w5 wr p cp fr 1 s t G ∧ OutS wr (Zr w5 G cp) oa ca arq all) := by
        obtain ⟨h, F, arq, rq, s, t, out, all, h1, h2, h3, h4, h5⟩ := HR.out
        have e : out = [] := List.length_eq_zero_iff.1 (by omega)
        subst e
        exact ⟨F, arq, s, t, all, h4, h2, h1.rc, h1.all.mono (fun i h _ => h.1)⟩
      have hq0 : nq = 0 := by omega
      subst hq0
      clear HR
      go_wp2_with fail
      go_ret2
      obtain ⟨G, arq, s, t, all, h4, h2, h1, h3⟩ := HE.out
      exact ⟨oa, na, ca, arq, G, kr, s, t, all, rfl, h4, h2, h1, h3⟩
end Go.Proofs.Ytileipnoiocdlaa
