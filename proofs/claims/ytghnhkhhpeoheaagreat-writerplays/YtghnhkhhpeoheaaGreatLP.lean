/- WriterPlays. -/
import Derived.Test.YtghnhkhhpeoheaaGreatSt
import Derived.Test.YtghnhkhhpeoheaaGreatTU
import Derived.Deep.CutBlock
import Derived.Deep.CutRange
import Derived.Deep.RegionHeldLaw
namespace Go.Proofs.YtghnhkhhpeoheaaGreat
open Go.RowKit Go.Sort Orl
set_option linter.unusedVariables false
set_option linter.unusedSimpArgs false

theorem eqlN (w : World) : (binOp .eql 29 .nilFunc .nilFunc).run Tryz.prog w = .ok (.bool true) w := by kernel_rfl
set_option maxRecDepth 10000 in
theorem wNew_nil (w : World) (o : Option Addr) (n c : Nat) (id : Nat) (P : Int) (hP : -9223372036854775808 ≤ P ∧ P ≤ 9223372036854775807) :
    Calls Tryz.prog 7 #[.slice o n c, .int .u64 (id : Nat), .int .i64 P, .nilFunc] w fun e w' => e = .returned (.tuple #[.pointer none, .int .i64 1]) ∧ Keeps no w w' := by
  by_cases h : 1 ≤ P ∧ P ≤ 64 ∧ 65536 ≤ id
  · obtain ⟨h1, h2, h3⟩ := h
    have h1' : ¬ P < 1 := by omega
    have h2' : ¬ 64 < P := by omega
    have h3' : ¬ ((id : Nat) : Int) < 65536 := by omega
    have h3'' : ¬ id < 65536 := by omega
    clear h1 h2 h3 hP
    have hef := eqlN
    go_enter Tryz.func7, Tryz.ntmps7
    go_wp2_with fail
    go_ret2
    exact ⟨rfl, Keeps.refl _ _⟩
  · exact wNew_arg w o n c id P .nilFunc hP h
/-- New on both sides, then the pairs written over -/
structure Beg (w0 w : World) (cp p q : Nat) (s : WS) (m : Nat) : Prop where
  ex : ∃ Fp Fd, St w0 w cp p q Fp Fd s m none 0 [] []
theorem beg_of {w0 w2 w3 w4 w5 w6 : World} {cp p q g cc : Nat} {s : WS} {m : Nat} {Fp Fd : Nat → Prop} {l : List Pr} (k0 : Keeps no w0 w2) (hc : IsCt w2 cp m) (hnc : w0.heap.size ≤ cp) (hm : m < 18446744073709551616) (hg : Own PE w3 (some ⟨g, 0, none⟩) cc l) (hgn : w2.heap.size ≤ g) (k3 : Keeps no w2 w3) (hw : IsWr w4 p cp Fp s) (hP : ∀ i, Fp i → w3.heap.size ≤ i) (k4 : Keeps no w3 w4) (hr : Rd w5 q Fd s m) (hD : ∀ i, Fd i → w4.heap.size ≤ i) (k5 : Keeps no w4 w5) (k6 : Keeps (fun i => i = g) w5 w6) (hwf : WfS s) : Beg w0 w6 cp p q s m := by
  have hcl := hc.lt
  have hgl := hg.lt g ⟨_, rfl, rfl⟩
  have hwl := hw.lt
  have hs3 := k3.size
  have hs4 := k4.size
  have hs5 := k5.size
  have hs0 := k0.size
  refine ⟨Fp, Fd, (hw.keeps k5 (fun _ _ h => h)).keeps k6 (fun i hi e => ?_), hr.keeps k6 (fun i hi e => ?_), (((hc.keeps k3 (fun h => h)).keeps k4 (fun h => h)).keeps k5 (fun h => h)).keeps k6 (fun e => ?_), fun i hi hd => ?_, fun h => ?_, fun h => ?_, hwf, hm, tq_nil _, fun i hi => ?_, ⟨by simp, fun q hq => by cases hq⟩, (((k0.trans k3).trans k4).trans k5).then k6 (fun i hi => .inr ?_), fun i hi => ?_, fun i hi => ?_, hnc⟩
  · have := hP i hi; omega
  · have := hD i hi; omega
  · omega
  · have := hwl i hi; have := hD i hd; omega
  · have := hP _ h; omega
  · have := hD _ h; omega
  · rcases hi with ⟨x, e, _⟩ | ⟨j, hj, _⟩
    · cases e
    · simp at hj
  · omega
  · have := hP i hi; omega
  · have := hD i hi; omega
/-- behind a call on both sides: what was told -/
def Mt (w wx : World) (cp p q : Nat) (lo : Option Addr) (lc : Nat) (lrs : List RQ) (lqs : List Qn) (o1 : Option Addr) (n1 c1 : Nat) (o2 : Option Addr) (n2 c2 : Nat) : Prop :=
  ∃ rs1 rs2 told Fp Fd s m, n1 = told.length ∧ n2 = told.length ∧ FitQs told ∧ Tq wx o1 c1 rs1 told ∧ Tq wx o2 c2 rs2 told ∧ St w wx cp p q Fp Fd s m lo lc lrs lqs ∧ ∀ i, TB o2 rs2 told.length i → ¬ Fp i ∧ ¬ Fd i ∧ ¬ i = cp
theorem mt_none {w wx : World} {cp p q : Nat} {lo : Option Addr} {lc : Nat} {lrs : List RQ} {lqs : List Qn} {Fp Fd : Nat → Prop} {s : WS} {m : Nat} (h : St w wx cp p q Fp Fd s m lo lc lrs lqs) : Mt w wx cp p q lo lc lrs lqs none 0 0 none 0 0 :=
  ⟨[], [], [], Fp, Fd, s, m, rfl, rfl, ⟨by simp, fun q hq => by cases hq⟩, tq_nil _, tq_nil _, h, fun i hi => by rcases hi with ⟨x, e, _⟩ | ⟨j, hj, _⟩; cases e; simp at hj⟩
--BEGIN LAW
set_option maxRecDepth 20000 in
set_option maxHeartbeats 8000000 in
theorem writerPlays_any (w : World) (o : Option Addr) (n c : Nat) (l : List Pr) (id : Nat) (P : Int) (first : Nat) (nn : Bool) (os : Option Addr) (ns cs : Nat) (sc : List ROp) (hn : n = l.length) (hl : l.length ≤ 4398046511000) (hz : FitsP l) (hs : Sl PE w o c l) (hid : id < 18446744073709551616) (hP : -9223372036854775808 ≤ P ∧ P ≤ 9223372036854775807) (hf : first < 18446744073709551616) (hns : ns = sc.length) (hls : sc.length ≤ 17592186044416) (hss : Sl OE w os cs sc) (hfo : ∀ r ∈ sc, FitO r) :
    Calls Tryz.prog 3 #[.slice o n c, .int .u64 (id : Nat), .int .i64 P, .int .u64 (first : Nat), .bool nn, .slice os ns cs] w fun e w' => e = .returned (.bool true) ∧ Keeps no w w' := by
  have HLen : Hid (∀ X, Keeps no w X → Calls Tryz.prog 6 #[.slice o n c] X (LentTo X l n)) := fun X hX => lent_any X o n c l hn hl (hs.keepsN hX)
  have HNil : Hid (∀ X g cc, Calls Tryz.prog 7 #[.slice (some ⟨g, 0, none⟩) n cc, .int .u64 (id : Nat), .int .i64 P, .nilFunc] X fun e w' => e = .returned (.tuple #[.pointer none, .int .i64 1]) ∧ Keeps no X w') := fun X g cc => wNew_nil X _ n cc id P hP
  have HNew : Hid (∀ X g cc cp, Own PE X (some ⟨g, 0, none⟩) cc (l ++ [(spT, e0)]) → Calls Tryz.prog 7 #[.slice (some ⟨g, 0, none⟩) n cc, .int .u64 (id : Nat), .int .i64 P, .func (.func 5) #[.pointer (some ⟨cp, 0, none⟩)] #[]] X (NewTo X l id P cp)) := fun X g cc cp ho => wNew_any X _ n cc l id P cp hn hl hz (own_pre okP ho).sl hid hP
  have HDN : Hid (∀ X b, Keeps no w X → Calls Tryz.prog 8 #[.slice o n c, .int .u64 (id : Nat), .int .i64 P, .bool b, .int .u64 (first : Nat)] X (DNewTo X l id P b first)) := fun X b hX => dNew_any X o n c l id P b first hn hl hz (hs.keepsN hX) hid hf hP
  have HKe : Hid (∀ X g cc, Keeps no w X → Own PE X (some ⟨g, 0, none⟩) cc (l ++ [(spT, e0)]) → Calls Tryz.prog 9 #[.slice (some ⟨g, 0, none⟩) n cc, .slice o n c] X fun e w' => e = .returned (.bool true) ∧ Keeps (fun i => i = g) X w') := fun X g cc hX ho => kept_any X g cc o n c l hn hl ho (hs.keepsN hX)
  have HWF : Hid ((1 ≤ P ∧ P ≤ 64 ∧ 65536 ≤ id) → valP l = true → WfS (startS id l P.toNat)) := fun h hv => start_wf h.2.2 hid (valP_size hv).1 (valP_size hv).2 (by omega) (by omega)
  have HSS : Hid (ns = sc.length ∧ Sl OE w os cs sc ∧ (∀ r ∈ sc, FitO r) ∧ first < 18446744073709551616) := ⟨hns, hss, hfo, hf⟩
  have hns8 : (ns : Int) ≤ 17592186044416 := by omega
  clear hn hl hz hs hid hf hss hfo hls hns
  go_enter Tryz.func3, Tryz.ntmps3
  go_wp2_with fail
  refine (alive_any _).mono ?_
  rintro e w1 ⟨rfl, hk1⟩
  obtain ⟨cp, hcp⟩ : ∃ cp, cp = w1.heap.size := ⟨_, rfl⟩
  have HC1 : Hid (∀ w2, w2 = w1.alloc (.cells #[.int .u64 ((first : Nat) : Int)] 28) → IsCt w2 cp first ∧ Keeps no w w2 ∧ w.heap.size ≤ cp) := by
    rintro w2 rfl
    exact ⟨by rw [hcp]; exact blk_new w1 _, hk1.alloc _, by rw [hcp]; exact hk1.size⟩
  cases nn with
  | true =>
    go_upto_region 7 with fail
    have h2 := HC1.out _ rfl
    rw [← hcp]
    generalize w1.alloc (.cells #[.int .u64 ((first : Nat) : Int)] 28) = w2 at h2 ⊢
    have H2 : Hid (IsCt w2 cp first ∧ Keeps no w w2 ∧ w.heap.size ≤ cp) := h2
    clear h2 HC1 hcp hk1
    go_wp2_with fail
    refine (HLen.out w2 H2.out.2.1).mono ?_
    rintro e w3 ⟨g, cc, rfl, ho, hg, hk3⟩
    have H3 : Hid (Own PE w3 (some ⟨g, 0, none⟩) cc (l ++ [(spT, e0)]) ∧ w2.heap.size ≤ g ∧ Keeps no w2 w3) := ⟨ho, hg, hk3⟩
    clear ho hg hk3
    go_wp2_with fail
    refine (HNil.out w3 g cc).mono ?_
    rintro e w4 ⟨rfl, hk4⟩
    have HK4 : Hid (Keeps no w2 w4 ∧ Keeps no w3 w4) := ⟨H3.out.2.2.trans hk4, hk4⟩
    clear hk4
    go_wp2_with fail
    refine (HDN.out w4 false (H2.out.2.1.trans HK4.out.1)).mono ?_
    rintro e w5 hd
    obtain ⟨rfl, hk5⟩ := hd.1 (by simp)
    clear hd
    have HK5 : Hid (Keeps no w w5 ∧ Keeps no w3 w5) := ⟨(H2.out.2.1.trans HK4.out.1).trans hk5, HK4.out.2.trans hk5⟩
    have hcc := ((H2.out.1.keeps (HK4.out.1.trans hk5) (fun h => h)) : IsCt w5 cp first).cell
    clear hk5
    go_wp2_with fail
    refine (HKe.out w5 g cc HK5.out.1 (H3.out.1.keepsN HK5.out.2)).mono ?_
    rintro e w6 ⟨rfl, hk6⟩
    have HK6 : Hid (Keeps no w w6) := HK5.out.1.then hk6 (fun i hi => .inr (by have := H3.out.2.1; have := H2.out.2.1.size; omega))
    clear hk6
    go_wp2_with fail
    go_ret
    exact ⟨rfl, HK6.out⟩
  | false =>
    go_upto_region 7 with fail
    have h2 := HC1.out _ rfl
    rw [← hcp]
    generalize w1.alloc (.cells #[.int .u64 ((first : Nat) : Int)] 28) = w2 at h2 ⊢
    have H2 : Hid (IsCt w2 cp first ∧ Keeps no w w2 ∧ w.heap.size ≤ cp) := h2
    clear h2 HC1 hcp hk1
    go_wp2_with fail
    refine (HLen.out w2 H2.out.2.1).mono ?_
    rintro e w3 ⟨g, cc, rfl, ho, hg, hk3⟩
    have H3 : Hid (Own PE w3 (some ⟨g, 0, none⟩) cc (l ++ [(spT, e0)]) ∧ w2.heap.size ≤ g ∧ Keeps no w2 w3) := ⟨ho, hg, hk3⟩
    clear ho hg hk3
    go_wp2_with fail
    refine (HNew.out w3 g cc cp H3.out.1).mono ?_
    rintro e w4 hN
    by_cases hbad : ¬ ((1 ≤ P ∧ P ≤ 64 ∧ 65536 ≤ id) ∧ valP l = true)
    · obtain ⟨EV, rfl, hk4, HD⟩ : ∃ EV : Int, e = .returned (.tuple #[.pointer none, .int .i64 EV]) ∧ Keeps no w3 w4 ∧ Hid (∀ X e' X', DNewTo X l id P true first e' X' → e' = .returned (.tuple #[.pointer none, .int .i64 EV]) ∧ Keeps no X X') := by
        by_cases h1 : 1 ≤ P ∧ P ≤ 64 ∧ 65536 ≤ id
        · have hv : valP l = false := by cases h : valP l with
            | false => rfl
            | true => exact absurd ⟨h1, h⟩ hbad
          obtain ⟨a, b⟩ := hN.2.1 h1 hv
          exact ⟨40, a, b, fun X e' X' h => h.2.1 ⟨h1.1, h1.2.1, h1.2.2, rfl⟩ hv⟩
        · obtain ⟨a, b⟩ := hN.1 h1
          exact ⟨1, a, b, fun X e' X' h => h.1 (fun h' => h1 ⟨h'.1, h'.2.1, h'.2.2.1⟩)⟩
      have HK4 : Hid (Keeps no w2 w4 ∧ Keeps no w3 w4) := ⟨H3.out.2.2.trans hk4, hk4⟩
      clear hk4 hN hbad HNew HWF
      go_wp2_with fail
      refine (HDN.out w4 true (H2.out.2.1.trans HK4.out.1)).mono ?_
      rintro e w5 hd
      obtain ⟨rfl, hk5⟩ := HD.out _ _ _ hd
      clear hd
      have HK5 : Hid (Keeps no w w5 ∧ Keeps no w3 w5) := ⟨(H2.out.2.1.trans HK4.out.1).trans hk5, HK4.out.2.trans hk5⟩
      have hcc := ((H2.out.1.keeps (HK4.out.1.trans hk5) (fun h => h)) : IsCt w5 cp first).cell
      clear hk5
      go_wp2_with fail
      refine (HKe.out w5 g cc HK5.out.1 (H3.out.1.keepsN HK5.out.2)).mono ?_
      rintro e w6 ⟨rfl, hk6⟩
      have HK6 : Hid (Keeps no w w6) := HK5.out.1.then hk6 (fun i hi => .inr (by have := H3.out.2.1; have := H2.out.2.1.size; omega))
      clear hk6
      go_wp2_with fail
      go_ret
      exact ⟨rfl, HK6.out⟩
    · have hgood : (1 ≤ P ∧ P ≤ 64 ∧ 65536 ≤ id) ∧ valP l = true := Classical.not_not.1 hbad
      obtain ⟨p, Fp, rfl, hw4, hP4, hk4⟩ := hN.2.2 hgood.1 hgood.2
      have HW4 : Hid (IsWr w4 p cp Fp (startS id l P.toNat) ∧ (∀ i, Fp i → w3.heap.size ≤ i) ∧ Keeps no w3 w4) := ⟨hw4, hP4, hk4⟩
      have HG : Hid (((1 ≤ P ∧ P ≤ 64 ∧ 65536 ≤ id) ∧ valP l = true) ∧ WfS (startS id l P.toNat)) := ⟨hgood, HWF.out hgood.1 hgood.2⟩
      have HK4 : Hid (Keeps no w2 w4) := H3.out.2.2.trans hk4
      clear hw4 hP4 hk4 hgood hbad hN HNew HWF
      go_wp2_with fail
      refine (HDN.out w4 true (H2.out.2.1.trans HK4.out)).mono ?_
      rintro e w5 hd
      obtain ⟨q, Fd, rfl, hr5, hD5, hk5⟩ := hd.2.2 ⟨HG.out.1.1.1, HG.out.1.1.2.1, HG.out.1.1.2.2, rfl⟩ HG.out.1.2
      clear hd
      have HR5 : Hid (Rd w5 q Fd (startS id l P.toNat) first ∧ (∀ i, Fd i → w4.heap.size ≤ i) ∧ Keeps no w4 w5) := ⟨hr5, hD5, hk5⟩
      have hcc := ((H2.out.1.keeps (HK4.out.trans hk5) (fun h => h)) : IsCt w5 cp first).cell
      clear hr5 hD5 hk5
      go_wp2_with fail
      refine (HKe.out w5 g cc ((H2.out.2.1.trans HK4.out).trans HR5.out.2.2) (H3.out.1.keepsN (HW4.out.2.2.trans HR5.out.2.2))).mono ?_
      rintro e w6 ⟨rfl, hk6⟩
      have HB : Hid (Beg w w6 cp p q (startS id l P.toNat) first) := beg_of H2.out.2.1 H2.out.1 H2.out.2.2 HSS.out.2.2.2 H3.out.1 H3.out.2.1 H3.out.2.2 HW4.out.1 HW4.out.2.1 HW4.out.2.2 HR5.out.1 HR5.out.2.1 HR5.out.2.2 hk6 HG.out.2
      clear hk6 H2 H3 HW4 HR5 HK4 HG hcc HLen HNil HDN HKe
      generalize startS id l P.toNat = s0 at HB
      go_wp2_with fail
--BEGIN LOOP
      go_loopw [20, 21] (fun s20 s21 wr => ∃ (i : Nat) (lo : Option Addr) (ln lc : Nat), i ≤ ns ∧ s20 = .slice lo ln lc ∧ s21 = .int .i64 i ∧ Hid (∃ Fp Fd s m lrs lqs, ln = lqs.length ∧ St w wr cp p q Fp Fd s m lo lc lrs lqs)) (fun _ s21 _ => ns - (intOf s21).toNat)
      case atStart =>
        obtain ⟨Fp, Fd, h⟩ := HB.out.ex
        exact ⟨0, none, 0, 0, by omega, rfl, rfl, Fp, Fd, s0, first, [], [], rfl, h⟩
      case round =>
        rename World => wr
        obtain ⟨i, lo, ln, lc, hi, rfl, rfl, HW⟩ := hrel
        clear HB
        by_cases hlt : i < ns
        · have hlt' : (i : Int) < ns := by omega
          obtain ⟨Fp, Fd, s, m, lrs, lqs, hln, hSt⟩ := HW.out
          have HST : Hid (ln = lqs.length ∧ St w wr cp p q Fp Fd s m lo lc lrs lqs) := ⟨hln, hSt⟩
          obtain ⟨b, off, ho, A⟩ := (HSS.out.2.1.keepsN hSt.kp).atO (j := i) (by rw [← HSS.out.1]; exact hlt)
          have hfo := HSS.out.2.2.1 _ (getD_mem_lt rop0 (by rw [← HSS.out.1]; exact hlt))
          have HSL : Hid (∀ X, Keeps no w X → Sl OE X os cs sc) := fun X hX => HSS.out.2.1.keepsN hX
          subst ho
          generalize sc.getD i rop0 = r at A hfo
          obtain ⟨k, pt, nn, tn, mk, cl, mr, mi, v4, n4, c4, v5, n5, c5, v6, n6, c6, v7, n7, c7⟩ := r
          obtain ⟨a0, a1, a2, a3, a4, a5, a6, a7, a8, a9, a10, a11⟩ := A
          obtain ⟨hf1, hf2⟩ := hfo
          simp only at a0 a1 a2 a3 a4 a5 a6 a7 a8 a9 a10 a11 hf1 hf2
          have HFO : Hid (mr < 18446744073709551616 ∧ mi < 18446744073709551616) := ⟨hf1, hf2⟩
          clear hf1 hf2 hln hSt HW
          obtain ⟨BO, hBO⟩ : ∃ BO, BO = wr.heap.size := ⟨_, rfl⟩
          have HWA : Hid (∀ wa, wa = wr.alloc (.cells #[.int .i64 k, .int .i64 pt, .int .i64 nn, .bool tn, .int .i64 mk, .int .i64 cl, .int .u64 (mr : Nat), .int .u64 (mi : Nat), .slice v4 n4 c4, .slice v5 n5 c5, .slice v6 n6 c6, .slice v7 n7 c7] 47) → wa.heap[BO]? = some (.cells #[.int .i64 k, .int .i64 pt, .int .i64 nn, .bool tn, .int .i64 mk, .int .i64 cl, .int .u64 (mr : Nat), .int .u64 (mi : Nat), .slice v4 n4 c4, .slice v5 n5 c5, .slice v6 n6 c6, .slice v7 n7 c7] 47 (0, 0)) ∧ Keeps no wr wa) := by
            rintro wa rfl
            exact ⟨by rw [hBO]; exact blk_new wr _, (Keeps.refl _ _).alloc _⟩
          go_upto_block 2 with fail
          have hwa := HWA.out _ rfl
          rw [← hBO]
          generalize wr.alloc (.cells #[.int .i64 k, .int .i64 pt, .int .i64 nn, .bool tn, .int .i64 mk, .int .i64 cl, .int .u64 (mr : Nat), .int .u64 (mi : Nat), .slice v4 n4 c4, .slice v5 n5 c5, .slice v6 n6 c6, .slice v7 n7 c7] 47) = wa at hwa ⊢
          have HSA : Hid (St w wa cp p q Fp Fd s m lo lc lrs lqs) := HST.out.2.keepsN hwa.2
          have HLN : Hid (ln = lqs.length) := HST.out.1
          have HBA : Hid (wa.heap[BO]? = some (.cells #[.int .i64 k, .int .i64 pt, .int .i64 nn, .bool tn, .int .i64 mk, .int .i64 cl, .int .u64 (mr : Nat), .int .u64 (mi : Nat), .slice v4 n4 c4, .slice v5 n5 c5, .slice v6 n6 c6, .slice v7 n7 c7] 47 (0, 0))) := hwa.1
          clear hwa HWA hBO HST a0 a1 a2 a3 a4 a5 a6 a7 a8 a9 a10 a11
          go_cut [23, 24, 25, 26] from 93 to 126 (fun t23 t24 _ _ wx => ∃ (o1 : Option Addr) (n1 c1 : Nat) (o2 : Option Addr) (n2 c2 : Nat), t23 = .slice o1 n1 c1 ∧ t24 = .slice o2 n2 c2 ∧ Hid (Mt w wx cp p q lo lc lrs lqs o1 n1 c1 o2 n2 c2))
          case first =>
            as_aux_lemma =>
            clear HSS HSL
            by_cases k1 : k = 1
            · subst k1
              go_wp2_with fail
              refine (wBegin_any wa p cp Fp s m HSA.out.wr HSA.out.wf HSA.out.ct HSA.out.hm HSA.out.cpP).mono ?_
              rintro e wa1 ⟨o1, n1, c1, rs1, G, rfl, ht⟩
              have HT : Hid (Tell IsWr wa p cp Fp (beginS s m) o1 n1 c1 rs1 G wa1) := ht
              clear ht
              go_wp2_with fail
              refine (dBegin_any wa1 q Fd s m (HSA.out.mid HT.out) HSA.out.wf HSA.out.hm).mono ?_
              rintro e wa2 ⟨o2, n2, c2, rs2, G2, rfl, hr⟩
              have HMT : Hid (Mt w wa2 cp p q lo lc lrs lqs o1 n1 c1 o2 n2 c2) := by
                obtain ⟨e1, e2, e3, e4⟩ := (HSA.out).two HT.out hr (HSA.out.wf.begin m |>.1) (begin_m s m HSA.out.hm)
                exact ⟨rs1, rs2, _, G, G2, _, _, HT.out.n, hr.n, (HSA.out.wf.begin m).2, e2, e3, e1, e4⟩
              clear hr HT
              go_wp2_with fail
              go_meet
              exact ⟨o1, n1, c1, o2, n2, c2, rfl, rfl, HMT⟩
            have k1b : (k == 1) = false := by simpa using k1
            by_cases k2 : k = 2
            · subst k2
              have x0 := cell_of_blk HBA.out 0
              have x1 := cell_of_blk HBA.out 1
              have x2 := cell_of_blk HBA.out 2
              have x3 := cell_of_blk HBA.out 3
              have x4 := cell_of_blk HBA.out 4
              have x5 := cell_of_blk HBA.out 5
              have x6 := cell_of_blk HBA.out 6
              have x7 := cell_of_blk HBA.out 7
              have x8 := cell_of_blk HBA.out 8
              have x9 := cell_of_blk HBA.out 9
              have x10 := cell_of_blk HBA.out 10
              have x11 := cell_of_blk HBA.out 11
              simp only [List.getElem?_toArray, List.getElem?_cons_succ, List.getElem?_cons_zero] at x0 x1 x2 x3 x4 x5 x6 x7 x8 x9 x10 x11
              have HTU : Hid (Calls Tryz.prog 12 #[.agg #[.int .i64 2, .int .i64 pt, .int .i64 nn, .bool tn, .int .i64 mk, .int .i64 cl, .int .u64 (mr : Nat), .int .u64 (mi : Nat), .slice v4 n4 c4, .slice v5 n5 c5, .slice v6 n6 c6, .slice v7 n7 c7], .slice lo ln lc] wa (TurnTo wa)) := turned_any wa 2 pt nn tn mk cl mr mi v4 v5 v6 v7 n4 n5 n6 n7 c4 c5 c6 c7 lo ln lc lrs lqs HFO.out.1 HFO.out.2 HLN.out HSA.out.fit HSA.out.last.qs
              go_wp2_with fail
              refine HTU.out.mono ?_
              rintro e wb ⟨yp, yk, yc, yr, yi, u4, m4, d4, u5, m5, d5, u6, m6, d6, u7, m7, d7, rfl, HYB, HKB⟩
              clear x0 x1 x2 x3 x4 x5 x6 x7 x8 x9 x10 x11 HTU
              go_upto_region 26 with fail
              obtain ⟨BM, hBM⟩ : ∃ BM, BM = wb.heap.size := ⟨_, rfl⟩
              have hwd : (wb.alloc (.cells #[.int .i64 yk, .int .i64 yc, .int .u64 (yr : Nat), .int .u64 (yi : Nat), .slice u4 m4 d4, .slice u5 m5 d5, .slice u6 m6 d6, .slice u7 m7 d7] 45)).heap[BM]? = some (.cells #[.int .i64 yk, .int .i64 yc, .int .u64 (yr : Nat), .int .u64 (yi : Nat), .slice u4 m4 d4, .slice u5 m5 d5, .slice u6 m6 d6, .slice u7 m7 d7] 45 (0, 0)) ∧ Keeps no wa (wb.alloc (.cells #[.int .i64 yk, .int .i64 yc, .int .u64 (yr : Nat), .int .u64 (yi : Nat), .slice u4 m4 d4, .slice u5 m5 d5, .slice u6 m6 d6, .slice u7 m7 d7] 45)) := ⟨by rw [hBM]; exact blk_new wb _, HKB.out.alloc _⟩
              have HNB : Hid (¬ (Fp BM ∨ BM = cp)) := by
                rintro (h | h)
                · have := HSA.out.wr.lt BM h; have := HKB.out.size; omega
                · have := HSA.out.ct.lt; have := HKB.out.size; omega
              rw [← hBM]
              generalize wb.alloc (.cells #[.int .i64 yk, .int .i64 yc, .int .u64 (yr : Nat), .int .u64 (yi : Nat), .slice u4 m4 d4, .slice u5 m5 d5, .slice u6 m6 d6, .slice u7 m7 d7] 45) = wd at hwd ⊢
              have HSD : Hid (St w wd cp p q Fp Fd s m lo lc lrs lqs) := HSA.out.keepsN hwd.2
              have HBD : Hid (wd.heap[BM]? = some (.cells #[.int .i64 yk, .int .i64 yc, .int .u64 (yr : Nat), .int .u64 (yi : Nat), .slice u4 m4 d4, .slice u5 m5 d5, .slice u6 m6 d6, .slice u7 m7 d7] 45 (0, 0))) := hwd.1
              clear hwd hBM
              have x0 := cell_of_blk HBD.out 0
              have x1 := cell_of_blk HBD.out 1
              have x2 := cell_of_blk HBD.out 2
              have x3 := cell_of_blk HBD.out 3
              have x4 := cell_of_blk HBD.out 4
              have x5 := cell_of_blk HBD.out 5
              have x6 := cell_of_blk HBD.out 6
              have x7 := cell_of_blk HBD.out 7
              simp only [List.getElem?_toArray, List.getElem?_cons_succ, List.getElem?_cons_zero] at x0 x1 x2 x3 x4 x5 x6 x7
              go_wp2_with fail
              refine (wRecv_any wd p cp Fp s m yp yk yc yr yi u4 u5 u6 u7 m4 m5 m6 m7 d4 d5 d6 d7 HSD.out.wr HSD.out.wf HSD.out.ct HSD.out.hm HSD.out.cpP HYB.out.1 HYB.out.2).mono ?_
              rintro e wa1 ⟨o1, n1, c1, rs1, G, rfl, ht⟩
              have HT : Hid (Tell IsWr wd p cp Fp (recvS s m yp yk yr yi) o1 n1 c1 rs1 G wa1) := ht
              clear ht
              have x0 := cell_of_blk (HT.out.kp.at HBD.out HNB.out) 0
              have x1 := cell_of_blk (HT.out.kp.at HBD.out HNB.out) 1
              have x2 := cell_of_blk (HT.out.kp.at HBD.out HNB.out) 2
              have x3 := cell_of_blk (HT.out.kp.at HBD.out HNB.out) 3
              have x4 := cell_of_blk (HT.out.kp.at HBD.out HNB.out) 4
              have x5 := cell_of_blk (HT.out.kp.at HBD.out HNB.out) 5
              have x6 := cell_of_blk (HT.out.kp.at HBD.out HNB.out) 6
              have x7 := cell_of_blk (HT.out.kp.at HBD.out HNB.out) 7
              simp only [List.getElem?_toArray, List.getElem?_cons_succ, List.getElem?_cons_zero] at x0 x1 x2 x3 x4 x5 x6 x7
              go_wp2_with fail
              refine (dRecv_any wa1 q Fd s m yp yk yc yr yi u4 u5 u6 u7 m4 m5 m6 m7 d4 d5 d6 d7 (HSD.out.mid HT.out) HSD.out.wf HSD.out.hm HYB.out.1 HYB.out.2).mono ?_
              rintro e wa2 ⟨o2, n2, c2, rs2, G2, rfl, hr⟩
              have HMT : Hid (Mt w wa2 cp p q lo lc lrs lqs o1 n1 c1 o2 n2 c2) := by
                obtain ⟨e1, e2, e3, e4⟩ := (HSD.out).two HT.out hr ((HSD.out.wf.recv m yp yk yr yi).1) (recv_m s m yp yk yr yi HSD.out.hm)
                exact ⟨rs1, rs2, _, G, G2, _, _, HT.out.n, hr.n, (HSD.out.wf.recv m yp yk yr yi).2, e2, e3, e1, e4⟩
              clear hr HT
              go_wp2_with fail
              go_meet
              exact ⟨o1, n1, c1, o2, n2, c2, rfl, rfl, HMT⟩
            have k2b : (k == 2) = false := by simpa using k2
            by_cases k3 : k = 3
            · subst k3
              go_wp2_with fail
              refine (wAgain_any wa p cp Fp s m HSA.out.wr HSA.out.wf HSA.out.ct HSA.out.hm HSA.out.cpP).mono ?_
              rintro e wa1 ⟨o1, n1, c1, rs1, G, rfl, ht⟩
              have HT : Hid (Tell IsWr wa p cp Fp ⟨s, againS s, m⟩ o1 n1 c1 rs1 G wa1) := ht
              clear ht
              go_wp2_with fail
              refine (dAgain_any wa1 q Fd s m (HSA.out.mid HT.out) HSA.out.wf).mono ?_
              rintro e wa2 ⟨o2, n2, c2, rs2, G2, rfl, hr⟩
              have HMT : Hid (Mt w wa2 cp p q lo lc lrs lqs o1 n1 c1 o2 n2 c2) := by
                obtain ⟨e1, e2, e3, e4⟩ := (HSA.out).two HT.out hr (HSA.out.wf) (HSA.out.hm)
                exact ⟨rs1, rs2, _, G, G2, _, _, HT.out.n, hr.n, HSA.out.wf.fitA, e2, e3, e1, e4⟩
              clear hr HT
              go_wp2_with fail
              go_meet
              exact ⟨o1, n1, c1, o2, n2, c2, rfl, rfl, HMT⟩
            have k3b : (k == 3) = false := by simpa using k3
            by_cases k4 : k = 4
            · subst k4
              go_wp2_with fail
              refine (wGive_any wa p cp Fp s HSA.out.wr HSA.out.wf).mono ?_
              rintro e wa1 ⟨rfl, hw1, hk1⟩
              have HG1 : Hid (Rd wa1 q Fd s m ∧ ∀ w2, Rd w2 q Fd (giveS s) m → Keeps Fd wa1 w2 → St w w2 cp p q Fp Fd (giveS s) m lo lc lrs lqs) := HSA.out.give hw1 hk1
              clear hw1 hk1
              go_wp2_with fail
              refine (dGive_any wa1 q Fd s m HG1.out.1 HSA.out.wf).mono ?_
              rintro e wa2 ⟨rfl, hr2, hk2⟩
              have HMT : Hid (Mt w wa2 cp p q lo lc lrs lqs none 0 0 none 0 0) := mt_none (HG1.out.2 wa2 hr2 hk2)
              clear hr2 hk2
              go_wp2_with fail
              go_meet
              exact ⟨none, 0, 0, none, 0, 0, rfl, rfl, HMT⟩
            have k4b : (k == 4) = false := by simpa using k4
            have HMT : Hid (Mt w wa cp p q lo lc lrs lqs none 0 0 none 0 0) := mt_none HSA.out
            go_wp2_with fail
            go_meet
            exact ⟨none, 0, 0, none, 0, 0, rfl, rfl, HMT⟩
          case rest =>
            obtain ⟨o1, n1, c1, o2, n2, c2, rfl, rfl, HM⟩ := hcut
            obtain ⟨rs1, rs2, told, Fp2, Fd2, s2, m2, hMt⟩ := HM.out
            by_cases hz : n2 = 0
            · subst hz
              obtain ⟨hn1, hn2, hft, ht1, ht2, hst, hap⟩ := hMt
              have HN : Hid (ln = lqs.length ∧ St w wc cp p q Fp2 Fd2 s2 m2 lo lc lrs lqs) := ⟨HLN.out, hst⟩
              have HC1 : Hid (∀ d os, Calls Tryz.prog 19 #[.slice o1 n1 c1, .slice o2 0 c2] (Sort.grow (redrawn wc d) os) fun e w'' => e = .returned (.bool true) ∧ ∃ p : Regrown, w'' = Sort.grow (redrawn wc p.d) p.os) := call_grown (fun X hX => (samePosts_any X o1 n1 c1 o2 0 c2 rs1 rs2 told told hn1 hn2 hft hft (ht1.keepsN hX).qs (ht2.keepsN hX).qs).mono (fun e w' h => ⟨by rw [h.1]; simp, h.2⟩))
              have HR1 : Hid (∀ d os, Calls Tryz.prog 20 #[.pointer (some ⟨p, 0, none⟩)] (Sort.grow (redrawn wc d) os) fun e w'' => e = .returned (.int .i64 ((s2.ended : Nat) : Int)) ∧ ∃ p : Regrown, w'' = Sort.grow (redrawn wc p.d) p.os) := call_grown (fun X hX => wResult_any X p cp Fp2 s2 (hst.keepsN hX).wr hst.wf)
              have HR2 : Hid (∀ d os, Calls Tryz.prog 21 #[.pointer (some ⟨q, 0, none⟩)] (Sort.grow (redrawn wc d) os) fun e w'' => e = .returned (.int .i64 ((s2.ended : Nat) : Int)) ∧ ∃ p : Regrown, w'' = Sort.grow (redrawn wc p.d) p.os) := call_grown (fun X hX => (dResult_any X q Fd2 s2 m2 (hst.keepsN hX).rd).mono (fun e w' h => ⟨h.1, by rw [h.2]; exact Keeps.refl _ _⟩))
              have HI1 : Hid (∀ d os, Calls Tryz.prog 22 #[.pointer (some ⟨p, 0, none⟩)] (Sort.grow (redrawn wc d) os) fun e w'' => e = .returned (.int .u64 ((s2.id : Nat) : Int)) ∧ ∃ p : Regrown, w'' = Sort.grow (redrawn wc p.d) p.os) := call_grown (fun X hX => wID_any X p cp Fp2 s2 (hst.keepsN hX).wr hst.wf)
              have HI2 : Hid (∀ d os, Calls Tryz.prog 23 #[.pointer (some ⟨q, 0, none⟩)] (Sort.grow (redrawn wc d) os) fun e w'' => e = .returned (.int .u64 ((s2.id : Nat) : Int)) ∧ ∃ p : Regrown, w'' = Sort.grow (redrawn wc p.d) p.os) := call_grown (fun X hX => (dID_any X q Fd2 s2 m2 (hst.keepsN hX).rd).mono (fun e w' h => ⟨h.1, by rw [h.2]; exact Keeps.refl _ _⟩))
              have y1 := cell_regrown hst.ct.cell
              have y2 := cell_regrown hst.rd.num
              clear hn1 hn2 hft ht1 ht2 hst hap HSA HBA HFO HLN
              go_wp2_with fail
              refine wp_region_quiet_below (by kernel_rfl) (by kernel_rfl) ?_
              repeat (go_big_quiet_step (first | exact HC1.out _ _ | exact HR1.out _ _ | exact HR2.out _ _ | exact HI1.out _ _ | exact HI2.out _ _))
              refine wpQuiet_nil ?_
              intro _ hw'
              obtain ⟨⟨dq, osq⟩, rfl⟩ := hw'
              have K1 : Hid (Keeps no wc (Sort.grow (redrawn wc dq) osq)) := keeps_grown ..
              generalize Sort.grow (redrawn wc dq) osq = u1 at K1 ⊢
              clear y1 y2 HC1 HR1 HR2 HI1 HI2
              go_wp2_with fail
              go_roundw
              case rel => exact ⟨i + 1, lo, ln, lc, by omega, rfl, by go_num, Fp2, Fd2, s2, m2, lrs, lqs, HN.out.1, HN.out.2.keepsN K1.out⟩
              case measure => simp [intOf]; omega
            · have hz' : ¬ (n2 : Int) = 0 := by omega
              have hz2 : (0 : Int) < n2 := by omega
              obtain ⟨hn1, hn2, hft, ht1, ht2, hst, hap⟩ := hMt
              have HN : Hid (n2 = told.length ∧ St w wc cp p q Fp2 Fd2 s2 m2 o2 c2 rs2 told) := ⟨hn2, hst.newLast ht2 hap hft⟩
              have HC1 : Hid (∀ d os, Calls Tryz.prog 19 #[.slice o1 n1 c1, .slice o2 n2 c2] (Sort.grow (redrawn wc d) os) fun e w'' => e = .returned (.bool true) ∧ ∃ p : Regrown, w'' = Sort.grow (redrawn wc p.d) p.os) := call_grown (fun X hX => (samePosts_any X o1 n1 c1 o2 n2 c2 rs1 rs2 told told hn1 hn2 hft hft (ht1.keepsN hX).qs (ht2.keepsN hX).qs).mono (fun e w' h => ⟨by rw [h.1]; simp, h.2⟩))
              have HR1 : Hid (∀ d os, Calls Tryz.prog 20 #[.pointer (some ⟨p, 0, none⟩)] (Sort.grow (redrawn wc d) os) fun e w'' => e = .returned (.int .i64 ((s2.ended : Nat) : Int)) ∧ ∃ p : Regrown, w'' = Sort.grow (redrawn wc p.d) p.os) := call_grown (fun X hX => wResult_any X p cp Fp2 s2 (hst.keepsN hX).wr hst.wf)
              have HR2 : Hid (∀ d os, Calls Tryz.prog 21 #[.pointer (some ⟨q, 0, none⟩)] (Sort.grow (redrawn wc d) os) fun e w'' => e = .returned (.int .i64 ((s2.ended : Nat) : Int)) ∧ ∃ p : Regrown, w'' = Sort.grow (redrawn wc p.d) p.os) := call_grown (fun X hX => (dResult_any X q Fd2 s2 m2 (hst.keepsN hX).rd).mono (fun e w' h => ⟨h.1, by rw [h.2]; exact Keeps.refl _ _⟩))
              have HI1 : Hid (∀ d os, Calls Tryz.prog 22 #[.pointer (some ⟨p, 0, none⟩)] (Sort.grow (redrawn wc d) os) fun e w'' => e = .returned (.int .u64 ((s2.id : Nat) : Int)) ∧ ∃ p : Regrown, w'' = Sort.grow (redrawn wc p.d) p.os) := call_grown (fun X hX => wID_any X p cp Fp2 s2 (hst.keepsN hX).wr hst.wf)
              have HI2 : Hid (∀ d os, Calls Tryz.prog 23 #[.pointer (some ⟨q, 0, none⟩)] (Sort.grow (redrawn wc d) os) fun e w'' => e = .returned (.int .u64 ((s2.id : Nat) : Int)) ∧ ∃ p : Regrown, w'' = Sort.grow (redrawn wc p.d) p.os) := call_grown (fun X hX => (dID_any X q Fd2 s2 m2 (hst.keepsN hX).rd).mono (fun e w' h => ⟨h.1, by rw [h.2]; exact Keeps.refl _ _⟩))
              have y1 := cell_regrown hst.ct.cell
              have y2 := cell_regrown hst.rd.num
              clear hn1 hn2 hft ht1 ht2 hst hap HSA HBA HFO HLN
              go_wp2_with fail
              refine wp_region_quiet_below (by kernel_rfl) (by kernel_rfl) ?_
              repeat (go_big_quiet_step (first | exact HC1.out _ _ | exact HR1.out _ _ | exact HR2.out _ _ | exact HI1.out _ _ | exact HI2.out _ _))
              refine wpQuiet_nil ?_
              intro _ hw'
              obtain ⟨⟨dq, osq⟩, rfl⟩ := hw'
              have K1 : Hid (Keeps no wc (Sort.grow (redrawn wc dq) osq)) := keeps_grown ..
              generalize Sort.grow (redrawn wc dq) osq = u1 at K1 ⊢
              clear y1 y2 HC1 HR1 HR2 HI1 HI2
              go_wp2_with fail
              go_roundw
              case rel => exact ⟨i + 1, o2, n2, c2, by omega, rfl, by go_num, Fp2, Fd2, s2, m2, rs2, told, HN.out.1, HN.out.2.keepsN K1.out⟩
              case measure => simp [intOf]; omega
        · have hlt' : ¬ (i : Int) < ns := by omega
          obtain ⟨Fp, Fd, s, m, lrs, lqs, hln, hSt⟩ := HW.out
          have HST : Hid (St w wr cp p q Fp Fd s m lo lc lrs lqs) := hSt
          clear hln hSt HW
          go_wp2_with fail
          refine (wAgain_any wr p cp Fp s m HST.out.wr HST.out.wf HST.out.ct HST.out.hm HST.out.cpP).mono ?_
          rintro e wa1 ⟨o1, n1, c1, rs1, G, rfl, ht⟩
          have HT : Hid (Tell IsWr wr p cp Fp ⟨s, againS s, m⟩ o1 n1 c1 rs1 G wa1) := ht
          clear ht
          go_wp2_with fail
          refine (dAgain_any wa1 q Fd s m (HST.out.mid HT.out) HST.out.wf).mono ?_
          rintro e wa2 ⟨o2, n2, c2, rs2, G2, rfl, hr⟩
          have HSP : Hid (Calls Tryz.prog 19 #[.slice o1 n1 c1, .slice o2 n2 c2] wa2 fun e w' => e = .returned (.bool true) ∧ Keeps no w w') := by
            obtain ⟨e1, e2, e3, e4⟩ := HST.out.two HT.out hr HST.out.wf HST.out.hm
            exact (samePosts_any wa2 o1 n1 c1 o2 n2 c2 rs1 rs2 _ _ HT.out.n hr.n HST.out.wf.fitA HST.out.wf.fitA e2.qs e3.qs).mono (fun e w' h => ⟨by rw [h.1]; simp, e1.kp.trans h.2⟩)
          clear hr HT HST
          go_wp2_with fail
          refine HSP.out.mono ?_
          rintro e wa3 ⟨rfl, hk⟩
          have HK : Hid (Keeps no w wa3) := hk
          clear hk HSP
          go_wp2_with fail
          go_ret
          exact ⟨rfl, HK.out⟩
--END LOOP
end Go.Proofs.YtghnhkhhpeoheaaGreat
