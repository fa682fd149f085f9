import Derived.Test.YtagekdmkidbhpaaTP
import Derived.Test.YtagekdmkidbhpaaQb
/- RetainTime. -/
namespace Go.Proofs.Ytagekdmkidbhpaa
open Go.RowKit Go.Maps Go.Sort Orl
set_option linter.unusedVariables false
set_option linter.unusedSimpArgs false

structure Rn (w1 wr : World) (p j : Nat) (now : Int) (ob : Option Addr) (nb cb : Nat) (ol : Option Addr) (nl cl : Nat) : Prop where
  ex : ∃ s bk ls, Tm w1 wr p s ob cb bk ol cl ls no ∧ nb = bk.length ∧ nl = ls.length ∧ Supp s ∧ Inv s now bk ls ∧ bk.length ≤ 6 * j ∧ ls.length ≤ 1206 * j
theorem Rn.next {w1 wr : World} {p j : Nat} {now : Int} {ob : Option Addr} {nb cb : Nat} {ol : Option Addr} {nl cl : Nat} (h : Rn w1 wr p j now ob nb cb ol nl cl) {w' : World} (hk : Keeps no wr w') : Rn w1 w' p j now ob nb cb ol nl cl := by
  obtain ⟨s, bk, ls, h1, h2⟩ := h.ex
  exact ⟨s, bk, ls, h1.go hk, h2⟩
theorem rem12 (b : Nat) : Int.tmod (b : Int) 12 = ((b % 12 : Nat) : Int) := by
  rw [Int.tmod_eq_emod_of_nonneg (by omega)]
  omega
theorem oper_app1 {α : Type} {E : El α} (hE : E.Ok) {w : World} {o : Oper} {a : Act} {K : Act → World → Prop} {Q : Exit → Act → World → Prop} (hgd : o.guard = none) (s x : Operand)
    (ho : o.op = .call { callee := .builtin .append, args := #[s, x], argTypes := #[E.t, E.t] })
    (oa : Option Addr) (n c : Nat) (xs : List α) (hs : a.eval s = .slice oa n c) (hn : n = xs.length) (hown : Own E w oa c xs)
    (ox : Option Addr) (m d : Nat) (news : List α) (hx : a.eval x = .slice ox m d) (hm : m = news.length) (hd : ox = none → d = 0) (hrow : Row E w ox news)
    (hb : (xs.length + news.length) * E.nb ≤ 140737488355328) (hb2 : xs.length + news.length ≤ 140737488355328)
    (h : ∀ o' c' w', Own E w' o' c' (xs ++ news) → Ap w oa o' w' → K (a.put o.dst (.slice o' (n + m) c')) w') : Oper.wp Try.prog o a w K Q := by
  have hw : Region.wanted o (yielded #[] a.tmps) = true := by simp [Region.wanted, hgd]
  have h1 := step_app1 (ops := #[]) (Ep := True) (Q := Q) hE hgd s x ho oa n c xs hs hn hown ox m d news hx hm hd hrow hb hb2 h
  rwa [if_pos hw] at h1
set_option maxRecDepth 10000 in
set_option maxHeartbeats 40000000 in
theorem time_any (w : World) (o : Option Addr) (n c : Nat) (xs : List OV) (hn : n = xs.length) (hl : xs.length ≤ 7036874417766) (hs : Sl OE w o c xs) (hok : ∀ x ∈ xs, OkO x) (kp : Nat) (hkp : kp < 256) :
    Calls Try.prog 4 #[.slice o n c, .int .u8 ((kp : Nat) : Int)] w fun e w' => e = .returned (.bool true) ∧ Keeps no w w' := by
  have hal := alive_any w
  have HA : Hid (n = xs.length ∧ Sl OE w o c xs ∧ ∀ x ∈ xs, OkO x) := ⟨hn, hs, hok⟩
  have hnb : (n : Int) ≤ 7036874417766 := by omega
  have hr12 := rem12 kp
  obtain ⟨hd, hhd⟩ : ∃ hd : Nat, hd = kp % 12 := ⟨_, rfl⟩
  rw [← hhd] at hr12
  have hd12 : hd < 12 := by omega
  have hkp' : (kp : Int) < 256 := by omega
  clear hn hl hs hok hhd
  go_enter Try.func4, Try.ntmps4
  go_wp2_with (go_at_call 5; refine hal.mono ?_; rintro e w1 ⟨rfl, hk1⟩)
  refine (ow_new w1).mono ?_
  rintro e w2 ⟨p, rfl, h2⟩
  have H2 : Hid (Rn w1 w2 p 0 0 none 0 0 none 0 0 ∧ Keeps no w w1) := ⟨⟨St.new, [], [], ⟨⟨no, h2.out.more (by omega), (fun b ⟨x, hx, _⟩ => by cases hx), (fun b ⟨x, hx, _⟩ => by cases hx), fun b hb => hb⟩, own_nil _, own_nil _, (fun b hb => hb.elim), fun b ⟨x, hx, _⟩ => by cases hx⟩, rfl, rfl, supp_new, inv_new 0, Nat.le_refl _, Nat.le_refl _⟩, hk1⟩
  clear hal hk1 h2
  go_wp2_with fail
  go_loopw [7, 8, 9, 10, 11, 12, 13, 14, 15, 16, 17, 18, 19, 20, 21, 22, 23, 24, 25, 26, 27, 28, 29, 30, 31] (fun s7 s8 s9 s10 _ _ _ _ _ _ _ _ _ _ _ _ _ _ _ _ _ _ _ _ _ wr => ∃ (j : Nat) (now : Int) (ob : Option Addr) (nb cb : Nat) (ol : Option Addr) (nl cl : Nat), j ≤ n ∧ j ≤ 200 ∧ s10 = .int .i64 j ∧ s7 = .int .i64 now ∧ s8 = .slice ob nb cb ∧ s9 = .slice ol nl cl ∧ 0 ≤ now ∧ now ≤ j ∧ Hid (Rn w1 wr p j now ob nb cb ol nl cl)) (fun _ _ _ s10 _ _ _ _ _ _ _ _ _ _ _ _ _ _ _ _ _ _ _ _ _ _ => n - (intOf s10).toNat)
  case atStart => exact ⟨0, 0, none, 0, 0, none, 0, 0, by omega, by omega, rfl, rfl, rfl, rfl, by omega, by omega, H2.out.1⟩
  case round =>
    obtain ⟨j, now, ob, nb, cb, ol, nl, cl, hj, hj2, rfl, rfl, rfl, rfl, hw0, hw1, HG⟩ := hrel
    obtain ⟨s, bk, ls, g1, g2, g3, g4, g5, g6, g7⟩ := HG.out.ex
    have HG2 : Hid (Tm w1 wr p s ob cb bk ol cl ls no ∧ nb = bk.length ∧ nl = ls.length ∧ Supp s ∧ Inv s now bk ls ∧ bk.length ≤ 6 * j ∧ ls.length ≤ 1206 * j ∧ Keeps no w wr ∧ tickB now = true) := ⟨g1, g2, g3, g4, g5, g6, g7, H2.out.2.trans g1.keep, tick_iff.2 ⟨hw0, by omega⟩⟩
    have hnb1 : (nb : Int) ≤ 1200 := by omega
    have hnl1 : (nl : Int) ≤ 241200 := by omega
    clear HG g1 g2 g3 g4 g5 g6 g7
    by_cases hlt : j < n
    · have hlt' : (j : Int) < n := by omega
      by_cases h200 : j < 200
      · have h200' : (j : Int) < 200 := by omega
        have hjl : j < xs.length := by rw [← HA.out.1]; exact hlt
        obtain ⟨b, off, rfl, d0, d1, d2, d3, d4⟩ := atO (HA.out.2.1.keepsN HG2.out.2.2.2.2.2.2.2.1) hjl
        have hox := HA.out.2.2 _ (getD_mem_lt ov0 hjl)
        generalize xs.getD j ov0 = x at d0 d1 d2 d3 d4 hox
        have HX : Hid (OkO x) := hox
        have HID : Hid (∀ X, Calls Try.prog 13 #[.agg #[.int .i64 x.k, .int .u64 ((x.i : Nat) : Int), .int .u8 ((x.a : Nat) : Int), .int .u8 ((x.b : Nat) : Int), .string x.v]] X fun e w' => e = .returned (.int .u64 ((x.id : Nat) : Int)) ∧ Keeps no X w') := fun X => id_any X x.k x.i hox.i ((x.a : Nat) : Int) ((x.b : Nat) : Int) x.v
        obtain ⟨OB, hOB⟩ : ∃ OB, OB = wr.heap.size := ⟨_, rfl⟩
        obtain ⟨w3, hw3⟩ : ∃ w3, w3 = wr.alloc (.cells #[.int .i64 x.k, .int .u64 ((x.i : Nat) : Int), .int .u8 ((x.a : Nat) : Int), .int .u8 ((x.b : Nat) : Int), .string x.v] 43) := ⟨_, rfl⟩
        have H3 : Hid (Tm w1 w3 p s ob cb bk ol cl ls (fun b => b = OB) ∧ w3.heap[OB]? = some (.cells #[.int .i64 x.k, .int .u64 ((x.i : Nat) : Int), .int .u8 ((x.a : Nat) : Int), .int .u8 ((x.b : Nat) : Int), .string x.v] 43 (0, 0)) ∧ Keeps no wr w3 ∧ wr.heap.size ≤ OB ∧ OB < w3.heap.size) := by
          refine ⟨?_, by rw [hw3, hOB]; exact blk_new wr _, by rw [hw3]; exact (Keeps.refl no wr).alloc _, by rw [hOB]; exact Nat.le_refl _, by rw [hOB, hw3]; simp⟩
          refine HG2.out.1.more (by rw [hw3]; exact (Keeps.refl no wr).alloc _) (fun b hb => ?_)
          rw [hb, hOB, hw3]
          simp
        have HIE : Hid (∀ X, Calls Try.prog 13 #[.agg #[.int .i64 x.k, .int .u64 ((x.i : Nat) : Int), .int .u8 ((x.a : Nat) : Int), .int .u8 ((x.b : Nat) : Int), .string x.v]] X fun e w' => e = .returned (.int .u64 ((x.id : Nat) : Int)) ∧ w' = X.alloc (.cells #[.int .i64 x.k, .int .u64 ((x.i : Nat) : Int), .int .u8 ((x.a : Nat) : Int), .int .u8 ((x.b : Nat) : Int), .string x.v] 43)) := fun X => id_eq X x.k x.i hox.i ((x.a : Nat) : Int) ((x.b : Nat) : Int) x.v
        have HOP : Hid (∀ X, Keeps (fun b => b ≠ OB) w3 X → X.cell? ⟨OB, 0, none⟩ = some (.int .i64 x.k) ∧ X.cell? ⟨OB, 1, none⟩ = some (.int .u64 ((x.i : Nat) : Int)) ∧ X.cell? ⟨OB, 2, none⟩ = some (.int .u8 ((x.a : Nat) : Int)) ∧ X.cell? ⟨OB, 3, none⟩ = some (.int .u8 ((x.b : Nat) : Int)) ∧ X.cell? ⟨OB, 4, none⟩ = some (.string x.v)) := fun X hX => by
          have hb := hX.at H3.out.2.1 (fun h => h rfl)
          exact ⟨cell_of_blk hb 0, cell_of_blk hb 1, cell_of_blk hb 2, cell_of_blk hb 3, cell_of_blk hb 4⟩
        clear hox hjl
        go_upto_block 2 with fail
        rw [← hw3, ← hOB]
        clear d0 d1 d2 d3 d4 hw3 hOB
        obtain ⟨d0, d1, d2, d3, d4⟩ := HOP.out w3 (Keeps.refl _ _)
        go_cut [7, 8, 9, 12, 13, 14, 15, 16, 17, 18, 19, 20, 21, 22, 23, 24, 25, 26, 27, 28] from 56 to 303 (fun s7 s8 s9 _ _ _ _ _ _ _ _ _ _ _ _ _ _ _ _ _ X => ∃ (now : Int) (ob : Option Addr) (nb cb : Nat) (ol : Option Addr) (nl cl : Nat), s7 = .int .i64 now ∧ s8 = .slice ob nb cb ∧ s9 = .slice ol nl cl ∧ 0 ≤ now ∧ now ≤ (j : Int) + 1 ∧ Hid (Rn w1 X p (j + 1) now ob nb cb ol nl cl))
        case first =>
          by_cases k1 : x.k = 1
          · have g1 : (x.k == 1) = true := by simp [k1]
            clear k1
            as_aux_lemma =>
              go_wp2_with fail
              refine (write_any w3 x.k ((x.i : Nat) : Int) x.a x.b x.v HX.out.a HX.out.b).mono ?_
              rintro e w4 ⟨y1, y2, rfl, o1, n1, c1, o2, n2, c2, rfl, rfl, hnn, hoo⟩
              obtain ⟨X, hX⟩ : ∃ X : Nat → Prop, X = fun b => b = OB ∨ inO o1 b ∨ inO o2 b := ⟨_, rfl⟩
              have H4 : Hid (Tm w1 w4 p s ob cb bk ol cl ls X ∧ n1 = x.ps.length ∧ n2 = x.keys.length ∧ Own PE w4 o1 c1 x.ps ∧ Own TE w4 o2 c2 x.keys ∧ (∀ b, inO o1 b → X b) ∧ X OB ∧ (∀ b, X b → b < w4.heap.size) ∧ Keeps no w3 w4) := by
                have hk := hoo.out.2.2.2.2
                have hXb : ∀ b, X b → wr.heap.size ≤ b ∧ b < w4.heap.size := fun b hb => by
                  rw [hX] at hb
                  have h34 := hk.size
                  rcases hb with hb | hb | hb
                  · rw [hb]; exact ⟨H3.out.2.2.2.1, by have := H3.out.2.2.2.2; omega⟩
                  · exact ⟨Nat.le_trans H3.out.2.2.1.size (hoo.out.2.2.1 b hb), hoo.out.1.lt b hb⟩
                  · exact ⟨Nat.le_trans H3.out.2.2.1.size (hoo.out.2.2.2.1 b hb), hoo.out.2.1.lt b hb⟩
                exact ⟨HG2.out.1.more (H3.out.2.2.1.trans hk) hXb, hnn.out.1, hnn.out.2, hoo.out.1, hoo.out.2.1, fun b hb => by rw [hX]; exact .inr (.inl hb), by rw [hX]; exact .inl rfl, fun b hb => (hXb b hb).2, hk⟩
              have hn1 : n1 ≤ 6 := by rw [hnn.out.1]; exact ps_len x
              clear hX hnn hoo d0 d1 d2 d3 d4
              have HO4 : Hid (∀ Y, Keeps (fun b => ¬ X b) w4 Y → Y.cell? ⟨OB, 0, none⟩ = some (.int .i64 x.k) ∧ Y.cell? ⟨OB, 1, none⟩ = some (.int .u64 ((x.i : Nat) : Int)) ∧ Y.cell? ⟨OB, 2, none⟩ = some (.int .u8 ((x.a : Nat) : Int)) ∧ Y.cell? ⟨OB, 3, none⟩ = some (.int .u8 ((x.b : Nat) : Int)) ∧ Y.cell? ⟨OB, 4, none⟩ = some (.string x.v)) := fun Y hY => HOP.out Y (H4.out.2.2.2.2.2.2.2.2.of_no.trans (hY.mono (fun b hb e => hb (by rw [e]; exact H4.out.2.2.2.2.2.2.1))))
              obtain ⟨d0, d1, d2, d3, d4⟩ := HO4.out w4 (Keeps.refl _ _)
              go_wp2_with fail
              refine (HID.out _).mono ?_
              rintro e w5 ⟨rfl, hk5⟩
              go_wp2_with fail
              obtain ⟨P, hO, hP1, hP2, hP3⟩ := H4.out.1.ow
              refine ((hO.go hk5).opPut HG2.out.2.2.2.1 x now o1 n1 c1 o2 n2 c2 H4.out.2.1 H4.out.2.2.1 (H4.out.2.2.2.1.sl.keepsN hk5) (H4.out.2.2.2.2.1.sl.keepsN hk5)).mono ?_
              rintro e w6 ⟨B6, z6, rfl, hz, h6⟩
              have H6 : Hid (Tm w1 w6 p (putO s x now) ob cb bk ol cl ls X ∧ Keeps (fun b => ¬ X b) w4 w6) := by
                have := (H4.out.1.go hk5).calls h6.out.1 h6.out.2 hP1 hP2 hP3
                exact ⟨this.1, hk5.of_no.trans this.2⟩
              have HZ : Hid (0 < n1 → z6 = 0 ∧ B6 = decide (bk.length < (addA x.id now ls bk x.ps).length)) := fun h => by
                have hok : okPut x.id x.ps x.keys now = true := by rw [okPutO, HG2.out.2.2.2.2.2.2.2.2, Bool.and_true]; exact decide_eq_true (by rw [← H4.out.2.1]; exact h)
                have hp := HG2.out.2.2.2.2.1.putO HG2.out.2.2.2.2.2.2.2.2 x
                refine ⟨by rw [hz.out.1, if_pos hok], ?_⟩
                rw [hz.out.2, hok, Bool.true_and, hp.2]
                exact decide_eq_decide.2 (by omega)
              clear hz h6 hk5 hO hP1 hP2 hP3 d0 d1 d2 d3 d4
              go_wp2_with fail
              go_loopw [8, 16, 17, 18] (fun s8 s16 s17 _ wq => ∃ (t : Nat) (ob : Option Addr) (nb cb : Nat) (A : Bool), t ≤ n1 ∧ s17 = .int .i64 t ∧ s8 = .slice ob nb cb ∧ s16 = .bool A ∧ Hid (Tm w1 wq p (putO s x now) ob cb (addA x.id now ls bk (x.ps.take t)) ol cl ls X ∧ nb = (addA x.id now ls bk (x.ps.take t)).length ∧ Keeps (fun b => ¬ X b) w4 wq ∧ A = decide (bk.length < (addA x.id now ls bk (x.ps.take t)).length))) (fun _ _ s17 _ _ => n1 - (intOf s17).toNat)
              case atStart => exact ⟨0, ob, nb, cb, false, by omega, rfl, rfl, rfl, H6.out.1, HG2.out.2.1, H6.out.2, by simp [addA]⟩
              case round =>
                as_aux_lemma =>
                  obtain ⟨t, ot, nt, ct, A, ht, rfl, rfl, rfl, HT⟩ := hrel
                  rename World => wq
                  obtain ⟨bt, hbt⟩ : ∃ bt, bt = addA x.id now ls bk (x.ps.take t) := ⟨_, rfl⟩
                  obtain ⟨t1, t2, t3, t4⟩ := HT.out
                  rw [← hbt] at t1 t2 t4
                  have HT2 : Hid (Tm w1 wq p (putO s x now) ot ct bt ol cl ls X ∧ nt = bt.length ∧ Keeps (fun b => ¬ X b) w4 wq ∧ A = decide (bk.length < bt.length) ∧ bt = addA x.id now ls bk (x.ps.take t) ∧ bt.length ≤ 1206 ∧ bk.length ≤ bt.length) := ⟨t1, t2, t3, t4, hbt, by have := (addA_len x.id now ls (x.ps.take t) bk).2; rw [hbt]; have := HG2.out.2.2.2.2.2.1; have := List.length_take_le t x.ps; omega, by rw [hbt]; exact (addA_len x.id now ls (x.ps.take t) bk).1⟩
                  clear HT t1 t2 t3 t4 hbt
                  by_cases htn : t < n1
                  · have htn' : (t : Int) < n1 := by omega
                    have htl : t < x.ps.length := by rw [← H4.out.2.1]; exact htn
                    obtain ⟨bp, fp, rfl, f0, f1⟩ := (H4.out.2.2.2.1.keeps HT2.out.2.2.1 (fun b hb hc => hc (H4.out.2.2.2.2.2.1 b hb))).sl.atP htl
                    obtain ⟨k, hk⟩ : ∃ k, k = (x.ps.getD t p0).1 := ⟨_, rfl⟩
                    rw [← hk] at f0
                    have hsn := addA_snoc x.id now ls bk x.ps t htl
                    rw [← hk, ← HT2.out.2.2.2.2.1] at hsn
                    have HSN : Hid (addA x.id now ls bk (x.ps.take (t + 1)) = addB x.id now ls bt k) := hsn
                    obtain ⟨d0, d1, d2, d3, d4⟩ := HO4.out wq HT2.out.2.2.1
                    have HST : Hid (∀ Y, Keeps no wq Y → Y.cell? ⟨OB, 0, none⟩ = some (.int .i64 x.k) ∧ Y.cell? ⟨OB, 1, none⟩ = some (.int .u64 ((x.i : Nat) : Int)) ∧ Y.cell? ⟨OB, 2, none⟩ = some (.int .u8 ((x.a : Nat) : Int)) ∧ Y.cell? ⟨OB, 3, none⟩ = some (.int .u8 ((x.b : Nat) : Int)) ∧ Y.cell? ⟨OB, 4, none⟩ = some (.string x.v) ∧ Y.cell? ⟨bp, fp + t * 2, none⟩ = some (.string k)) := fun Y hY => ⟨hY.cellN d0, hY.cellN d1, hY.cellN d2, hY.cellN d3, hY.cellN d4, hY.cellN f0⟩
                    have HXP : Hid (X OB ∧ X bp) := ⟨H4.out.2.2.2.2.2.2.1, H4.out.2.2.2.2.2.1 bp ⟨_, rfl, rfl⟩⟩
                    obtain ⟨Z, hZ⟩ : ∃ Z, atZ bt 0 k x.id = Z := ⟨_, rfl⟩
                    have cI := call_grown (W := wq) (f := 13) (args := #[.agg #[.int .i64 x.k, .int .u64 ((x.i : Nat) : Int), .int .u8 ((x.a : Nat) : Int), .int .u8 ((x.b : Nat) : Int), .string x.v]]) (v := .int .u64 ((x.id : Nat) : Int)) (fun Y _ => HID.out Y)
                    have cA := call_grown (W := wq) (f := 14) (args := #[.slice ot nt ct, .string k, .int .u64 ((x.id : Nat) : Int)]) (v := .int .i64 Z) (fun Y hY => by rw [← hZ]; exact at12_any Y ot nt ct bt HT2.out.2.1 (by have := HT2.out.2.2.2.2.2.1; omega) (HT2.out.1.bo.keepsN hY).sl k x.id)
                    have y0 := cell_regrown d0
                    have y1 := cell_regrown d1
                    have y2 := cell_regrown d2
                    have y3 := cell_regrown d3
                    have y4 := cell_regrown d4
                    have z0 := cell_regrown f0
                    have HZZ : Hid (atZ bt 0 k x.id = Z) := hZ
                    clear hk hsn hZ htl f1 d0 d1 d2 d3 d4 f0
                    by_cases hz0 : Z < 0
                    · have hz1 : decide (Z < 0) = true := decide_eq_true hz0
                      have HB2 : Hid (addB x.id now ls bt k = bt ++ [⟨k, x.id, sinceB ls x.id now k, false⟩]) := (show _ = _ by unfold addB; rw [HZZ.out, if_pos hz0])
                      go_wp2_with fail
                      refine wp_region_quiet_below (by kernel_rfl) (by kernel_rfl) ?_
                      repeat (go_big_quiet_step (first | exact cI _ _ | exact cA _ _))
                      refine wpQuiet_nil ?_
                      intro _ hw'
                      obtain ⟨⟨dq, osq⟩, rfl⟩ := hw'
                      have HKq : Hid (Keeps no wq (Sort.grow (redrawn wq dq) osq)) := keeps_grownQ ..
                      generalize Sort.grow (redrawn wq dq) osq = w7 at HKq ⊢
                      clear cI cA y0 y1 y2 y3 y4 z0
                      clear hz0 hz1
                      obtain ⟨L, hL⟩ : ∃ L, lastF ls k = L := ⟨_, rfl⟩
                      obtain ⟨q, hq⟩ : ∃ q, q = sinceB ls x.id now k := ⟨_, rfl⟩
                      rw [← hq] at HB2
                      have HQ : Hid (q = sinceB ls x.id now k ∧ lastF ls k = L) := ⟨hq, hL⟩
                      have cI := call_grown (W := w7) (f := 13) (args := #[.agg #[.int .i64 x.k, .int .u64 ((x.i : Nat) : Int), .int .u8 ((x.a : Nat) : Int), .int .u8 ((x.b : Nat) : Int), .string x.v]]) (v := .int .u64 ((x.id : Nat) : Int)) (fun Y _ => HID.out Y)
                      have cL := call_grown (W := w7) (f := 15) (args := #[.slice ol nl cl, .string k]) (v := .int .u64 ((L : Nat) : Int)) (fun Y hY => by rw [← hL]; exact last12_any Y ol nl cl ls HG2.out.2.2.1 (by have := HG2.out.2.2.2.2.2.2.1; omega) (HT2.out.1.lo.keepsN (HKq.out.trans hY)).sl k)
                      obtain ⟨d0, d1, d2, d3, d4, f0⟩ := HST.out w7 HKq.out
                      have y0 := cell_regrown d0
                      have y1 := cell_regrown d1
                      have y2 := cell_regrown d2
                      have y3 := cell_regrown d3
                      have y4 := cell_regrown d4
                      have z0 := cell_regrown f0
                      have HK7 : Hid (Keeps no wq w7) := HKq.out
                      clear hL hq HKq
                      go_wp2_with fail
                      refine wp_region_quiet_below (by kernel_rfl) (by kernel_rfl) ?_
                      repeat (go_big_quiet_step (first | exact cI _ _ | exact cL _ _))
                      refine wpQuiet_nil ?_
                      intro _ hw'
                      obtain ⟨⟨dq, osq⟩, rfl⟩ := hw'
                      have HKq : Hid (Keeps no w7 (Sort.grow (redrawn w7 dq) osq)) := keeps_grownQ ..
                      generalize Sort.grow (redrawn w7 dq) osq = w8 at HKq ⊢
                      clear cI cL y0 y1 y2 y3 y4 z0 d0 d1 d2 d3 d4 f0
                      have HK78 : Hid (Keeps no wq w8) := HK7.out.trans HKq.out
                      clear HKq
                      go_upto_if 169 with fail
                      go_cut [18, 169] from 170 to 170 (fun s18 _ Y => s18 = .int .i64 q ∧ Hid (Keeps no wq Y))
                      case first =>
                        as_aux_lemma =>
                          by_cases hc : x.id < L
                          · have hc1 : ((x.id : Nat) : Int) < ((L : Nat) : Int) := by omega
                            have hc2 : decide (((x.id : Nat) : Int) < ((L : Nat) : Int)) = true := decide_eq_true hc1
                            have hc3 : decide (x.id < L) = true := decide_eq_true hc
                            have HQ2 : Hid (q = now) := (show _ = _ by rw [HQ.out.1]; unfold sinceB; rw [HQ.out.2, if_pos hc])
                            clear hc
                            go_wp2_with fail
                            go_meet
                            exact ⟨by rw [HQ2.out], HK78.out⟩
                          · have hc1 : ¬ ((x.id : Nat) : Int) < ((L : Nat) : Int) := by omega
                            have hc2 : decide (((x.id : Nat) : Int) < ((L : Nat) : Int)) = false := decide_eq_false hc1
                            have hc3 : decide (x.id < L) = false := decide_eq_false hc
                            have HQ2 : Hid (q = -1) := (show _ = _ by rw [HQ.out.1]; unfold sinceB; rw [HQ.out.2, if_neg hc])
                            clear hc
                            go_wp2_with fail
                            go_meet
                            exact ⟨by rw [HQ2.out], HK78.out⟩
                      case rest =>
                      obtain ⟨rfl, HK8⟩ := hcut
                      rename World => w8
                      clear HK78
                      have HST8 : Hid (∀ Y, Keeps no w8 Y → Y.cell? ⟨OB, 0, none⟩ = some (.int .i64 x.k) ∧ Y.cell? ⟨OB, 1, none⟩ = some (.int .u64 ((x.i : Nat) : Int)) ∧ Y.cell? ⟨OB, 2, none⟩ = some (.int .u8 ((x.a : Nat) : Int)) ∧ Y.cell? ⟨OB, 3, none⟩ = some (.int .u8 ((x.b : Nat) : Int)) ∧ Y.cell? ⟨OB, 4, none⟩ = some (.string x.v) ∧ Y.cell? ⟨bp, fp + t * 2, none⟩ = some (.string k)) := fun Y hY => HST.out Y (HK8.out.trans hY)
                      obtain ⟨d0, d1, d2, d3, d4, f0⟩ := HST8.out w8 (Keeps.refl _ _)
                      have HOW : Hid (∀ Y, Keeps no w8 Y → Own BE Y ot ct bt) := fun Y hY => HT2.out.1.bo.keepsN (HK8.out.trans hY)
                      have HR1 : Hid (Row BE ((w8.drew.alloc (.cells #[.int .i64 x.k, .int .u64 ((x.i : Nat) : Int), .int .u8 ((x.a : Nat) : Int), .int .u8 ((x.b : Nat) : Int), .string x.v] 43)).alloc (.cells #[.string k, .int .u64 ((x.id : Nat) : Int), .int .i64 q, .bool false] 55)) (some ⟨w8.heap.size + 1, 0, none⟩) [⟨k, x.id, q, false⟩]) := by
                        have := (own_oneB (w8.drew.alloc (.cells #[.int .i64 x.k, .int .u64 ((x.i : Nat) : Int), .int .u8 ((x.a : Nat) : Int), .int .u8 ((x.b : Nat) : Int), .string x.v] 43)) ⟨k, x.id, q, false⟩).row
                        rwa [show (w8.drew.alloc (.cells #[.int .i64 x.k, .int .u64 ((x.i : Nat) : Int), .int .u8 ((x.a : Nat) : Int), .int .u8 ((x.b : Nat) : Int), .string x.v] 43)).heap.size = w8.heap.size + 1 by simp] at this
                      have HR2x : Hid (Row BE ((w8.alloc (.cells #[.int .i64 x.k, .int .u64 ((x.i : Nat) : Int), .int .u8 ((x.a : Nat) : Int), .int .u8 ((x.b : Nat) : Int), .string x.v] 43)).drew.alloc (.cells #[.string k, .int .u64 ((x.id : Nat) : Int), .int .i64 q, .bool false] 55)) (some ⟨w8.heap.size + 1, 0, none⟩) [⟨k, x.id, q, false⟩]) := by
                        have := (own_oneB (w8.alloc (.cells #[.int .i64 x.k, .int .u64 ((x.i : Nat) : Int), .int .u8 ((x.a : Nat) : Int), .int .u8 ((x.b : Nat) : Int), .string x.v] 43)).drew ⟨k, x.id, q, false⟩).row
                        rwa [show (w8.alloc (.cells #[.int .i64 x.k, .int .u64 ((x.i : Nat) : Int), .int .u8 ((x.a : Nat) : Int), .int .u8 ((x.b : Nat) : Int), .string x.v] 43)).drew.heap.size = w8.heap.size + 1 by simp] at this
                      have HR3 : Hid (Row BE ((w8.alloc (.cells #[.int .i64 x.k, .int .u64 ((x.i : Nat) : Int), .int .u8 ((x.a : Nat) : Int), .int .u8 ((x.b : Nat) : Int), .string x.v] 43)).alloc (.cells #[.string k, .int .u64 ((x.id : Nat) : Int), .int .i64 q, .bool false] 55)).drew (some ⟨w8.heap.size + 1, 0, none⟩) [⟨k, x.id, q, false⟩]) := by
                        have := ((own_oneB (w8.alloc (.cells #[.int .i64 x.k, .int .u64 ((x.i : Nat) : Int), .int .u8 ((x.a : Nat) : Int), .int .u8 ((x.b : Nat) : Int), .string x.v] 43)) ⟨k, x.id, q, false⟩).row).keepsN (Keeps.refl no _).drew
                        rwa [show (w8.alloc (.cells #[.int .i64 x.k, .int .u64 ((x.i : Nat) : Int), .int .u8 ((x.a : Nat) : Int), .int .u8 ((x.b : Nat) : Int), .string x.v] 43)).heap.size = w8.heap.size + 1 by simp] at this
                      have HBD : Hid ((bt.length + [(⟨k, x.id, q, false⟩ : BK)].length) * BE.nb ≤ 140737488355328 ∧ bt.length + [(⟨k, x.id, q, false⟩ : BK)].length ≤ 140737488355328) := ⟨by have := HT2.out.2.2.2.2.2.1; simp [BE]; omega, by have := HT2.out.2.2.2.2.2.1; simp; omega⟩
                      have HAP : Hid (∀ W, Keeps no w8 W → ∀ o3 w9, Ap W ot o3 w9 → w9.cell? ⟨OB, 0, none⟩ = some (.int .i64 x.k) ∧ w9.cell? ⟨OB, 1, none⟩ = some (.int .u64 ((x.i : Nat) : Int)) ∧ w9.cell? ⟨OB, 2, none⟩ = some (.int .u8 ((x.a : Nat) : Int)) ∧ w9.cell? ⟨OB, 3, none⟩ = some (.int .u8 ((x.b : Nat) : Int)) ∧ w9.cell? ⟨OB, 4, none⟩ = some (.string x.v) ∧ w9.cell? ⟨bp, fp + t * 2, none⟩ = some (.string k)) := fun W hW o3 w9 hap => by
                        have hK := hap.keeps.1
                        obtain ⟨a0, a1, a2, a3, a4, a5⟩ := HST8.out W hW
                        have n1 := (HT2.out.1.xb OB HXP.out.1).1
                        have n2 := (HT2.out.1.xb bp HXP.out.2).1
                        exact ⟨hK.cell a0 n1, hK.cell a1 n1, hK.cell a2 n1, hK.cell a3 n1, hK.cell a4 n1, hK.cell a5 n2⟩
                      go_wp2_with fail
                      go_region_held_law (fun Y => Y.cell? ⟨OB, 0, none⟩ = some (.int .i64 x.k) ∧ Y.cell? ⟨OB, 1, none⟩ = some (.int .u64 ((x.i : Nat) : Int)) ∧ Y.cell? ⟨OB, 2, none⟩ = some (.int .u8 ((x.a : Nat) : Int)) ∧ Y.cell? ⟨OB, 3, none⟩ = some (.int .u8 ((x.b : Nat) : Int)) ∧ Y.cell? ⟨OB, 4, none⟩ = some (.string x.v) ∧ Y.cell? ⟨bp, fp + t * 2, none⟩ = some (.string k)) (first | exact HST8.out _ (Keeps.refl no _) | exact HST8.out _ ((Keeps.refl no _).drew) | exact HST8.out _ (((Keeps.refl no _).drew).alloc _) | exact HST8.out _ (((Keeps.refl no _).alloc _).drew) | exact HST8.out _ ((((Keeps.refl no _).drew).alloc _).alloc _) | exact HST8.out _ ((((Keeps.refl no _).alloc _).drew).alloc _) | exact HST8.out _ ((((Keeps.refl no _).alloc _).alloc _).drew) | exact HCS.out) (first
                        | (rw [if_pos (show Region.wanted _ _ = true from by simp [Region.wanted])]; refine oper_app1 okB rfl (.tmp 171) (.tmp 181) rfl ot nt ct bt rfl HT2.out.2.1 (HOW.out _ (by first | exact (((Keeps.refl no _).drew).alloc _).alloc _ | exact (((Keeps.refl no _).alloc _).drew).alloc _ | exact (((Keeps.refl no _).alloc _).alloc _).drew)) (some (Addr.mk (w8.heap.size + 1) 0 none)) 1 1 [⟨k, x.id, q, false⟩] rfl rfl (fun e => by cases e) (by first | exact HR1.out | exact HR2x.out | exact HR3.out) HBD.out.1 HBD.out.2 ?_; intro o3 c3 w9 ho3 hap3; have HCS : Hid (w9.cell? ⟨OB, 0, none⟩ = some (.int .i64 x.k) ∧ w9.cell? ⟨OB, 1, none⟩ = some (.int .u64 ((x.i : Nat) : Int)) ∧ w9.cell? ⟨OB, 2, none⟩ = some (.int .u8 ((x.a : Nat) : Int)) ∧ w9.cell? ⟨OB, 3, none⟩ = some (.int .u8 ((x.b : Nat) : Int)) ∧ w9.cell? ⟨OB, 4, none⟩ = some (.string x.v) ∧ w9.cell? ⟨bp, fp + t * 2, none⟩ = some (.string k)) := HAP.out _ (by first | exact (((Keeps.refl no _).drew).alloc _).alloc _ | exact (((Keeps.refl no _).alloc _).drew).alloc _ | exact (((Keeps.refl no _).alloc _).alloc _).drew) o3 w9 hap3; have H9 : Hid (∃ W, Keeps no w8 W ∧ Own BE w9 o3 c3 (bt ++ [⟨k, x.id, q, false⟩]) ∧ Ap W ot o3 w9) := ⟨_, (by first | exact (((Keeps.refl no _).drew).alloc _).alloc _ | exact (((Keeps.refl no _).alloc _).drew).alloc _ | exact (((Keeps.refl no _).alloc _).alloc _).drew), ho3, hap3⟩; clear ho3 hap3)
                        | (go_simp; go_at_call 13; refine (HIE.out _).mono ?_; rintro e wI ⟨rfl, hwI⟩; subst wI))
                      all_goals (try (rename _ ∧ _ => hh; clear hh))
                      go_wp2_with fail
                      go_roundw
                      case rel =>
                        obtain ⟨W, hW, ho9, hap9⟩ := H9.out
                        have hTm := (HT2.out.1.go (HK8.out.trans hW)).pushB (fun b hb => by have := H4.out.2.2.2.2.2.2.2.1 b hb; have := HT2.out.2.2.1.size; have := HK8.out.size; have := hW.size; omega) ho9 hap9
                        refine ⟨t + 1, o3, nt + 1, c3, true, by omega, by go_num, rfl, rfl, ?_⟩
                        rw [HSN.out, HB2.out]
                        refine ⟨hTm.1, by rw [HT2.out.2.1]; simp, HT2.out.2.2.1.trans ((HK8.out.trans hW).of_no.trans hTm.2), ?_⟩
                        symm
                        refine decide_eq_true ?_
                        have := HT2.out.2.2.2.2.2.2
                        simp
                        omega
                      case measure => simp [intOf]; omega
                    · have hz1 : decide (Z < 0) = false := decide_eq_false hz0
                      have HB2 : Hid (addB x.id now ls bt k = bt) := (show _ = _ by unfold addB; rw [HZZ.out, if_neg hz0])
                      go_wp2_with fail
                      refine wp_region_quiet_below (by kernel_rfl) (by kernel_rfl) ?_
                      repeat (go_big_quiet_step (first | exact cI _ _ | exact cA _ _))
                      refine wpQuiet_nil ?_
                      intro _ hw'
                      obtain ⟨⟨dq, osq⟩, rfl⟩ := hw'
                      have HKq : Hid (Keeps no wq (Sort.grow (redrawn wq dq) osq)) := keeps_grownQ ..
                      generalize Sort.grow (redrawn wq dq) osq = w7 at HKq ⊢
                      clear cI cA y0 y1 y2 y3 y4 z0
                      go_wp2_with fail
                      go_roundw
                      case rel =>
                        refine ⟨t + 1, ot, nt, ct, A, by omega, by go_num, rfl, rfl, ?_⟩
                        rw [HSN.out, HB2.out]
                        exact ⟨HT2.out.1.go HKq.out, HT2.out.2.1, HT2.out.2.2.1.trans HKq.out.of_no, HT2.out.2.2.2.1⟩
                      case measure => simp [intOf]; omega
                  · have htn' : ¬ (t : Int) < n1 := by omega
                    have hte : x.ps.take t = x.ps := List.take_of_length_le (by rw [← H4.out.2.1]; omega)
                    have HE : Hid (Rn w1 wq p (j + 1) now ot nt ct ol nl cl ∧ A = decide (bk.length < (addA x.id now ls bk x.ps).length)) := by
                      have h1 := HT2.out.2.2.2.2.1
                      rw [hte] at h1
                      have hp := HG2.out.2.2.2.2.1.putO HG2.out.2.2.2.2.2.2.2.2 x
                      refine ⟨⟨_, bt, ls, HT2.out.1.sub (fun b hb => hb.elim), HT2.out.2.1, HG2.out.2.2.1, supp_put HG2.out.2.2.2.1 x now, by rw [h1]; exact hp.1, ?_, by have := HG2.out.2.2.2.2.2.2.1; omega⟩, by rw [HT2.out.2.2.2.1, h1]⟩
                      have := (addA_len x.id now ls x.ps bk).2
                      have := ps_len x
                      have := HG2.out.2.2.2.2.2.1
                      rw [h1]
                      omega
                    clear hte
                    by_cases hn0 : 0 < n1
                    · have hn0' : (0 : Int) < n1 := by omega
                      obtain ⟨rfl, hB⟩ := HZ.out hn0
                      obtain rfl : B6 = A := by rw [hB, HE.out.2]
                      clear hB
                      cases B6 <;>
                      · go_wp2_with fail
                        go_meet
                        exact ⟨now, ot, nt, ct, ol, nl, cl, rfl, rfl, rfl, hw0, by omega, HE.out.1⟩
                    · obtain rfl : n1 = 0 := by omega
                      go_wp2_with fail
                      go_meet
                      exact ⟨now, ot, nt, ct, ol, nl, cl, rfl, rfl, rfl, hw0, by omega, HE.out.1⟩
          · have g1 : (x.k == 1) = false := beq_eq_false_iff_ne.2 k1
            by_cases k2 : x.k = 2
            · have g2 : (x.k == 2) = true := by simp [k2]
              clear k1 k2
              as_aux_lemma =>
                go_wp2_with fail
                refine (HID.out _).mono ?_
                rintro e w5 ⟨rfl, hk5⟩
                go_wp2_with fail
                obtain ⟨P, hO, hP1, hP2, hP3⟩ := H3.out.1.ow
                refine ((hO.go hk5).opCommit HG2.out.2.2.2.1 x now).mono ?_
                rintro e w6 ⟨nn6, zz6, rfl, h6⟩
                have H6 : Hid (Tm w1 w6 p (comO s x now) ob cb bk ol cl ls (fun b => b = OB) ∧ Keeps (fun b => b ≠ OB) w3 w6) := by
                  have := (H3.out.1.go hk5).calls h6.out.1 h6.out.2 hP1 hP2 hP3
                  exact ⟨this.1, hk5.of_no.trans this.2⟩
                clear h6 hk5 hO hP1 hP2 hP3 d0 d1 d2 d3 d4
                go_wp2_with fail
                go_loopw [9, 19, 20, 21] (fun s9 s19 _ _ wq => ∃ (t : Nat) (ol : Option Addr) (nl cl : Nat), t ≤ nb ∧ s19 = .int .i64 t ∧ s9 = .slice ol nl cl ∧ Hid (Tm w1 wq p (comO s x now) ob cb bk ol cl ((bk.take t).foldl (stepC x.id) ls) (fun b => b = OB) ∧ nl = ((bk.take t).foldl (stepC x.id) ls).length ∧ Keeps (fun b => b ≠ OB) w3 wq)) (fun _ s19 _ _ _ => nb - (intOf s19).toNat)
                case atStart => exact ⟨0, ol, nl, cl, by omega, rfl, rfl, H6.out.1, HG2.out.2.2.1, H6.out.2⟩
                case round =>
                  as_aux_lemma =>
                    obtain ⟨t, ot, nt, ct, ht, rfl, rfl, HT⟩ := hrel
                    rename World => wq
                    obtain ⟨lt, hlt0⟩ : ∃ lt, lt = (bk.take t).foldl (stepC x.id) ls := ⟨_, rfl⟩
                    obtain ⟨t1, t2, t3⟩ := HT.out
                    rw [← hlt0] at t1 t2
                    have HT2 : Hid (Tm w1 wq p (comO s x now) ob cb bk ot ct lt (fun b => b = OB) ∧ nt = lt.length ∧ Keeps (fun b => b ≠ OB) w3 wq ∧ lt = (bk.take t).foldl (stepC x.id) ls ∧ lt.length ≤ 242500) := ⟨t1, t2, t3, hlt0, by have := fold_len x.id (bk.take t) ls; rw [hlt0]; have := HG2.out.2.2.2.2.2.1; have := HG2.out.2.2.2.2.2.2.1; have := List.length_take_le t bk; omega⟩
                    have hntb : (nt : Int) ≤ 242500 := by have := HT2.out.2.1; have := HT2.out.2.2.2.2; omega
                    clear HT t1 t2 t3 hlt0
                    by_cases htn : t < nb
                    · have htn' : (t : Int) < nb := by omega
                      have htl : t < bk.length := by rw [← HG2.out.2.1]; exact htn
                      obtain ⟨gb, fb, e1, f0, f1, f2, f3⟩ := atB HT2.out.1.bo.sl htl
                      have hym := getD_mem_lt bk0 htl
                      have hsn := fold_snoc x.id bk ls t htl
                      rw [← HT2.out.2.2.2.1] at hsn
                      obtain ⟨gx, hgx, _, _, _⟩ := HT2.out.1.bo.store1 okB bk0 t htl 3 (by decide) { bk.getD t bk0 with g := true } (.bool true) rfl
                      obtain ⟨y, hy⟩ : ∃ y, y = bk.getD t bk0 := ⟨_, rfl⟩
                      rw [← hy] at f0 f1 f2 f3 hym hsn
                      obtain ⟨yk, yi, ys, yg⟩ := y
                      simp only at f0 f1 f2 f3
                      rw [hgx] at e1
                      cases e1
                      simp only [Nat.zero_add] at f0 f1 f2 f3
                      have HSN : Hid ((bk.take (t + 1)).foldl (stepC x.id) ls = stepC x.id lt ⟨yk, yi, ys, yg⟩) := hsn
                      have HYK : Hid ((bk.getD t bk0).k = yk) := (show _ = _ by rw [← hy])
                      obtain ⟨d0, d1, d2, d3, d4⟩ := HOP.out wq HT2.out.2.2.1
                      have HST : Hid (∀ Y, Keeps no wq Y → Y.cell? ⟨OB, 0, none⟩ = some (.int .i64 x.k) ∧ Y.cell? ⟨OB, 1, none⟩ = some (.int .u64 ((x.i : Nat) : Int)) ∧ Y.cell? ⟨OB, 2, none⟩ = some (.int .u8 ((x.a : Nat) : Int)) ∧ Y.cell? ⟨OB, 3, none⟩ = some (.int .u8 ((x.b : Nat) : Int)) ∧ Y.cell? ⟨OB, 4, none⟩ = some (.string x.v) ∧ Y.cell? ⟨gb, t * 4, none⟩ = some (.string yk)) := fun Y hY => ⟨hY.cellN d0, hY.cellN d1, hY.cellN d2, hY.cellN d3, hY.cellN d4, hY.cellN f0⟩
                      obtain ⟨L, hL⟩ : ∃ L, lastF lt yk = L := ⟨_, rfl⟩
                      have HL : Hid (lastF lt yk = L) := hL
                      have cI := call_grown (W := wq) (f := 13) (args := #[.agg #[.int .i64 x.k, .int .u64 ((x.i : Nat) : Int), .int .u8 ((x.a : Nat) : Int), .int .u8 ((x.b : Nat) : Int), .string x.v]]) (v := .int .u64 ((x.id : Nat) : Int)) (fun Y _ => HID.out Y)
                      have cL := call_grown (W := wq) (f := 15) (args := #[.slice ot nt ct, .string yk]) (v := .int .u64 ((L : Nat) : Int)) (fun Y hY => by rw [← hL]; exact last12_any Y ot nt ct lt HT2.out.2.1 (by have := HT2.out.2.2.2.2; omega) (HT2.out.1.lo.keepsN hY).sl yk)
                      have y0 := cell_regrown d0
                      have y1 := cell_regrown d1
                      have y2 := cell_regrown d2
                      have y3 := cell_regrown d3
                      have y4 := cell_regrown d4
                      have z0 := cell_regrown f0
                      have z1 := cell_regrown f1
                      have z3 := cell_regrown f3
                      subst hgx
                      clear hL hy hsn hym htl f2
                      by_cases hc : yi = x.id
                      · have hc1 : (((yi : Nat) : Int) == ((x.id : Nat) : Int)) = true := by simp [hc]
                        have hc1n : (yi == x.id) = true := by simp [hc]
                        cases yg with
                        | true =>
                          have HE : Hid (stepC x.id lt ⟨yk, yi, ys, true⟩ = lt) := (show _ = _ by unfold stepC; rw [if_neg (fun h => by cases h.2.1)])
                          clear hc
                          go_wp2_with fail
                          refine wp_region_quiet_below (by kernel_rfl) (by kernel_rfl) ?_
                          repeat (go_big_quiet_step (first | exact cI _ _ | exact cL _ _))
                          refine wpQuiet_nil ?_
                          intro _ hw'
                          obtain ⟨⟨dq, osq⟩, rfl⟩ := hw'
                          have HKq : Hid (Keeps no wq (Sort.grow (redrawn wq dq) osq)) := keeps_grownQ ..
                          generalize Sort.grow (redrawn wq dq) osq = w7 at HKq ⊢
                          clear cI cL y0 y1 y2 y3 y4 z0 z1 z3
                          clear d0 d1 d2 d3 d4 f0 f1 f3
                          go_wp2_with fail
                          go_roundw
                          case rel => exact ⟨t + 1, ot, nt, ct, by omega, by go_num, rfl, by rw [HSN.out, HE.out]; exact HT2.out.1.go HKq.out, by rw [HSN.out, HE.out]; exact HT2.out.2.1, HT2.out.2.2.1.trans HKq.out.of_no⟩
                          case measure => simp [intOf]; omega
                        | false =>
                          by_cases hl : L < x.id
                          · have hl1 : ((L : Nat) : Int) < ((x.id : Nat) : Int) := by omega
                            have hl2 : decide (((L : Nat) : Int) < ((x.id : Nat) : Int)) = true := decide_eq_true hl1
                            have hl3 : decide (L < x.id) = true := decide_eq_true hl
                            have HE : Hid (stepC x.id lt ⟨yk, yi, ys, false⟩ = raiseL yk x.id lt) := (show _ = _ by unfold stepC; rw [if_pos ⟨hc, rfl, by rw [HL.out]; exact hl⟩])
                            clear hc hl
                            go_wp2_with fail
                            refine wp_region_quiet_below (by kernel_rfl) (by kernel_rfl) ?_
                            repeat (go_big_quiet_step (first | exact cI _ _ | exact cL _ _))
                            refine wpQuiet_nil ?_
                            intro _ hw'
                            obtain ⟨⟨dq, osq⟩, rfl⟩ := hw'
                            have HKq : Hid (Keeps no wq (Sort.grow (redrawn wq dq) osq)) := keeps_grownQ ..
                            generalize Sort.grow (redrawn wq dq) osq = w7 at HKq ⊢
                            clear cI cL y0 y1 y2 y3 y4 z0 z1 z3
                            clear d0 d1 d2 d3 d4 f0 f1 f3 hc1 hc1n hl1 hl2 hl3
                            have HK7 : Hid (Keeps no wq w7) := HKq.out
                            clear HKq
                            go_wp2_with fail
                            go_loopw [20, 21] (fun s20 s21 wv => ∃ (u : Nat) (F : Bool), u ≤ nt ∧ s21 = .int .i64 u ∧ s20 = .bool F ∧ Hid (Tm w1 wv p (comO s x now) (some ⟨gb, 0, none⟩) cb bk ot ct (mapT (setQ yk x.id) lt u) (fun b => b = OB) ∧ F = fdB yk (lt.take u) ∧ Keeps (fun b => b ≠ OB) w3 wv)) (fun _ s21 _ => nt - (intOf s21).toNat)
                            case atStart => exact ⟨0, false, by omega, rfl, rfl, by rw [mapT_zero]; exact HT2.out.1.go HK7.out, by simp [fdB], HT2.out.2.2.1.trans HK7.out.of_no⟩
                            case round =>
                              as_aux_lemma =>
                                obtain ⟨u, F, hu, rfl, rfl, HU⟩ := hrel
                                rename World => wv
                                obtain ⟨d0, d1, d2, d3, d4⟩ := HOP.out wv HU.out.2.2
                                obtain ⟨gb', fb', e1, f0, _, _, _⟩ := atB HU.out.1.bo.sl (show t < bk.length by rw [← HG2.out.2.1]; exact htn)
                                cases e1
                                simp only [Nat.zero_add] at f0
                                have hyk : (bk.getD t bk0).k = yk := HYK.out
                                rw [hyk] at f0
                                clear hyk
                                by_cases hun : u < nt
                                · have hun' : (u : Int) < nt := by omega
                                  have hul : u < lt.length := by rw [← HT2.out.2.1]; exact hun
                                  have hum : u < (mapT (setQ yk x.id) lt u).length := by rw [mapT_len]; exact hul
                                  have hfs := fd_snoc yk lt u hul
                                  have hms := mapT_succ (setQ yk x.id) lt u (e0, 0) hul
                                  have hme := mapT_same (setQ yk x.id) lt u (e0, 0) hul
                                  obtain ⟨gl, fl, e2, l0, l1⟩ := atLA HU.out.1.lo.sl hum
                                  rw [mapT_at _ _ _ _ hul] at l0 l1
                                  have hst := fun (X : World) (hX : Keeps no wv X) (v : Mk) => (HU.out.1.lo.keepsN hX).store1 okLA (e0, 0) u hum 1 (by decide) v (.int .u64 ((v.2 : Nat) : Int))
                                  simp only [mapT_at _ _ _ _ hul] at hst
                                  obtain ⟨q, hq⟩ : ∃ q, q = lt.getD u (e0, 0) := ⟨_, rfl⟩
                                  rw [← hq] at l0 l1 hfs hms hme hst
                                  obtain ⟨qk, qi⟩ := q
                                  simp only at l0 l1 hfs
                                  by_cases hqk : qk = yk
                                  · subst hqk
                                    have HF : Hid (fdB qk (lt.take (u + 1)) = true ∧ mapT (setQ qk x.id) lt (u + 1) = (mapT (setQ qk x.id) lt u).set u (qk, x.id)) := ⟨by rw [hfs]; simp, by rw [hms]; unfold setQ; simp⟩
                                    have HSTO : Hid (∀ X, Keeps no wv X → X.frozen? ⟨gl, u * 2 + 1, none⟩ = false ∧ X.cell? ⟨gl, u * 2 + 1, none⟩ = some (.int .u64 ((qi : Nat) : Int)) ∧ Own LA (X.setCell ⟨gl, u * 2 + 1, none⟩ (.int .u64 ((x.id : Nat) : Int))) ot ct ((mapT (setQ qk x.id) lt u).set u (qk, x.id)) ∧ Keeps (inO ot) X (X.setCell ⟨gl, u * 2 + 1, none⟩ (.int .u64 ((x.id : Nat) : Int))) ∧ ot = some ⟨gl, 0, none⟩) := fun X hX => by
                                      obtain ⟨g, hge, hfz, hs1, hs2⟩ := hst X hX (qk, x.id) rfl
                                      rw [hge] at e2
                                      cases e2
                                      have l1' := hX.cellN l1
                                      simp only [Nat.zero_add] at l1'
                                      exact ⟨hfz _, l1', hs1, hs2, hge⟩
                                    have hot := (HSTO.out wv (Keeps.refl _ _)).2.2.2.2
                                    rw [hot] at e2
                                    cases e2
                                    simp only [Nat.zero_add] at l0 l1
                                    clear hfs hms hme hst hq hum hul
                                    subst hot
                                    go_wp2_with fail
                                    go_quiet (fail)
                                    go_wp2_with fail
                                    refine (HID.out _).mono ?_
                                    rintro e wI ⟨rfl, hkI⟩
                                    have HKI : Hid (Keeps no wv wI) := (show Keeps no wv wI by refine Keeps.trans ?_ hkI; exact kqW rfl rfl rfl rfl)
                                    obtain ⟨s1, s2, s3, s4, _⟩ := HSTO.out wI HKI.out
                                    have HN : Hid (Tm w1 (wI.setCell ⟨gl, u * 2 + 1, none⟩ (.int .u64 ((x.id : Nat) : Int))) p (comO s x now) (some ⟨gb, 0, none⟩) cb bk (some ⟨gl, 0, none⟩) ct (mapT (setQ qk x.id) lt (u + 1)) (fun b => b = OB) ∧ Keeps (fun b => b ≠ OB) w3 (wI.setCell ⟨gl, u * 2 + 1, none⟩ (.int .u64 ((x.id : Nat) : Int)))) := by
                                      have := (HU.out.1.go HKI.out).setL s3 s4
                                      rw [HF.out.2]
                                      exact ⟨this.1, (HU.out.2.2.trans HKI.out.of_no).trans this.2⟩
                                    clear hkI s3 s4 d0 d1 d2 d3 d4 f0 l0 l1
                                    go_wp2_with fail
                                    go_roundw
                                    case rel => exact ⟨u + 1, true, by omega, by go_num, rfl, HN.out.1, HF.out.1.symm, HN.out.2⟩
                                    case measure => simp [intOf]; omega
                                  · have ht1 : (qk.toList == yk.toList) = false := by rw [tx_eq]; exact decide_eq_false hqk
                                    have HF : Hid (fdB yk (lt.take (u + 1)) = fdB yk (lt.take u) ∧ mapT (setQ yk x.id) lt (u + 1) = mapT (setQ yk x.id) lt u) := ⟨by rw [hfs]; simp [hqk], hme (by unfold setQ; rw [if_neg hqk])⟩
                                    clear hfs hms hme hst hq hum hul hqk
                                    subst e2
                                    go_wp2_with fail
                                    go_quiet (fail)
                                    go_wp2_with fail
                                    go_roundw
                                    case rel => exact ⟨u + 1, F, by omega, by go_num, rfl, by rw [HF.out.2]; exact HU.out.1.go (kqW rfl rfl rfl rfl), by rw [HF.out.1]; exact HU.out.2.1, HU.out.2.2.trans (Keeps.of_no (kqW rfl rfl rfl rfl))⟩
                                    case measure => simp [intOf]; omega
                                · have hun' : ¬ (u : Int) < nt := by omega
                                  have hul : lt.length ≤ u := by rw [← HT2.out.2.1]; omega
                                  have HFA : Hid (F = fdB yk lt ∧ mapT (setQ yk x.id) lt u = lt.map (setQ yk x.id)) := ⟨by rw [HU.out.2.1, List.take_of_length_le hul], mapT_all _ _ _ hul⟩
                                  clear hul
                                  cases F with
                                  | true =>
                                    have HRL : Hid (raiseL yk x.id lt = mapT (setQ yk x.id) lt u ∧ nt = (mapT (setQ yk x.id) lt u).length) := ⟨by unfold raiseL; rw [← HFA.out.1, if_pos rfl, HFA.out.2], by rw [mapT_len]; exact HT2.out.2.1⟩
                                    go_wp2_with fail
                                    go_roundw
                                    case rel => exact ⟨t + 1, ot, nt, ct, by omega, by go_num, rfl, by rw [HSN.out, HE.out, HRL.out.1]; exact HU.out.1, by rw [HSN.out, HE.out, HRL.out.1]; exact HRL.out.2, HU.out.2.2⟩
                                    case measure => simp [intOf]; omega
                                  | false =>
                                    have HRL : Hid (raiseL yk x.id lt = lt ++ [(yk, x.id)] ∧ mapT (setQ yk x.id) lt u = lt) := ⟨by unfold raiseL; rw [← HFA.out.1, if_neg (by simp)], by rw [HFA.out.2]; exact map_none HFA.out.1.symm⟩
                                    have HUT : Hid (Tm w1 wv p (comO s x now) (some ⟨gb, 0, none⟩) cb bk ot ct lt (fun b => b = OB)) := (show Tm _ _ _ _ _ _ _ _ _ _ _ by have := HU.out.1; rwa [HRL.out.2] at this)
                                    have HST8 : Hid (∀ Y, Keeps no wv Y → Y.cell? ⟨OB, 0, none⟩ = some (.int .i64 x.k) ∧ Y.cell? ⟨OB, 1, none⟩ = some (.int .u64 ((x.i : Nat) : Int)) ∧ Y.cell? ⟨OB, 2, none⟩ = some (.int .u8 ((x.a : Nat) : Int)) ∧ Y.cell? ⟨OB, 3, none⟩ = some (.int .u8 ((x.b : Nat) : Int)) ∧ Y.cell? ⟨OB, 4, none⟩ = some (.string x.v) ∧ Y.cell? ⟨gb, t * 4, none⟩ = some (.string yk)) := fun Y hY => ⟨hY.cellN d0, hY.cellN d1, hY.cellN d2, hY.cellN d3, hY.cellN d4, hY.cellN f0⟩
                                    have HOW : Hid (∀ Y, Keeps no wv Y → Own LA Y ot ct lt) := fun Y hY => HUT.out.lo.keepsN hY
                                    have HR1 : Hid (Row LA ((wv.drew.alloc (.cells #[.int .i64 x.k, .int .u64 ((x.i : Nat) : Int), .int .u8 ((x.a : Nat) : Int), .int .u8 ((x.b : Nat) : Int), .string x.v] 43)).alloc (.cells #[.string yk, .int .u64 ((x.id : Nat) : Int)] 58)) (some ⟨wv.heap.size + 1, 0, none⟩) [(yk, x.id)]) := by
                                      have := (own_oneLA (wv.drew.alloc (.cells #[.int .i64 x.k, .int .u64 ((x.i : Nat) : Int), .int .u8 ((x.a : Nat) : Int), .int .u8 ((x.b : Nat) : Int), .string x.v] 43)) (yk, x.id)).row
                                      rwa [show (wv.drew.alloc (.cells #[.int .i64 x.k, .int .u64 ((x.i : Nat) : Int), .int .u8 ((x.a : Nat) : Int), .int .u8 ((x.b : Nat) : Int), .string x.v] 43)).heap.size = wv.heap.size + 1 by simp] at this
                                    have HR2x : Hid (Row LA ((wv.alloc (.cells #[.int .i64 x.k, .int .u64 ((x.i : Nat) : Int), .int .u8 ((x.a : Nat) : Int), .int .u8 ((x.b : Nat) : Int), .string x.v] 43)).drew.alloc (.cells #[.string yk, .int .u64 ((x.id : Nat) : Int)] 58)) (some ⟨wv.heap.size + 1, 0, none⟩) [(yk, x.id)]) := by
                                      have := (own_oneLA (wv.alloc (.cells #[.int .i64 x.k, .int .u64 ((x.i : Nat) : Int), .int .u8 ((x.a : Nat) : Int), .int .u8 ((x.b : Nat) : Int), .string x.v] 43)).drew (yk, x.id)).row
                                      rwa [show (wv.alloc (.cells #[.int .i64 x.k, .int .u64 ((x.i : Nat) : Int), .int .u8 ((x.a : Nat) : Int), .int .u8 ((x.b : Nat) : Int), .string x.v] 43)).drew.heap.size = wv.heap.size + 1 by simp] at this
                                    have HR3 : Hid (Row LA ((wv.alloc (.cells #[.int .i64 x.k, .int .u64 ((x.i : Nat) : Int), .int .u8 ((x.a : Nat) : Int), .int .u8 ((x.b : Nat) : Int), .string x.v] 43)).alloc (.cells #[.string yk, .int .u64 ((x.id : Nat) : Int)] 58)).drew (some ⟨wv.heap.size + 1, 0, none⟩) [(yk, x.id)]) := by
                                      have := ((own_oneLA (wv.alloc (.cells #[.int .i64 x.k, .int .u64 ((x.i : Nat) : Int), .int .u8 ((x.a : Nat) : Int), .int .u8 ((x.b : Nat) : Int), .string x.v] 43)) (yk, x.id)).row).keepsN (Keeps.refl no _).drew
                                      rwa [show (wv.alloc (.cells #[.int .i64 x.k, .int .u64 ((x.i : Nat) : Int), .int .u8 ((x.a : Nat) : Int), .int .u8 ((x.b : Nat) : Int), .string x.v] 43)).heap.size = wv.heap.size + 1 by simp] at this
                                    have HBD : Hid ((lt.length + [((yk, x.id) : Mk)].length) * LA.nb ≤ 140737488355328 ∧ lt.length + [((yk, x.id) : Mk)].length ≤ 140737488355328) := ⟨by have := HT2.out.2.2.2.2; simp [LA]; omega, by have := HT2.out.2.2.2.2; simp; omega⟩
                                    have HAP : Hid (∀ W, Keeps no wv W → ∀ o3 w9, Ap W ot o3 w9 → w9.cell? ⟨OB, 0, none⟩ = some (.int .i64 x.k) ∧ w9.cell? ⟨OB, 1, none⟩ = some (.int .u64 ((x.i : Nat) : Int)) ∧ w9.cell? ⟨OB, 2, none⟩ = some (.int .u8 ((x.a : Nat) : Int)) ∧ w9.cell? ⟨OB, 3, none⟩ = some (.int .u8 ((x.b : Nat) : Int)) ∧ w9.cell? ⟨OB, 4, none⟩ = some (.string x.v) ∧ w9.cell? ⟨gb, t * 4, none⟩ = some (.string yk)) := fun W hW o3 w9 hap => by
                                      have hK := hap.keeps.1
                                      obtain ⟨a0, a1, a2, a3, a4, a5⟩ := HST8.out W hW
                                      have n1 := (HUT.out.xb OB rfl).2
                                      have n2 := HUT.out.ap gb ⟨_, rfl, rfl⟩
                                      exact ⟨hK.cell a0 n1, hK.cell a1 n1, hK.cell a2 n1, hK.cell a3 n1, hK.cell a4 n1, hK.cell a5 n2⟩
                                    go_upto_region 58 with fail
                                    go_region_held_law (fun Y => Y.cell? ⟨OB, 0, none⟩ = some (.int .i64 x.k) ∧ Y.cell? ⟨OB, 1, none⟩ = some (.int .u64 ((x.i : Nat) : Int)) ∧ Y.cell? ⟨OB, 2, none⟩ = some (.int .u8 ((x.a : Nat) : Int)) ∧ Y.cell? ⟨OB, 3, none⟩ = some (.int .u8 ((x.b : Nat) : Int)) ∧ Y.cell? ⟨OB, 4, none⟩ = some (.string x.v) ∧ Y.cell? ⟨gb, t * 4, none⟩ = some (.string yk)) (first | exact HST8.out _ (Keeps.refl no _) | exact HST8.out _ ((Keeps.refl no _).drew) | exact HST8.out _ (((Keeps.refl no _).drew).alloc _) | exact HST8.out _ (((Keeps.refl no _).alloc _).drew) | exact HST8.out _ ((((Keeps.refl no _).drew).alloc _).alloc _) | exact HST8.out _ ((((Keeps.refl no _).alloc _).drew).alloc _) | exact HST8.out _ ((((Keeps.refl no _).alloc _).alloc _).drew) | exact HCS.out) (first
                                      | (rw [if_pos (show Region.wanted _ _ = true from by simp [Region.wanted])]; refine oper_app1 okLA rfl (.tmp 261) (.tmp 270) rfl ot nt ct lt rfl HT2.out.2.1 (HOW.out _ (by first | exact (((Keeps.refl no _).drew).alloc _).alloc _ | exact (((Keeps.refl no _).alloc _).drew).alloc _ | exact (((Keeps.refl no _).alloc _).alloc _).drew)) (some (Addr.mk (wv.heap.size + 1) 0 none)) 1 1 [(yk, x.id)] rfl rfl (fun e => by cases e) (by first | exact HR1.out | exact HR2x.out | exact HR3.out) HBD.out.1 HBD.out.2 ?_; intro o3 c3 w9 ho3 hap3; have HCS : Hid (w9.cell? ⟨OB, 0, none⟩ = some (.int .i64 x.k) ∧ w9.cell? ⟨OB, 1, none⟩ = some (.int .u64 ((x.i : Nat) : Int)) ∧ w9.cell? ⟨OB, 2, none⟩ = some (.int .u8 ((x.a : Nat) : Int)) ∧ w9.cell? ⟨OB, 3, none⟩ = some (.int .u8 ((x.b : Nat) : Int)) ∧ w9.cell? ⟨OB, 4, none⟩ = some (.string x.v) ∧ w9.cell? ⟨gb, t * 4, none⟩ = some (.string yk)) := HAP.out _ (by first | exact (((Keeps.refl no _).drew).alloc _).alloc _ | exact (((Keeps.refl no _).alloc _).drew).alloc _ | exact (((Keeps.refl no _).alloc _).alloc _).drew) o3 w9 hap3; have H9 : Hid (∃ W, Keeps no wv W ∧ Own LA w9 o3 c3 (lt ++ [(yk, x.id)]) ∧ Ap W ot o3 w9) := ⟨_, (by first | exact (((Keeps.refl no _).drew).alloc _).alloc _ | exact (((Keeps.refl no _).alloc _).drew).alloc _ | exact (((Keeps.refl no _).alloc _).alloc _).drew), ho3, hap3⟩; clear ho3 hap3)
                                      | (go_simp; go_at_call 13; refine (HIE.out _).mono ?_; rintro e wI ⟨rfl, hwI⟩; subst wI))
                                    all_goals (try (rename _ ∧ _ => hh; clear hh))
                                    go_wp2_with fail
                                    go_roundw
                                    case rel =>
                                      obtain ⟨W, hW, ho9, hap9⟩ := H9.out
                                      have hTm := (HUT.out.go hW).pushL (fun b hb => by rw [hb]; have := H3.out.2.2.2.2; have := HU.out.2.2.size; have := hW.size; omega) ho9 hap9
                                      refine ⟨t + 1, o3, nt + 1, c3, by omega, by go_num, rfl, ?_⟩
                                      rw [HSN.out, HE.out, HRL.out.1]
                                      exact ⟨hTm.1, by rw [HT2.out.2.1]; simp, HU.out.2.2.trans (hW.of_no.trans hTm.2)⟩
                                    case measure => simp [intOf]; omega
                          · have hl1 : ¬ ((L : Nat) : Int) < ((x.id : Nat) : Int) := by omega
                            have hl2 : decide (((L : Nat) : Int) < ((x.id : Nat) : Int)) = false := decide_eq_false hl1
                            have hl3 : decide (L < x.id) = false := decide_eq_false hl
                            have HE : Hid (stepC x.id lt ⟨yk, yi, ys, false⟩ = lt) := (show _ = _ by unfold stepC; rw [if_neg (fun h => hl (by rw [← HL.out]; exact h.2.2))])
                            clear hc hl
                            go_wp2_with fail
                            refine wp_region_quiet_below (by kernel_rfl) (by kernel_rfl) ?_
                            repeat (go_big_quiet_step (first | exact cI _ _ | exact cL _ _))
                            refine wpQuiet_nil ?_
                            intro _ hw'
                            obtain ⟨⟨dq, osq⟩, rfl⟩ := hw'
                            have HKq : Hid (Keeps no wq (Sort.grow (redrawn wq dq) osq)) := keeps_grownQ ..
                            generalize Sort.grow (redrawn wq dq) osq = w7 at HKq ⊢
                            clear cI cL y0 y1 y2 y3 y4 z0 z1 z3
                            clear d0 d1 d2 d3 d4 f0 f1 f3
                            go_wp2_with fail
                            go_roundw
                            case rel => exact ⟨t + 1, ot, nt, ct, by omega, by go_num, rfl, by rw [HSN.out, HE.out]; exact HT2.out.1.go HKq.out, by rw [HSN.out, HE.out]; exact HT2.out.2.1, HT2.out.2.2.1.trans HKq.out.of_no⟩
                            case measure => simp [intOf]; omega
                      · have hc1 : (((yi : Nat) : Int) == ((x.id : Nat) : Int)) = false := beq_eq_false_iff_ne.2 (by omega)
                        have hc1n : (yi == x.id) = false := beq_eq_false_iff_ne.2 hc
                        have HE : Hid (stepC x.id lt ⟨yk, yi, ys, yg⟩ = lt) := (show _ = _ by unfold stepC; rw [if_neg (fun h => hc h.1)])
                        clear hc
                        go_wp2_with fail
                        refine wp_region_quiet_below (by kernel_rfl) (by kernel_rfl) ?_
                        repeat (go_big_quiet_step (first | exact cI _ _ | exact cL _ _))
                        refine wpQuiet_nil ?_
                        intro _ hw'
                        obtain ⟨⟨dq, osq⟩, rfl⟩ := hw'
                        have HKq : Hid (Keeps no wq (Sort.grow (redrawn wq dq) osq)) := keeps_grownQ ..
                        generalize Sort.grow (redrawn wq dq) osq = w7 at HKq ⊢
                        clear cI cL y0 y1 y2 y3 y4 z0 z1 z3
                        clear d0 d1 d2 d3 d4 f0 f1 f3
                        go_wp2_with fail
                        go_roundw
                        case rel => exact ⟨t + 1, ot, nt, ct, by omega, by go_num, rfl, by rw [HSN.out, HE.out]; exact HT2.out.1.go HKq.out, by rw [HSN.out, HE.out]; exact HT2.out.2.1, HT2.out.2.2.1.trans HKq.out.of_no⟩
                        case measure => simp [intOf]; omega
                    · have htn' : ¬ (t : Int) < nb := by omega
                      have htl : bk.length ≤ t := by rw [← HG2.out.2.1]; omega
                      have HL1 : Hid (lt = bk.foldl (stepC x.id) ls) := (show _ = _ by rw [HT2.out.2.2.2.1, List.take_of_length_le htl])
                      clear htl
                      go_wp2_with fail
                      clear htn htn' ht
                      go_loopw [22] (fun s22 wv => ∃ u : Nat, u ≤ nb ∧ s22 = .int .i64 u ∧ Hid (Tm w1 wv p (comO s x now) ob cb (mapT (stB lt now) bk u) ot ct lt (fun b => b = OB))) (fun s22 _ => nb - (intOf s22).toNat)
                      case atStart => exact ⟨0, by omega, rfl, by rw [mapT_zero]; exact HT2.out.1⟩
                      case round =>
                        as_aux_lemma =>
                          obtain ⟨u, hu, rfl, HU⟩ := hrel
                          rename World => wv
                          by_cases hun : u < nb
                          · have hun' : (u : Int) < nb := by omega
                            have hul : u < bk.length := by rw [← HG2.out.2.1]; exact hun
                            have hum : u < (mapT (stB lt now) bk u).length := by rw [mapT_len]; exact hul
                            have hms := mapT_succ (stB lt now) bk u bk0 hul
                            have hme := mapT_same (stB lt now) bk u bk0 hul
                            obtain ⟨gb, fb, e1, f0, f1, f2, f3⟩ := atB HU.out.bo.sl hum
                            rw [mapT_at _ _ _ _ hul] at f0 f1 f2 f3
                            have hst := fun (X : World) (hX : Keeps no wv X) (v : BK) => (HU.out.bo.keepsN hX).store1 okB bk0 u hum 2 (by decide) v (.int .i64 v.s)
                            simp only [mapT_at _ _ _ _ hul] at hst
                            obtain ⟨y, hy⟩ : ∃ y, y = bk.getD u bk0 := ⟨_, rfl⟩
                            rw [← hy] at f0 f1 f2 f3 hms hme hst
                            obtain ⟨yk, yi, ys, yg⟩ := y
                            simp only at f0 f1 f2 f3
                            obtain ⟨L, hL⟩ : ∃ L, lastF lt yk = L := ⟨_, rfl⟩
                            have HL : Hid (lastF lt yk = L) := hL
                            have cL := call_grown (W := wv) (f := 15) (args := #[.slice ot nt ct, .string yk]) (v := .int .u64 ((L : Nat) : Int)) (fun Y hY => by rw [← hL]; exact last12_any Y ot nt ct lt HT2.out.2.1 (by have := HT2.out.2.2.2.2; omega) (HU.out.lo.keepsN hY).sl yk)
                            have HSTO : Hid (∀ X, Keeps no wv X → X.frozen? ⟨gb, u * 4 + 2, none⟩ = false ∧ X.cell? ⟨gb, u * 4 + 2, none⟩ = some (.int .i64 ys) ∧ Own BE (X.setCell ⟨gb, u * 4 + 2, none⟩ (.int .i64 now)) ob cb ((mapT (stB lt now) bk u).set u ⟨yk, yi, now, yg⟩) ∧ Keeps (inO ob) X (X.setCell ⟨gb, u * 4 + 2, none⟩ (.int .i64 now)) ∧ ob = some ⟨gb, 0, none⟩) := fun X hX => by
                              obtain ⟨g, hge, hfz, hs1, hs2⟩ := hst X hX ⟨yk, yi, now, yg⟩ rfl
                              rw [hge] at e1
                              cases e1
                              have f2' := hX.cellN f2
                              simp only [Nat.zero_add] at f2'
                              exact ⟨hfz _, f2', hs1, hs2, hge⟩
                            have hot := (HSTO.out wv (Keeps.refl _ _)).2.2.2.2
                            rw [hot] at e1
                            cases e1
                            simp only [Nat.zero_add] at f0 f1 f2 f3
                            have z0 := cell_regrown f0
                            have z1 := cell_regrown f1
                            have z2 := cell_regrown f2
                            subst hot
                            clear hL hy hst hum hul f3
                            by_cases hys : ys < 0
                            · have hys1 : decide (ys < 0) = true := decide_eq_true hys
                              by_cases hl : yi < L
                              · have hl1 : ((yi : Nat) : Int) < ((L : Nat) : Int) := by omega
                                have hl2 : decide (((yi : Nat) : Int) < ((L : Nat) : Int)) = true := decide_eq_true hl1
                                have hl3 : decide (yi < L) = true := decide_eq_true hl
                                have HE : Hid (mapT (stB lt now) bk (u + 1) = (mapT (stB lt now) bk u).set u ⟨yk, yi, now, yg⟩) := (show _ = _ by rw [hms]; unfold stB; rw [if_pos ⟨hys, by rw [HL.out]; exact hl⟩])
                                clear hms hme hys hl
                                go_wp2_with fail
                                refine wp_region_quiet_below (by kernel_rfl) (by kernel_rfl) ?_
                                repeat (go_big_quiet_step (first | exact cL _ _))
                                refine wpQuiet_nil ?_
                                intro _ hw'
                                obtain ⟨⟨dq, osq⟩, rfl⟩ := hw'
                                have HKq : Hid (Keeps no wv (Sort.grow (redrawn wv dq) osq)) := keeps_grownQ ..
                                generalize Sort.grow (redrawn wv dq) osq = w7 at HKq ⊢
                                clear cL z0 z1 z2
                                obtain ⟨s1, s2, s3, s4, _⟩ := HSTO.out w7 HKq.out
                                have HN : Hid (Tm w1 (w7.setCell ⟨gb, u * 4 + 2, none⟩ (.int .i64 now)) p (comO s x now) (some ⟨gb, 0, none⟩) cb (mapT (stB lt now) bk (u + 1)) ot ct lt (fun b => b = OB)) := (show Tm _ _ _ _ _ _ _ _ _ _ _ by rw [HE.out]; exact ((HU.out.go HKq.out).setB s3 s4).1)
                                clear s3 s4 f0 f1 f2 hl1 hl2 hl3 hys1
                                go_wp2_with fail
                                go_roundw
                                case rel => exact ⟨u + 1, by omega, by go_num, HN.out⟩
                                case measure => simp [intOf]; omega
                              · have hl1 : ¬ ((yi : Nat) : Int) < ((L : Nat) : Int) := by omega
                                have hl2 : decide (((yi : Nat) : Int) < ((L : Nat) : Int)) = false := decide_eq_false hl1
                                have hl3 : decide (yi < L) = false := decide_eq_false hl
                                have HE : Hid (mapT (stB lt now) bk (u + 1) = mapT (stB lt now) bk u) := hme (by unfold stB; rw [if_neg (fun h => hl (by rw [← HL.out]; exact h.2))])
                                clear hms hme hys hl
                                go_wp2_with fail
                                refine wp_region_quiet_below (by kernel_rfl) (by kernel_rfl) ?_
                                repeat (go_big_quiet_step (first | exact cL _ _))
                                refine wpQuiet_nil ?_
                                intro _ hw'
                                obtain ⟨⟨dq, osq⟩, rfl⟩ := hw'
                                have HKq : Hid (Keeps no wv (Sort.grow (redrawn wv dq) osq)) := keeps_grownQ ..
                                generalize Sort.grow (redrawn wv dq) osq = w7 at HKq ⊢
                                clear cL z0 z1 z2
                                go_wp2_with fail
                                go_roundw
                                case rel => exact ⟨u + 1, by omega, by go_num, by rw [HE.out]; exact HU.out.go HKq.out⟩
                                case measure => simp [intOf]; omega
                            · have hys1 : decide (ys < 0) = false := decide_eq_false hys
                              have HE : Hid (mapT (stB lt now) bk (u + 1) = mapT (stB lt now) bk u) := hme (by unfold stB; rw [if_neg (fun h => hys h.1)])
                              clear hms hme
                              go_wp2_with fail
                              refine wp_region_quiet_below (by kernel_rfl) (by kernel_rfl) ?_
                              repeat (go_big_quiet_step (first | exact cL _ _))
                              refine wpQuiet_nil ?_
                              intro _ hw'
                              obtain ⟨⟨dq, osq⟩, rfl⟩ := hw'
                              have HKq : Hid (Keeps no wv (Sort.grow (redrawn wv dq) osq)) := keeps_grownQ ..
                              generalize Sort.grow (redrawn wv dq) osq = w7 at HKq ⊢
                              clear cL z0 z1 z2
                              go_wp2_with fail
                              go_roundw
                              case rel => exact ⟨u + 1, by omega, by go_num, by rw [HE.out]; exact HU.out.go HKq.out⟩
                              case measure => simp [intOf]; omega
                          · have hun' : ¬ (u : Int) < nb := by omega
                            have hul : bk.length ≤ u := by rw [← HG2.out.2.1]; omega
                            have HE : Hid (Rn w1 wv p (j + 1) now ob nb cb ot nt ct) := by
                              have h1 := HU.out
                              rw [mapT_all _ _ _ hul] at h1
                              have hc := HG2.out.2.2.2.2.1.comO HG2.out.1.ok HG2.out.2.2.2.2.2.2.2.2 x
                              rw [← HL1.out] at hc
                              exact ⟨_, _, lt, h1.sub (fun b hb => hb.elim), by rw [List.length_map]; exact HG2.out.2.1, HT2.out.2.1, supp_com HG2.out.2.2.2.1 x now, hc, by rw [List.length_map]; have := HG2.out.2.2.2.2.2.1; omega, by have := fold_len x.id bk ls; rw [HL1.out]; have := HG2.out.2.2.2.2.2.1; have := HG2.out.2.2.2.2.2.2.1; omega⟩
                            clear hul
                            go_wp2_with fail
                            go_meet
                            exact ⟨now, ob, nb, cb, ot, nt, ct, rfl, rfl, rfl, hw0, by omega, HE.out⟩
            · have g2 : (x.k == 2) = false := beq_eq_false_iff_ne.2 k2
              clear k1 k2
              as_aux_lemma =>
                go_wp2_with fail
                obtain ⟨P, hO, hP1, hP2, hP3⟩ := H3.out.1.ow
                refine (hO.collect (now + 1) hd (tick_iff.2 ⟨by omega, by omega⟩) (by unfold retB; exact decide_eq_true ⟨by omega, by omega⟩) (by omega)).mono ?_
                rintro e w5 ⟨v, rfl, oc, nc, cc, dc, rfl, hnc, hc, hxc⟩
                have H5 : Hid (Tm w1 w5 p (collS s (now + 1 - hd)) ob cb bk ol cl ls no ∧ nc = cntB (now + 1) hd bk) :=
                  ⟨(H3.out.1.calls (hc.out.2.2.1.sub (fun b hb => .inl hb)) hc.out.2.2.2 hP1 hP2 hP3).1.sub (fun b hb => hb.elim), by rw [hnc.out]; exact HG2.out.2.2.2.2.1.count hxc.out.1⟩
                clear hO hP1 hP2 hP3 hnc hc hxc d0 d1 d2 d3 d4
                go_wp2_with fail
                go_loopw [25, 26, 27, 28] (fun s25 s26 _ _ wq => ∃ (t C : Nat), t ≤ nb ∧ C ≤ t ∧ s26 = .int .i64 t ∧ s25 = .int .i64 C ∧ Hid (C = cntB (now + 1) hd (bk.take t) ∧ Tm w1 wq p (collS s (now + 1 - hd)) ob cb (mapT (goB (now + 1) hd) bk t) ol cl ls no)) (fun _ s26 _ _ _ => nb - (intOf s26).toNat)
                case atStart => exact ⟨0, 0, by omega, by omega, rfl, rfl, by simp [cntB], by rw [mapT_zero]; exact H5.out.1⟩
                case round =>
                  as_aux_lemma =>
                    obtain ⟨t, C, ht, hCt, rfl, rfl, HT⟩ := hrel
                    rename World => wq
                    by_cases htn : t < nb
                    · have htn' : (t : Int) < nb := by omega
                      have htl : t < bk.length := by rw [← HG2.out.2.1]; exact htn
                      have htm : t < (mapT (goB (now + 1) hd) bk t).length := by rw [mapT_len]; exact htl
                      obtain ⟨gb, fb, e1, f0, f1, f2, f3⟩ := atB HT.out.2.bo.sl htm
                      rw [mapT_at _ _ _ _ htl] at f0 f1 f2 f3
                      have hym := getD_mem_lt bk0 htl
                      have hbd := HG2.out.2.2.2.2.1.bd _ hym
                      have hcn := cnt_snoc (now + 1) hd bk t htl
                      have hms := mapT_succ (goB (now + 1) hd) bk t bk0 htl
                      have hme := mapT_same (goB (now + 1) hd) bk t bk0 htl
                      have hst := fun v => HT.out.2.bo.store1 okB bk0 t htm 3 (by decide) v (.bool v.g)
                      simp only [mapT_at _ _ _ _ htl] at hst
                      obtain ⟨y, hy⟩ : ∃ y, y = bk.getD t bk0 := ⟨_, rfl⟩
                      rw [← hy] at f0 f1 f2 f3 hym hbd hcn hms hme hst
                      obtain ⟨yk, yi, ys, yg⟩ := y
                      simp only at f0 f1 f2 f3 hbd
                      have HY : Hid ((⟨yk, yi, ys, yg⟩ : BK) ∈ bk ∧ yk ∈ NM ∧ yi ≤ 1048579) := ⟨hym, hbd.2.2.1, hbd.2.2.2⟩
                      have hys1 : -1 ≤ ys := hbd.1
                      have hys2 : ys ≤ now := hbd.2.1
                      cases hdb : dB (now + 1) hd ⟨yk, yi, ys, yg⟩ with
                      | false =>
                        have HE : Hid (cntB (now + 1) hd (bk.take (t + 1)) = cntB (now + 1) hd (bk.take t) ∧ mapT (goB (now + 1) hd) bk (t + 1) = mapT (goB (now + 1) hd) bk t) := ⟨by rw [hcn, hdb]; simp, hme (by unfold goB; rw [hdb]; simp)⟩
                        clear hcn hms hme hst hy hym hbd htm htl
                        cases yg with
                        | true =>
                          clear hdb
                          subst e1
                          go_wp2_with fail
                          go_roundw
                          case rel => exact ⟨t + 1, C, by omega, by omega, by go_num, rfl, by rw [HE.out.1]; exact HT.out.1, by rw [HE.out.2]; exact HT.out.2⟩
                          case measure => simp [intOf]; omega
                        | false =>
                          by_cases hy0 : 0 ≤ ys
                          · have hyh : ¬ (hd : Int) ≤ now + 1 - ys := fun h => by
                              rw [dB_iff.2 ⟨rfl, hy0, h⟩] at hdb; cases hdb
                            have hyh2 : now + 1 - ys < (hd : Int) := by omega
                            clear hdb
                            subst e1
                            go_wp2_with fail
                            go_roundw
                            case rel => exact ⟨t + 1, C, by omega, by omega, by go_num, rfl, by rw [HE.out.1]; exact HT.out.1, by rw [HE.out.2]; exact HT.out.2⟩
                            case measure => simp [intOf]; omega
                          · have hy0' : ys < 0 := by omega
                            clear hdb
                            subst e1
                            go_wp2_with fail
                            go_roundw
                            case rel => exact ⟨t + 1, C, by omega, by omega, by go_num, rfl, by rw [HE.out.1]; exact HT.out.1, by rw [HE.out.2]; exact HT.out.2⟩
                            case measure => simp [intOf]; omega
                      | true =>
                        have h3 := dB_iff.1 hdb
                        obtain ⟨g, hge, hfz, hst1, hst2⟩ := hst ⟨yk, yi, ys, true⟩ rfl
                        rw [hge] at e1
                        cases e1
                        simp only [Nat.zero_add] at f0 f1 f2 f3
                        have hgo : goB (now + 1) hd ⟨yk, yi, ys, yg⟩ = ⟨yk, yi, ys, true⟩ := by unfold goB; rw [hdb]; rfl
                        rw [hgo] at hms
                        have HE : Hid (cntB (now + 1) hd (bk.take (t + 1)) = cntB (now + 1) hd (bk.take t) + 1) := (show _ = _ by rw [hcn, hdb]; simp)
                        have HST0 : Hid (Tm w1 (wq.setCell ⟨gb, t * 4 + 3, none⟩ (.bool true)) p (collS s (now + 1 - hd)) ob cb (mapT (goB (now + 1) hd) bk (t + 1)) ol cl ls no) := by
                          rw [hms]
                          exact (HT.out.2.setB hst1 hst2).1
                        have HIN : Hid (byE (collS s (now + 1 - hd)) (yk, yi) = 110) := HG2.out.2.2.2.2.1.out HY.out.1 hdb
                        have hfz3 := hfz (t * 4 + 3)
                        have hyg : yg = false := h3.1
                        have hy0 : 0 ≤ ys := h3.2.1
                        have hyh : (hd : Int) ≤ now + 1 - ys := h3.2.2
                        subst hyg
                        subst hge
                        have HF01 : Hid (∀ Y, Keeps no (wq.setCell ⟨gb, t * 4 + 3, none⟩ (.bool true)) Y → Y.cell? ⟨gb, t * 4, none⟩ = some (.string yk) ∧ Y.cell? ⟨gb, t * 4 + 1, none⟩ = some (.int .u64 ((yi : Nat) : Int))) := fun Y hY => by
                          have htm2 : t < (mapT (goB (now + 1) hd) bk (t + 1)).length := by rw [mapT_len]; exact htl
                          obtain ⟨g', f', e', a0, a1, _, _⟩ := atB (HST0.out.bo.keepsN hY).sl htm2
                          cases e'
                          simp only [Nat.zero_add] at a0 a1
                          have hgd : (mapT (goB (now + 1) hd) bk (t + 1)).getD t bk0 = ⟨yk, yi, ys, true⟩ := by
                            rw [hms]; simp [List.getD, htm]
                          rw [hgd] at a0 a1
                          exact ⟨a0, a1⟩
                        clear hcn hms hme hst hst1 hst2 hfz hy hym hbd htm htl hgo hdb h3
                        go_upto_region 24 with fail
                        obtain ⟨w7, hw7⟩ : ∃ w7, w7 = wq.setCell ⟨gb, t * 4 + 3, none⟩ (.bool true) := ⟨_, rfl⟩
                        rw [← hw7] at HST0 HF01 ⊢
                        clear hw7 f0 f1 f2 f3 hfz3
                        have HST := HF01
                        obtain ⟨f0, f1⟩ := HST.out w7 (Keeps.refl _ _)
                        have HBY : Hid (∀ X, Keeps no w7 X → Calls Try.prog 17 #[.pointer (some ⟨p, 0, none⟩), .string yk, .int .u64 ((yi : Nat) : Int)] X fun e w' => ∃ (xa : Tx) (xb : Int) (cc : Tx) (o : Option Addr) (n d : Nat), e = .returned (.tuple #[.agg #[.string xa, .int .u64 xb, .string cc, .slice o n d], .int .i64 110]) ∧ Keeps no X w') := fun X hX => by
                          obtain ⟨P, hO, _⟩ := HST0.out.ow
                          refine ((hO.go hX).byID yk yi ⟨by have := NM_size HY.out.2.1; show _ ≤ maxLen; unfold maxLen; simp only at this ⊢; omega, by have := HY.out.2.2; simp only at this ⊢; omega⟩).mono ?_
                          rintro e w' ⟨a, b, c, o, n, d, he, hk, hz⟩
                          exact ⟨a, b, c, o, n, d, by rw [he, HIN.out], hk.out⟩
                        have HZV : Hid (∀ X, Keeps no (w7.alloc (.cells #[.string ⟨#[]⟩, .int .u64 0, .string ⟨#[]⟩, .slice none 0 0] 60)).drew X → X.heap[w7.heap.size]? = some (.cells #[.string ⟨#[]⟩, .int .u64 0, .string ⟨#[]⟩, .slice none 0 0] 60 (0, 0))) := fun X hX => hX.at (blk_new w7 _) id
                        go_cut [27, 28] from 102 to 116 (fun _ s28 X => s28 = .int .i64 110 ∧ Hid (Keeps no w7 X))
                        case first =>
                          as_aux_lemma =>
                            go_region_held3 (fun Y => Y.cell? ⟨gb, t * 4, none⟩ = some (.string yk) ∧ Y.cell? ⟨gb, t * 4 + 1, none⟩ = some (.int .u64 ((yi : Nat) : Int))) (first | exact HST.out _ (Keeps.refl no _) | exact HST.out _ ((Keeps.refl no _).drew) | exact HST.out _ (((Keeps.refl no _).drew).alloc _) | exact HST.out _ (((Keeps.refl no _).alloc _).drew) | exact HST.out _ KB.out | exact HST.out _ (KB.out.alloc _) | exact HST.out _ ((((KB.out.setCell (.inr (Nat.le_refl _)) _).setCell (.inr (Nat.le_refl _)) _).setCell (.inr (Nat.le_refl _)) _).setCell (.inr (Nat.le_refl _)) _)) ((go_at_call 17; refine (HBY.out _ (by first | exact (Keeps.refl no _).drew | exact ((Keeps.refl no _).alloc _).drew | exact ((Keeps.refl no _).drew).alloc _)).mono ?_; rintro e wB ⟨xa, xb, xc, xo, xn, xd, rfl, hkB⟩; have KB : Hid (Keeps no w7 wB) := (by first | exact ((Keeps.refl no w7).drew).trans hkB | exact (((Keeps.refl no w7).alloc _).drew).trans hkB); (try (have hb := HZV.out _ hkB; have HBB : Hid (wB.heap[w7.heap.size]? = some (.cells #[.string ⟨#[]⟩, .int .u64 0, .string ⟨#[]⟩, .slice none 0 0] 60 (0, 0))) := hb; have q0 := cell_of_blk hb 0; have q1 := cell_of_blk hb 1; have q2 := cell_of_blk hb 2; have q3 := cell_of_blk hb 3; have u0 := frozen_of_blk hb 0; have u1 := frozen_of_blk hb 1; have u2 := frozen_of_blk hb 2; have u3 := frozen_of_blk hb 3; clear hb)); clear hkB))
                            all_goals (rename _ ∧ _ => hh; clear hh)
                            all_goals go_wp2_with fail
                            all_goals go_meet
                            all_goals first
                              | exact ⟨rfl, KB.out.alloc _⟩
                              | exact ⟨rfl, (((KB.out.setCell (.inr (Nat.le_refl _)) _).setCell (.inr (Nat.le_refl _)) _).setCell (.inr (Nat.le_refl _)) _).setCell (.inr (Nat.le_refl _)) _⟩
                        case rest =>
                        obtain ⟨rfl, HKB⟩ := hcut
                        rename World => wB
                        clear HZV HST HBY HF01 f0 f1
                        go_wp2_with fail
                        go_roundw
                        case rel => exact ⟨t + 1, C + 1, by omega, by omega, by go_num, by go_num, by rw [HE.out, HT.out.1], HST0.out.go HKB.out⟩
                        case measure => simp [intOf]; omega
                    · have htn' : ¬ (t : Int) < nb := by omega
                      have htl : bk.length ≤ t := by rw [← HG2.out.2.1]; omega
                      have hCe : C = nc := by rw [HT.out.1, H5.out.2, List.take_of_length_le htl]
                      subst hCe
                      have HE : Hid (Rn w1 wq p (j + 1) (now + 1) ob nb cb ol nl cl) := by
                        have h1 := HT.out.2
                        rw [mapT_all _ _ _ htl] at h1
                        exact ⟨_, _, ls, h1, by rw [List.length_map]; exact HG2.out.2.1, HG2.out.2.2.1, supp_cut HG2.out.2.2.2.1 _, (HG2.out.2.2.2.2.1.coll).mono (by omega), by rw [List.length_map]; have := HG2.out.2.2.2.2.2.1; omega, by have := HG2.out.2.2.2.2.2.2.1; omega⟩
                      clear htl
                      go_wp2_with fail
                      go_meet
                      exact ⟨now + 1, ob, nb, cb, ol, nl, cl, rfl, rfl, rfl, by omega, by omega, HE.out⟩
        case rest =>
        obtain ⟨now', ob', nb', cb', ol', nl', cl', rfl, rfl, rfl, hx0, hx1, HR⟩ := hcut
        rename World => wc
        clear d0 d1 d2 d3 d4 HOP H3 HG2 hw0 hw1 hnb1 hnl1
        obtain ⟨s', bk', ls', r1, r2, r3, r4, r5, r6, r7⟩ := HR.out.ex
        have HR2 : Hid (Tm w1 wc p s' ob' cb' bk' ol' cl' ls' no ∧ nb' = bk'.length ∧ Inv s' now' bk' ls') := ⟨r1, r2, r5⟩
        have hnb' : (nb' : Int) ≤ 1206 := by omega
        clear r1 r2 r3 r4 r5 r6 r7
        as_aux_lemma =>
          go_wp2_with fail
          go_loopw [29, 30, 31] (fun s29 _ _ wq => ∃ t : Nat, t ≤ nb' ∧ s29 = .int .i64 t ∧ Hid (Keeps no wc wq)) (fun s29 _ _ _ => nb' - (intOf s29).toNat)
          case atStart => exact ⟨0, by omega, rfl, Keeps.refl _ _⟩
          case round =>
            as_aux_lemma =>
              obtain ⟨t, ht, rfl, HK⟩ := hrel
              rename World => wq
              by_cases htn : t < nb'
              · have htn' : (t : Int) < nb' := by omega
                have htl : t < bk'.length := by rw [← HR2.out.2.1]; exact htn
                obtain ⟨gb, fb, e1, f0, f1, f2, f3⟩ := atB (HR2.out.1.bo.keepsN HK.out).sl htl
                have hym := getD_mem_lt bk0 htl
                generalize bk'.getD t bk0 = y at f0 f1 f2 f3 hym
                obtain ⟨yk, yi, ys, yg⟩ := y
                simp only at f0 f1 f2 f3
                subst e1
                cases yg with
                | true =>
                  clear hym htl
                  go_wp2_with fail
                  go_roundw
                  case rel => exact ⟨t + 1, by omega, by go_num, HK⟩
                  case measure => simp [intOf]; omega
                | false =>
                  have hin := HR2.out.2.2.isin hym rfl
                  have hbd := HR2.out.2.2.bd _ hym
                  have HBY : Hid (∀ X, Keeps no wq X → Calls Try.prog 17 #[.pointer (some ⟨p, 0, none⟩), .string yk, .int .u64 ((yi : Nat) : Int)] X fun e w' => ∃ (cc : Tx) (o : Option Addr) (n d : Nat), e = .returned (.tuple #[.agg #[.string yk, .int .u64 ((yi : Nat) : Int), .string cc, .slice o n d], .int .i64 0]) ∧ Keeps no X w') := fun X hX => by
                    obtain ⟨v, hv⟩ := hin.2
                    obtain ⟨P, hO, _⟩ := HR2.out.1.ow
                    refine ((hO.go (HK.out.trans hX)).byID yk yi ⟨by have := NM_size hbd.2.2.1; show _ ≤ maxLen; unfold maxLen; simp only at this ⊢; omega, by have := hbd.2.2.2; simp only at this ⊢; omega⟩).mono ?_
                    rintro e w' ⟨a, b, c, o, n, d, he, hk, hz⟩
                    obtain ⟨z1, z2, _⟩ := hz.out v hv
                    have e0' := hin.1
                    simp only at e0'
                    exact ⟨c, o, n, d, by rw [he, z1, z2, e0'], hk.out⟩
                  have HST : Hid (∀ X, Keeps no wq X → X.cell? ⟨gb, fb + t * 4, none⟩ = some (.string yk) ∧ X.cell? ⟨gb, fb + t * 4 + 1, none⟩ = some (.int .u64 ((yi : Nat) : Int))) := fun X hX => ⟨hX.cellN f0, hX.cellN f1⟩
                  have HZV : Hid (∀ X, Keeps no (wq.alloc (.cells #[.string ⟨#[]⟩, .int .u64 0, .string ⟨#[]⟩, .slice none 0 0] 60)).drew X → X.heap[wq.heap.size]? = some (.cells #[.string ⟨#[]⟩, .int .u64 0, .string ⟨#[]⟩, .slice none 0 0] 60 (0, 0))) := fun X hX => hX.at (blk_new wq _) id
                  clear hin hbd hym htl
                  go_upto_region 68 with fail
                  go_cut [30, 31] from 316 to 330 (fun s30 s31 X => ∃ V : Nat, s30 = .pointer (some ⟨V, 0, none⟩) ∧ s31 = .int .i64 0 ∧ Hid (X.cell? ⟨V, 1, none⟩ = some (.int .u64 ((yi : Nat) : Int)) ∧ Keeps no wq X))
                  case first =>
                    as_aux_lemma =>
                      go_region_held3 (fun Y => Y.cell? ⟨gb, fb + t * 4, none⟩ = some (.string yk) ∧ Y.cell? ⟨gb, fb + t * 4 + 1, none⟩ = some (.int .u64 ((yi : Nat) : Int))) (first | exact HST.out _ (Keeps.refl no _) | exact HST.out _ ((Keeps.refl no _).drew) | exact HST.out _ (((Keeps.refl no _).drew).alloc _) | exact HST.out _ (((Keeps.refl no _).alloc _).drew) | exact HST.out _ KB.out | exact HST.out _ (KB.out.alloc _) | exact HST.out _ ((((KB.out.setCell (.inr (Nat.le_refl _)) _).setCell (.inr (Nat.le_refl _)) _).setCell (.inr (Nat.le_refl _)) _).setCell (.inr (Nat.le_refl _)) _)) ((go_at_call 17; refine (HBY.out _ (by first | exact (Keeps.refl no _).drew | exact ((Keeps.refl no _).alloc _).drew | exact ((Keeps.refl no _).drew).alloc _)).mono ?_; rintro e wB ⟨xc, xo, xn, xd, rfl, hkB⟩; have KB : Hid (Keeps no wq wB) := (by first | exact ((Keeps.refl no wq).drew).trans hkB | exact (((Keeps.refl no wq).alloc _).drew).trans hkB); (try (have hb := HZV.out _ hkB; have HBB : Hid (wB.heap[wq.heap.size]? = some (.cells #[.string ⟨#[]⟩, .int .u64 0, .string ⟨#[]⟩, .slice none 0 0] 60 (0, 0))) := hb; have q0 := cell_of_blk hb 0; have q1 := cell_of_blk hb 1; have q2 := cell_of_blk hb 2; have q3 := cell_of_blk hb 3; have u0 := frozen_of_blk hb 0; have u1 := frozen_of_blk hb 1; have u2 := frozen_of_blk hb 2; have u3 := frozen_of_blk hb 3; clear hb)); clear hkB))
                      all_goals (rename _ ∧ _ => hh; clear hh)
                      all_goals go_wp2_with fail
                      all_goals go_meet
                      all_goals first
                        | exact ⟨_, rfl, rfl, cell_of_blk (blk_set (blk_set (blk_set (blk_set HBB.out 0 _) 1 _) 2 _) 3 _) 1, (((KB.out.setCell (.inr (Nat.le_refl _)) _).setCell (.inr (Nat.le_refl _)) _).setCell (.inr (Nat.le_refl _)) _).setCell (.inr (Nat.le_refl _)) _⟩
                        | exact ⟨_, rfl, rfl, cell_of_blk (blk_new _ _) 1, KB.out.alloc _⟩
                  case rest =>
                  obtain ⟨V, rfl, rfl, HV⟩ := hcut
                  rename World => wv
                  have v1 := HV.out.1
                  obtain ⟨f0, f1⟩ := HST.out wv HV.out.2
                  clear HBY HST HZV f2 f3
                  go_wp2_with fail
                  go_quiet (fail)
                  go_wp2_with fail
                  go_roundw
                  case rel => exact ⟨t + 1, by omega, by go_num, (HK.out.trans HV.out.2).trans (kqW rfl rfl rfl rfl)⟩
                  case measure => simp [intOf]; omega
              · have htn' : ¬ (t : Int) < nb' := by omega
                have HN2 : Hid (Rn w1 wq p (j + 1) now' ob' nb' cb' ol' nl' cl') := HR.out.next HK.out
                go_wp2_with fail
                go_roundw
                case rel => exact ⟨j + 1, now', ob', nb', cb', ol', nl', cl', by omega, by omega, by go_num, rfl, rfl, rfl, hx0, by omega, HN2.out⟩
                case measure => simp [intOf]; omega
      · have h200' : ¬ (j : Int) < 200 := by omega
        go_wp2_with fail
        go_ret
        exact ⟨rfl, HG2.out.2.2.2.2.2.2.2.1⟩
    · have hlt' : ¬ (j : Int) < n := by omega
      go_wp2_with fail
      go_ret
      exact ⟨rfl, HG2.out.2.2.2.2.2.2.2.1⟩
end Go.Proofs.Ytagekdmkidbhpaa
