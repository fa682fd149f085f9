/- The law's made: its walk. -/
import Derived.Test.YtdalheeifgampaaDoorD3
namespace Go.Proofs.YtdalheeifgampaaDoor
open Go.RowKit Go.Sort Orl Pk
set_option linter.unusedVariables false
set_option linter.unusedSimpArgs false

theorem step_appK {α : Type} {E : El α} (hE : E.Ok) {w : World} {ops : Array Oper} {o : Oper} {a : Act} {K : Act → World → Prop} {Q : Exit → Act → World → Prop} {Ep : Prop} (hgd : o.guard = none) (s x : Operand)
    (ho : o.op = .call { callee := .builtin .append, args := #[s, x], argTypes := #[E.t, E.t] })
    (oa : Option Addr) (n c : Nat) (xs : List α) (hs : a.eval s = .slice oa n c) (hn : n = xs.length) (hown : Own E w oa c xs)
    (ox : Option Addr) (m d : Nat) (news : List α) (hx : a.eval x = .slice ox m d) (hm : m = news.length) (hd : ox = none → d = 0) (hrow : Row E w ox news)
    (hb : (xs.length + news.length) * E.nb ≤ 140737488355328) (hb2 : xs.length + news.length ≤ 140737488355328)
    (h : ∀ o' c' w', Own E w' o' c' (xs ++ news) → Ap w oa o' w' → K (a.put o.dst (.slice o' (n + m) c')) w') :
    if Region.wanted o (yielded ops a.tmps) = true then Oper.wp Tryd.prog o a w K Q else Ep := by
  have hw : Region.wanted o (yielded ops a.tmps) = true := by simp [Region.wanted, hgd]
  rw [if_pos hw]
  subst hn hm
  obtain ⟨o', c', w', hr, h1, h2⟩ := run_app hE w o.type oa c xs hown ox d news hd hrow hb hb2
  unfold Oper.wp execOp
  simp only [ho, resolve, invoke, builtin, Sem.run_bind, Sem.run_pure, Result.andThen_ok, List.map_toArray, List.map_cons, List.map_nil, hs, hx, hr]
  exact h o' c' w' h1 h2

/-- a list of another kind stays -/
theorem Own.aside {α β : Type} {E : El α} {F : El β} (hne : E.e ≠ F.e) {w w' : World} {oa o' o : Option Addr} {ca c : Nat} {xs : List α} {ys : List β} (h : Own F w o c ys) (hO : Own E w oa ca xs) (hap : Ap w oa o' w') : Own F w' o c ys := by
  rcases hap with ⟨rfl, hh⟩ | ⟨_, hh⟩
  · exact h.keeps hh (fun j hj hi => own_ne hne hO h j hi hj)
  · exact h.keepsN hh
/-- what made's loop holds -/
def MdIn (w : World) (X B C : Nat) (xs : Array Value) (J : Nat) (oL : Option Addr) (m d : Nat) (L : List Tx) (I : Nat) (op : Option Addr) (np cp : Nat) (P : List Pr) (wr : World) : Prop :=
  MdS w X B C xs #[.int .i64 1, .int .u64 (J : Nat), .slice op np cp, .slice oL m d] wr ∧ Own PE wr op cp P ∧ Own TE wr oL d L ∧ np = P.length ∧ MkP L I P ∧ ∀ j, inO op j → C < j
def MdEx (w : World) (X B C : Nat) (xs : Array Value) (J : Nat) (oL : Option Addr) (m d : Nat) (L : List Tx) (I : Nat) (wr : World) : Prop := ∃ op np cp P, MdIn w X B C xs J oL m d L I op np cp P wr
theorem MkP.len {L : List Tx} {I : Nat} {P : List Pr} (h : MkP L I P) : P.length ≤ I := by
  have := h.sub.length_le
  rw [kys_length, List.length_take] at this
  omega

set_option maxRecDepth 20000 in
set_option maxHeartbeats 4000000 in
theorem made_any (w : World) (cmt : Bool) (id : Nat) (oK : Option Addr) (nK cK : Nat) (xs : List Tx) (sm : Nat) (val : Tx) (hid : id < 18446744073709551616) (hsm : sm < 18446744073709551616) (hn : nK = xs.length) (hnb : (nK : Int) ≤ 8796093022000) (hs : Sl TE w oK cK xs) (hf : ∀ s ∈ xs, s.size ≤ 140737488351232) (hv : val.size ≤ 140737488351232) :
    Calls Tryd.prog 10 #[.agg #[.bool cmt, .int .u64 (id : Nat), .slice oK nK cK, .int .u64 (sm : Nat), .string val]] w (MadeTo w) := by
  have HN : Hid (nK = xs.length) := hn
  have HS0 : Hid (Sl TE w oK cK xs) := hs
  obtain ⟨J, hJe, hJ1, hJ2⟩ := or_id id hid
  have HJ : Hid (65536 ≤ J ∧ J < 18446744073709551616) := ⟨hJ1, hJ2⟩
  have HM0 : Hid (MdS w w.heap.size (w.heap.size + 1) (w.heap.size + 2) #[.bool cmt, .int .u64 (id : Nat), .slice oK nK cK, .int .u64 (sm : Nat), .string val] #[.int .i64 2, .int .u64 (J : Nat), .slice none 0 0, .slice none 0 0] (((w.alloc (.cells #[.bool cmt, .int .u64 (id : Nat), .slice oK nK cK, .int .u64 (sm : Nat), .string val] 25)).alloc (.cells #[.int .i64 0, .int .u64 0, .slice none 0 0, .slice none 0 0] 30)).alloc (.cells #[.int .i64 2, .int .u64 (J : Nat), .slice none 0 0, .slice none 0 0] 30))) := by
    have e1 : (w.alloc (.cells #[.bool cmt, .int .u64 (id : Nat), .slice oK nK cK, .int .u64 (sm : Nat), .string val] 25)).heap.size = w.heap.size + 1 := by simp
    have e2 : ((w.alloc (.cells #[.bool cmt, .int .u64 (id : Nat), .slice oK nK cK, .int .u64 (sm : Nat), .string val] 25)).alloc (.cells #[.int .i64 0, .int .u64 0, .slice none 0 0, .slice none 0 0] 30)).heap.size = w.heap.size + 2 := by simp
    refine ⟨(((Keeps.refl no w).alloc _).alloc _).alloc _, blk_alloc (blk_alloc (blk_new w _) _) _, ?_, ?_, rfl, rfl, rfl⟩
    · have := blk_alloc (blk_new (w.alloc (.cells #[.bool cmt, .int .u64 (id : Nat), .slice oK nK cK, .int .u64 (sm : Nat), .string val] 25)) (.cells #[.int .i64 0, .int .u64 0, .slice none 0 0, .slice none 0 0] 30)) (.cells #[.int .i64 2, .int .u64 (J : Nat), .slice none 0 0, .slice none 0 0] 30)
      rw [e1] at this; exact this
    · have := blk_new ((w.alloc (.cells #[.bool cmt, .int .u64 (id : Nat), .slice oK nK cK, .int .u64 (sm : Nat), .string val] 25)).alloc (.cells #[.int .i64 0, .int .u64 0, .slice none 0 0, .slice none 0 0] 30)) (.cells #[.int .i64 2, .int .u64 (J : Nat), .slice none 0 0, .slice none 0 0] 30)
      rw [e2] at this; exact this
  clear hn hJ1 hJ2 hs
  go_enter Tryd.func10, Tryd.ntmps10
  go_wp2_with fail
  generalize hW0 : ((w.alloc (.cells #[.bool cmt, .int .u64 (id : Nat), .slice oK nK cK, .int .u64 (sm : Nat), .string val] 25)).alloc (.cells #[.int .i64 0, .int .u64 0, .slice none 0 0, .slice none 0 0] 30)).alloc (.cells #[.int .i64 2, .int .u64 (J : Nat), .slice none 0 0, .slice none 0 0] 30) = W0 at HM0 ⊢
  clear hW0
  obtain ⟨X, hX⟩ : ∃ X, X = w.heap.size := ⟨_, rfl⟩
  obtain ⟨B, hB⟩ : ∃ B, B = w.heap.size + 1 := ⟨_, rfl⟩
  obtain ⟨C, hC⟩ : ∃ C, C = w.heap.size + 2 := ⟨_, rfl⟩
  have hC' : C = w.heap.size + 1 + 1 := hC
  rw [← hB, ← hC, ← hX] at HM0
  rw [← hC', ← hB, ← hX]
  clear hX hB hC hC'
  refine (sorted_any W0 oK nK cK xs HN.out hnb (HS0.out.keepsN HM0.out.kp) hf).mono ?_
  rintro e w1 ⟨oL, m, d, rfl, hm40, L, hL⟩
  have HL : Hid (m = L.length ∧ Own TE w1 oL d L ∧ New W0 oL ∧ Ks L ∧ Keeps no W0 w1) := hL
  have HM1 : Hid (MdS w X B C #[.bool cmt, .int .u64 (id : Nat), .slice oK nK cK, .int .u64 (sm : Nat), .string val] #[.int .i64 2, .int .u64 (J : Nat), .slice none 0 0, .slice none 0 0] w1) := HM0.out.keepsN hL.2.2.2.2
  have HCL : Hid (∀ j, inO oL j → C < j) := fun j hj => by have := hL.2.2.1 j hj; have := lt_of_block HM0.out.c; omega
  clear hL HM0
  have x0 : w1.cell? ⟨X, 0, none⟩ = some (.bool cmt) := cell_of_blk HM1.out.x 0
  obtain ⟨y0, y1, y2, y3⟩ := cells4 HM1.out.b
  obtain ⟨z0, z1, z2, z3⟩ := cells4 HM1.out.c
  have f0 := frozen_of_blk HM1.out.b 0
  have f1 := frozen_of_blk HM1.out.b 1
  have f2 := frozen_of_blk HM1.out.b 2
  have f3 := frozen_of_blk HM1.out.b 3
  have hne1 : ¬ C = B := by have := HM1.out.lt; omega
  have hne2 : ¬ B = C := by have := HM1.out.lt; omega
  have HFIN : Hid (∀ W : World, ∀ xs' : Array Value, MdS w X B C xs' #[.int .i64 2, .int .u64 (J : Nat), .slice none 0 0, .slice none 0 0] W → MadeTo w (.returned (.agg #[.int .i64 2, .int .u64 (J : Nat), .slice none 0 0, .slice none 0 0])) ((((W.setCell ⟨B, 0, none⟩ (.int .i64 2)).setCell ⟨B, 1, none⟩ (.int .u64 (J : Nat))).setCell ⟨B, 2, none⟩ (.slice none 0 0)).setCell ⟨B, 3, none⟩ (.slice none 0 0))) := by
    intro W xs' h
    obtain ⟨q1, q2, q3⟩ := made_cm J HJ.out.1 HJ.out.2
    have hs4 := set4n (g := B) (by have := h.lt; omega) h.kp h.b (.int .i64 2) (.int .u64 (J : Nat)) (.slice none 0 0) (.slice none 0 0)
    exact ⟨2, J, none, 0, 0, none, 0, 0, ⟨2, J, [], []⟩, rfl, ⟨⟨rfl, rfl, rfl, rfl, own_nil _, own_nil _, new_none _, new_none _, q3⟩, q1, q2⟩, hs4.2⟩
  cases cmt
  · by_cases hm0 : m = 0
    · subst hm0
      go_wp2_with fail
      (try simp only [Exit.inBlock, Exit.then])
      have hs4 := set4 HM1.out.b (.int .i64 2) (.int .u64 (J : Nat)) (.slice none 0 0) (.slice none 0 0)
      refine bodyPost_ret (results_row1 rfl _ _ B _ rfl (loadR hs4.1)) rfl ?_
      exact HFIN.out _ _ HM1.out
    · have hm0' : ((m : Int) == 0) = false := by simp; omega
      have hm0'' : ¬ (m : Int) = 0 := by omega
      have g0 := frozen_of_blk HM1.out.c 0
      have HM2 : Hid _ := (HM1.out.set 0 (.int .i64 1)).1
      have HM3 : Hid _ := (HM2.out.set 3 (.slice oL m d)).1
      have HL3 : Hid (Own TE ((w1.setCell ⟨C, 0, none⟩ (.int .i64 1)).setCell ⟨C, 3, none⟩ (.slice oL m d)) oL d L) := ((HL.out.2.1.keeps (HM1.out.set 0 (.int .i64 1)).2 (fun j hj e => by have := HCL.out j hj; unfold eqA at e; omega)).keeps (HM2.out.set 3 (.slice oL m d)).2 (fun j hj e => by have := HCL.out j hj; unfold eqA at e; omega))
      have g3 := frozen_of_blk HM2.out.c 3
      go_wp2_with fail
      generalize (w1.setCell ⟨C, 0, none⟩ (.int .i64 1)).setCell ⟨C, 3, none⟩ (.slice oL m d) = W3 at HM3 HL3 ⊢
      have HE3 : Hid (MdEx w X B C #[.bool false, .int .u64 (id : Nat), .slice oK nK cK, .int .u64 (sm : Nat), .string val] J oL m d L 0 W3) :=
        ⟨none, 0, 0, [], HM3.out, own_nil _, HL3.out, rfl, ⟨by simp [kys], fun p hp => (by cases hp), fun h => by omega⟩, fun j hj => by obtain ⟨x, e, _⟩ := hj; cases e⟩
      have HKL : Hid (m = L.length ∧ Ks L) := ⟨HL.out.1, HL.out.2.2.2.1⟩
      clear HM1 HM2 HM3 HL HL3 x0 y0 y1 y2 y3 z0 z1 z2 z3 f0 f1 f2 f3 g0 g3 HFIN
      go_loopw [5] (fun i wr => ∃ I : Nat, i = .int .i64 (I : Nat) ∧ I ≤ m ∧ MdEx w X B C #[.bool false, .int .u64 (id : Nat), .slice oK nK cK, .int .u64 (sm : Nat), .string val] J oL m d L I wr) (fun i _ => m - (intOf i).toNat)
      case atStart => exact ⟨0, rfl, by omega, HE3.out⟩
      case round =>
        rename World => wq
        clear HE3
        obtain ⟨I, rfl, hI, op, np, cp, P, hME⟩ := hrel
        have HME : Hid (MdIn w X B C #[.bool false, .int .u64 (id : Nat), .slice oK nK cK, .int .u64 (sm : Nat), .string val] J oL m d L I op np cp P wq) := hME
        clear hME
        by_cases hIm : I < m
        · have hIm' : (I : Int) < m := by omega
          have x3 : wq.cell? ⟨X, 3, none⟩ = some (.int .u64 (sm : Nat)) := cell_of_blk HME.out.1.x 3
          have x4 : wq.cell? ⟨X, 4, none⟩ = some (.string val) := cell_of_blk HME.out.1.x 4
          go_upto_region 10 with fail
          go_cut [41] from 31 to 67 (fun v wc => (∃ b : Bool, v = .bool b ∧ (I = 0 → b = true)) ∧ wc = wq)
          case first =>
            by_cases hI0 : I = 0
            · subst hI0
              go_wp2_with fail
              all_goals go_meet
              all_goals exact ⟨⟨_, rfl, fun _ => rfl⟩, rfl⟩
            · go_wp2_with fail
              all_goals go_meet
              all_goals exact ⟨⟨_, rfl, fun h => absurd h hI0⟩, rfl⟩
          case rest =>
          obtain ⟨⟨b, rfl, hb⟩, rfl⟩ := hcut
          rename World => wq
          cases b
          · have hI0 : 1 ≤ I := by
              rcases Nat.eq_zero_or_pos I with h | h
              · cases hb h
              · exact h
            go_wp2_with fail
            go_roundw
            case rel =>
              have h := HME.out
              exact ⟨I + 1, by go_num, by omega, op, np, cp, P, h.1, h.2.1, h.2.2.1, h.2.2.2.1, h.2.2.2.2.1.skip (by have := HKL.out.1; omega) hI0, h.2.2.2.2.2⟩
            case measure => simp [intOf]; omega
          · clear hb
            go_upto_if 46 with fail
            go_cut [6] from 42 to 67 (fun v wc => ∃ s : Tx, v = .string s ∧ s.size ≤ 300 ∧ wc = wq)
            case first =>
              by_cases hs3 : 300 < val.size
              · have hs3' : (val.size : Int) > 300 := by omega
                have hs4 : (300 : Int) ≤ val.size := by omega
                clear hs3
                go_wp2_with fail
                go_meet
                case rel => exact ⟨_, rfl, by simp [ByteArray.size_extract]; omega, rfl⟩
              · have hs3' : ¬ (val.size : Int) > 300 := by omega
                clear hs3
                go_wp2_with fail
                go_meet
                case rel => exact ⟨_, rfl, by omega, rfl⟩
            case rest =>
            obtain ⟨s, rfl, hs3, rfl⟩ := hcut
            rename World => wq
            have hIL : I < L.length := by have := HKL.out.1; omega
            obtain ⟨kb, koff, rfl, k1⟩ := HME.out.2.2.1.sl.at hIL
            obtain ⟨key, hkey⟩ : ∃ key, key = L.getD I e0 := ⟨_, rfl⟩
            rw [← hkey] at k1
            have HKEY : Hid (key = L.getD I e0) := hkey
            have c2 : wq.cell? ⟨C, 2, none⟩ = some (.slice op np cp) := cell_of_blk HME.out.1.c 2
            obtain ⟨p, q, e1, e2, e3, e4, e5, hqs⟩ : ∃ p q : Nat, (I : Int) * ((s.size : Nat) : Int) = (p : Int) ∧ IntKind.i64.wrap (p : Int) = (p : Int) ∧ Int.tdiv (p : Int) (m : Int) = (q : Int) ∧ (p : Int) / (m : Int) = (q : Int) ∧ (q : Int) ≤ s.size ∧ q ≤ s.size := by
              have hIz : I * s.size ≤ 40 * 300 := Nat.mul_le_mul (by omega) hs3
              have hqz : I * s.size / m ≤ s.size := by
                refine Nat.div_le_of_le_mul ?_
                rw [Nat.mul_comm m, Nat.mul_comm I]
                exact Nat.mul_le_mul_left _ (by omega)
              refine ⟨I * s.size, I * s.size / m, by push_cast; rfl, ?_, ?_, ?_, by omega, hqz⟩
              · rw [IntKind.wrap_i64]; omega
              · exact Int.ofNat_tdiv _ _
              · rfl
            have e6 : (0 : Int) ≤ q := by omega
            have hm0b : (m : Int) ≠ 0 := by omega
            clear hkey
            have HQZ : Hid (q ≤ s.size ∧ s.size ≤ 300) := ⟨hqs, hs3⟩
            clear hs3 hqs
            go_upto_region 14 with fail
            have e7 : IntKind.i64.wrap (q : Int) = (q : Int) := by rw [IntKind.wrap_i64]; have := HQZ.out; omega
            have c2b := ((Keeps.refl no wq).alloc (.cells #[.string key, .string (s.extract 0 q)] 33)).cellN c2
            have HNP : Hid (np = P.length ∧ P.length ≤ 40) := ⟨HME.out.2.2.2.1, by have := HME.out.2.2.2.2.1.len; omega⟩
            have HB2 : Hid ((P.length + [(key, s.extract 0 q)].length) * PE.nb ≤ 140737488355328 ∧ P.length + [(key, s.extract 0 q)].length ≤ 140737488355328) := ⟨by have := HNP.out; simp [PE]; omega, by have := HNP.out; simp; omega⟩
            have KD : Hid (Keeps no wq (wq.drew.alloc (.cells #[.string key, .string (s.extract 0 q)] 33))) := (Keeps.refl no wq).drew.alloc _
            go_region_law
              (refine step_appK okP rfl (.tmp 50) (.tmp 65) rfl op np cp P rfl HNP.out.1 (HME.out.2.1.keepsN KD.out) (some (Addr.mk wq.heap.size 0 none)) 1 1 [(key, s.extract 0 q)] rfl rfl (fun e => by cases e) (own_oneP wq.drew key _).row HB2.out.1 HB2.out.2 ?_; intro o2 c2' w2 ho2 hap2; have HM2 : Hid (MdS w X B C #[.bool false, .int .u64 (id : Nat), .slice oK nK cK, .int .u64 (sm : Nat), .string val] #[.int .i64 1, .int .u64 (J : Nat), .slice op np cp, .slice (some (Addr.mk kb koff none)) m d] w2 ∧ ∀ j, inO o2 j → C < j) := (HME.out.1.keepsN KD.out).ap HME.out.2.2.2.2.2 hap2; have HO2 : Hid (Own PE w2 o2 c2' (P ++ [(key, s.extract 0 q)])) := ho2; have HL2 : Hid (Own TE w2 (some (Addr.mk kb koff none)) d L) := (HME.out.2.2.1.keepsN KD.out).aside (by decide) (HME.out.2.1.keepsN KD.out) hap2; have fz := frozen_of_blk HM2.out.1.c 2; have c2w : w2.cell? ⟨C, 2, none⟩ = some (.slice op np cp) := cell_of_blk HM2.out.1.c 2; clear ho2 hap2)
            all_goals
              have HS2 : Hid _ := HM2.out.1.set 2 (.slice o2 (np + 1) c2')
              have HR : Hid (MdEx w X B C #[.bool false, .int .u64 (id : Nat), .slice oK nK cK, .int .u64 (sm : Nat), .string val] J (some (Addr.mk kb koff none)) m d L (I + 1) (w2.setCell ⟨C, 2, none⟩ (.slice o2 (np + 1) c2'))) := by
                refine ⟨o2, np + 1, c2', P ++ [(key, s.extract 0 q)], HS2.out.1, ?_, ?_, by rw [List.length_append, ← HNP.out.1]; rfl, ?_, HM2.out.2⟩
                · exact HO2.out.keeps HS2.out.2 (fun j hj e => by have := HM2.out.2 j hj; unfold eqA at e; omega)
                · exact HL2.out.keeps HS2.out.2 (fun j hj e => by have := HCL.out j hj; unfold eqA at e; omega)
                · rw [HKEY.out]
                  exact HME.out.2.2.2.2.1.push (by have := HKL.out.1; omega) _ (by simp [ByteArray.size_extract]; have := HQZ.out; omega)
              (go_wp2_with fail
               go_roundw
               case rel => exact ⟨I + 1, by go_num, by omega, HR.out⟩
               case measure => simp [intOf]; omega)
        · have hIm' : ¬ (I : Int) < m := by omega
          obtain ⟨y0, y1, y2, y3⟩ := cells4 HME.out.1.b
          obtain ⟨z0, z1, z2, z3⟩ := cells4 HME.out.1.c
          have f0 := frozen_of_blk HME.out.1.b 0
          have f1 := frozen_of_blk HME.out.1.b 1
          have f2 := frozen_of_blk HME.out.1.b 2
          have f3 := frozen_of_blk HME.out.1.b 3
          go_wp2_with fail
          (try simp only [Exit.inBlock, Exit.then])
          have h := HME.out
          have hIL : I = L.length := by have := HKL.out.1; omega
          have hs4 := set4n (g := B) (by have := h.1.lt; omega) h.1.kp h.1.b (.int .i64 1) (.int .u64 (J : Nat)) (.slice op np cp) (.slice oL m d)
          have hs5 := set4 h.1.b (.int .i64 1) (.int .u64 (J : Nat)) (.slice op np cp) (.slice oL m d)
          refine bodyPost_ret (results_row1 rfl _ _ B _ rfl (loadR hs4.1)) rfl ?_
          have hM := h.2.2.2.2.1
          rw [hIL] at hM
          have hlt := h.1.lt
          refine ⟨1, J, op, np, cp, oL, m, d, ⟨1, J, P, L⟩, rfl, ⟨⟨rfl, rfl, h.2.2.2.1, HKL.out.1, ?_, ?_, ?_, ?_, made_fit HKL.out.2 hM HJ.out.2⟩, made_may HKL.out.2 (by have := HKL.out.1; omega) HJ.out.1 hM, made_len HKL.out.2 hM⟩, hs4.2⟩
          · exact h.2.1.keeps hs5.2 (fun j hj e => by have := h.2.2.2.2.2 j hj; unfold eqA at e; omega)
          · exact h.2.2.1.keeps hs5.2 (fun j hj e => by have := HCL.out j hj; unfold eqA at e; omega)
          · exact fun j hj => by have := h.2.2.2.2.2 j hj; omega
          · exact fun j hj => by have := HCL.out j hj; omega
  · go_wp2_with fail
    (try simp only [Exit.inBlock, Exit.then])
    have hs4 := set4 HM1.out.b (.int .i64 2) (.int .u64 (J : Nat)) (.slice none 0 0) (.slice none 0 0)
    refine bodyPost_ret (results_row1 rfl _ _ B _ rfl (loadR hs4.1)) rfl ?_
    exact HFIN.out _ _ HM1.out
end Go.Proofs.YtdalheeifgampaaDoor
