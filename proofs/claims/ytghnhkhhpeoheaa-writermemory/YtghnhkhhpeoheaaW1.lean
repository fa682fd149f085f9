/- The law's mended. -/
import Derived.Test.YtghnhkhhpeoheaaW0
namespace Go.Proofs.Ytghnhkhhpeoheaa
open Go.RowKit Go.Sort Orl
set_option linter.unusedVariables false
set_option linter.unusedSimpArgs false

theorem own_oneP (w : World) (x y : Tx) : Sl PE (w.alloc (.cells #[.string x, .string y] 50)) (some ⟨w.heap.size, 0, none⟩) 1 [(x, y)] := by
  refine ⟨.inr ⟨_, 0, rfl, fun j u hj => ?_⟩, by simp, fun e => by cases e⟩
  rw [Nat.zero_add, cell_of_blk (blk_new w _)]
  simpa [El.cells, PE] using hj
/-- is the key there, among the first k? -/
def hasTo (l : List Pr) (k : Nat) (s : Tx) : Bool := hasP (l.take k) s
theorem hasTo_succ (l : List Pr) (k : Nat) (s : Tx) (hk : k < l.length) : hasTo l (k + 1) s = (hasTo l k s || decide ((l.getD k p0).1 = s)) := by
  unfold hasTo hasP
  rw [take_succ_getD l k p0 hk, List.any_append]; simp
theorem hasTo_all (l : List Pr) (s : Tx) : hasTo l l.length s = hasP l s := by unfold hasTo; rw [List.take_length]
theorem cutS_run (k : Tx) (h : 200 < k.size) (hm : k.size ≤ maxLen) (w : World) : (Instr.slice 9 (.string k) none (some (.int .i64 200)) none).run Try.prog w = .ok (.string (k.extract 0 200)) w := by
  have h1 : (200 : Int) ≤ (k.size : Int) := by omega
  rw [run_slice_string_h w 9 k Try.underlying9 .i64 200 (by omega) h1]
  rfl
/-- forty: no more -/
theorem mend_full (l : List Pr) (i : Nat) (hi : i ≤ l.length) (h : ¬ (mendTo l i).length < 40) : mendTo l i = mendTo l l.length := by
  have key : ∀ d, i + d ≤ l.length → mendTo l (i + d) = mendTo l i := by
    intro d
    induction d with
    | zero => intro _; rfl
    | succ d ih =>
      intro hd
      rw [← Nat.add_assoc, mendTo_succ l (i + d) (by omega), ih (by omega)]
      unfold mendStep
      rw [if_neg (fun hc => h hc.1)]
  have := key (l.length - i) (by omega)
  rw [show i + (l.length - i) = l.length by omega] at this
  exact this.symm
set_option maxRecDepth 10000 in
set_option maxHeartbeats 2000000 in
theorem mended_any (w : World) (o : Option Addr) (n c : Nat) (l : List Pr) (hn : n = l.length) (hl : l.length ≤ 4398046511000) (hz : ∀ p ∈ l, p.1.size ≤ maxLen ∧ p.2.size ≤ maxLen) (hs : Sl PE w o c l) :
    Calls Try.prog 8 #[.slice o n c] w fun e w' => ∃ v, e = .returned v ∧ Gives PE w (mendP l) v w' := by
  have HN : Hid (n = l.length) := hn
  have hA : (n : Int) ≤ 4398046511000 := by omega
  have HS : Hid (Sl PE w o c l) := hs
  have HZ : Hid (∀ p ∈ l, p.1.size ≤ maxLen ∧ p.2.size ≤ maxLen) := hz
  clear hn hl hz hs
  go_enter Try.func8, Try.ntmps8
  go_wp2_with fail
  go_loopw [3, 4] (fun s3 s4 wr => ∃ (i : Nat) (oo : Option Addr) (no' co : Nat), i ≤ n ∧ s4 = .int .i64 i ∧ s3 = .slice oo no' co ∧ no' ≤ 40 ∧ Hid (no' = (mendTo l i).length) ∧ Hid (Own PE wr oo co (mendTo l i) ∧ New w oo ∧ Keeps no w wr)) (fun _ s4 _ => n - (intOf s4).toNat)
  case atStart => exact ⟨0, none, 0, 0, by omega, rfl, rfl, by omega, rfl, own_nil _, new_none _, Keeps.refl _ _⟩
  case round =>
    rename World => wr
    obtain ⟨i, oo, no', co, hi, rfl, rfl, hno, HNO, HO⟩ := hrel
    have hno' : (no' : Int) ≤ 40 := by omega
    by_cases hlt : i < n
    rotate_left
    · have hlt' : ¬ (i : Int) < n := by omega
      have hd : decide ((i : Int) < n) = false := by simpa using hlt'
      have HM : Hid (mendTo l i = mendTo l l.length) := by show _ = _; rw [show i = l.length by have := HN.out; omega]
      by_cases h0 : no' = 0
      · subst h0
        have HE : Hid (mendP l = [pkv]) := by
          show _ = _
          unfold mendP
          rw [← HM.out, List.length_eq_zero_iff.1 HNO.out.symm]
          rfl
        have HO0 : Hid (Own PE wr oo co []) := by
          have h := HO.out.1
          rwa [List.length_eq_zero_iff.1 HNO.out.symm] at h
        go_wp2_with (at_builtin; refine wpList_app okP rfl _ _ rfl oo 0 co [] rfl rfl (HO0.out.keepsN ((Keeps.refl _ _).alloc _)) (some ⟨wr.heap.size, 0, none⟩) 1 1 [pkv] rfl rfl (fun h => by cases h) (own_oneP wr ⟨#[107]⟩ ⟨#[118]⟩).row (by simp [PE]) (by simp) ?_; intro o9 c9 w9 ho9 ha9)
        go_ret
        refine ⟨_, rfl, o9, _, c9, rfl, ?_, ?_, (ha9.new HO.out.2.1 (HO.out.2.2.alloc _)).1, (ha9.new HO.out.2.1 (HO.out.2.2.alloc _)).2⟩
        · show _ = _
          rw [HE.out]; rfl
        · rw [HE.out]
          simpa using ho9
      · have h0' : ((no' : Int) == 0) = false := by simp; omega
        have h0'' : ¬ (no' : Int) = 0 := by omega
        have HE : Hid (mendP l = mendTo l i) := by
          show _ = _
          unfold mendP
          rw [← HM.out, if_neg]
          rw [List.isEmpty_iff]
          intro e
          have := HNO.out
          rw [e] at this
          exact h0 this
        go_wp2_with fail
        go_ret
        exact ⟨_, rfl, oo, no', co, rfl, by show _ = _; rw [HE.out]; exact HNO.out, by rw [HE.out]; exact HO.out.1, HO.out.2.1, HO.out.2.2⟩
    by_cases hfull : no' < 40
    rotate_left
    · have hlt' : (i : Int) < n := by omega
      have hd : decide ((i : Int) < n) = true := by simpa using hlt'
      have hf' : ¬ (no' : Int) < 40 := by omega
      have hd2 : decide ((no' : Int) < 40) = false := by simpa using hf'
      have HM : Hid (mendTo l i = mendTo l l.length) := by
        show _ = _
        exact mend_full l i (by have := HN.out; omega) (by rw [← HNO.out]; omega)
      have h0 : ¬ no' = 0 := by omega
      have h0' : ((no' : Int) == 0) = false := by simp; omega
      have h0'' : ¬ (no' : Int) = 0 := by omega
      have HE : Hid (mendP l = mendTo l i) := by
        show _ = _
        unfold mendP
        rw [← HM.out, if_neg]
        rw [List.isEmpty_iff]
        intro e
        have := HNO.out
        rw [e] at this
        exact h0 this
      go_wp2_with fail
      go_ret
      exact ⟨_, rfl, oo, no', co, rfl, by show _ = _; rw [HE.out]; exact HNO.out, by rw [HE.out]; exact HO.out.1, HO.out.2.1, HO.out.2.2⟩
    have hlt' : (i : Int) < n := by omega
    have hf' : (no' : Int) < 40 := by omega
    have hil : i < l.length := by have := HN.out; omega
    obtain ⟨b, off, hob, d0, d1⟩ := (HS.out.keepsN HO.out.2.2).atP hil
    subst hob
    have HST : Hid (mendTo l (i + 1) = mendStep (mendTo l i) (l.getD i p0)) := mendTo_succ l i hil
    have hzz := HZ.out _ (getD_mem_lt p0 hil)
    generalize hp : l.getD i p0 = p at d0 d1 HST hzz
    clear hp
    obtain ⟨k, v⟩ := p
    simp only at d0 d1 hzz
    have HC : Hid (∃ K V, (K, V) = cutP (k, v)) := ⟨_, _, rfl⟩
    obtain ⟨K, V, hKV⟩ := HC.out
    have HKV : Hid ((K, V) = cutP (k, v)) := hKV
    have hK : K = if 200 < k.size then k.extract 0 200 else k := congrArg Prod.fst hKV
    have hV : V = if 200 < v.size then v.extract 0 200 else v := congrArg Prod.snd hKV
    clear HC hKV
    have HSE : Hid ((hasP (mendTo l i) K = true → mendTo l (i + 1) = mendTo l i) ∧ (hasP (mendTo l i) K = false → mendTo l (i + 1) = mendTo l i ++ [(K, V)])) := by
      have e1 : K = (cutP (k, v)).1 := congrArg Prod.fst HKV.out
      rw [HST.out, HKV.out, e1]
      unfold mendStep
      refine ⟨fun h => if_neg (fun hc => by rw [hc.2] at h; cases h), fun h => if_pos ⟨by rw [← HNO.out]; exact hfull, h⟩⟩
    clear HKV HST
    have HOW : Hid (∀ W, W = wr.alloc (.cells #[.string K, .string V] 50) → Own PE W oo co (mendTo l i) ∧ Keeps no w W ∧ W.heap[wr.heap.size]? = some (.cells #[.string K, .string V] 50 (0, 0))) := by
      rintro W rfl
      exact ⟨HO.out.1.keepsN ((Keeps.refl _ _).alloc _), HO.out.2.2.alloc _, blk_new wr _⟩
    by_cases h1 : 200 < k.size <;> by_cases h2 : 200 < v.size
    all_goals
      first
        | (rw [if_pos h1] at hK; have s1 := cutS_run k h1 hzz.1; rw [← hK] at s1; clear hK)
        | (rw [if_neg h1] at hK; subst hK)
      first
        | (rw [if_pos h2] at hV; have s2 := cutS_run v h2 hzz.2; rw [← hV] at s2; clear hV)
        | (rw [if_neg h2] at hV; subst hV)
    all_goals
      (try have g1 : (200 : Int) < ((ByteArray.size k : Nat) : Int) := by omega)
      (try have g1 : ¬ (200 : Int) < ((ByteArray.size K : Nat) : Int) := by omega)
      (try have g2 : (200 : Int) < ((ByteArray.size v : Nat) : Int) := by omega)
      (try have g2 : ¬ (200 : Int) < ((ByteArray.size V : Nat) : Int) := by omega)
      go_wp2_with fail
      obtain ⟨W1, hW1⟩ : ∃ W, W = wr.alloc (.cells #[.string K, .string V] 50) := ⟨_, rfl⟩
      have HW1 : Hid (Own PE W1 oo co (mendTo l i) ∧ Keeps no w W1 ∧ W1.heap[wr.heap.size]? = some (.cells #[.string K, .string V] 50 (0, 0))) := HOW.out W1 hW1
      rw [← hW1]
      clear hW1 HOW
      generalize wr.heap.size = PB at HW1 ⊢
      clear d0 d1 hzz
      go_loopw [6, 7] (fun s6 s7 wi => ∃ (q m : Nat) (B : Bool), q ≤ no' ∧ s7 = .int .i64 q ∧ s6 = .bool B ∧ wi = W1.drewN m ∧ Hid (B = hasTo (mendTo l i) q K)) (fun _ s7 _ => no' - (intOf s7).toNat)
      case atStart => exact ⟨0, 0, false, by omega, rfl, rfl, rfl, rfl⟩
      case round =>
        obtain ⟨q, m, B, hq, rfl, rfl, rfl, HB⟩ := hrel
        by_cases hq2 : q < no'
        · have hq2' : (q : Int) < no' := by omega
          have hql : q < (mendTo l i).length := by have := HNO.out; omega
          obtain ⟨b3, off3, ho3, e0', e1'⟩ := HW1.out.1.sl.atP hql
          subst ho3
          have x0 := cell_of_blk HW1.out.2.2 0
          simp only [List.getElem?_toArray, List.getElem?_cons_succ, List.getElem?_cons_zero] at x0
          have HSC := hasTo_succ (mendTo l i) q K hql
          have HSU : Hid (hasTo (mendTo l i) (q + 1) K = (hasTo (mendTo l i) q K || decide (((mendTo l i).getD q p0).1 = K))) := HSC
          clear HSC hql e1'
          generalize ((mendTo l i).getD q p0).1 = z at e0' HSU
          cases B with
          | true =>
            have HB2 : Hid (true = hasTo (mendTo l i) (q + 1) K) := by show _ = _; rw [HSU.out, ← HB.out]; rfl
            clear HSU HB
            go_wp2_with fail
            go_quiet (fail)
            go_wp2_with fail
            go_roundw
            case rel => exact ⟨q + 1, _, true, by omega, by go_num, rfl, rfl, HB2⟩
            case measure => simp [intOf]; omega
          | false =>
            obtain ⟨Bz, hBz⟩ : ∃ B, B = decide (z = K) := ⟨_, rfl⟩
            have hz2 : (z.toList == K.toList) = Bz := by rw [tx_eq, hBz]
            have HB2 : Hid (Bz = hasTo (mendTo l i) (q + 1) K) := by show _ = _; rw [HSU.out, ← HB.out, ← hBz]; rfl
            clear HSU HB hBz
            cases Bz with
            | true =>
              go_wp2_with fail
              go_quiet (fail)
              go_wp2_with fail
              go_roundw
              case rel => exact ⟨q + 1, _, true, by omega, by go_num, rfl, rfl, HB2⟩
              case measure => simp [intOf]; omega
            | false =>
              go_wp2_with fail
              go_quiet (fail)
              go_wp2_with fail
              go_roundw
              case rel => exact ⟨q + 1, _, false, by omega, by go_num, rfl, rfl, HB2⟩
              case measure => simp [intOf]; omega
        · have hq2' : ¬ (q : Int) < no' := by omega
          have HB2 : Hid (B = hasP (mendTo l i) K) := by
            show _ = _
            rw [HB.out, show q = (mendTo l i).length by have := HNO.out; omega, hasTo_all]
          clear HB
          have hk2 : Keeps no W1 (W1.drewN m) := (Keeps.refl no W1).drewN m
          have HW2 : Hid (Own PE (W1.drewN m) oo co (mendTo l i) ∧ Keeps no w (W1.drewN m) ∧ (W1.drewN m).heap[PB]? = some (.cells #[.string K, .string V] 50 (0, 0))) := ⟨HW1.out.1.keepsN hk2, HW1.out.2.1.trans hk2, hk2.at HW1.out.2.2 id⟩
          clear hk2 HW1
          generalize W1.drewN m = W2 at HW2 ⊢
          cases B with
          | true =>
            have HE : Hid (mendTo l (i + 1) = mendTo l i) := HSE.out.1 HB2.out.symm
            clear HSE HB2
            go_wp2_with fail
            go_roundw
            case rel => exact ⟨i + 1, oo, no', co, by omega, by go_num, rfl, hno, by show _ = _; rw [HE.out]; exact HNO.out, by rw [HE.out]; exact HW2.out.1, HO.out.2.1, HW2.out.2.1⟩
            case measure => simp [intOf]; omega
          | false =>
            have HE : Hid (mendTo l (i + 1) = mendTo l i ++ [(K, V)]) := HSE.out.2 HB2.out.symm
            clear HSE HB2
            have x0 := cell_of_blk HW2.out.2.2 0
            have x1 := cell_of_blk HW2.out.2.2 1
            simp only [List.getElem?_toArray, List.getElem?_cons_succ, List.getElem?_cons_zero] at x0 x1
            go_wp2_with (at_builtin; refine wpList_app okP rfl _ _ rfl oo no' co (mendTo l i) rfl HNO.out (HW2.out.1.keepsN ((Keeps.refl _ _).alloc _)) (some ⟨W2.heap.size, 0, none⟩) 1 1 [(K, V)] rfl rfl (fun h => by cases h) (own_oneP W2 K V).row (by have := HNO.out; simp [PE]; omega) (by have := HNO.out; simp; omega) ?_; intro o9 c9 w9 ho9 ha9)
            go_roundw
            case rel =>
              have h9 := ha9.new HO.out.2.1 (HW2.out.2.1.alloc _)
              exact ⟨i + 1, o9, _, c9, by omega, by go_num, rfl, by omega, by show _ = _; rw [HE.out, List.length_append, ← HNO.out]; rfl, by rw [HE.out]; exact ho9, h9.1, h9.2⟩
            case measure => simp [intOf]; omega
end Go.Proofs.Ytghnhkhhpeoheaa
