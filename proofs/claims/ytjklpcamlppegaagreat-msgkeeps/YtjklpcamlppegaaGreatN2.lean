/- The program's May, the rest. -/
import Derived.Test.YtjklpcamlppegaaGreatN1
namespace Go.Proofs.YtjklpcamlppegaaGreat
open Go.RowKit Go.Sort Orl Pk
set_option linter.unusedVariables false
set_option linter.unusedSimpArgs false

theorem wks_length (l : List Wn) : (wks l).length = l.length := by simp [wks]
theorem wks_take (l : List Wn) (k : Nat) (h : k < l.length) : wks (l.take (k + 1)) = wks (l.take k) ++ [(l.getD k w0').1] := by
  rw [take_succ_getD l k w0' h]; simp [wks]
theorem ids_of {l : List Wn} {k : Nat} (hk : k < l.length) (h : isId (l.getD k w0').2 = false) : mayW l = false := by
  unfold mayW
  have : (l.all fun w => isId w.2) = false := by
    rw [List.all_eq_false]
    exact ⟨_, getD_mem_lt w0' hk, by rw [h]; simp⟩
  rw [this, Bool.false_and]
theorem ids_all {l : List Wn} (h : ∀ j, j < l.length → isId (l.getD j w0').2 = true) : mayW l = valK (wks l) := by
  unfold mayW
  have : (l.all fun w => isId w.2) = true := by
    rw [List.all_eq_true]
    intro x hx
    obtain ⟨j, hj, rfl⟩ := List.getElem_of_mem hx
    have := h j hj
    rwa [List.getD_eq_getElem?_getD, List.getElem?_eq_getElem hj] at this
  rw [this, Bool.true_and]
theorem mayW_much {l : List Wn} (h : 1024 < l.length) : mayW l = false := by
  unfold mayW; rw [valK_much (by rw [wks_length]; exact h), Bool.and_false]
set_option maxRecDepth 10000 in
theorem mayWants_any (w : World) (a : Option Addr) (n c : Nat) (xs : List Wn) (hn : n = xs.length) (hl : xs.length ≤ 5864062014700) (hf : ∀ p ∈ xs, p.1.size ≤ 140737488351232) (hs : Sl WE w a c xs) :
    Calls Tryz.prog 49 #[.slice a n c] w fun e w' => e = .returned (.bool (mayW xs)) ∧ Keeps no w w' := by
  have HN : Hid (n = xs.length) := hn
  have hnl : n ≤ 5864062014700 := by omega
  clear hn
  by_cases hm : 1024 < n
  · rw [mayW_much (by have := HN.out; omega)]
    go_enter Tryz.func49, Tryz.ntmps49
    go_wp2
    go_ret
    exact ⟨rfl, Keeps.refl _ _⟩
  · have hm2 : n ≤ 1024 := by omega
    clear hm
    go_enter Tryz.func49, Tryz.ntmps49
    go_wp2_with fail
    go_loopw [3, 11] (fun s i wr => ∃ k : Nat, ∃ oo mo co, k ≤ n ∧ i = .int .i64 k ∧ s = .slice oo mo co ∧ Hid (mo = k) ∧ Own TE wr oo co (wks (xs.take k)) ∧ New w oo ∧ Keeps no w wr ∧ ∀ j, j < k → isId (xs.getD j w0').2 = true) (fun _ i _ => n - (intOf i).toNat)
    case atStart => exact ⟨0, none, 0, 0, by omega, rfl, rfl, rfl, own_nil _, new_none _, Keeps.refl _ _, fun j hj => by omega⟩
    case round =>
      obtain ⟨k, oo, mo, co, hk, rfl, rfl, HMO, hown, hnew, hkp, hids⟩ := hrel
      by_cases h2 : k < n
      · have hks : k < xs.length := by have := HN.out; omega
        obtain ⟨b, off, rfl, c1, c2⟩ := (hs.keepsN hkp).atW hks
        obtain ⟨x, hx⟩ : ∃ x, x = (xs.getD k w0').1 := ⟨_, rfl⟩
        obtain ⟨y, hy⟩ : ∃ y, y = (xs.getD k w0').2 := ⟨_, rfl⟩
        rw [← hx] at c1
        rw [← hy] at c2
        have HX : Hid (x = (xs.getD k w0').1) := hx
        have HY : Hid (y = (xs.getD k w0').2) := hy
        have HI : Hid (∀ j, j < k → isId (xs.getD j w0').2 = true) := hids
        have hmk : Hid (mo = (wks (xs.take k)).length ∧ (wks (xs.take k)).length ≤ 1024) := by
          have e : (wks (xs.take k)).length = k := by rw [wks_length, List.length_take]; omega
          exact ⟨by rw [e]; exact HMO.out, by omega⟩
        have hmo2 : mo ≤ 1024 := by have := HMO.out; omega
        clear hx hy hids
        go_wp2_with fail
        refine (isID_any _ y).mono ?_
        rintro e wq ⟨rfl, hwq⟩
        subst wq
        by_cases hi : isId y = true
        · rw [hi]
          go_wp2_with (at_builtin; go_must (refine wpList_app okT rfl _ _ rfl _ _ _ (wks (xs.take k)) rfl hmk.out.1 (hown.keepsN (((Keeps.refl _ _).alloc _).alloc _)) _ _ _ [x] rfl rfl (fun h => by cases h) (own_one2 _ _ x).row (by have := hmk.out; simp [TE]; omega) (by have := hmk.out; simp; omega) ?_); intro o' c' w' ho hap)
          go_roundw
          case rel =>
            have hap' := hap.new (w0 := w) hnew ((hkp.alloc _).alloc _)
            refine ⟨k + 1, o', _, c', by omega, by go_num, rfl, (by have := HMO.out; show _ = _; omega), ?_, hap'.1, hap'.2, fun j hj => ?_⟩
            · rw [wks_take xs k hks, ← HX.out]; exact ho
            · rcases Nat.lt_or_ge j k with h | h
              · exact HI.out j h
              · have : j = k := by omega
                subst this; rw [← HY.out]; exact hi
          case measure => simp [intOf]; omega
        · have hi' : isId y = false := by simpa using hi
          rw [hi']
          go_wp2
          go_ret
          refine ⟨?_, hkp.alloc _⟩
          rw [ids_of hks (by rw [← HY.out]; exact hi')]
          rfl
      · have hkn : k = n := by omega
        subst hkn
        have e0 : wks (xs.take k) = wks xs := by rw [HN.out, List.take_length]
        rw [e0] at hown
        have hlo : Hid ((wks xs).length = k) := by show _ = _; rw [wks_length]; exact HN.out.symm
        go_wp2_with fail
        refine (valid_all wr oo mo co (wks xs) (by rw [hlo.out]; exact HMO.out) (by rw [hlo.out]; omega) (fun s hs' => by simp [wks] at hs'; obtain ⟨y, hy⟩ := hs'; exact hf _ hy) hown.sl).mono ?_
        rintro e w2 ⟨rfl, hk2⟩
        go_wp2
        go_ret
        refine ⟨?_, hkp.trans hk2⟩
        rw [ids_all (fun j hj => hids j (by have := HN.out; omega))]
        rfl

set_option maxRecDepth 10000 in
theorem mayVersion_any (w : World) (v : Ver) (key : Tx) (id : Nat) (val : Tx) (o : Option Addr) (n c : Nat) (h : VerOf w ⟨key, id, val, o, n, c⟩ v) (hf : FitV v) :
    Calls Tryz.prog 50 #[.agg #[.string key, .int .u64 (id : Nat), .string val, .slice o n c]] w fun e w' => e = .returned (.bool (mayV v)) ∧ Keeps no w w' := by
  obtain ⟨k', i', x', ks⟩ := v
  obtain ⟨h1, h2, h3, h4, h5⟩ := h
  simp only at h1 h2 h3 h4 h5
  subst h1 h2 h3
  obtain ⟨f1, f2, f3, f4⟩ := hf
  simp only at f1 f2 f3 f4
  have HN : Hid (n = ks.length) := h4
  have hnl : n ≤ 8796093022000 := by omega
  clear h4
  by_cases hi : id = 0
  · subst hi
    have e1 : mayV ⟨key, 0, val, ks⟩ = (decide (key.size ≤ 65535) && (decide (val = e0) && decide (n = 0))) := by unfold mayV; simp only [if_true]; rw [HN.out]
    rw [e1]
    clear e1
    have hval : (val.toList == []) = decide (val = e0) := by
      have := tx_eq val e0
      rwa [show ByteArray.toList e0 = [] by rw [Lib.toList_data]; rfl] at this
    by_cases g1 : key.size ≤ 65535
    · by_cases g2 : val = e0
      · have g2' : (val.toList == []) = true := by rw [hval]; exact decide_eq_true g2
        have g3 : decide (val = e0) = true := decide_eq_true g2
        have g1' : decide (key.size ≤ 65535) = true := decide_eq_true g1
        rw [g3, g1']
        clear hval g2
        by_cases g4 : n = 0
        · subst g4
          go_enter Tryz.func50, Tryz.ntmps50
          go_wp2
          go_ret
          exact ⟨rfl, (Keeps.refl _ _).alloc _⟩
        · have g4' : ((n : Int) == 0) = false := by simp; omega
          have g5 : ¬ ((n : Int) = 0) := by omega
          go_enter Tryz.func50, Tryz.ntmps50
          go_wp2
          go_ret
          refine ⟨?_, (Keeps.refl _ _).alloc _⟩
          simp [g4, g5]
      · have g2' : (val.toList == []) = false := by rw [hval]; exact decide_eq_false g2
        have g3 : decide (val = e0) = false := decide_eq_false g2
        rw [g3]
        clear hval g2
        go_enter Tryz.func50, Tryz.ntmps50
        go_wp2
        go_ret
        refine ⟨?_, (Keeps.refl _ _).alloc _⟩
        simp
    · have g1' : ¬ ((key.size : Int) ≤ 65535) := by omega
      have g3 : decide (key.size ≤ 65535) = false := decide_eq_false g1
      rw [g3]
      clear hval
      go_enter Tryz.func50, Tryz.ntmps50
      go_wp2
      go_ret
      refine ⟨?_, (Keeps.refl _ _).alloc _⟩
      simp
  · have e1 : mayV ⟨key, id, val, ks⟩ = (isId id && (decide (val.size ≤ 65535) && (wset ks && inn ks key))) := by unfold mayV; simp only [if_neg hi]
    rw [e1]
    clear e1
    have hi2 : ((id : Int) == 0) = false := by simp; omega
    have hi3 : ¬ ((id : Int) = 0) := by omega
    go_enter Tryz.func50, Tryz.ntmps50
    go_wp2_with fail
    refine (isID_any _ id).mono ?_
    rintro e wq ⟨rfl, hwq⟩
    subst wq
    have hk0 : Keeps no w (w.alloc (.cells #[.string key, .int .u64 (id : Nat), .string val, .slice o n c] 46)) := (Keeps.refl _ _).alloc _
    by_cases g1 : isId id = true
    · rw [g1]
      by_cases g2 : val.size ≤ 65535
      · have g2' : decide (val.size ≤ 65535) = true := decide_eq_true g2
        have g3 : ((val.size : Nat) : Int) ≤ 65535 := by omega
        go_wp2_with fail
        refine (isWriteSet_any _ o n c ks HN.out f3 f4 (h5.keepsN hk0)).mono ?_
        rintro e w2 ⟨rfl, hk2⟩
        have hk02 := hk0.trans hk2
        have c0 : w2.cell? ⟨w.heap.size, 0, none⟩ = some (.string key) := hk2.cellN (cell_of_blk (blk_new w _) 0)
        have c3 : w2.cell? ⟨w.heap.size, 3, none⟩ = some (.slice o n c) := hk2.cellN (cell_of_blk (blk_new w _) 3)
        by_cases g4 : wset ks = true
        · rw [g4]
          have hb : ks.length ≤ 1024 := by unfold wset at g4; simp at g4; exact (valK_size g4.1).2
          have hr : rising lts ks = true := by unfold wset at g4; simp at g4; exact g4.2
          go_wp2_with fail
          refine (has_any w2 o n c ks key HN.out (by unfold Small; omega) (h5.keepsN hk02)).mono ?_
          rintro e w3 ⟨rfl, hk3⟩
          rw [hr, Bool.true_and]
          go_wp2
          go_ret
          exact ⟨by simp [g1, g2, g4], hk02.trans hk3⟩
        · have g4' : wset ks = false := by simpa using g4
          rw [g4']
          go_wp2
          go_ret
          exact ⟨by simp [g4'], hk02⟩
      · have g2' : decide (val.size ≤ 65535) = false := decide_eq_false g2
        have g3 : ¬ ((val.size : Nat) : Int) ≤ 65535 := by omega
        go_wp2
        go_ret
        exact ⟨by simp [g2], hk0⟩
    · have g1' : isId id = false := by simpa using g1
      rw [g1']
      go_wp2
      go_ret
      exact ⟨by simp [g1'], hk0⟩
end Go.Proofs.YtjklpcamlppegaaGreat
