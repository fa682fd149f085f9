import Derived.Test.YtkoaiibjahlnmaaGreatC5
/- The small functions of the laws. -/
namespace Go.Proofs.YtkoaiibjahlnmaaGreat
open Go.RowKit Go.Maps Go.Sort Orl
set_option linter.unusedVariables false
set_option linter.unusedSimpArgs false

def I64 (n : Int) : Prop := -9223372036854775808 ≤ n ∧ n ≤ 9223372036854775807
def rst (n : Int) (m : Nat) : Nat := (n % ((m : Int) + 1)).toNat
theorem rst_le (n : Int) (m : Nat) : rst n m ≤ m := by
  unfold rst
  have h1 := Int.emod_nonneg n (show ((m : Int) + 1) ≠ 0 by omega)
  have h2 := Int.emod_lt_of_pos n (show (0 : Int) < (m : Int) + 1 by omega)
  omega
theorem rest_any (n : Int) (m : Nat) (w : World) (hn : I64 n) (hm : m ≤ 1000000) :
    Calls Tryz.prog 11 #[.int .i64 n, .int .i64 ((m : Nat) : Int)] w fun e w' => e = .returned (.int .i64 ((rst n m : Nat) : Int)) ∧ w' = w := by
  have b1 := Int.tmod_lt_of_pos n (b := (m : Int) + 1) (by omega)
  have b2 : -((m : Int) + 1) < n.tmod ((m : Int) + 1) := by
    have := Int.lt_tmod_of_pos n (b := (m : Int) + 1) (by omega)
    omega
  have hm' : (m : Int) ≤ 1000000 := by omega
  obtain ⟨h1, h2⟩ := hn
  have e1 := Int.emod_nonneg n (show ((m : Int) + 1) ≠ 0 by omega)
  have e2 := Int.emod_lt_of_pos n (show (0 : Int) < (m : Int) + 1 by omega)
  have HR : Hid ((rst n m : Int) = if n.tmod ((m : Int) + 1) < 0 then n.tmod ((m : Int) + 1) + m + 1 else n.tmod ((m : Int) + 1)) := by
    show _ = _
    have e : n.tmod ((m : Int) + 1) = n % ((m : Int) + 1) ∨ n.tmod ((m : Int) + 1) = n % ((m : Int) + 1) - ((m : Int) + 1) := by
      rw [Int.tmod_eq_emod]
      split
      · left; omega
      · right; omega
    unfold rst
    split <;> omega
  have hw : wrap64 (n.tmod ((m : Int) + 1)) = n.tmod ((m : Int) + 1) := IntWalk.wrap64_in _ ⟨by omega, by omega⟩
  obtain ⟨t, ht⟩ : ∃ t, t = n.tmod ((m : Int) + 1) := ⟨_, rfl⟩
  rw [← ht] at b1 b2 hw HR
  have HT : Hid (t = n.tmod ((m : Int) + 1)) := ht
  have ht' := ht.symm
  clear ht e1 e2 hm
  generalize rst n m = R at HR ⊢
  by_cases hn : t < 0
  · go_enter Tryz.func11, Tryz.ntmps11
    go_wp2
    go_ret
    refine ⟨?_, rfl⟩
    have := HR.out
    rw [if_pos hn] at this
    rw [this]; rfl
  · go_enter Tryz.func11, Tryz.ntmps11
    go_wp2
    go_ret
    refine ⟨?_, rfl⟩
    have := HR.out
    rw [if_neg (by omega)] at this
    rw [this]; rfl
/-- the writes by number -/
def idw (n : Int) : Nat := 65536 * (1 + rst n 11) + rst n 11 % 3
theorem idw_lt (n : Int) : 65536 ≤ idw n ∧ idw n < 1000000 := by
  have := rst_le n 11
  unfold idw
  omega
theorem id_any (n : Int) (w : World) (hn : I64 n) : Calls Tryz.prog 9 #[.int .i64 n] w fun e w' => e = .returned (.int .u64 ((idw n : Nat) : Int)) ∧ w' = w := by
  have hr := fun W => rest_any n 11 W hn (by omega)
  have hl := rst_le n 11
  have HI : Hid (idw n = 65536 * (1 + rst n 11) + rst n 11 % 3) := rfl
  generalize idw n = q at HI ⊢
  generalize rst n 11 = r at hr hl HI
  change ∀ W, Calls Tryz.prog 11 #[.int .i64 n, .int .i64 11] W _ at hr
  have hl' : (r : Int) ≤ 11 := by omega
  have e3 : Int.tmod (r : Int) 3 = (r : Int) % 3 := Int.tmod_eq_emod_of_nonneg (by omega)
  have hl3 : (r : Int) % 3 ≤ 2 := by omega
  have hl4 : 0 ≤ (r : Int) % 3 := by omega
  go_enter Tryz.func9, Tryz.ntmps9
  go_wp2_with (go_at_call 11; refine (hr _).mono ?_; rintro e w' ⟨rfl, rfl⟩)
  go_ret
  refine ⟨?_, rfl⟩
  have := HI.out
  rw [this]
  show Ending.returned (.int .u64 _) = Ending.returned (.int .u64 _)
  congr 2
/-- the keys by number -/
def mkL (zs : List Int) : Tx := zs.foldl (fun r n => r.push (UInt8.ofNat n.toNat)) ByteArray.empty
theorem conv1 (W : World) (B : Nat) (z1 : Int) (h : W.heap[B]? = some (.cells #[.int .u8 z1] 5 (0, 0))) : (convert 138 9 (.slice (some ⟨B, 0, none⟩) 1 1)).run Tryz.prog W = .ok (.string (mkL [z1])) W := by
  rw [run_convert_bytes_string W 138 9 5 _ 1 1 Tryz.underlying138 Tryz.underlying5 Tryz.underlying9]
  have hload := run_loadCells_list (P := Tryz.prog) W ⟨B, 0, none⟩ [.int .u8 z1] (by
    intro j u hj
    rw [addr_add, Nat.zero_add, cell_of_blk h]
    simpa using hj)
  exact run_bytesToString W ⟨B, 0, none⟩ 1 1 [z1] hload
def ky (i : Nat) : Tx := mkL [97 + (i : Int)]
theorem ky_size (i : Nat) : (ky i).size = 1 := rfl
theorem key_any (i : Nat) (w : World) (hi : i < 3) : Calls Tryz.prog 43 #[.int .i64 ((i : Nat) : Int)] w fun e w' => e = .returned (.string (ky i)) ∧ Keeps no w w' := by
  have hcv := conv1 (w.alloc (.cells #[.int .u8 (97 + (i : Int))] 5)) w.heap.size (97 + (i : Int)) (blk_new w _)
  have hi' : (i : Int) < 3 := by omega
  go_enter Tryz.func43, Tryz.ntmps43
  go_wp2_with fail
  go_ret
  exact ⟨rfl, (Keeps.refl _ _).alloc _⟩
/-- of the keys those that a mask says -/
def bitM (mask : Int) (k : Nat) : Bool := bits BinOp.and IntKind.i64 (mask / 2 ^ k) 1 == 1
def setK (mask : Int) (k : Nat) : List Tx := ((List.range k).filter (bitM mask)).map ky
def setM (mask : Int) : List Tx := if setK mask 3 = [] then [ky 0] else setK mask 3
theorem setK_succ (mask : Int) (k : Nat) : setK mask (k + 1) = if bitM mask k = true then setK mask k ++ [ky k] else setK mask k := by
  unfold setK
  rw [List.range_succ, List.filter_append, List.map_append]
  split
  · rename_i h; simp [h]
  · rename_i h; simp [h]
theorem setK_len (mask : Int) (k : Nat) : (setK mask k).length ≤ k := by
  unfold setK
  rw [List.length_map]
  exact Nat.le_trans (List.length_filter_le _ _) (by simp)
theorem setM_len (mask : Int) : 1 ≤ (setM mask).length ∧ (setM mask).length ≤ 3 := by
  unfold setM
  split
  · simp
  · rename_i h
    exact ⟨List.length_pos_iff.2 h, setK_len mask 3⟩
set_option maxRecDepth 10000 in
theorem set_any (mask : Int) (w : World) (hm : I64 mask) : Calls Tryz.prog 31 #[.int .i64 mask] w fun e w' => ∃ v, e = .returned v ∧ Gives TE w (setM mask) v w' := by
  obtain ⟨h1, h2⟩ := hm
  go_enter Tryz.func31, Tryz.ntmps31
  go_wp2_with fail
  go_loopw [3, 4] (fun s3 v wr => ∃ (k : Nat) (u : Value), k ≤ 3 ∧ v = .int .i64 k ∧ s3 = u ∧ Hid (Gives TE w (setK mask k) u wr)) (fun _ v _ => 3 - (intOf v).toNat)
  case atStart => exact ⟨0, _, by omega, rfl, rfl, none, 0, 0, rfl, (show 0 = _ by simp [setK]), own_nil _, new_none _, Keeps.refl _ _⟩
  case round =>
    obtain ⟨k, v, hk, rfl, rfl, HG⟩ := hrel
    obtain ⟨o, m, d, rfl, hm, ho, hnw, hkp⟩ := HG.out
    have HO : Hid (Own TE wr o d (setK mask k) ∧ New w o ∧ Keeps no w wr) := ⟨ho, hnw, hkp⟩
    clear ho hnw hkp HG
    by_cases hlt : k < 3
    · have hk' : (k : Int) < 3 := by omega
      have HS := setK_succ mask k
      have HSL := setK_len mask k
      have HS' : Hid (setK mask (k + 1) = if bitM mask k = true then setK mask k ++ [ky k] else setK mask k) := HS
      have HSL' : Hid ((setK mask k).length ≤ k) := HSL
      clear HS HSL
      have hb : bitM mask k = (bits BinOp.and IntKind.i64 (mask / 2 ^ k) 1 == 1) := rfl
      obtain ⟨B, hB0⟩ : ∃ B, bits BinOp.and IntKind.i64 (mask / 2 ^ k) 1 = B := ⟨_, rfl⟩
      rw [hB0] at hb
      have HK := fun W => key_any k W hlt
      by_cases hB : B = 1
      · subst hB
        have hb' : Hid (bitM mask k = true) := hb
        clear hb
        go_wp2_with fail
        refine (HK _).mono ?_
        rintro e w2 ⟨rfl, hk2⟩
        have HK2 : Hid (Keeps no w w2 ∧ Own TE w2 o d (setK mask k)) := ⟨HO.out.2.2.trans hk2, HO.out.1.keepsN hk2⟩
        clear hk2 HK
        go_wp2_with (at_builtin; refine wpList_app okT rfl _ _ rfl _ _ _ (setK mask k) rfl hm.out (HK2.out.2.keepsN ((Keeps.refl _ _).alloc _)) _ _ _ [ky k] rfl rfl (fun h => by cases h) (own_one _ (ky k)).row (by have := HSL'.out; simp [TE]; omega) (by have := HSL'.out; simp; omega) ?_; intro o1 c1 w3 ho3 hap3)
        go_roundw
        case rel =>
          have k4 := hap3.new (w0 := w) HO.out.2.1 (HK2.out.1.alloc _)
          refine ⟨k + 1, _, by omega, by go_num, rfl, ?_⟩
          show Gives TE w (setK mask (k + 1)) _ _
          rw [HS'.out, if_pos hb'.out]
          exact ⟨o1, _, c1, rfl, (show _ = _ by have h := hm.out; rw [List.length_append, ← h]; simp), ho3, k4.1, k4.2⟩
        case measure => simp [intOf] <;> omega
      · have hb' : Hid (bitM mask k = false) := (show _ = _ by rw [hb]; simpa using hB)
        clear hb HK
        go_wp2_with fail
        go_roundw
        case rel =>
          refine ⟨k + 1, _, by omega, by go_num, rfl, ?_⟩
          show Gives TE w (setK mask (k + 1)) _ _
          rw [HS'.out, if_neg (by rw [hb'.out]; simp)]
          exact ⟨o, m, d, rfl, hm, HO.out.1, HO.out.2.1, HO.out.2.2⟩
        case measure => simp [intOf] <;> omega
    · have hk3 : k = 3 := by omega
      subst hk3
      have HM : Hid (setM mask = if setK mask 3 = [] then [ky 0] else setK mask 3) := rfl
      by_cases hm0 : m = 0
      · have HE : Hid (setK mask 3 = []) := List.eq_nil_of_length_eq_zero (by rw [← hm.out]; exact hm0)
        have HK := fun W => key_any 0 W (by omega)
        subst hm0
        clear hm
        go_wp2_with fail
        refine (HK _).mono ?_
        rintro e w2 ⟨rfl, hk2⟩
        have HK2 : Hid (Keeps no w w2) := HO.out.2.2.trans hk2
        clear hk2 HK
        go_wp2_with fail
        go_ret
        rw [HM.out, if_pos HE.out]
        refine ⟨_, rfl, _, 1, 1, rfl, show 1 = _ by simp, ?_, new_fresh w _ HK2.out.size 0, HK2.out.alloc _⟩
        exact own_of_shape okT (blk_new w2 _) (by simp) (by unfold maxLen; omega) (by simp [TE]) (by simp [El.cells, TE])
      · have HE : Hid (¬ setK mask 3 = []) := fun e => hm0 (by rw [hm.out, e]; rfl)
        have hm0' : ¬ (m : Int) = 0 := by omega
        go_wp2_with fail
        go_ret
        rw [HM.out, if_neg HE.out]
        exact ⟨_, rfl, o, m, d, rfl, hm, HO.out.1, HO.out.2.1, HO.out.2.2⟩
def shortT (x : Tx) : Tx := ByteArray.extract x 0 (min (x.size : Int) 1000).toNat
theorem short_size (x : Tx) : (shortT x).size ≤ 1000 := by
  unfold shortT
  rw [ByteArray.size_extract]
  omega
theorem short_any (x : Tx) (w : World) : Calls Tryz.prog 20 #[.string x] w fun e w' => e = .returned (.string (shortT x)) ∧ w' = w := by
  go_enter Tryz.func20, Tryz.ntmps20
  go_wp2_with fail
  go_ret
  exact ⟨rfl, rfl⟩
end Go.Proofs.YtkoaiibjahlnmaaGreat
