/- The statements' own small functions. -/
import Derived.Test.YtodblodbeobgeaaP1
namespace Go.Proofs.Ytodblodbeobgeaa
open Go.RowKit Go.Sort Orl
set_option linter.unusedVariables false
set_option linter.unusedSimpArgs false

def I64 (n : Int) : Prop := -9223372036854775808 ≤ n ∧ n ≤ 9223372036854775807
def rst (n : Int) (m : Nat) : Nat := (n % ((m : Int) + 1)).toNat
theorem rst_le (n : Int) (m : Nat) : rst n m ≤ m := by
  unfold rst
  have h1 := Int.emod_nonneg n (show ((m : Int) + 1) ≠ 0 by omega)
  have h2 := Int.emod_lt_of_pos n (show (0 : Int) < (m : Int) + 1 by omega)
  omega
theorem rest_any (n : Int) (m : Nat) (w : World) (hn : I64 n) (hm : m ≤ 1000000) :
    Calls Try.prog 12 #[.int .i64 n, .int .i64 ((m : Nat) : Int)] w fun e w' => e = .returned (.int .i64 ((rst n m : Nat) : Int)) ∧ w' = w := by
  have b1 := Int.tmod_lt_of_pos n (b := (m : Int) + 1) (by omega)
  have b2 : -((m : Int) + 1) < n.tmod ((m : Int) + 1) := by
    have := Int.lt_tmod_of_pos n (b := (m : Int) + 1) (by omega)
    omega
  have hm' : (m : Int) ≤ 1000000 := by omega
  obtain ⟨h1, h2⟩ := hn
  have e1 := Int.emod_nonneg n (show ((m : Int) + 1) ≠ 0 by omega)
  have e2 := Int.emod_lt_of_pos n (show (0 : Int) < (m : Int) + 1 by omega)
  have HR : Hid ((rst n m : Int) = if n.tmod ((m : Int) + 1) < 0 then n.tmod ((m : Int) + 1) + m + 1 else n.tmod ((m : Int) + 1)) := by
    show _ = _
    have e : n.tmod ((m : Int) + 1) = n % ((m : Int) + 1) ∨ n.tmod ((m : Int) + 1) = n % ((m : Int) + 1) - ((m : Int) + 1) := by
      rw [Int.tmod_eq_emod]
      split
      · left; omega
      · right; omega
    unfold rst
    split <;> omega
  have hw : wrap64 (n.tmod ((m : Int) + 1)) = n.tmod ((m : Int) + 1) := IntWalk.wrap64_in _ ⟨by omega, by omega⟩
  obtain ⟨t, ht⟩ : ∃ t, t = n.tmod ((m : Int) + 1) := ⟨_, rfl⟩
  rw [← ht] at b1 b2 hw HR
  have HT : Hid (t = n.tmod ((m : Int) + 1)) := ht
  have ht' := ht.symm
  clear ht e1 e2 hm
  generalize rst n m = R at HR ⊢
  by_cases hn : t < 0
  · go_enter Try.func12, Try.ntmps12
    go_wp2
    go_ret
    refine ⟨?_, rfl⟩
    have := HR.out
    rw [if_pos hn] at this
    rw [this]; rfl
  · go_enter Try.func12, Try.ntmps12
    go_wp2
    go_ret
    refine ⟨?_, rfl⟩
    have := HR.out
    rw [if_neg (by omega)] at this
    rw [this]; rfl
def mkL (zs : List Int) : Tx := zs.foldl (fun r n => r.push (UInt8.ofNat n.toNat)) ByteArray.empty
theorem conv1 (W : World) (B : Nat) (z1 : Int) (h : W.heap[B]? = some (.cells #[.int .u8 z1] 5 (0, 0))) : (convert 61 9 (.slice (some ⟨B, 0, none⟩) 1 1)).run Try.prog W = .ok (.string (mkL [z1])) W := by
  rw [run_convert_bytes_string W 61 9 5 _ 1 1 Try.underlying61 Try.underlying5 Try.underlying9]
  have hload := run_loadCells_list (P := Try.prog) W ⟨B, 0, none⟩ [.int .u8 z1] (by
    intro j u hj
    rw [addr_add, Nat.zero_add, cell_of_blk h]
    simpa using hj)
  exact run_bytesToString W ⟨B, 0, none⟩ 1 1 [z1] hload
theorem own_one (w : World) (x : Tx) : Sl TE (w.alloc (.cells #[.string x] 9)) (some ⟨w.heap.size, 0, none⟩) 1 [x] := by
  refine ⟨.inr ⟨_, 0, rfl, fun j u hj => ?_⟩, by simp, fun e => by cases e⟩
  rw [Nat.zero_add, cell_of_blk (blk_new w _)]
  simpa [El.cells, TE] using hj
def ky (i : Nat) : Tx := mkL [97 + (i : Int)]
theorem ky_size (i : Nat) : (ky i).size = 1 := rfl
theorem key_any (i : Nat) (w : World) (hi : i < 8) : Calls Try.prog 34 #[.int .i64 ((i : Nat) : Int)] w fun e w' => e = .returned (.string (ky i)) ∧ Keeps no w w' := by
  have hcv := conv1 (w.alloc (.cells #[.int .u8 (97 + (i : Int))] 5)) w.heap.size (97 + (i : Int)) (blk_new w _)
  have hi' : (i : Int) < 8 := by omega
  go_enter Try.func34, Try.ntmps34
  go_wp2_with fail
  go_ret
  exact ⟨rfl, (Keeps.refl _ _).alloc _⟩
/-- of the keys those that a mask says -/
def bitM (mask : Int) (k : Nat) : Bool := bits BinOp.and IntKind.i64 (mask / 2 ^ k) 1 == 1
def setK (mask : Int) (k : Nat) : List Tx := ((List.range k).filter (bitM mask)).map ky
def setM (mask : Int) : List Tx := if setK mask 8 = [] then [ky 0] else setK mask 8
theorem setK_succ (mask : Int) (k : Nat) : setK mask (k + 1) = if bitM mask k = true then setK mask k ++ [ky k] else setK mask k := by
  unfold setK
  rw [List.range_succ, List.filter_append, List.map_append]
  split
  · rename_i h; simp [h]
  · rename_i h; simp [h]
theorem setK_len (mask : Int) (k : Nat) : (setK mask k).length ≤ k := by
  unfold setK
  rw [List.length_map]
  exact Nat.le_trans (List.length_filter_le _ _) (by simp)
theorem setM_len (mask : Int) : 1 ≤ (setM mask).length ∧ (setM mask).length ≤ 8 := by
  unfold setM
  split
  · simp
  · rename_i h
    exact ⟨List.length_pos_iff.2 h, setK_len mask 8⟩
set_option maxRecDepth 10000 in
theorem keys_any (mask : Int) (w : World) (hm : I64 mask) : Calls Try.prog 20 #[.int .i64 mask] w fun e w' => ∃ v, e = .returned v ∧ Gives TE w (setM mask) v w' := by
  obtain ⟨h1, h2⟩ := hm
  go_enter Try.func20, Try.ntmps20
  go_wp2_with fail
  go_loopw [3, 4] (fun s3 v wr => ∃ (k : Nat) (u : Value), k ≤ 8 ∧ v = .int .i64 k ∧ s3 = u ∧ Hid (Gives TE w (setK mask k) u wr)) (fun _ v _ => 8 - (intOf v).toNat)
  case atStart => exact ⟨0, _, by omega, rfl, rfl, none, 0, 0, rfl, (show 0 = _ by simp [setK]), own_nil _, new_none _, Keeps.refl _ _⟩
  case round =>
    obtain ⟨k, v, hk, rfl, rfl, HG⟩ := hrel
    obtain ⟨o, m, d, rfl, hm, ho, hnw, hkp⟩ := HG.out
    have HO : Hid (Own TE wr o d (setK mask k) ∧ New w o ∧ Keeps no w wr) := ⟨ho, hnw, hkp⟩
    clear ho hnw hkp HG
    by_cases hlt : k < 8
    · have hk' : (k : Int) < 8 := by omega
      have HS := setK_succ mask k
      have HSL := setK_len mask k
      have HS' : Hid (setK mask (k + 1) = if bitM mask k = true then setK mask k ++ [ky k] else setK mask k) := HS
      have HSL' : Hid ((setK mask k).length ≤ k) := HSL
      clear HS HSL
      have hb : bitM mask k = (bits BinOp.and IntKind.i64 (mask / 2 ^ k) 1 == 1) := rfl
      obtain ⟨B, hB0⟩ : ∃ B, bits BinOp.and IntKind.i64 (mask / 2 ^ k) 1 = B := ⟨_, rfl⟩
      rw [hB0] at hb
      have HK := fun W => key_any k W hlt
      by_cases hB : B = 1
      · subst hB
        have hb' : Hid (bitM mask k = true) := hb
        clear hb
        go_wp2_with fail
        refine (HK _).mono ?_
        rintro e w2 ⟨rfl, hk2⟩
        have HK2 : Hid (Keeps no w w2 ∧ Own TE w2 o d (setK mask k)) := ⟨HO.out.2.2.trans hk2, HO.out.1.keepsN hk2⟩
        clear hk2 HK
        go_wp2_with (at_builtin; refine wpList_app okT rfl _ _ rfl _ _ _ (setK mask k) rfl hm.out (HK2.out.2.keepsN ((Keeps.refl _ _).alloc _)) _ _ _ [ky k] rfl rfl (fun h => by cases h) (own_one _ (ky k)).row (by have := HSL'.out; simp [TE]; omega) (by have := HSL'.out; simp; omega) ?_; intro o1 c1 w3 ho3 hap3)
        go_roundw
        case rel =>
          have k4 := hap3.new (w0 := w) HO.out.2.1 (HK2.out.1.alloc _)
          refine ⟨k + 1, _, by omega, by go_num, rfl, ?_⟩
          show Gives TE w (setK mask (k + 1)) _ _
          rw [HS'.out, if_pos hb'.out]
          exact ⟨o1, _, c1, rfl, (show _ = _ by have h := hm.out; rw [List.length_append, ← h]; simp), ho3, k4.1, k4.2⟩
        case measure => simp [intOf] <;> omega
      · have hb' : Hid (bitM mask k = false) := (show _ = _ by rw [hb]; simpa using hB)
        clear hb HK
        go_wp2_with fail
        go_roundw
        case rel =>
          refine ⟨k + 1, _, by omega, by go_num, rfl, ?_⟩
          show Gives TE w (setK mask (k + 1)) _ _
          rw [HS'.out, if_neg (by rw [hb'.out]; simp)]
          exact ⟨o, m, d, rfl, hm, HO.out.1, HO.out.2.1, HO.out.2.2⟩
        case measure => simp [intOf] <;> omega
    · have hk3 : k = 8 := by omega
      subst hk3
      have HM : Hid (setM mask = if setK mask 8 = [] then [ky 0] else setK mask 8) := rfl
      by_cases hm0 : m = 0
      · have HE : Hid (setK mask 8 = []) := List.eq_nil_of_length_eq_zero (by rw [← hm.out]; exact hm0)
        have HK := fun W => key_any 0 W (by omega)
        subst hm0
        clear hm
        go_wp2_with fail
        refine (HK _).mono ?_
        rintro e w2 ⟨rfl, hk2⟩
        have HK2 : Hid (Keeps no w w2) := HO.out.2.2.trans hk2
        clear hk2 HK
        go_wp2_with fail
        go_ret
        rw [HM.out, if_pos HE.out]
        refine ⟨_, rfl, _, 1, 1, rfl, show 1 = _ by simp, ?_, new_fresh w _ HK2.out.size 0, HK2.out.alloc _⟩
        exact own_of_shape okT (blk_new w2 _) (by simp) (by unfold maxLen; omega) (by simp [TE]) (by simp [El.cells, TE])
      · have HE : Hid (¬ setK mask 8 = []) := fun e => hm0 (by rw [hm.out, e]; rfl)
        have hm0' : ¬ (m : Int) = 0 := by omega
        go_wp2_with fail
        go_ret
        rw [HM.out, if_neg HE.out]
        exact ⟨_, rfl, o, m, d, rfl, hm, HO.out.1, HO.out.2.1, HO.out.2.2⟩
theorem has_any (w : World) (a : Option Addr) (n c : Nat) (xs : List Tx) (s : Tx) (hn : n = xs.length) (hl : xs.length ≤ 8796093022000) (hs : Sl TE w a c xs) :
    Calls Try.prog 21 #[.slice a n c, .string s] w fun e w' => e = .returned (.bool (inn xs s)) ∧ w' = w := by
  have HA : Hid (n = xs.length) := hn
  have hA : (n : Int) ≤ 8796093022000 := by omega
  clear hn hl
  go_enter Try.func21, Try.ntmps21
  go_wp2_with fail
  go_loop [5] (fun i => ∃ k : Nat, k ≤ n ∧ i = .int .i64 k ∧ Hid (inn (xs.take k) s = false)) (fun i => n - (intOf i).toNat)
  case atStart => exact ⟨0, by omega, rfl, show inn (xs.take 0) s = false by rfl⟩
  case round =>
    obtain ⟨k, hk, rfl, HT⟩ := hrel
    by_cases h2 : k < n
    · have hka : k < xs.length := by have := HA.out; omega
      obtain ⟨b1, off1, rfl, d1⟩ := hs.at hka
      have HX : Hid (inn (xs.take (k + 1)) s = (inn (xs.take k) s || decide (xs.getD k e0 = s)) ∧ (xs.getD k e0 = s → inn xs s = true)) := by
        refine ⟨?_, fun e => (inn_iff _ _).2 (by rw [← e]; exact getD_mem_lt e0 hka)⟩
        rw [take_succ_getD xs k e0 hka]; simp [inn]
      clear hka
      generalize xs.getD k e0 = x at d1 HX
      by_cases hxy : x = s
      · have hxy' : (x.toList == s.toList) = true := by rw [tx_eq]; simpa using hxy
        have HB := HX.out.2 hxy
        clear hxy
        go_wp2
        go_ret
        exact ⟨rfl, rfl⟩
      · have hxy' : (x.toList == s.toList) = false := by rw [tx_eq]; simpa using hxy
        have HN : Hid (inn (xs.take (k + 1)) s = false) := by
          show _ = _
          rw [HX.out.1, HT.out]; simpa using hxy
        clear hxy
        go_wp2
        go_round
        case rel => exact ⟨k + 1, by omega, by go_num, HN⟩
        case measure => simp [intOf]; omega
    · go_wp2
      go_ret
      refine ⟨?_, rfl⟩
      have := HT.out
      rw [List.take_of_length_le (by have := HA.out; omega)] at this
      rw [this]; rfl
theorem dHas_any (w : World) (a : Option Addr) (n c : Nat) (xs : List Tx) (s : Tx) (hn : n = xs.length) (hl : xs.length ≤ 8796093022000) (hs : Sl TE w a c xs) :
    Calls Try.prog 31 #[.slice a n c, .string s] w fun e w' => e = .returned (.bool (inn xs s)) ∧ w' = w := by
  have HA : Hid (n = xs.length) := hn
  have hA : (n : Int) ≤ 8796093022000 := by omega
  clear hn hl
  go_enter Try.func31, Try.ntmps31
  go_wp2_with fail
  go_loop [5] (fun i => ∃ k : Nat, k ≤ n ∧ i = .int .i64 k ∧ Hid (inn (xs.take k) s = false)) (fun i => n - (intOf i).toNat)
  case atStart => exact ⟨0, by omega, rfl, show inn (xs.take 0) s = false by rfl⟩
  case round =>
    obtain ⟨k, hk, rfl, HT⟩ := hrel
    by_cases h2 : k < n
    · have hka : k < xs.length := by have := HA.out; omega
      obtain ⟨b1, off1, rfl, d1⟩ := hs.at hka
      have HX : Hid (inn (xs.take (k + 1)) s = (inn (xs.take k) s || decide (xs.getD k e0 = s)) ∧ (xs.getD k e0 = s → inn xs s = true)) := by
        refine ⟨?_, fun e => (inn_iff _ _).2 (by rw [← e]; exact getD_mem_lt e0 hka)⟩
        rw [take_succ_getD xs k e0 hka]; simp [inn]
      clear hka
      generalize xs.getD k e0 = x at d1 HX
      by_cases hxy : x = s
      · have hxy' : (x.toList == s.toList) = true := by rw [tx_eq]; simpa using hxy
        have HB := HX.out.2 hxy
        clear hxy
        go_wp2
        go_ret
        exact ⟨rfl, rfl⟩
      · have hxy' : (x.toList == s.toList) = false := by rw [tx_eq]; simpa using hxy
        have HN : Hid (inn (xs.take (k + 1)) s = false) := by
          show _ = _
          rw [HX.out.1, HT.out]; simpa using hxy
        clear hxy
        go_wp2
        go_round
        case rel => exact ⟨k + 1, by omega, by go_num, HN⟩
        case measure => simp [intOf]; omega
    · go_wp2
      go_ret
      refine ⟨?_, rfl⟩
      have := HT.out
      rw [List.take_of_length_le (by have := HA.out; omega)] at this
      rw [this]; rfl
set_option maxRecDepth 10000 in
theorem sameTexts_any (w : World) (oa : Option Addr) (na ca : Nat) (ob : Option Addr) (nb cb : Nat) (sa sb : List Tx) (hna : na = sa.length) (hnb : nb = sb.length) (hla : sa.length ≤ 8796093022000) (hlb : sb.length ≤ 8796093022000) (ha : Sl TE w oa ca sa) (hb : Sl TE w ob cb sb) :
    Calls Try.prog 35 #[.slice oa na ca, .slice ob nb cb] w fun e w' => (∃ B : Bool, e = .returned (.bool B) ∧ Hid (B = true ↔ sa = sb)) ∧ Keeps no w w' := by
  have HA : Hid (na = sa.length) := hna
  have HB : Hid (nb = sb.length) := hnb
  have hA : (na : Int) ≤ 8796093022000 := by omega
  have hB : (nb : Int) ≤ 8796093022000 := by omega
  clear hna hnb hla hlb
  by_cases hne : na = nb
  · subst hne
    go_enter Try.func35, Try.ntmps35
    go_wp2_with fail
    go_loopw [5] (fun i wr => ∃ k m : Nat, k ≤ na ∧ i = .int .i64 k ∧ wr = w.drewN m ∧ Hid (sa.take k = sb.take k)) (fun i _ => na - (intOf i).toNat)
    case atStart => exact ⟨0, 0, by omega, rfl, rfl, show sa.take 0 = sb.take 0 by simp⟩
    case round =>
      obtain ⟨k, m, hk, rfl, rfl, HT⟩ := hrel
      by_cases h2 : k < na
      · have hka : k < sa.length := by have := HA.out; omega
        have hkb : k < sb.length := by have := HB.out; omega
        obtain ⟨b1, off1, rfl, d1⟩ := ha.at hka
        obtain ⟨b2, off2, rfl, d2⟩ := hb.at hkb
        obtain ⟨x, hx⟩ : ∃ x, x = sa.getD k e0 := ⟨_, rfl⟩
        obtain ⟨y, hy⟩ : ∃ y, y = sb.getD k e0 := ⟨_, rfl⟩
        rw [← hx] at d1
        rw [← hy] at d2
        have HX : Hid (x = sa.getD k e0) := hx
        have HY : Hid (y = sb.getD k e0) := hy
        clear hx hy hka hkb
        by_cases hxy : x = y
        · have hxy' : (x.toList == y.toList) = true := by rw [tx_eq]; simpa using hxy
          clear hxy
          go_wp2
          go_quiet (fail)
          go_wp2
          go_roundw
          case rel =>
            refine ⟨k + 1, _, by omega, by go_num, rfl, ?_⟩
            rw [tx_eq, decide_eq_true_eq] at hxy'
            have := HT.out
            show sa.take (k + 1) = sb.take (k + 1)
            rw [take_succ_getD sa k e0 (by have := HA.out; omega), take_succ_getD sb k e0 (by have := HB.out; omega), this, ← HX.out, ← HY.out, hxy']
          case measure => simp [intOf]; omega
        · have hxy' : (x.toList == y.toList) = false := by rw [tx_eq]; simpa using hxy
          go_wp2
          go_quiet (fail)
          go_wp2
          go_ret
          refine ⟨⟨false, rfl, ⟨fun h => (by cases h), fun e => ?_⟩⟩, ((Keeps.refl _ _).drewN _).drewN _⟩
          exact absurd (by rw [HX.out, HY.out, e]) hxy
      · go_wp2
        go_ret
        refine ⟨⟨true, rfl, ⟨fun _ => ?_, fun _ => rfl⟩⟩, (Keeps.refl _ _).drewN _⟩
        have := HT.out
        rwa [List.take_of_length_le (by have := HA.out; omega), List.take_of_length_le (by have := HB.out; omega)] at this
  · have hne' : ¬ ((na : Nat) : Int) = (nb : Nat) := by omega
    go_enter Try.func35, Try.ntmps35
    go_wp2
    go_ret
    refine ⟨⟨false, rfl, ⟨fun h => (by cases h), fun e => ?_⟩⟩, Keeps.refl _ _⟩
    exact absurd (by rw [HA.out, HB.out, e]) hne


set_option maxRecDepth 10000 in
theorem dSameTexts_any (w : World) (oa : Option Addr) (na ca : Nat) (ob : Option Addr) (nb cb : Nat) (sa sb : List Tx) (hna : na = sa.length) (hnb : nb = sb.length) (hla : sa.length ≤ 8796093022000) (hlb : sb.length ≤ 8796093022000) (ha : Sl TE w oa ca sa) (hb : Sl TE w ob cb sb) :
    Calls Try.prog 33 #[.slice oa na ca, .slice ob nb cb] w fun e w' => (∃ B : Bool, e = .returned (.bool B) ∧ Hid (B = true ↔ sa = sb)) ∧ Keeps no w w' := by
  have HA : Hid (na = sa.length) := hna
  have HB : Hid (nb = sb.length) := hnb
  have hA : (na : Int) ≤ 8796093022000 := by omega
  have hB : (nb : Int) ≤ 8796093022000 := by omega
  clear hna hnb hla hlb
  by_cases hne : na = nb
  · subst hne
    go_enter Try.func33, Try.ntmps33
    go_wp2_with fail
    go_loopw [5] (fun i wr => ∃ k m : Nat, k ≤ na ∧ i = .int .i64 k ∧ wr = w.drewN m ∧ Hid (sa.take k = sb.take k)) (fun i _ => na - (intOf i).toNat)
    case atStart => exact ⟨0, 0, by omega, rfl, rfl, show sa.take 0 = sb.take 0 by simp⟩
    case round =>
      obtain ⟨k, m, hk, rfl, rfl, HT⟩ := hrel
      by_cases h2 : k < na
      · have hka : k < sa.length := by have := HA.out; omega
        have hkb : k < sb.length := by have := HB.out; omega
        obtain ⟨b1, off1, rfl, d1⟩ := ha.at hka
        obtain ⟨b2, off2, rfl, d2⟩ := hb.at hkb
        obtain ⟨x, hx⟩ : ∃ x, x = sa.getD k e0 := ⟨_, rfl⟩
        obtain ⟨y, hy⟩ : ∃ y, y = sb.getD k e0 := ⟨_, rfl⟩
        rw [← hx] at d1
        rw [← hy] at d2
        have HX : Hid (x = sa.getD k e0) := hx
        have HY : Hid (y = sb.getD k e0) := hy
        clear hx hy hka hkb
        by_cases hxy : x = y
        · have hxy' : (x.toList == y.toList) = true := by rw [tx_eq]; simpa using hxy
          clear hxy
          go_wp2
          go_quiet (fail)
          go_wp2
          go_roundw
          case rel =>
            refine ⟨k + 1, _, by omega, by go_num, rfl, ?_⟩
            rw [tx_eq, decide_eq_true_eq] at hxy'
            have := HT.out
            show sa.take (k + 1) = sb.take (k + 1)
            rw [take_succ_getD sa k e0 (by have := HA.out; omega), take_succ_getD sb k e0 (by have := HB.out; omega), this, ← HX.out, ← HY.out, hxy']
          case measure => simp [intOf]; omega
        · have hxy' : (x.toList == y.toList) = false := by rw [tx_eq]; simpa using hxy
          go_wp2
          go_quiet (fail)
          go_wp2
          go_ret
          refine ⟨⟨false, rfl, ⟨fun h => (by cases h), fun e => ?_⟩⟩, ((Keeps.refl _ _).drewN _).drewN _⟩
          exact absurd (by rw [HX.out, HY.out, e]) hxy
      · go_wp2
        go_ret
        refine ⟨⟨true, rfl, ⟨fun _ => ?_, fun _ => rfl⟩⟩, (Keeps.refl _ _).drewN _⟩
        have := HT.out
        rwa [List.take_of_length_le (by have := HA.out; omega), List.take_of_length_le (by have := HB.out; omega)] at this
  · have hne' : ¬ ((na : Nat) : Int) = (nb : Nat) := by omega
    go_enter Try.func33, Try.ntmps33
    go_wp2
    go_ret
    refine ⟨⟨false, rfl, ⟨fun h => (by cases h), fun e => ?_⟩⟩, Keeps.refl _ _⟩
    exact absurd (by rw [HA.out, HB.out, e]) hne


end Go.Proofs.Ytodblodbeobgeaa
