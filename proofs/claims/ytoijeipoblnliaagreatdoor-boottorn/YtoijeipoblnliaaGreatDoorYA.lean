import Derived.Test.YtoijeipoblnliaaGreatDoorXI
import Derived.Lib.QuietBelow
import Derived.Deep.RegionHeldLaw
/- The law's numbers, keys, records. -/
namespace Go.Proofs.YtoijeipoblnliaaGreatDoor
open Go.RowKit Go.Maps Go.Sort Orl Pk
set_option linter.unusedVariables false
set_option linter.unusedSimpArgs false

def I64 (n : Int) : Prop := -9223372036854775808 ≤ n ∧ n ≤ 9223372036854775807
def rst (n : Int) (m : Nat) : Nat := (n % ((m : Int) + 1)).toNat
theorem rst_le (n : Int) (m : Nat) : rst n m ≤ m := by
  unfold rst
  have h1 := Int.emod_nonneg n (show ((m : Int) + 1) ≠ 0 by omega)
  have h2 := Int.emod_lt_of_pos n (show (0 : Int) < (m : Int) + 1 by omega)
  omega
theorem rest_any (n : Int) (m : Nat) (w : World) (hn : I64 n) (hm : m ≤ 1000000) :
    Calls Tryz.prog 17 #[.int .i64 n, .int .i64 ((m : Nat) : Int)] w fun e w' => e = .returned (.int .i64 ((rst n m : Nat) : Int)) ∧ w' = w := by
  have b1 := Int.tmod_lt_of_pos n (b := (m : Int) + 1) (by omega)
  have b2 : -((m : Int) + 1) < n.tmod ((m : Int) + 1) := by
    have := Int.lt_tmod_of_pos n (b := (m : Int) + 1) (by omega)
    omega
  have hm' : (m : Int) ≤ 1000000 := by omega
  obtain ⟨h1, h2⟩ := hn
  have e1 := Int.emod_nonneg n (show ((m : Int) + 1) ≠ 0 by omega)
  have e2 := Int.emod_lt_of_pos n (show (0 : Int) < (m : Int) + 1 by omega)
  have HR : Hid ((rst n m : Int) = if n.tmod ((m : Int) + 1) < 0 then n.tmod ((m : Int) + 1) + m + 1 else n.tmod ((m : Int) + 1)) := by
    show _ = _
    have e : n.tmod ((m : Int) + 1) = n % ((m : Int) + 1) ∨ n.tmod ((m : Int) + 1) = n % ((m : Int) + 1) - ((m : Int) + 1) := by
      rw [Int.tmod_eq_emod]
      split
      · left; omega
      · right; omega
    unfold rst
    split <;> omega
  have hw : wrap64 (n.tmod ((m : Int) + 1)) = n.tmod ((m : Int) + 1) := IntWalk.wrap64_in _ ⟨by omega, by omega⟩
  obtain ⟨t, ht⟩ : ∃ t, t = n.tmod ((m : Int) + 1) := ⟨_, rfl⟩
  rw [← ht] at b1 b2 hw HR
  have HT : Hid (t = n.tmod ((m : Int) + 1)) := ht
  have ht' := ht.symm
  clear ht e1 e2 hm
  generalize rst n m = R at HR ⊢
  by_cases hn : t < 0
  · go_enter Tryz.func17, Tryz.ntmps17
    go_wp2
    go_ret
    refine ⟨?_, rfl⟩
    have := HR.out
    rw [if_pos hn] at this
    rw [this]; rfl
  · go_enter Tryz.func17, Tryz.ntmps17
    go_wp2
    go_ret
    refine ⟨?_, rfl⟩
    have := HR.out
    rw [if_neg (by omega)] at this
    rw [this]; rfl
/-- the writes by number -/
def idw (n : Int) : Nat := 65536 * (1 + rst n 11) + rst n 11 % 3
theorem idw_lt (n : Int) : 65536 ≤ idw n ∧ idw n < 1000000 := by
  have := rst_le n 11
  unfold idw
  omega
/-- the keys by number -/
def mkL (zs : List Int) : Tx := zs.foldl (fun r n => r.push (UInt8.ofNat n.toNat)) ByteArray.empty
theorem conv1 (W : World) (B : Nat) (z1 : Int) (h : W.heap[B]? = some (.cells #[.int .u8 z1] 5 (0, 0))) : (convert 33 9 (.slice (some ⟨B, 0, none⟩) 1 1)).run Tryz.prog W = .ok (.string (mkL [z1])) W := by
  rw [run_convert_bytes_string W 33 9 5 _ 1 1 Tryz.underlying33 Tryz.underlying5 Tryz.underlying9]
  have hload := run_loadCells_list (P := Tryz.prog) W ⟨B, 0, none⟩ [.int .u8 z1] (by
    intro j u hj
    rw [addr_add, Nat.zero_add, cell_of_blk h]
    simpa using hj)
  exact run_bytesToString W ⟨B, 0, none⟩ 1 1 [z1] hload
def ky (i : Nat) : Tx := mkL [97 + (i : Int)]
theorem ky_size (i : Nat) : (ky i).size = 1 := rfl
/-- of the keys those that a mask says -/
def bitM (mask : Int) (k : Nat) : Bool := bits BinOp.and IntKind.i64 (mask / 2 ^ k) 1 == 1
def setK (mask : Int) (k : Nat) : List Tx := ((List.range k).filter (bitM mask)).map ky
theorem setK_succ (mask : Int) (k : Nat) : setK mask (k + 1) = if bitM mask k = true then setK mask k ++ [ky k] else setK mask k := by
  unfold setK
  rw [List.range_succ, List.filter_append, List.map_append]
  split
  · rename_i h; simp [h]
  · rename_i h; simp [h]
theorem setK_len (mask : Int) (k : Nat) : (setK mask k).length ≤ k := by
  unfold setK
  rw [List.length_map]
  exact Nat.le_trans (List.length_filter_le _ _) (by simp)
def shortT (x : Tx) : Tx := ByteArray.extract x 0 (min (x.size : Int) 1000).toNat
theorem short_size (x : Tx) : (shortT x).size ≤ 1000 := by
  unfold shortT
  rw [ByteArray.size_extract]
  omega
theorem ky_lt {i j : Nat} (hij : i < j) (hj : j < 3) : lts (ky i) (ky j) = true := by
  have : (i = 0 ∧ j = 1) ∨ (i = 0 ∧ j = 2) ∨ (i = 1 ∧ j = 2) := by omega
  rcases this with ⟨rfl, rfl⟩ | ⟨rfl, rfl⟩ | ⟨rfl, rfl⟩ <;> (rw [lts_eq]; decide)
theorem ky_inc : Inc lts ((List.range 3).map ky) := by
  have e : (List.range 3).map ky = [ky 0, ky 1, ky 2] := rfl
  rw [e]
  exact List.pairwise_cons.2 ⟨fun q hq => by simp at hq; rcases hq with rfl | rfl; exact ky_lt (by omega) (by omega); exact ky_lt (by omega) (by omega), List.pairwise_cons.2 ⟨fun q hq => by simp at hq; subst hq; exact ky_lt (by omega) (by omega), by simp⟩⟩
theorem pk_take (ks : List Tx) (x : Tx) (j : Nat) (hj : j < ks.length) : (ks.take (j + 1)).map (fun k => (k, x)) = (ks.take j).map (fun k => (k, x)) ++ [(ks.getD j e0, x)] := by
  rw [take_succ_getD ks j e0 hj, List.map_append]; rfl

def keysM (mask : Int) : List Tx := if setK mask 3 = [] then [e0] else setK mask 3
theorem keysM_len (mask : Int) : 1 ≤ (keysM mask).length ∧ (keysM mask).length ≤ 3 := by
  unfold keysM
  split
  · simp
  · rename_i h
    have := setK_len mask 3
    have : (setK mask 3).length ≠ 0 := fun e => h (List.eq_nil_of_length_eq_zero e)
    omega
theorem keysM_size (mask : Int) : ∀ k ∈ keysM mask, k.size ≤ 1 := by
  intro k hk
  unfold keysM at hk
  split at hk
  · simp at hk; subst hk; decide
  · unfold setK at hk
    obtain ⟨i, _, rfl⟩ := List.mem_map.1 hk
    rw [ky_size]; omega
theorem keysM_inc (mask : Int) : Inc lts (keysM mask) := by
  unfold keysM
  split
  · exact List.pairwise_singleton _ _
  · unfold setK
    exact List.Pairwise.sublist (List.Sublist.map ky (List.filter_sublist (l := List.range 3))) ky_inc
/-- a raw record, as it came in -/
structure RW where
  kd : Int
  wr : Int
  msk : Int
  val : Tx
structure RWok (x : RW) : Prop where
  kd : I64 x.kd
  wr : I64 x.wr
  msk : I64 x.msk
def rw0 : RW := ⟨0, 0, 0, e0⟩
def WE : El RW := ⟨57, 25, 4, 40, fun x => [.int .i64 x.kd, .int .i64 x.wr, .int .i64 x.msk, .string x.val]⟩
theorem infoW : (Tryz.prog.info? 57).map (fun i => (i.zero, i.size, i.bytes)) = some (some (.agg #[.int .i64 0, .int .i64 0, .int .i64 0, .string ⟨#[]⟩]), 4, 40) := by kernel_rfl
theorem okW : WE.Ok := by
  obtain ⟨i0, hi, hz0, hz1, hz2⟩ := info_parts infoW
  exact ⟨fun _ => rfl, fun x u hu => by simp [WE] at hu; rcases hu with rfl | rfl | rfl | rfl <;> rfl, by decide, Tryz.underlying25, i0, _, hi, hz0, hz1, hz2, rfl⟩
theorem Sl.atW {w : World} {a : Option Addr} {c : Nat} {xs : List RW} (h : Sl WE w a c xs) {j : Nat} (hj : j < xs.length) : ∃ b off, a = some ⟨b, off, none⟩ ∧ w.cell? ⟨b, off + j * 4, none⟩ = some (.int .i64 (xs.getD j rw0).kd) ∧ w.cell? ⟨b, off + j * 4 + 1, none⟩ = some (.int .i64 (xs.getD j rw0).wr) ∧ w.cell? ⟨b, off + j * 4 + 2, none⟩ = some (.int .i64 (xs.getD j rw0).msk) ∧ w.cell? ⟨b, off + j * 4 + 3, none⟩ = some (.string (xs.getD j rw0).val) := by
  rcases h.row with e | ⟨b, off, rfl, hc⟩
  · subst e; simp at hj
  · have := fun i (hi : i < 4) => cells_at okW rw0 xs j i hj hi
    refine ⟨b, off, rfl, ?_, ?_, ?_, ?_⟩
    · have h0 := hc (j * 4 + 0) _ (this 0 (by omega)); rw [Nat.add_zero] at h0; exact h0
    · rw [Nat.add_assoc]; exact hc (j * 4 + 1) _ (this 1 (by omega))
    · rw [Nat.add_assoc]; exact hc (j * 4 + 2) _ (this 2 (by omega))
    · rw [Nat.add_assoc]; exact hc (j * 4 + 3) _ (this 3 (by omega))
def recS (x : RW) : Rec := if rst x.kd 2 = 2 then ⟨2, idw x.wr, [], []⟩ else ⟨1, idw x.wr, (keysM x.msk).map (fun k => (k, shortT x.val)), keysM x.msk⟩
theorem recS_may (x : RW) : may (recS x) = true := by
  have hi := (idw_lt x.wr).1
  unfold recS
  split
  · unfold may; simp [hi]
  · have hl := keysM_len x.msk
    have hk : mayK (keysM x.msk) = true := by
      unfold mayK
      simp only [Bool.and_eq_true, decide_eq_true_eq, List.all_eq_true]
      exact ⟨by omega, fun k hk => by have := keysM_size x.msk k hk; omega, (rising_iff swoT _).2 (keysM_inc x.msk)⟩
    have hp : mayP ((keysM x.msk).map (fun k => (k, shortT x.val))) (keysM x.msk) = true := by
      unfold mayP
      have e : kys ((keysM x.msk).map (fun k => (k, shortT x.val))) = keysM x.msk := by unfold kys; rw [List.map_map]; show (keysM x.msk).map (fun k => k) = _; simp
      simp only [Bool.and_eq_true, decide_eq_true_eq, List.all_eq_true]
      rw [e]
      refine ⟨by rw [List.length_map]; exact hl.1, fun p hp => ?_, (rising_iff swoT _).2 (keysM_inc x.msk), fun k hk => (inn_iff _ _).2 hk⟩
      obtain ⟨k, _, rfl⟩ := List.mem_map.1 hp
      have := short_size x.val
      show (shortT x.val).size ≤ 65535
      omega
    unfold may
    simp only [Bool.and_eq_true, decide_eq_true_eq]
    exact ⟨hi, by simp [hk, hp]⟩
theorem recS_id (x : RW) : (recS x).id < 18446744073709551616 := by
  have := (idw_lt x.wr).2
  unfold recS
  split <;> (show idw x.wr < _; omega)
theorem layP_le : ∀ (l : List Pr), (∀ p ∈ l, p.1.size ≤ 1 ∧ p.2.size ≤ 1000) → (layP l).length ≤ l.length * 1009
  | [], _ => by simp [layP]
  | p :: l, h => by
    have ih := layP_le l (fun q hq => h q (List.mem_cons_of_mem _ hq))
    have hp := h p (by simp)
    simp only [layP, List.flatMap_cons, List.length_append, List.length_cons] at ih ⊢
    have : (layP1 p).length ≤ 1009 := by unfold layP1; rw [List.length_append, txt_length, txt_length, nats_length, nats_length]; omega
    omega
theorem body1_le : ∀ (l : List Tx), (∀ k ∈ l, k.size ≤ 1) → bodyLen (natss l) ≤ l.length * 5
  | [], _ => by simp [natss, bodyLen]
  | k :: l, h => by
    have ih := body1_le l (fun q hq => h q (List.mem_cons_of_mem _ hq))
    have hk := h k (by simp)
    have e : bodyLen (natss (k :: l)) = 4 + (nats k).length + bodyLen (natss l) := rfl
    rw [e, nats_length, List.length_cons]; omega
theorem recS_body (x : RW) : (body (recS x)).length ≤ 3100 := by
  unfold recS
  split
  · unfold body layF; simp [num_length]
  · have hl := keysM_len x.msk
    have h1 := layP_le ((keysM x.msk).map (fun k => (k, shortT x.val))) (fun p hp => by
      obtain ⟨k, hk, rfl⟩ := List.mem_map.1 hp
      exact ⟨keysM_size x.msk k hk, short_size x.val⟩)
    have h2 := body1_le (keysM x.msk) (keysM_size x.msk)
    rw [List.length_map] at h1
    unfold body layF
    rw [if_pos rfl]
    simp only [List.length_append, num_length, txts_length]
    omega
theorem recS_gd (x : RW) : Gd (recS x) := ⟨recS_may x, recS_id x, by have := recS_body x; omega⟩
def recL (l : List RW) : List Rec := l.map recS
theorem recL_gds (l : List RW) : Gds (recL l) := fun r hr => by obtain ⟨x, _, rfl⟩ := List.mem_map.1 hr; exact recS_gd x
theorem recL_getD (l : List RW) (k : Nat) (h : k < l.length) : (recL l).getD k c0 = recS (l.getD k rw0) := by simp [recL, List.getD, h]
theorem recL_len (l : List RW) : (recL l).length = l.length := List.length_map _
theorem recS_prs (x : RW) : (recS x).pairs.length ≤ 3 := by
  unfold recS
  split
  · simp
  · have := (keysM_len x.msk).2
    show ((keysM x.msk).map _).length ≤ 3
    rw [List.length_map]; exact this
theorem recL_prs : ∀ (l : List RW), prs (recL l) ≤ 3 * l.length
  | [] => by simp [recL, prs]
  | x :: l => by
    have ih := recL_prs l
    have := recS_prs x
    show (recS x).pairs.length + prs (recL l) ≤ _
    rw [List.length_cons]; omega
theorem recL_row : ∀ (l : List RW), (rowb (recL l)).length ≤ 3108 * l.length
  | [] => by simp [recL, rowb]
  | x :: l => by
    have ih := recL_row l
    have := recS_body x
    have e : rowb (recL (x :: l)) = enc (recS x) ++ rowb (recL l) := by simp [recL, rowb]
    rw [e, List.length_append, enc_length, List.length_cons]; omega
end Go.Proofs.YtoijeipoblnliaaGreatDoor
