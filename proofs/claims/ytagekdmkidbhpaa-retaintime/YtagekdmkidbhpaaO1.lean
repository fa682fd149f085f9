import Derived.Test.YtagekdmkidbhpaaCA
import Derived.Test.YtagekdmkidbhpaaRw
/- The statements' own: the keys of bits, an op's name. -/
namespace Go.Proofs.Ytagekdmkidbhpaa
open Go.RowKit Go.Maps Orl
set_option linter.unusedVariables false
set_option linter.unusedSimpArgs false

def NM : List Tx := [⟨#[]⟩, ⟨#[97]⟩, ⟨#[98]⟩, ⟨#[99]⟩, ⟨#[100]⟩, ⟨#[101]⟩]
def bitN (b k : Nat) : Bool := decide (b / 2 ^ k % 2 = 1)
def namesTo (b : Nat) : Nat → List Tx
  | 0 => []
  | k + 1 => namesTo b k ++ (if bitN b k then [NM.getD k e0] else [])
theorem namesTo_succ (b k : Nat) : namesTo b (k + 1) = namesTo b k ++ (if bitN b k then [NM.getD k e0] else []) := rfl
theorem namesTo_len (b : Nat) : ∀ k, (namesTo b k).length ≤ k
  | 0 => Nat.le_refl _
  | k + 1 => by
    have := namesTo_len b k
    rw [namesTo_succ, List.length_append]
    split <;> simp <;> omega
theorem bit_test (b k : Nat) (hb : b < 256) : (bits .and .u8 ((b : Int) / 2 ^ k) 1 == 1) = bitN b k := by
  have h1 : ((b : Int) / 2 ^ k) = ((b / 2 ^ k : Nat) : Int) := by simp
  have h2 := u8_and_nat (b / 2 ^ k) 1 (Nat.lt_of_le_of_lt (Nat.div_le_self _ _) hb) (by decide)
  rw [Nat.and_one_is_mod] at h2
  have h3 : bits .and .u8 ((b / 2 ^ k : Nat) : Int) 1 = ((b / 2 ^ k % 2 : Nat) : Int) := h2
  rw [h1, h3]
  unfold bitN
  by_cases e : b / 2 ^ k % 2 = 1
  · simp [e]
  · have : b / 2 ^ k % 2 = 0 := by omega
    simp [this]
set_option maxRecDepth 10000 in
set_option maxHeartbeats 1000000 in
theorem names_any (w : World) (b : Nat) (hb : b < 256) : Calls Try.prog 24 #[.int .u8 ((b : Nat) : Int)] w fun e w' => ∃ v, e = .returned v ∧ Gives TE w (namesTo b 6) v w' := by
  go_enter Try.func24, Try.ntmps24
  go_wp2_with fail
  generalize hB : w.heap.size = B
  have hbk := blk_new w (.cells #[.string ⟨#[]⟩, .string ⟨#[97]⟩, .string ⟨#[98]⟩, .string ⟨#[99]⟩, .string ⟨#[100]⟩, .string ⟨#[101]⟩] 9)
  have hk0 := (Keeps.refl no w).alloc (.cells #[.string ⟨#[]⟩, .string ⟨#[97]⟩, .string ⟨#[98]⟩, .string ⟨#[99]⟩, .string ⟨#[100]⟩, .string ⟨#[101]⟩] 9)
  rw [hB] at hbk
  generalize w.alloc (.cells #[.string ⟨#[]⟩, .string ⟨#[97]⟩, .string ⟨#[98]⟩, .string ⟨#[99]⟩, .string ⟨#[100]⟩, .string ⟨#[101]⟩] 9) = w1 at hbk hk0 ⊢
  have HK : Hid (Keeps no w w1 ∧ w1.heap[B]? = some (.cells #[.string ⟨#[]⟩, .string ⟨#[97]⟩, .string ⟨#[98]⟩, .string ⟨#[99]⟩, .string ⟨#[100]⟩, .string ⟨#[101]⟩] 9 (0, 0))) := ⟨hk0, hbk⟩
  clear hk0 hbk hB
  go_loopw [4, 5] (fun s4 s5 wr => ∃ (k : Nat) (v : Value), k ≤ 6 ∧ s5 = .int .i64 k ∧ s4 = v ∧ Hid (∃ o n c, v = .slice o n c ∧ n = (namesTo b k).length ∧ Own TE wr o c (namesTo b k) ∧ New w1 o ∧ Keeps no w1 wr)) (fun _ s5 _ => 6 - (intOf s5).toNat)
  case atStart => exact ⟨0, _, by omega, rfl, rfl, none, 0, 0, rfl, rfl, own_nil _, new_none _, Keeps.refl _ _⟩
  case round =>
    obtain ⟨k, v, hk, rfl, rfl, HG⟩ := hrel
    obtain ⟨o, n, c, rfl, hn, ho, hnw, hkp⟩ := HG.out
    have HD : Hid (n = (namesTo b k).length ∧ Own TE wr o c (namesTo b k) ∧ New w1 o ∧ Keeps no w1 wr) := ⟨hn, ho, hnw, hkp⟩
    clear HG hn ho hnw hkp
    by_cases hlt : k < 6
    · have hlt' : (k : Int) < 6 := by omega
      have d0 : wr.cell? ⟨B, k, none⟩ = some (.string (NM.getD k e0)) := by
        rw [cell_of_blk (HD.out.2.2.2.at HK.out.2 id)]
        match k, hlt with
        | 0, _ => rfl
        | 1, _ => rfl
        | 2, _ => rfl
        | 3, _ => rfl
        | 4, _ => rfl
        | 5, _ => rfl
      obtain ⟨x, hx⟩ : ∃ x, x = NM.getD k e0 := ⟨_, rfl⟩
      rw [← hx] at d0
      have HX : Hid (x = NM.getD k e0) := hx
      have hbt := bit_test b k hb
      have hsn := namesTo_succ b k
      rw [← hx] at hsn
      have hlen := namesTo_len b k
      have HSN : Hid (namesTo b (k + 1) = namesTo b k ++ (if bitN b k then [x] else []) ∧ (namesTo b k).length ≤ k) := ⟨hsn, hlen⟩
      clear hx hsn hlen
      cases hbb : bitN b k with
      | true =>
        rw [hbb] at hbt HSN
        have HBD : Hid (((namesTo b k).length + [x].length) * TE.nb ≤ 140737488355328 ∧ (namesTo b k).length + [x].length ≤ 140737488355328) := ⟨by have := HSN.out.2; simp [TE]; omega, by have := HSN.out.2; simp; omega⟩
        clear hbb
        go_wp2_with (at_builtin; refine wpList_app okT rfl _ _ rfl _ _ _ (namesTo b k) rfl HD.out.1 (HD.out.2.1.keepsN ((Keeps.refl _ _).alloc _)) _ _ _ [x] rfl rfl (fun h => by cases h) ((own_one wr x).row) HBD.out.1 HBD.out.2 ?_; intro o1 c1 w3 ho3 hap3)
        go_roundw
        case rel =>
          have hnn := hap3.new HD.out.2.2.1 (HD.out.2.2.2.alloc (.cells #[.string x] 9))
          refine ⟨k + 1, _, by omega, by go_num, rfl, o1, _, c1, rfl, ?_, ?_, hnn.1, hnn.2⟩
          · rw [HSN.out.1, List.length_append, ← HD.out.1]; rfl
          · rw [HSN.out.1]; exact ho3
        case measure => simp [intOf]; omega
      | false =>
        rw [hbb] at hbt HSN
        clear hbb
        go_wp2_with fail
        go_roundw
        case rel =>
          have e : namesTo b (k + 1) = namesTo b k := by rw [HSN.out.1]; simp
          refine ⟨k + 1, _, by omega, by go_num, rfl, o, n, c, rfl, ?_, ?_, HD.out.2.2.1, HD.out.2.2.2⟩
          · rw [e]; exact HD.out.1
          · rw [e]; exact HD.out.2.1
        case measure => simp [intOf]; omega
    · have hk6 : k = 6 := by omega
      subst hk6
      go_wp2_with fail
      go_ret
      exact ⟨_, rfl, o, n, c, rfl, HD.out.1, HD.out.2.1, HD.out.2.2.1.of_le HK.out.1.size, HK.out.1.trans HD.out.2.2.2⟩
def idn (i : Nat) : Nat := 65536 * (1 + i / 4 % 16) + i % 4
theorem idn_le (i : Nat) : 65536 ≤ idn i ∧ idn i ≤ 1048579 := by unfold idn; omega
theorem id_any (w : World) (k : Int) (i : Nat) (hi : i < 18446744073709551616) (a b : Int) (v : Tx) : Calls Try.prog 13 #[.agg #[.int .i64 k, .int .u64 ((i : Nat) : Int), .int .u8 a, .int .u8 b, .string v]] w fun e w' => e = .returned (.int .u64 ((idn i : Nat) : Int)) ∧ Keeps no w w' := by
  have h15 : bits .and .u64 ((i : Int) / 4) 15 = ((i / 4 % 16 : Nat) : Int) := by
    have := u64_and_nat (i / 4) 15 (by omega) (by decide)
    rw [show i / 4 &&& 15 = i / 4 % 16 from Nat.and_two_pow_sub_one_eq_mod _ 4] at this
    rw [show ((i : Int) / 4) = ((i / 4 : Nat) : Int) by omega]
    exact this
  have h3 : bits .and .u64 (i : Int) 3 = ((i % 4 : Nat) : Int) := by
    have := u64_and_nat i 3 hi (by decide)
    rw [show i &&& 3 = i % 4 from Nat.and_two_pow_sub_one_eq_mod _ 2] at this
    exact this
  obtain ⟨q, hq⟩ : ∃ q : Int, q = ((i / 4 % 16 : Nat) : Int) := ⟨_, rfl⟩
  obtain ⟨r, hr⟩ : ∃ r : Int, r = ((i % 4 : Nat) : Int) := ⟨_, rfl⟩
  rw [← hq] at h15
  rw [← hr] at h3
  have hq0 : 0 ≤ q := by omega
  have hq1 : q < 16 := by omega
  have hr0 : 0 ≤ r := by omega
  have hr1 : r < 4 := by omega
  have HI : Hid (((idn i : Nat) : Int) = 65536 * (1 + q) + r) := (show _ = _ by unfold idn; omega)
  clear hq hr
  go_enter Try.func13, Try.ntmps13
  go_wp2_with fail
  go_ret
  rw [HI.out]
  exact ⟨rfl, (Keeps.refl _ _).alloc _⟩
end Go.Proofs.Ytagekdmkidbhpaa
