/- writeText and what it stands in. -/
import Derived.Test.YtjkljljmjjnneaaGreatDoorW0
namespace Go.Proofs.YtjkljljmjjnneaaGreatDoor
open Go.RowKit Go.Sort Orl
set_option linter.unusedVariables false
set_option linter.unusedSimpArgs false

def hexD (n : Nat) : UInt8 := if n < 10 then UInt8.ofNat (48 + n) else UInt8.ofNat (87 + n)
/-- a byte as it is written -/
def byteW (c : UInt8) : List UInt8 := if plainB c = true then [c] else [37, hexD (c.toNat / 16), hexD (c.toNat % 16)]
/-- a text as it is written -/
def textW (l : List UInt8) : List UInt8 := (if l = [] then [37] else []) ++ l.flatMap byteW
theorem byteW_len (c : UInt8) : (byteW c).length ≤ 3 := by unfold byteW; split <;> simp
theorem flat_len (l : List UInt8) : (l.flatMap byteW).length ≤ 3 * l.length := by
  induction l with
  | nil => simp
  | cons c l ih => rw [List.flatMap_cons, List.length_append, List.length_cons]; have := byteW_len c; omega
theorem textW_len (l : List UInt8) : (textW l).length ≤ 3 * l.length + 1 := by
  unfold textW
  rw [List.length_append]
  have := flat_len l
  split
  · rw [List.length_singleton]; omega
  · rw [List.length_nil]; omega
theorem flat_take (l : List UInt8) (k : Nat) (h : k < l.length) : (l.take (k + 1)).flatMap byteW = (l.take k).flatMap byteW ++ byteW (l.getD k 0) := by
  rw [take_succ_getD l k 0 h, List.flatMap_append]; simp
theorem hex_at (i : Nat) (h : i < (⟨#[48, 49, 50, 51, 52, 53, 54, 55, 56, 57, 97, 98, 99, 100, 101, 102]⟩ : ByteArray).size) : (⟨#[48, 49, 50, 51, 52, 53, 54, 55, 56, 57, 97, 98, 99, 100, 101, 102]⟩ : ByteArray)[i]'h = hexD i := by
  have h16 : i < 16 := h
  have key : ∀ j : Fin 16, (#[48, 49, 50, 51, 52, 53, 54, 55, 56, 57, 97, 98, 99, 100, 101, 102] : Array UInt8)[j.1]! = hexD j.1 := by decide
  have h2 := key ⟨i, h16⟩
  rw [← h2]
  show (#[48, 49, 50, 51, 52, 53, 54, 55, 56, 57, 97, 98, 99, 100, 101, 102] : Array UInt8)[i] = _
  rw [getElem!_pos]
theorem text_at (s : ByteArray) (k : Nat) (h : k < s.size) : s.data.toList.getD k 0 = s[k] := by
  have h1 : k < s.data.toList.length := by rw [Array.length_toList]; exact h
  rw [List.getD_eq_getElem?_getD, List.getElem?_eq_getElem h1]
  rfl
theorem writeText_any (w0 w : World) (b : Nat) (acc : List UInt8) (h : Bd w0 w b acc) (s : ByteArray) (hl : acc.length + 3 * s.size + 4 ≤ 140737488355328) :
    Calls Tryz.prog 62 #[.pointer (some ⟨b, 0, none⟩), .string s] w (Wr0 w0 w b acc (textW s.data.toList)) := by
  have HB : Hid (Bd w0 w b acc) := h
  have hn : (s.size : Int) ≤ 46912496118444 := by omega
  have HL : Hid (acc.length + 3 * s.size + 4 ≤ 140737488355328) := hl
  have HWB : Hid (∀ {W : World} (a : List UInt8) (c : UInt8), Bd w0 W b a → a.length + 1 ≤ 140737488355328 → Calls Tryz.prog 39 #[.pointer (some ⟨b, 0, none⟩), .int .u8 (c.toNat : Nat)] W (BdTo w0 W b a [c] .nilIface)) := fun a c h1 h2 => writeByte_any w0 _ b a c h1 h2
  clear h hl
  by_cases hs : s.size = 0
  · have hz : s.data.toList = [] := List.length_eq_zero_iff.1 (by rw [Array.length_toList]; exact hs)
    have ht : (s.toList == ([] : List UInt8)) = true := by rw [Lib.toList_data, hz]; rfl
    have hs0 : (s.size : Int) = 0 := by omega
    go_enter Tryz.func62, Tryz.ntmps62
    go_wp2_with fail
    refine (HWB.out _ 37 HB.out (by have := HL.out; omega)).mono ?_
    rintro e w1 ⟨rfl, h1, h2⟩
    have HE : Hid (Bd w0 w1 b (acc ++ textW s.data.toList) ∧ Bo b w w1) := by
      rw [hz]
      exact ⟨h1, h2⟩
    clear h1 h2 hz
    go_wp2_with fail
    go_loopw [11] (fun s11 wr => s11 = .int .i64 0 ∧ wr = w1) (fun s11 _ => 0)
    case atStart => exact ⟨rfl, rfl⟩
    case round =>
      obtain ⟨rfl, rfl⟩ := hrel
      go_wp2_with fail
      go_end0
      exact ⟨rfl, HE.out.1, HE.out.2⟩
  · have ht : (s.toList == ([] : List UInt8)) = false := by
      rw [Lib.toList_data, beq_eq_false_iff_ne]
      intro e
      apply hs
      have := congrArg List.length e
      rw [Array.length_toList] at this
      exact this
    go_enter Tryz.func62, Tryz.ntmps62
    go_wp2_with fail
    go_loopw [11] (fun s11 wr => ∃ k : Nat, k ≤ s.size ∧ s11 = .int .i64 (k : Nat) ∧ Hid (Bd w0 wr b (acc ++ (s.data.toList.take k).flatMap byteW) ∧ Bo b w wr)) (fun s11 _ => s.size - (intOf s11).toNat)
    case atStart => exact ⟨0, by omega, rfl, by simpa using HB.out, Bo.refl _ _⟩
    case round =>
      rename World => wr
      obtain ⟨k, hk, rfl, HR⟩ := hrel
      by_cases hlt : k < s.size
      · have hlt' : (k : Int) < s.size := by omega
        go_wp2_with fail
        refine (isPlain_any _ _).mono ?_
        rintro e w1 ⟨rfl, rfl⟩
        have HLN : Hid ((acc ++ (s.data.toList.take k).flatMap byteW).length + 3 ≤ 140737488355328) := by
          show _ ≤ _
          have h1 := flat_len (s.data.toList.take k)
          have h2 : (s.data.toList.take k).length ≤ s.size := by rw [List.length_take, Array.length_toList]; exact Nat.min_le_right _ _
          have := HL.out
          rw [List.length_append]
          omega
        have hc : s[k].toNat < 256 := s[k].toNat_lt
        cases hp : plainB s[k] with
        | true =>
          go_wp2_with fail
          refine (HWB.out _ s[k] HR.out.1 (by have := HLN.out; omega)).mono ?_
          rintro e w1 ⟨rfl, h1, h2⟩
          have HN : Hid (Bd w0 w1 b (acc ++ (s.data.toList.take (k + 1)).flatMap byteW) ∧ Bo b w w1) := by
            refine ⟨?_, HR.out.2.trans h2⟩
            rw [flat_take _ _ (by rw [Array.length_toList]; exact hlt), text_at _ _ hlt, ← List.append_assoc]
            have e : byteW s[k] = [s[k]] := by unfold byteW; rw [if_pos hp]
            rw [e]
            exact h1
          clear h1 h2
          go_wp2_with fail
          go_roundw
          case rel => exact ⟨k + 1, by omega, by go_num, HN⟩
          case measure => first | (simp [intOf]; done) | (simp [intOf]; omega)
        | false =>
          go_wp2_with fail
          refine (HWB.out _ 37 HR.out.1 (by have := HLN.out; omega)).mono ?_
          rintro e w1 ⟨rfl, h1, h2⟩
          have H1 : Hid (Bd w0 w1 b (acc ++ (s.data.toList.take k).flatMap byteW ++ [37]) ∧ Bo b w w1) := ⟨h1, HR.out.2.trans h2⟩
          clear h1 h2
          go_wp2_with fail
          rw [hex_at]
          refine (HWB.out _ _ H1.out.1 (by have := HLN.out; rw [List.length_append, List.length_singleton]; omega)).mono ?_
          rintro e w2 ⟨rfl, h1, h2⟩
          have H2 : Hid (Bd w0 w2 b (acc ++ (s.data.toList.take k).flatMap byteW ++ [37] ++ [hexD (s[k].toNat / 16)]) ∧ Bo b w w2) := ⟨h1, H1.out.2.trans h2⟩
          clear h1 h2
          go_wp2_with fail
          rw [hex_at]
          refine (HWB.out _ _ H2.out.1 (by have := HLN.out; rw [List.length_append, List.length_singleton, List.length_append, List.length_singleton]; omega)).mono ?_
          rintro e w3 ⟨rfl, h1, h2⟩
          have HN : Hid (Bd w0 w3 b (acc ++ (s.data.toList.take (k + 1)).flatMap byteW) ∧ Bo b w w3) := by
            refine ⟨?_, H2.out.2.trans h2⟩
            rw [flat_take _ _ (by rw [Array.length_toList]; exact hlt), text_at _ _ hlt, ← List.append_assoc]
            have e : byteW s[k] = [37, hexD (s[k].toNat / 16), hexD (s[k].toNat % 16)] := by unfold byteW; rw [if_neg (by rw [hp]; decide)]
            rw [e]
            simpa using h1
          clear h1 h2
          go_wp2_with fail
          go_roundw
          case rel => exact ⟨k + 1, by omega, by go_num, HN⟩
          case measure => first | (simp [intOf]; done) | (simp [intOf]; omega)
      · have hlt' : ¬ (k : Int) < s.size := by omega
        have HE : Hid (Bd w0 wr b (acc ++ textW s.data.toList) ∧ Bo b w wr) := by
          have h1 := HR.out
          rw [List.take_of_length_le (by rw [Array.length_toList]; show s.size ≤ k; omega)] at h1
          unfold textW
          rw [if_neg (fun e => hs (by have := congrArg List.length e; rw [Array.length_toList] at this; exact this)), List.nil_append]
          exact h1
        clear HR
        go_wp2_with fail
        go_end0
        exact ⟨rfl, HE.out.1, HE.out.2⟩
end Go.Proofs.YtjkljljmjjnneaaGreatDoor
