/- The document's side: text. -/
import Derived.Test.YtjkljljmjjnneaaGreatDoorE0
import Derived.Test.YtjkljljmjjnneaaGreatDoorS0
namespace Go.Proofs.YtjkljljmjjnneaaGreatDoor
open Go.RowKit Go.Sort Orl
set_option linter.unusedVariables false
set_option linter.unusedSimpArgs false

set_option maxRecDepth 10000 in
set_option maxHeartbeats 4000000 in
theorem text_any (w : World) (s : ByteArray) (hs : s.size ≤ 1000000000) :
    Calls Tryz.prog 52 #[.string s] w fun e w' => e = .returned (.string (tx (textW s.data.toList))) ∧ Keeps no w w' := by
  have HS : Hid (s.size ≤ 1000000000) := hs
  have hsI : (s.size : Int) ≤ 1000000000 := by omega
  clear hs
  by_cases h0 : s.size = 0
  · have hl : s.data.toList = [] := List.length_eq_zero_iff.1 (by rw [data_len]; exact h0)
    have hb : (ByteArray.toList s == ([] : List UInt8)) = true := by rw [Lib.toList_data, hl]; rfl
    have HL : Hid (textW s.data.toList = [37]) := by show _ = _; rw [hl]; rfl
    clear hl h0
    go_enter Tryz.func52, Tryz.ntmps52
    go_wp2_with fail
    go_ret
    rw [HL.out]
    exact ⟨rfl, Keeps.refl _ _⟩
  · have hl : s.data.toList ≠ [] := fun e => h0 (by rw [← data_len, e]; rfl)
    have hb : (ByteArray.toList s == ([] : List UInt8)) = false := by rw [beq_eq_false_iff_ne, Lib.toList_data]; exact hl
    have HL : Hid (textW s.data.toList = s.data.toList.flatMap byteW ∧ s.data.toList ≠ []) := ⟨by unfold textW; rw [if_neg hl, List.nil_append], hl⟩
    clear hl h0
    go_enter Tryz.func52, Tryz.ntmps52
    go_wp2_with fail
    go_loopw [3, 4] (fun s3 s4 wr => ∃ (i : Nat) (o : Option Addr) (n c : Nat), i ≤ s.size ∧ (n : Int) ≤ 3 * (i : Int) ∧ s3 = .slice o n c ∧ s4 = .int .i64 (i : Nat) ∧ Hid (Own BE wr o c ((s.data.toList.take i).flatMap byteW) ∧ New w o ∧ Keeps no w wr ∧ n = ((s.data.toList.take i).flatMap byteW).length)) (fun _ s4 _ => s.size - (intOf s4).toNat)
    case atStart => exact ⟨0, none, 0, 0, by omega, by decide, rfl, rfl, own_nil _, new_none _, Keeps.refl _ _, rfl⟩
    case round =>
      rename World => wr
      obtain ⟨i, o, n, c, his, hn3, rfl, rfl, HO⟩ := hrel
      by_cases hlt : i < s.size
      · have hltI : (i : Int) < s.size := by omega
        have hdl : i < s.data.toList.length := by rw [data_len]; exact hlt
        have HT : Hid ((s.data.toList.take (i + 1)).flatMap byteW = (s.data.toList.take i).flatMap byteW ++ byteW s[i]) := by
          show _ = _
          rw [List.take_succ_eq_append_getElem hdl, List.flatMap_append, List.flatMap_singleton]
          rfl
        have HP : Hid (∀ W, Calls Tryz.prog 71 #[.int .u8 ((s[i]).toNat : Nat)] W fun e w' => e = .returned (.bool (plainB s[i])) ∧ w' = W) := fun W => plain_any W s[i]
        have h256 := (s[i]).toNat_lt
        have hxn : ((s[i]).toNat : Int) < 256 := by omega

        have HH : Hid ((∀ W, Calls Tryz.prog 72 #[.int .u8 (((s[i]).toNat : Int) / 16)] W fun e w' => e = .returned (.int .u8 ((hexD ((s[i]).toNat / 16)).toNat : Nat)) ∧ w' = W) ∧ (∀ W, Calls Tryz.prog 72 #[.int .u8 (((s[i]).toNat : Int) % 16)] W fun e w' => e = .returned (.int .u8 ((hexD ((s[i]).toNat % 16)).toNat : Nat)) ∧ w' = W)) :=
          ⟨fun W => by have h := hex_any W ((s[i]).toNat / 16) (by omega); rw [show (((s[i]).toNat / 16 : Nat) : Int) = ((s[i]).toNat : Int) / 16 by omega] at h; exact h, fun W => by have h := hex_any W ((s[i]).toNat % 16) (by omega); rw [show (((s[i]).toNat % 16 : Nat) : Int) = ((s[i]).toNat : Int) % 16 by omega] at h; exact h⟩
        clear h256
        go_wp2_with fail
        refine (HP.out _).mono ?_
        rintro e w2 ⟨rfl, hw2⟩
        subst hw2
        clear HP
        cases hp : plainB s[i] with
        | true =>
          have HB : Hid (byteW s[i] = [s[i]]) := by show _ = _; unfold byteW; rw [if_pos hp]
          have HR : Hid (Row BE (w2.alloc (.cells #[.int .u8 ((s[i]).toNat : Nat)] 5)) (some ⟨w2.heap.size, 0, none⟩) [s[i]] ∧ Own BE (w2.alloc (.cells #[.int .u8 ((s[i]).toNat : Nat)] 5)) o c ((s.data.toList.take i).flatMap byteW)) := ⟨(lit_one (E := BE) w2 s[i] #[.int .u8 ((s[i]).toNat : Nat)] rfl).row, HO.out.1.keepsN ((Keeps.refl _ _).alloc _)⟩
          clear hp HH
          go_wp2_with (at_builtin; refine wpList_app okB rfl _ _ rfl _ _ _ ((s.data.toList.take i).flatMap byteW) rfl HO.out.2.2.2 HR.out.2 _ _ _ [s[i]] rfl rfl (fun h => by cases h) HR.out.1 (by rw [← HO.out.2.2.2]; show (n + 1) * 1 ≤ 140737488355328; omega) (by rw [← HO.out.2.2.2]; show n + 1 ≤ 140737488355328; omega) ?_; intro o6 c6 w6 ho6 hap6; have H6 : Hid (Own BE w6 o6 c6 ((s.data.toList.take (i + 1)).flatMap byteW) ∧ New w o6 ∧ Keeps no w w6) := ⟨by rw [HT.out, HB.out]; exact ho6, hap6.new (w0 := w) HO.out.2.1 (HO.out.2.2.1.trans ((Keeps.refl _ _).alloc _))⟩; clear ho6 hap6)
          go_roundw
          case rel => exact ⟨i + 1, o6, n + 1, c6, by omega, by omega, rfl, by go_num, H6.out.1, H6.out.2.1, H6.out.2.2, by rw [HT.out, HB.out, List.length_append, ← HO.out.2.2.2]; rfl⟩
          case measure => first | (simp [intOf]; done) | (simp [intOf]; omega)
        | false =>
          have HB : Hid (byteW s[i] = [37, hexD ((s[i]).toNat / 16), hexD ((s[i]).toNat % 16)]) := by show _ = _; unfold byteW; rw [if_neg (by rw [hp]; decide)]
          clear hp
          obtain ⟨p, hp⟩ : ∃ p, p = hexD ((s[i]).toNat / 16) := ⟨_, rfl⟩
          obtain ⟨q, hq⟩ : ∃ q, q = hexD ((s[i]).toNat % 16) := ⟨_, rfl⟩
          rw [← hp, ← hq] at HH HB
          clear hp hq
          have HR : Hid (Row BE (w2.alloc (.cells #[.int .u8 37, .int .u8 (p.toNat : Nat), .int .u8 (q.toNat : Nat)] 5)) (some ⟨w2.heap.size, 0, none⟩) [37, p, q] ∧ Own BE (w2.alloc (.cells #[.int .u8 37, .int .u8 (p.toNat : Nat), .int .u8 (q.toNat : Nat)] 5)) o c ((s.data.toList.take i).flatMap byteW)) := ⟨(lit_many (E := BE) w2 [37, p, q] #[.int .u8 37, .int .u8 (p.toNat : Nat), .int .u8 (q.toNat : Nat)] rfl (by simp)).row, HO.out.1.keepsN ((Keeps.refl _ _).alloc _)⟩
          go_wp2_with fail
          refine (HH.out.1 _).mono ?_
          rintro e w3 ⟨rfl, hw3⟩
          subst hw3
          go_wp2_with fail
          refine (HH.out.2 _).mono ?_
          rintro e w4 ⟨rfl, hw4⟩
          subst hw4
          clear HH
          go_wp2_with (at_builtin; refine wpList_app okB rfl _ _ rfl _ _ _ ((s.data.toList.take i).flatMap byteW) rfl HO.out.2.2.2 HR.out.2 _ _ _ [37, p, q] rfl rfl (fun h => by cases h) HR.out.1 (by rw [← HO.out.2.2.2]; show (n + 3) * 1 ≤ 140737488355328; omega) (by rw [← HO.out.2.2.2]; show n + 3 ≤ 140737488355328; omega) ?_; intro o6 c6 w6 ho6 hap6; have H6 : Hid (Own BE w6 o6 c6 ((s.data.toList.take (i + 1)).flatMap byteW) ∧ New w o6 ∧ Keeps no w w6) := ⟨by rw [HT.out, HB.out]; exact ho6, hap6.new (w0 := w) HO.out.2.1 (HO.out.2.2.1.trans ((Keeps.refl _ _).alloc _))⟩; clear ho6 hap6)
          go_roundw
          case rel => exact ⟨i + 1, o6, n + 3, c6, by omega, by omega, rfl, by go_num, H6.out.1, H6.out.2.1, H6.out.2.2, by rw [HT.out, HB.out, List.length_append, ← HO.out.2.2.2]; rfl⟩
          case measure => first | (simp [intOf]; done) | (simp [intOf]; omega)
      · have hltI : ¬ (i : Int) < s.size := by omega
        have hi : i = s.size := by omega
        have HF : Hid (∃ g, o = some ⟨g, 0, none⟩ ∧ Own BE wr (some ⟨g, 0, none⟩) c (s.data.toList.flatMap byteW) ∧ n = (s.data.toList.flatMap byteW).length) := by
          have h1 := HO.out.1
          have h2 := HO.out.2.2.2
          rw [hi, List.take_of_length_le (by rw [data_len]; exact Nat.le_refl _)] at h1 h2
          rcases h1.shape with ⟨_, _, e⟩ | ⟨g, cur, e, _⟩
          · exfalso
            obtain ⟨a, l, hal⟩ : ∃ a l, s.data.toList = a :: l := by
              cases hd : s.data.toList with
              | nil => exact absurd hd HL.out.2
              | cons a l => exact ⟨a, l, rfl⟩
            rw [hal] at e
            exact (flat_ne a l).1 e
          · exact ⟨g, e, by rw [← e]; exact h1, h2⟩
        obtain ⟨g, rfl, hg, hn⟩ := HF.out
        have hcv := convB hg
        rw [← hn] at hcv
        have HK : Hid (Keeps no w wr) := HO.out.2.2.1
        clear HO HF hg hn hi
        go_wp2_with fail
        go_ret
        rw [HL.out.1]
        exact ⟨rfl, HK.out⟩
end Go.Proofs.YtjkljljmjjnneaaGreatDoor
