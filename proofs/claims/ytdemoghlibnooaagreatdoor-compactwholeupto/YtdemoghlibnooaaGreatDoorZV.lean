import Derived.Test.YtdemoghlibnooaaGreatDoorZO
/- alive, and CompactNone. -/
namespace Go.Proofs.YtdemoghlibnooaaGreatDoor
open Go.RowKit Go.Maps Go.Sort Orl Pk
set_option linter.unusedVariables false
set_option linter.unusedSimpArgs false

theorem on_newZ : On Dk.new := ⟨rfl, rfl⟩
theorem dn_newZ (w : World) : Calls Tryz.prog 7 #[] w fun e w' => ∃ p, e = .returned (.pointer (some ⟨p, 0, none⟩)) ∧ Hid (Dn w w' p (fun k => w.heap.size ≤ k ∧ k < w'.heap.size) Dk.new) := by
  refine (new_anyW w).mono ?_
  rintro e w' ⟨p, rfl, hi, hk⟩
  exact ⟨p, rfl, ⟨hi, fun k hk => hk.1, hk⟩⟩
theorem logN1 : logN ((0 + 1 : Nat) : Int) = ⟨#[108, 111, 103, 46, 49]⟩ := by
  unfold logN
  rw [Lib.itoa_nonneg, Lib.decDigits_one (by omega)]
  rfl
theorem run_new (b : List UInt8) : runF b 0 Dk.new = (⟨[(snapB, fl b)], false, 0, -1, 0⟩, 0) := by
  have h1 : begS 0 Dk.new = (Dk.new, 0) := by
    unfold begS
    rw [on_newZ.tick]
    simp [sweepF, Dk.names, Dk.new]
  have a1 := app_on (s := Dk.new) (n := tmpB) (b := b) on_newZ rfl tmp_good (fun _ => by simp [Dk.new])
  have h2 : layS b Dk.new = (⟨[(snapB, fl b)], false, 0, -1, 0⟩, 0) := by
    unfold layS
    rw [a1, bnd_pair]
    show bnd (Dk.counted (lay1 tmpB ⟨bsOf tmpB Dk.new ++ b, syOf tmpB Dk.new⟩ Dk.new) (Dk.syncOn tmpB)) _ = _
    rw [sync_on (on_newZ.lay1 _ _) (find_lay1 _ _ _), bnd_pair]
    show Dk.counted (lay1 tmpB ⟨b, b.length⟩ (lay1 tmpB ⟨b, 0⟩ Dk.new)) (Dk.renameOn tmpB snapB) = _
    rw [((on_newZ.lay1 _ _).lay1 _ _).counted]
    unfold Dk.renameOn Dk.onF
    rw [if_pos snap_good, find_lay1]
    rfl
  unfold runF runS
  rw [h1, bnd_pair, h2, bnd_pair]
  have h3 : sweepF (Dk.names (Dk.tick Dk.new).fs) [logB ((0 : Nat) : Int)] ⟨[(snapB, fl b)], false, 0, -1, 0⟩ = (⟨[(snapB, fl b)], false, 0, -1, 0⟩, 0) := by
    rw [on_newZ.tick]
    simp [sweepF, Dk.names, Dk.new]
  rw [h3, bnd_pair]
  rfl
def txA : Tx := ⟨#[97]⟩
def tx1 : Tx := ⟨#[49]⟩
def SA : St := commitS (putAll 65536 [txA] 0 St.new (miss St.new 65536 [(txA, tx1)])) 65536 0
theorem sa_last : SA.last txA = 65536 := by
  unfold SA
  rw [com_last, if_pos]
  rw [upB_iff]
  refine ⟨?_, ?_⟩
  · have hm : miss St.new 65536 [(txA, tx1)] = [(txA, tx1)] := rfl
    rw [hm]
    show (put1 65536 [txA] 0 St.new (txA, tx1)).V (txA, 65536) ≠ none
    unfold put1 St.add
    simp
  · rw [putAll_last]
    show (0 : Nat) < 65536
    omega
theorem put_okA : okPut 65536 [(txA, tx1)] [txA] 0 = true := by decide
theorem Sto.last {B : Nat} {w : World} {p : Nat} {s : St} {N : Nat} {P : Nat → Prop} (h : Sto B w p s N P) (k : Tx) (hk : k.size ≤ 65535) :
    Calls Tryz.prog 44 #[.pointer (some ⟨p, 0, none⟩), .string k] w fun e w' => e = .returned (.int .u64 ((s.last k : Nat) : Int)) ∧ w' = w := by
  obtain ⟨T, hi, _⟩ := h
  exact last_any w p T s N k hi (by unfold maxLen; omega)
set_option maxRecDepth 10000 in
set_option maxHeartbeats 1000000 in
theorem alive_any (w : World) (ht : Tabs w) : Calls Tryz.prog 6 #[] w fun e w' => e = .returned (.bool true) ∧ Keeps no w w' := by
  have HT : Hid (Tabs w) := ht
  clear ht
  go_enter Tryz.func6, Tryz.ntmps6
  go_wp2_with fail
  refine (dn_newZ w).mono ?_
  rintro e w1 ⟨p, rfl, D1⟩
  obtain ⟨F, hF⟩ : ∃ F : Nat → Prop, F = (fun k => w.heap.size ≤ k ∧ k < w1.heap.size) := ⟨_, rfl⟩
  rw [← hF] at D1
  have HF : Hid (∀ k, F k → w.heap.size ≤ k ∧ k < w1.heap.size) := fun k hk => by rw [hF] at hk; exact hk
  clear hF
  go_wp2_with fail
  refine (sto_new w1).mono ?_
  rintro e w2 ⟨q, rfl, H2⟩
  obtain ⟨W2, hW2⟩ : ∃ W, W = (w2.alloc (.cells #[.string txA, .string tx1] 85)).alloc (.cells #[.string txA] 9) := ⟨_, rfl⟩
  have K2 : Hid (Keeps no w2 W2) := by rw [hW2]; exact ((Keeps.refl no _).alloc _).alloc _
  have hsp : Hid (Sl PE W2 (some ⟨w2.heap.size, 0, none⟩) 1 [(txA, tx1)]) := by rw [hW2]; exact (own_oneP w2 txA tx1).keepsN ((Keeps.refl no _).alloc _)
  have hsk : Hid (Sl TE W2 (some ⟨w2.heap.size + 1, 0, none⟩) 1 [txA]) := by
    have h2 := own_one (w2.alloc (.cells #[.string txA, .string tx1] 85)) txA
    rw [World.size_alloc] at h2
    rw [hW2]; exact h2
  have hput := Sto.put (((H2.out.1.other K2.out (fun b hb => hb.elim)).sub (Q := no) (fun b hb => hb.elim))) 65536 [(txA, tx1)] [txA] 0 (some ⟨w2.heap.size, 0, none⟩) 1 1 (some ⟨w2.heap.size + 1, 0, none⟩) 1 1 (by omega) rfl rfl hsp.out hsk.out (by simp) put_okA (by omega)
  have HPU : Hid (Calls Tryz.prog 42 #[.pointer (some ⟨q, 0, none⟩), .int .u64 ((65536 : Nat) : Int), .slice (some ⟨w2.heap.size, 0, none⟩) 1 1, .slice (some ⟨w2.heap.size + 1, 0, none⟩) 1 1, .int .i64 0] W2 _) := hput
  rw [hW2] at HPU
  clear hput
  go_wp2_with fail
  refine Calls.mono HPU.out ?_
  rw [← hW2]
  rintro e w3 ⟨⟨Bz, rfl⟩, H3⟩
  clear HPU hW2 hsp hsk
  go_wp2_with fail
  refine (Sto.commit H3.out.1 65536 0 (by omega) (by omega) (by decide) (by simp)).mono ?_
  rintro e w4 ⟨⟨nz, rfl⟩, H4⟩
  have H4' : Hid (Sto w1.heap.size w4 q SA 1 no) := H4.out.1
  have K14 : Hid (Keeps no w1 w4) := ((H2.out.2.trans K2.out).then H3.out.2 (fun b hb => .inr hb.1)).then H4.out.2 (fun b hb => .inr hb.1)
  have D4 : Hid (Dn w w4 p F Dk.new) := D1.out.beside K14.out
  have S4 : Hid (Sto w.heap.size w4 q SA 1 F) := by
    obtain ⟨T, hi, ho, hB, hP⟩ := H4'.out
    refine ⟨T, hi, ho, fun b hb => Nat.le_trans D1.out.kept.size (hB b hb), fun b hb => ⟨?_, Nat.lt_of_lt_of_le (HF.out b hb).2 K14.out.size⟩⟩
    cases hT : T b with
    | none => rfl
    | some r => have := hB b (by rw [hT]; simp); have := (HF.out b hb).2; omega
  clear H2 H3 H4 K2 H4'
  have hrun := run_any D4.out HT.out S4.out (fun b hb => hb) (by omega) 0 (by omega)
  go_wp2_with fail
  refine hrun.mono ?_
  rintro e w5 ⟨b, F5, t5, E5, HB, HF5, HD5, HE⟩
  clear hrun
  have hr := HB.out.2
  rw [run_new] at hr
  have hE5 : E5 = 0 := by injection hr with _ h; exact h.symm
  have ht5 : t5 = ⟨[(snapB, fl b)], false, 0, -1, 0⟩ := by injection hr with h _; exact h.symm
  subst hE5 ht5
  rcases HE with ⟨h0, _⟩ | ⟨_, l, rfl, HL⟩
  · exact absurd rfl h0
  have HL1 : Hid (IsL w5 l p ⟨#[108, 111, 103, 46, 49]⟩ 0) := by rw [← logN1]; exact HL.out.1
  have S5 : Hid (Sto w.heap.size w5 q SA 1 (fun b => F b ∨ (w4.heap.size ≤ b ∧ b < w5.heap.size))) := S4.out.other HD5.out.2 (fun b hb => .inr hb)
  have hsz := LogSize_any w5 l p ⟨#[108, 111, 103, 46, 49]⟩ 0 HL1.out
  have hnm := LogName_any w5 l p ⟨#[108, 111, 103, 46, 49]⟩ 0 HL1.out
  have hls := list_any w5 p F5 _ HD5.out.1.is
  have on5 : On (⟨[(snapB, fl b)], false, 0, -1, 0⟩ : Dk.St) := ⟨rfl, rfl⟩
  rw [on5.tick, show Dk.listE (⟨[(snapB, fl b)], false, 0, -1, 0⟩ : Dk.St) = 0 from rfl, show Dk.listN (⟨[(snapB, fl b)], false, 0, -1, 0⟩ : Dk.St) = [snapB] from rfl] at hls
  clear hr HB HL on5
  go_wp2_with (first | (go_at_call 21; refine hsz.mono ?_; rintro e w6 ⟨rfl, hw⟩; subst w6) | (go_at_call 38; refine hnm.mono ?_; rintro e w6 ⟨rfl, hw⟩; subst w6) | fail)
  refine hls.mono ?_
  rintro e w6 ⟨o6, c6, m6, rfl, hm6, ho6, hw6, hd6, hk6⟩
  clear hls hsz hnm
  have hm : m6 = 1 := hm6.out
  subst hm
  obtain ⟨bb, off, rfl, f0⟩ := ho6.sl.at (j := 0) (by simp)
  have f0' : w6.cell? ⟨bb, off, none⟩ = some (.string ⟨#[115, 110, 97, 112]⟩) := f0
  have S6 : Hid (Sto w.heap.size w6 q SA 1 no) := (S5.out.other hk6 (fun b hb => .inr (HF5.out b hb))).sub (fun b hb => hb.elim)
  have hla := Sto.last S6.out txA (by decide)
  rw [sa_last] at hla
  clear f0 ho6 hw6 hd6 hm6
  go_wp2_with (first | (go_at_call 44; refine hla.mono ?_; rintro e w7 ⟨rfl, hw⟩; subst w7) | fail)
  go_ret
  exact ⟨rfl, HD5.out.1.kept.then hk6 (fun b hb => .inr (HD5.out.1.new b hb))⟩
theorem run_arg (w : World) (d q : Option Addr) (g : Int) (h : d = none ∨ q = none ∨ g < 0 ∨ 1099511627776 ≤ g) :
    Calls Tryz.prog 11 #[.pointer d, .pointer q, .int .i64 g] w fun e w' => e = .returned (.tuple #[.pointer none, .int .i64 0, .int .i64 1]) ∧ w' = w := by
  cases d with
  | none =>
    go_enter Tryz.func11, Tryz.ntmps11
    go_wp2
    go_ret3
    exact ⟨rfl, rfl⟩
  | some d =>
    cases q with
    | none =>
      go_enter Tryz.func11, Tryz.ntmps11
      go_wp2
      go_ret3
      exact ⟨rfl, rfl⟩
    | some q =>
      have h : g < 0 ∨ 1099511627776 ≤ g := by
        rcases h with h | h | h
        · cases h
        · cases h
        · exact h
      by_cases h0 : g < 0
      · clear h
        go_enter Tryz.func11, Tryz.ntmps11
        go_wp2
        go_ret3
        exact ⟨rfl, rfl⟩
      · have h1 : 1099511627776 ≤ g := by omega
        clear h
        go_enter Tryz.func11, Tryz.ntmps11
        go_wp2
        go_ret3
        exact ⟨rfl, rfl⟩
theorem i64_and3 (n : Int) : bits .and .i64 n 3 = n % 4 := by
  have h1 : (BitVec.ofInt 64 3).toNat = 2 ^ 2 - 1 := by decide
  have key : (BitVec.ofInt 64 n &&& BitVec.ofInt 64 3).toNat = (n % ((2 ^ 64 : Nat) : Int)).toNat % 2 ^ 2 := by
    rw [BitVec.toNat_and, BitVec.toNat_ofInt, h1, Nat.and_two_pow_sub_one_eq_mod]
  show IntKind.i64.wrap ((BitVec.ofInt 64 n &&& BitVec.ofInt 64 3).toNat : Nat) = n % 4
  rw [key, IntKind.wrap_i64]
  omega
theorem i64_and24 (n : Int) : bits .and .i64 n 16777215 = n % 16777216 := by
  have h1 : (BitVec.ofInt 64 16777215).toNat = 2 ^ 24 - 1 := by decide
  have key : (BitVec.ofInt 64 n &&& BitVec.ofInt 64 16777215).toNat = (n % ((2 ^ 64 : Nat) : Int)).toNat % 2 ^ 24 := by
    rw [BitVec.toNat_and, BitVec.toNat_ofInt, h1, Nat.and_two_pow_sub_one_eq_mod]
  show IntKind.i64.wrap ((BitVec.ofInt 64 n &&& BitVec.ofInt 64 16777215).toNat : Nat) = n % 16777216
  rw [key, IntKind.wrap_i64]
  omega
def SN : Dk.St := Dk.arm 0 0 (lay1 snapB ⟨[120], 0⟩ Dk.new)
set_option maxRecDepth 10000 in
set_option maxHeartbeats 1000000 in
theorem none_any (w : World) (ht : Tabs w) (gen which : Int) (hg0 : -9223372036854775808 ≤ gen) (hg1 : gen ≤ 9223372036854775807) (hw0 : -9223372036854775808 ≤ which) (hw1 : which ≤ 9223372036854775807) :
    Calls Tryz.prog 3 #[.int .i64 gen, .int .i64 which] w fun e w' => e = .returned (.bool true) ∧ Keeps no w w' := by
  have HT : Hid (Tabs w) := ht
  obtain ⟨k, hk, hk4⟩ : ∃ k : Nat, bits .and .i64 which 3 = ((k : Nat) : Int) ∧ k < 4 := ⟨(which % 4).toNat, by rw [i64_and3]; omega, by omega⟩
  obtain ⟨m, hm, hm4⟩ : ∃ m : Nat, bits .and .i64 gen 16777215 = ((m : Nat) : Int) ∧ m < 16777216 := ⟨(gen % 16777216).toNat, by rw [i64_and24]; omega, by omega⟩
  have hm5 : (m : Int) < 16777216 := by omega
  clear ht hg0 hg1 hw0 hw1 hm4
  go_enter Tryz.func3, Tryz.ntmps3
  go_wp2_with fail
  refine (alive_any w HT.out).mono ?_
  rintro e w1 ⟨rfl, hk1⟩
  have K1 : Hid (Keeps no w w1) := hk1
  clear hk1
  go_wp2_with fail
  refine (dn_newZ w1).mono ?_
  rintro e w2 ⟨p, rfl, D2⟩
  obtain ⟨F, hF⟩ : ∃ F : Nat → Prop, F = (fun k => w1.heap.size ≤ k ∧ k < w2.heap.size) := ⟨_, rfl⟩
  rw [← hF] at D2
  clear hF
  go_wp2_with fail
  refine (sto_new w2).mono ?_
  rintro e w3 ⟨q, rfl, H3⟩
  have D3 : Hid (Dn w1 w3 p F Dk.new) := D2.out.beside H3.out.2
  obtain ⟨W3, hW3⟩ : ∃ W, W = w3.alloc (.cells #[.int .u8 120] 5 (1, 2)) := ⟨_, rfl⟩
  have kc := fun (w : World) (C : Array Value) (n c : Nat) => Lib.run_convert_bytes_const (P := Tryz.prog) w 29 5 C n c Tryz.underlying29 Tryz.underlying5
  have D3' : Hid (Dn w1 W3 p F Dk.new) := by rw [hW3]; exact D3.out.beside ((Keeps.refl no _).alloc _)
  have hap := dn_append snapN (some ⟨w3.heap.size, 0, none⟩) 1 1 [120] D3'.out (app_on on_newZ rfl snap_good (fun _ => by simp [Dk.new])) (by unfold maxLen; decide) rfl (by rw [hW3]; exact lit_sl w3 [120] 1 (1, 2) (by simp)) (fun k hk hF => by
      have : k = w3.heap.size := in_some hk
      have := D3.out.is.lt k hF
      omega) (by simp) (fun f hf => by rw [on_newZ.tick] at hf; cases hf)
  have HAP : Hid (Calls Tryz.prog 9 #[.pointer (some ⟨p, 0, none⟩), .string ⟨#[115, 110, 97, 112]⟩, .slice (some ⟨w3.heap.size, 0, none⟩) 1 1] W3 _) := hap
  rw [hW3] at HAP
  clear hap
  go_wp2_with fail
  refine Calls.mono HAP.out ?_
  rw [← hW3]
  rintro e w4 ⟨rfl, D4, hk4⟩
  have D4 : Hid (Dn w1 w4 p (grow F W3 w4) (lay1 snapB ⟨bsOf snapB Dk.new ++ [120], syOf snapB Dk.new⟩ Dk.new)) := D4
  clear HAP hW3 hk4 D3 D3' kc
  go_wp2_with fail
  refine (dn_arm 0 0 D4.out (s' := Dk.arm 0 0 (lay1 snapB ⟨bsOf snapB Dk.new ++ [120], syOf snapB Dk.new⟩ Dk.new)) rfl (by unfold i64; omega) (by unfold i64; omega)).mono ?_
  rintro e w5 ⟨rfl, D5', hk5⟩
  have D5 : Hid (Dn w1 w5 p (grow F W3 w4) (Dk.arm 0 0 (lay1 snapB ⟨bsOf snapB Dk.new ++ [120], syOf snapB Dk.new⟩ Dk.new))) := D5'
  clear D5' hk5
  have hdn := down_anyW w5 p (grow F W3 w4) _ D5.out.is
  rw [show (Dk.arm 0 0 (lay1 snapB ⟨bsOf snapB Dk.new ++ [120], syOf snapB Dk.new⟩ Dk.new)).off = false from rfl] at hdn
  have hr : ∀ (d q : Option Addr) (g : Int), (d = none ∨ q = none ∨ g < 0 ∨ 1099511627776 ≤ g) → Calls Tryz.prog 11 #[.pointer d, .pointer q, .int .i64 g] w5 fun e w' => e = .returned (.tuple #[.pointer none, .int .i64 0, .int .i64 1]) ∧ w' = w5 := fun d q g h => run_arg w5 d q g h
  have HKW : Hid (Keeps no w w5) := K1.out.trans D5.out.kept
  clear H3 D2 D4
  match k, hk4 with
  | 0, _ =>
    go_wp2_with (first | (go_at_call 11; refine (hr _ _ _ (.inl rfl)).mono ?_; rintro e w6 ⟨rfl, hw⟩; subst w6) | (go_at_call 12; refine hdn.mono ?_; rintro e w6 ⟨rfl, hw⟩; subst w6) | fail)
    go_ret
    exact ⟨rfl, HKW.out⟩
  | 1, _ =>
    go_wp2_with (first | (go_at_call 11; refine (hr _ _ _ (.inr (.inl rfl))).mono ?_; rintro e w6 ⟨rfl, hw⟩; subst w6) | (go_at_call 12; refine hdn.mono ?_; rintro e w6 ⟨rfl, hw⟩; subst w6) | fail)
    go_ret
    exact ⟨rfl, HKW.out⟩
  | 2, _ =>
    go_wp2_with (first | (go_at_call 11; refine (hr _ _ _ (.inr (.inr (.inl (by omega))))).mono ?_; rintro e w6 ⟨rfl, hw⟩; subst w6) | (go_at_call 12; refine hdn.mono ?_; rintro e w6 ⟨rfl, hw⟩; subst w6) | fail)
    go_ret
    exact ⟨rfl, HKW.out⟩
  | 3, _ =>
    go_wp2_with (first | (go_at_call 11; refine (hr _ _ _ (.inr (.inr (.inr (by omega))))).mono ?_; rintro e w6 ⟨rfl, hw⟩; subst w6) | (go_at_call 12; refine hdn.mono ?_; rintro e w6 ⟨rfl, hw⟩; subst w6) | fail)
    go_ret
    exact ⟨rfl, HKW.out⟩
end Go.Proofs.YtdemoghlibnooaaGreatDoor
