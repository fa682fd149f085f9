/- The document's Scan. -/
import Derived.Test.YtdalheeifgampabDoorE8
namespace Go.Proofs.YtdalheeifgampabDoor
open Go.RowKit Go.Sort Orl Pk
set_option linter.unusedVariables false
set_option linter.unusedSimpArgs false

set_option maxRecDepth 10000 in
set_option maxHeartbeats 1000000 in
theorem dScan_any (w : World) (o : Option Addr) (n c : Nat) (b : List Nat) (hn : n = b.length) (hnb : (n : Int) ≤ 1099511627776) (hs : BSl w o c b) :
    Calls Tryd.prog 10 #[.slice o n c] w (ScanTo w b) := by
  have HN : Hid (n = b.length) := hn
  clear hn
  go_enter Tryd.func10, Tryd.ntmps10
  go_wp2_with fail
  go_loopw [4, 5] (fun s t wr => ∃ (q : Option Addr) (m d T : Nat) (vs : List CV) (rs : List Rec), s = .slice q m d ∧ t = .int .i64 (T : Nat) ∧ Hid (m = rs.length ∧ Scn w wr q d vs rs ∧ Run b rs T) ∧ T ≤ n ∧ (m : Int) * 8 ≤ T ∧ Hid (Keeps no w wr)) (fun _ t _ => n - (intOf t).toNat)
  case atStart => exact ⟨none, 0, 0, 0, [], [], rfl, rfl, ⟨rfl, scn_nil _ _, Run.nil⟩, by omega, by omega, Keeps.refl _ _⟩
  case round =>
    rename World => wq
    obtain ⟨q, m, d, T, vs, rs, rfl, rfl, HS, hT, hm8, HK⟩ := hrel
    obtain ⟨A, dA, hcut, hslA, _⟩ := cut_l w o c b n T T rfl HN.out hT hs
    have HSA : Hid (BSl wq A dA (b.drop T)) := hslA.keeps HK.out (fun _ _ h => h)
    have HNT : Hid (n - T = (b.drop T).length) := by show _ = _; rw [List.length_drop, ← HN.out]
    obtain ⟨NT, hNT⟩ : ∃ N, N = n - T := ⟨_, rfl⟩
    rw [← hNT] at hcut HNT
    have hNTb : (NT : Int) ≤ 1099511627776 := by omega
    clear hslA hNT
    go_wp2_with fail
    refine (dParse_any wq A NT dA (b.drop T) HNT.out (by omega) HSA.out).mono ?_
    rintro e w2 ⟨k, i, op, np, cp, ok, nk, ck, M, E, rfl, HP, hM, hE, hk2⟩
    have HK2 : Hid (Keeps no wq w2) := hk2
    clear hk2
    have HG := HP.out.1
    by_cases hE0 : E = 0
    · subst hE0
      have HPE : Hid (parse (b.drop T) = ((parse (b.drop T)).1, M, 0)) := by
        show _ = _
        have h1 := HP.out.2.1; have h2 := HP.out.2.2
        rw [h1]
        conv => rhs; rw [h2]
      have hbk := parse_back (byt_drop hs.row.1 T) HPE.out
      have HBK : Hid (8 ≤ M ∧ M ≤ NT) := by
        have h1 := hbk.2.2.2.1; have h2 := hbk.2.2.2.2.1
        rw [enc_length] at h1
        have := HNT.out
        exact ⟨by omega, by omega⟩
      have hMN : M ≤ NT ∧ 8 ≤ M := ⟨HBK.out.2, HBK.out.1⟩
      clear hbk
      have hTM : T + M ≤ n := by have := HNT.out; rw [List.length_drop, ← HN.out] at this; omega
      have HSC : Hid (Scn w wq q d vs rs ∧ m = rs.length ∧ vs.length = rs.length) := ⟨HS.out.2.1, HS.out.1, HS.out.2.1.len⟩
      have hmb : (m : Int) ≤ 137438953472 := by omega
      have k3 : Keeps no w2 (w2.alloc (.cells #[.int .i64 k, .int .u64 (i : Nat), .slice op np cp, .slice ok nk ck] 30)) := (Keeps.refl _ _).alloc _
      have k4 := k3.alloc (.cells #[.int .i64 k, .int .u64 (i : Nat), .slice op np cp, .slice ok nk ck] 30)
      have HO4 : Hid (Own CE ((w2.alloc (.cells #[.int .i64 k, .int .u64 (i : Nat), .slice op np cp, .slice ok nk ck] 30)).alloc (.cells #[.int .i64 k, .int .u64 (i : Nat), .slice op np cp, .slice ok nk ck] 30)) q d vs) := HSC.out.1.own.keepsN (HK2.out.trans k4)
      have HN1 : Hid (Sl CE ((w2.alloc (.cells #[.int .i64 k, .int .u64 (i : Nat), .slice op np cp, .slice ok nk ck] 30)).alloc (.cells #[.int .i64 k, .int .u64 (i : Nat), .slice op np cp, .slice ok nk ck] 30)) (some ⟨w2.heap.size + 1, 0, none⟩) 1 [⟨k, i, op, np, cp, ok, nk, ck⟩]) := by
        have := own_oneC (w2.alloc (.cells #[.int .i64 k, .int .u64 (i : Nat), .slice op np cp, .slice ok nk ck] 30)) ⟨k, i, op, np, cp, ok, nk, ck⟩
        simp at this
        exact this
      have HK4 : Hid (Keeps no w2 ((w2.alloc (.cells #[.int .i64 k, .int .u64 (i : Nat), .slice op np cp, .slice ok nk ck] 30)).alloc (.cells #[.int .i64 k, .int .u64 (i : Nat), .slice op np cp, .slice ok nk ck] 30))) := k4
      clear k3 k4 HG
      go_wp2_with (at_builtin; go_must (refine wpList_app okC rfl _ _ rfl q m d vs rfl (by rw [HSC.out.2.1, HSC.out.2.2]) HO4.out _ _ _ [⟨k, i, op, np, cp, ok, nk, ck⟩] rfl rfl (fun h => by cases h) HN1.out.row (by have := HSC.out.2; simp [CE]; omega) (by have := HSC.out.2; simp; omega) ?_); intro o' c' w' ho hap)
      go_roundw
      case rel =>
        have hkk := HK2.out.trans HK4.out
        refine ⟨o', m + 1, c', T + M, vs ++ [⟨k, i, op, np, cp, ok, nk, ck⟩], rs ++ [(parse (b.drop T)).1], rfl, by go_num, ⟨by simp [HSC.out.2.1], ?_, Run.snoc HS.out.2.2 HPE.out⟩, hTM, by omega, ?_⟩
        · exact HSC.out.1.push HK.out.size (HP.out.1.keepsN HK4.out) hkk ho hap
        · rcases hap with ⟨_, hh⟩ | ⟨_, hh⟩
          · exact (HK.out.trans hkk).then hh (fun j hj => .inr (HSC.out.1.new j hj))
          · exact (HK.out.trans hkk).trans hh
      case measure => simp [intOf]; omega
    · have hE1 : ((E : Int) == 0) = false := by simp; omega
      have hE2 : ¬ (E : Int) = 0 := by omega
      have HPE : Hid ((parse (b.drop T)).2.2 ≠ 0) := by show _ ≠ _; rw [← HP.out.2.2]; exact hE0
      go_wp2_with fail
      go_ret2
      refine ⟨q, m, d, T, vs, rs, rfl, ⟨?_, HS.out.1, HS.out.2.2, HPE.out⟩, by omega, by omega, ?_⟩
      · exact HS.out.2.1.keepsN (HK2.out.alloc _)
      · exact HK.out.trans (HK2.out.alloc _)
end Go.Proofs.YtdalheeifgampabDoor
