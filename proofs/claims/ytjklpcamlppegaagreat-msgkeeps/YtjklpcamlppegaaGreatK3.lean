/- MsgKeeps: 'marked' (written by wip/tools/mkmarked8.py). -/
import Derived.Test.YtjklpcamlppegaaGreatK2
namespace Go.Proofs.YtjklpcamlppegaaGreat
open Go.RowKit Go.Sort Orl Pk
set_option linter.unusedVariables false
set_option linter.unusedSimpArgs false

theorem bvB (i : Nat) : ((mkB i : Nat) : Int) = 100 + (i : Int) := by unfold mkB; omega

set_option maxHeartbeats 40000000 in
set_option maxRecDepth 10000 in
theorem marked_any (B : Nat) (w : World) (oA : Option Addr) (N cA : Nat) (L : List (LS Nat)) (oX : Option Addr) (NX cX : Nat) (Y : List (LS Tx)) (hN : N = L.length) (hNX : NX = Y.length) (hN2 : N ≤ 100) (hNX2 : NX ≤ 100) (hB : B ≤ w.heap.size)
    (hL : Half1 BB ZE B oA cA L (fun j => (L.getD j ls0).xs) w) (hY : Half1 TE XE B oX cX Y (fun j => (Y.getD j ls0).xs) w)
    (fL : ∀ j, j < L.length → ((L.getD j ls0).xs.length : Int) ≤ 2000000) (fY : ∀ j, j < Y.length → ((Y.getD j ls0).xs.length : Int) ≤ 8796093022000) :
    Calls Tryz.prog 16 #[.slice oA N cA, .slice oX NX cX] w fun e w' => e = .returned (.bool true) ∧ Keeps (fun k => B ≤ k) w w' := by
  have HS : Hid (N = L.length ∧ NX = Y.length ∧ B ≤ w.heap.size ∧ (∀ j, j < L.length → ((L.getD j ls0).xs.length : Int) ≤ 2000000) ∧ (∀ j, j < Y.length → ((Y.getD j ls0).xs.length : Int) ≤ 8796093022000)) := ⟨hN, hNX, hB, fL, fY⟩
  have H0 : Hid (One B w oA cA L (fun j => (L.getD j ls0).xs) oX cX Y (fun j => (Y.getD j ls0).xs) w) := ⟨hL, hY, Keeps.refl _ _⟩
  clear hN hNX hB hL hY fL fY
  go_enter Tryz.func16, Tryz.ntmps16
  go_wp2_with fail
  go_loopw [7] (fun s wr => ∃ (i : Nat) (F : Nat → List Nat), i ≤ N ∧ s = .int .i64 i ∧ Hid (One B w oA cA L F oX cX Y (fun j => (Y.getD j ls0).xs) wr ∧ ∀ j, j < i → F j = rep mkB L j)) (fun s _ => N - (intOf s).toNat)
  case atStart => exact ⟨0, _, by omega, rfl, ⟨H0.out, fun j hj => by omega⟩⟩
  case round =>
    clear H0
    obtain ⟨i, F, hi, rfl, HI⟩ := hrel
    by_cases hlt : i < N
    · have hiL : i < L.length := by rw [← HS.out.1]; exact hlt
      obtain ⟨ba, eA⟩ : ∃ b, oA = some ⟨b, 0, none⟩ := by obtain ⟨b, e, _⟩ := HI.out.1.t.at kindZ i hiL; exact ⟨b, e⟩
      subst eA
      have hfit := HS.out.2.2.2.1 i hiL
      obtain ⟨si, hsi⟩ : ∃ si, si = L.getD i ls0 := ⟨_, rfl⟩
      obtain ⟨n, hn⟩ : ∃ n, n = si.xs.length := ⟨_, rfl⟩
      rw [← hsi, ← hn] at hfit
      have hnI : (n : Int) ≤ 2000000 := by omega
      have HSI : Hid (si = L.getD i ls0 ∧ n = (L.getD i ls0).xs.length ∧ i < L.length) := ⟨hsi, by rw [hn, hsi], hiL⟩
      have DX : Hid (∀ wr F, One B w (some ⟨ba, 0, none⟩) cA L F oX cX Y (fun j => (Y.getD j ls0).xs) wr → wr.cell? ⟨ba, i, none⟩ = some (.slice si.o n si.c)) := fun wr F h => by
        obtain ⟨b, e, hc⟩ := h.t.at kindZ i hiL
        cases e
        rw [hc, hn, hsi]
      clear hsi hn hfit hiL
      have d1 := DX.out wr F HI.out.1
      go_wp2_with fail
      go_loopw [8] (fun s wr => ∃ (k : Nat) (F : Nat → List Nat), k ≤ n ∧ s = .int .i64 k ∧ Hid (One B w (some ⟨ba, 0, none⟩) cA L F oX cX Y (fun j => (Y.getD j ls0).xs) wr ∧ (∀ j, j < i → F j = rep mkB L j) ∧ ∀ t, t < k → (F i).getD t 0 = mkB i)) (fun s _ => n - (intOf s).toNat)
      case atStart => exact ⟨0, F, by omega, rfl, ⟨HI.out.1, HI.out.2, fun t ht => by omega⟩⟩
      case round =>
        clear HI d1
        obtain ⟨k, F, hk, rfl, HI⟩ := hrel
        have d1 := DX.out wr F HI.out.1
        by_cases hkn : k < n
        · obtain ⟨g, eg, ⟨v1, q1⟩, q2, q3⟩ := HI.out.1.setT i k n HSI.out.2.2 hkn HSI.out.2.1 (mkB i)
          rw [← HSI.out.1] at eg
          rw [eg] at d1
          rw [bvB] at q3
          have HQ3 : Hid (One B w (some ⟨ba, 0, none⟩) cA L (fun j => if j = i then (F i).set k (mkB i) else F j) oX cX Y (fun j => (Y.getD j ls0).xs) (wr.setCell ⟨g, k, none⟩ (.int .u8 (100 + (i : Int))))) := q3
          have HLEN : Hid (k < (F i).length) := by rw [HI.out.1.t.fA i HSI.out.2.2, ← HSI.out.2.1]; exact hkn
          have hkI : (k : Int) < n := by omega
          clear q3 eg
          go_wp2_with fail
          (go_roundw
           case rel =>
             refine ⟨k + 1, (fun j => if j = i then (F i).set k (mkB i) else F j), by omega, by go_num, ⟨HQ3.out, fun j hj => ?_, fun t ht => ?_⟩⟩
             · show (if j = i then (F i).set k (mkB i) else F j) = _
               rw [if_neg (by omega)]; exact HI.out.2.1 j hj
             · show (if i = i then (F i).set k (mkB i) else F i).getD t 0 = _
               rw [if_pos rfl, getD_set _ _ _ _ _ HLEN.out]
               by_cases e : t = k
               · rw [if_pos e]
               · rw [if_neg e]; exact HI.out.2.2 t (by omega)
           case measure => simp [intOf] <;> omega)
        · go_wp2_with fail
          go_roundw
          case rel =>
            refine ⟨i + 1, F, by omega, by go_num, ⟨HI.out.1, fun j hj => ?_⟩⟩
            by_cases e : j = i
            · subst e
              exact rep_of mkB L j 0 (F j) (HI.out.1.t.fA j HSI.out.2.2) (fun t ht => HI.out.2.2 t (by have := HSI.out.2.1; omega))
            · exact HI.out.2.1 j (by omega)
          case measure => simp [intOf] <;> omega
    · have HFt : Hid (∀ j, j < L.length → F j = rep mkB L j) := fun j hj => HI.out.2 j (by have := HS.out.1; omega)
      have H0 : Hid (One B w oA cA L F oX cX Y (fun j => (Y.getD j ls0).xs) wr) := HI.out.1
      clear HI
      go_wp2_with fail
      clear hlt hi
      go_loopw [9] (fun s wr => ∃ (i : Nat) (H : Nat → List Tx), i ≤ NX ∧ s = .int .i64 i ∧ Hid (One B w oA cA L F oX cX Y H wr ∧ ∀ j, j < i → H j = rep mkS Y j)) (fun s _ => NX - (intOf s).toNat)
      case atStart => exact ⟨0, _, by omega, rfl, ⟨H0.out, fun j hj => by omega⟩⟩
      case round =>
        clear H0
        obtain ⟨i, H, hi, rfl, HI⟩ := hrel
        by_cases hlt : i < NX
        · have hiL : i < Y.length := by rw [← HS.out.2.1]; exact hlt
          obtain ⟨bx, eA⟩ : ∃ b, oX = some ⟨b, 0, none⟩ := by obtain ⟨b, e, _⟩ := HI.out.1.p.at kindT i hiL; exact ⟨b, e⟩
          subst eA
          have hfit := HS.out.2.2.2.2 i hiL
          obtain ⟨si, hsi⟩ : ∃ si, si = Y.getD i ls0 := ⟨_, rfl⟩
          obtain ⟨n, hn⟩ : ∃ n, n = si.xs.length := ⟨_, rfl⟩
          rw [← hsi, ← hn] at hfit
          have hnI : (n : Int) ≤ 8796093022000 := by omega
          have HSI : Hid (si = Y.getD i ls0 ∧ n = (Y.getD i ls0).xs.length ∧ i < Y.length) := ⟨hsi, by rw [hn, hsi], hiL⟩
          have DX : Hid (∀ wr H, One B w oA cA L F (some ⟨bx, 0, none⟩) cX Y H wr → wr.cell? ⟨bx, i, none⟩ = some (.slice si.o n si.c)) := fun wr H h => by
            obtain ⟨b, e, hc⟩ := h.p.at kindT i hiL
            cases e
            rw [hc, hn, hsi]
          clear hsi hn hfit hiL
          have d1 := DX.out wr H HI.out.1
          go_wp2_with fail
          go_loopw [10] (fun s wr => ∃ (k : Nat) (H : Nat → List Tx), k ≤ n ∧ s = .int .i64 k ∧ Hid (One B w oA cA L F (some ⟨bx, 0, none⟩) cX Y H wr ∧ (∀ j, j < i → H j = rep mkS Y j) ∧ ∀ t, t < k → (H i).getD t e0 = mkS i)) (fun s _ => n - (intOf s).toNat)
          case atStart => exact ⟨0, H, by omega, rfl, ⟨HI.out.1, HI.out.2, fun t ht => by omega⟩⟩
          case round =>
            clear HI d1
            obtain ⟨k, H, hk, rfl, HI⟩ := hrel
            have d1 := DX.out wr H HI.out.1
            by_cases hkn : k < n
            · have hO := HI.out.1.keepsN ((Keeps.refl _ _).alloc (mkO i))
              obtain ⟨g, eg, ⟨v1, q1⟩, q2, q3⟩ := hO.setP i k n HSI.out.2.2 hkn HSI.out.2.1 (mkS i)
              rw [← HSI.out.1] at eg
              rw [eg] at d1
              have r1 := cell_al d1 (mkO i)
              have HQ3 : Hid (One B w oA cA L F (some ⟨bx, 0, none⟩) cX Y (fun j => if j = i then (H i).set k (mkS i) else H j) ((wr.alloc (mkO i)).setCell ⟨g, k, none⟩ (.string (mkS i)))) := q3
              have HLEN : Hid (k < (H i).length) := by rw [HI.out.1.p.fA i HSI.out.2.2, ← HSI.out.2.1]; exact hkn
              have hkI : (k : Int) < n := by omega
              clear q3 eg hO
              go_wp2_with fail
              go_region_with (go_at_call 35; go_loud (refine (mark_any i (by omega) _).mono ?_); rintro e w' ⟨rfl, rfl⟩)
              all_goals
               (go_wp2_with fail
                go_roundw
                case rel =>
                 refine ⟨k + 1, (fun j => if j = i then (H i).set k (mkS i) else H j), by omega, by go_num, ⟨HQ3.out.keepsN (Keeps.refl _ _).drew, fun j hj => ?_, fun t ht => ?_⟩⟩
                 · show (if j = i then (H i).set k (mkS i) else H j) = _
                   rw [if_neg (by omega)]; exact HI.out.2.1 j hj
                 · show (if i = i then (H i).set k (mkS i) else H i).getD t e0 = _
                   rw [if_pos rfl, getD_set _ _ _ _ _ HLEN.out]
                   by_cases e : t = k
                   · rw [if_pos e]
                   · rw [if_neg e]; exact HI.out.2.2 t (by omega)
                case measure => simp [intOf] <;> omega)
            · go_wp2_with fail
              go_roundw
              case rel =>
                refine ⟨i + 1, H, by omega, by go_num, ⟨HI.out.1, fun j hj => ?_⟩⟩
                by_cases e : j = i
                · subst e
                  exact rep_of mkS Y j e0 (H j) (HI.out.1.p.fA j HSI.out.2.2) (fun t ht => HI.out.2.2 t (by have := HSI.out.2.1; omega))
                · exact HI.out.2.1 j (by omega)
              case measure => simp [intOf] <;> omega
        · have HFp : Hid (∀ j, j < Y.length → H j = rep mkS Y j) := fun j hj => HI.out.2 j (by have := HS.out.2.1; omega)
          have H0 : Hid (One B w oA cA L F oX cX Y H wr) := HI.out.1
          clear HI
          go_wp2_with fail
          clear hlt hi
          have H1 : Hid (Both B w oA cA L 0 none 0 [] oX cX Y 0 none 0 [] wr) := both_of H0.out HFt.out HFp.out
          clear H0 HFt HFp
          have H0 : Hid _ := H1.out
          clear H1
          go_loopw [5, 11] (fun sl s wr => ∃ (i : Nat) (olt : Option Addr) (clt : Nat) (Lat : List (LS Nat)), i ≤ N ∧ s = .int .i64 i ∧ sl = .slice olt i clt ∧ Hid (Both B w oA cA L i olt clt Lat oX cX Y 0 none 0 [] wr)) (fun _ s _ => N - (intOf s).toNat)
          case atStart => exact ⟨0, none, 0, [], by omega, rfl, rfl, H0⟩
          case round =>
            clear H0
            obtain ⟨i, olt, clt, Lat, hi, rfl, rfl, HI⟩ := hrel
            rename World => wz
            by_cases hlt : i < N
            · have hiL : i < L.length := by rw [← HS.out.1]; exact hlt
              obtain ⟨ba, eA⟩ : ∃ b, oA = some ⟨b, 0, none⟩ := by obtain ⟨b, e, _⟩ := HI.out.t.at kindZ i hiL; exact ⟨b, e⟩
              subst eA
              have hfit := HS.out.2.2.2.1 i hiL
              obtain ⟨si, hsi⟩ : ∃ si, si = L.getD i ls0 := ⟨_, rfl⟩
              obtain ⟨n, hn⟩ : ∃ n, n = si.xs.length := ⟨_, rfl⟩
              rw [← hsi, ← hn] at hfit
              have hnI : (n : Int) ≤ 2000000 := by omega
              have HSI : Hid (si = L.getD i ls0 ∧ n = (L.getD i ls0).xs.length ∧ i < L.length) := ⟨hsi, by rw [hn, hsi], hiL⟩
              have d1 : wz.cell? ⟨ba, i, none⟩ = some (.slice si.o n si.c) := by
                obtain ⟨b, e, hc⟩ := HI.out.t.at kindZ i hiL
                cases e
                rw [hc, hn, hsi]
              have HG0 : Hid (Grow BB wz si.o n (mkB i) 0 si.o si.c wz ∧ ∀ k, inO si.o k → k < wz.heap.size) := by
                rw [hn, hsi]
                exact ⟨grow_nil (HI.out.t.eA i (Nat.le_refl _) hiL), (HI.out.t.eA i (Nat.le_refl _) hiL).lt⟩
              clear hsi hn hfit hiL
              go_wp2_with fail
              go_loopw [12, 13] (fun sl s wr => ∃ (q m : Nat) (o : Option Addr) (c : Nat), q ≤ 40 ∧ s = .int .i64 q ∧ sl = .slice o m c ∧ Hid (m = n + q ∧ Grow BB wz si.o n (mkB i) q o c wr)) (fun _ s _ => 40 - (intOf s).toNat)
              case atStart => exact ⟨0, n, si.o, si.c, by omega, rfl, rfl, ⟨rfl, HG0.out.1⟩⟩
              case round =>
                obtain ⟨q, m, o, c, hq, rfl, rfl, HG⟩ := hrel
                have hmI : (m : Int) ≤ 2000000 + 40 := by have := HG.out.1; omega
                by_cases hqq : q < 40
                · have HB : Hid (((List.replicate (n + q) (mkB i)).length + [mkB i].length) * BB.nb ≤ 140737488355328 ∧ (List.replicate (n + q) (mkB i)).length + [mkB i].length ≤ 140737488355328) := ⟨by simp [BB]; omega, by simp; omega⟩
                  have HLT : Hid (#[Value.int .u8 (100 + (i : Int))].toList = BB.enc (mkB i)) := by show _ = [Value.int .u8 ((mkB i : Nat) : Int)]; rw [bvB]
                  go_wp2_with (at_builtin; go_loud (refine wpList_app okBB rfl _ _ rfl _ _ _ (List.replicate (n + q) (mkB i)) rfl (by rw [List.length_replicate]; exact HG.out.1) (HG.out.2.own.keepsN ((Keeps.refl _ _).alloc _)) _ _ _ [mkB i] rfl rfl (fun h => by cases h) (lit_one (E := BB) _ (mkB i) _ HLT.out).row HB.out.1 HB.out.2 ?_); intro o5 c5 w5 ho5 hap5)
                  go_roundw
                  case rel => exact ⟨q + 1, m + 1, o5, c5, by omega, by go_num, rfl, ⟨by have := HG.out.1; omega, (HG.out.2.keepsN ((Keeps.refl _ _).alloc _)).more okBB HG0.out.2 ho5 hap5⟩⟩
                  case measure => simp [intOf] <;> omega
                · obtain rfl : q = 40 := by omega
                  have HGG : Hid (Grow BB wz (L.getD i ls0).o (L.getD i ls0).xs.length (mkB i) 40 o c wr ∧ m = (L.getD i ls0).xs.length + 40) := by
                    have h3 := HG.out.2
                    have h4 := HG.out.1
                    rw [HSI.out.1, HSI.out.2.1] at h3
                    rw [HSI.out.2.1] at h4
                    exact ⟨h3, h4⟩
                  have HLA : Hid (Own ZE wr olt clt Lat ∧ i = Lat.length) := ⟨HI.out.t.la.keeps HGG.out.1.kp (fun b h1 h2 => tags_ne (by decide) (HI.out.t.eA i (Nat.le_refl _) HSI.out.2.2) HI.out.t.la b h2 h1), HI.out.t.len.symm⟩
                  have HB : Hid ((Lat.length + [(⟨o, c, List.replicate ((L.getD i ls0).xs.length + 40) (mkB i)⟩ : LS Nat)].length) * ZE.nb ≤ 140737488355328 ∧ Lat.length + [(⟨o, c, List.replicate ((L.getD i ls0).xs.length + 40) (mkB i)⟩ : LS Nat)].length ≤ 140737488355328) := by
                    have := HLA.out.2
                    exact ⟨by simp [ZE]; omega, by simp; omega⟩
                  go_wp2_with (at_builtin; go_loud (refine wpList_app okZ rfl _ _ rfl _ _ _ Lat rfl HLA.out.2 (HLA.out.1.keepsN ((Keeps.refl _ _).alloc _)) _ _ _ [⟨o, c, List.replicate ((L.getD i ls0).xs.length + 40) (mkB i)⟩] rfl rfl (fun h => by cases h) (lit_one (E := ZE) _ _ _ (by simp [ZE, LS.enc, HGG.out.2])).row HB.out.1 HB.out.2 ?_); intro o6 c6 w6 ho6 hap6)
                  go_roundw
                  case rel => exact ⟨i + 1, o6, c6, _, by omega, by go_num, rfl, HI.out.pushT HS.out.2.2.1 HSI.out.2.2 (HGG.out.1.keepsN ((Keeps.refl _ _).alloc _)) ho6 hap6⟩
                  case measure => simp [intOf] <;> omega
            · have hiN : i = N := by omega
              subst i
              have H0 : Hid (Both B w oA cA L N olt clt Lat oX cX Y 0 none 0 [] wz) := HI.out
              clear HI
              go_wp2_with fail
              clear hlt hi
              go_loopw [6, 14] (fun sl s wr => ∃ (i : Nat) (olp : Option Addr) (clp : Nat) (Lap : List (LS Tx)), i ≤ NX ∧ s = .int .i64 i ∧ sl = .slice olp i clp ∧ Hid (Both B w oA cA L N olt clt Lat oX cX Y i olp clp Lap wr)) (fun _ s _ => NX - (intOf s).toNat)
              case atStart => exact ⟨0, none, 0, [], by omega, rfl, rfl, H0⟩
              case round =>
                clear H0
                obtain ⟨i, olp, clp, Lap, hi, rfl, rfl, HI⟩ := hrel
                rename World => wz
                by_cases hlt : i < NX
                · have hiL : i < Y.length := by rw [← HS.out.2.1]; exact hlt
                  obtain ⟨bx, eA⟩ : ∃ b, oX = some ⟨b, 0, none⟩ := by obtain ⟨b, e, _⟩ := HI.out.p.at kindT i hiL; exact ⟨b, e⟩
                  subst eA
                  have hfit := HS.out.2.2.2.2 i hiL
                  obtain ⟨si, hsi⟩ : ∃ si, si = Y.getD i ls0 := ⟨_, rfl⟩
                  obtain ⟨n, hn⟩ : ∃ n, n = si.xs.length := ⟨_, rfl⟩
                  rw [← hsi, ← hn] at hfit
                  have hnI : (n : Int) ≤ 8796093022000 := by omega
                  have HSI : Hid (si = Y.getD i ls0 ∧ n = (Y.getD i ls0).xs.length ∧ i < Y.length) := ⟨hsi, by rw [hn, hsi], hiL⟩
                  have d1 : wz.cell? ⟨bx, i, none⟩ = some (.slice si.o n si.c) := by
                    obtain ⟨b, e, hc⟩ := HI.out.p.at kindT i hiL
                    cases e
                    rw [hc, hn, hsi]
                  have HG0 : Hid (Grow TE wz si.o n (mkS i) 0 si.o si.c wz ∧ ∀ k, inO si.o k → k < wz.heap.size) := by
                    rw [hn, hsi]
                    exact ⟨grow_nil (HI.out.p.eA i (Nat.le_refl _) hiL), (HI.out.p.eA i (Nat.le_refl _) hiL).lt⟩
                  clear hsi hn hfit hiL
                  go_wp2_with fail
                  go_loopw [15, 16] (fun sl s wr => ∃ (q m : Nat) (o : Option Addr) (c : Nat), q ≤ 40 ∧ s = .int .i64 q ∧ sl = .slice o m c ∧ Hid (m = n + q ∧ Grow TE wz si.o n (mkS i) q o c wr)) (fun _ s _ => 40 - (intOf s).toNat)
                  case atStart => exact ⟨0, n, si.o, si.c, by omega, rfl, rfl, ⟨rfl, HG0.out.1⟩⟩
                  case round =>
                    obtain ⟨q, m, o, c, hq, rfl, rfl, HG⟩ := hrel
                    have hmI : (m : Int) ≤ 8796093022000 + 40 := by have := HG.out.1; omega
                    by_cases hqq : q < 40
                    · have HB : Hid (((List.replicate (n + q) (mkS i)).length + [mkS i].length) * TE.nb ≤ 140737488355328 ∧ (List.replicate (n + q) (mkS i)).length + [mkS i].length ≤ 140737488355328) := ⟨by simp [TE]; omega, by simp; omega⟩
                      go_wp2_with (first | (go_at_call 35; go_loud (refine (mark_any i (by omega) _).mono ?_); rintro e w' ⟨rfl, hw'⟩; subst w') | (at_builtin; go_loud (refine wpList_app okT rfl _ _ rfl _ _ _ (List.replicate (n + q) (mkS i)) rfl (by rw [List.length_replicate]; exact HG.out.1) ((HG.out.2.own.keepsN ((Keeps.refl _ _).alloc _)).keepsN ((Keeps.refl _ _).alloc _)) _ _ _ [mkS i] rfl rfl (fun h => by cases h) (lit_one2 (E := TE) _ _ (mkS i) _ rfl).row HB.out.1 HB.out.2 ?_); intro o5 c5 w5 ho5 hap5))
                      go_roundw
                      case rel => exact ⟨q + 1, m + 1, o5, c5, by omega, by go_num, rfl, ⟨by have := HG.out.1; omega, (HG.out.2.keepsN (((Keeps.refl _ _).alloc _).alloc _)).more okT HG0.out.2 ho5 hap5⟩⟩
                      case measure => simp [intOf] <;> omega
                    · obtain rfl : q = 40 := by omega
                      have HGG : Hid (Grow TE wz (Y.getD i ls0).o (Y.getD i ls0).xs.length (mkS i) 40 o c wr ∧ m = (Y.getD i ls0).xs.length + 40) := by
                        have h3 := HG.out.2
                        have h4 := HG.out.1
                        rw [HSI.out.1, HSI.out.2.1] at h3
                        rw [HSI.out.2.1] at h4
                        exact ⟨h3, h4⟩
                      have HLA : Hid (Own XE wr olp clp Lap ∧ i = Lap.length) := ⟨HI.out.p.la.keeps HGG.out.1.kp (fun b h1 h2 => tags_ne (by decide) (HI.out.p.eA i (Nat.le_refl _) HSI.out.2.2) HI.out.p.la b h2 h1), HI.out.p.len.symm⟩
                      have HB : Hid ((Lap.length + [(⟨o, c, List.replicate ((Y.getD i ls0).xs.length + 40) (mkS i)⟩ : LS Tx)].length) * XE.nb ≤ 140737488355328 ∧ Lap.length + [(⟨o, c, List.replicate ((Y.getD i ls0).xs.length + 40) (mkS i)⟩ : LS Tx)].length ≤ 140737488355328) := by
                        have := HLA.out.2
                        exact ⟨by simp [XE]; omega, by simp; omega⟩
                      go_wp2_with (at_builtin; go_loud (refine wpList_app okX rfl _ _ rfl _ _ _ Lap rfl HLA.out.2 (HLA.out.1.keepsN ((Keeps.refl _ _).alloc _)) _ _ _ [⟨o, c, List.replicate ((Y.getD i ls0).xs.length + 40) (mkS i)⟩] rfl rfl (fun h => by cases h) (lit_one (E := XE) _ _ _ (by simp [XE, LS.enc, HGG.out.2])).row HB.out.1 HB.out.2 ?_); intro o6 c6 w6 ho6 hap6)
                      go_roundw
                      case rel => exact ⟨i + 1, o6, c6, _, by omega, by go_num, rfl, HI.out.pushP HS.out.2.2.1 HSI.out.2.2 (HGG.out.1.keepsN ((Keeps.refl _ _).alloc _)) ho6 hap6⟩
                      case measure => simp [intOf] <;> omega
                · have hiN : i = NX := by omega
                  subst i
                  have H0 : Hid (Both B w oA cA L N olt clt Lat oX cX Y NX olp clp Lap wz) := HI.out
                  clear HI
                  go_wp2_with fail
                  clear hlt hi
                  go_loopw [17] (fun s wr => ∃ (i : Nat), i ≤ N ∧ s = .int .i64 i ∧ Hid (Keeps no wz wr)) (fun s _ => N - (intOf s).toNat)
                  case atStart => exact ⟨0, by omega, rfl, Keeps.refl _ _⟩
                  case round =>
                    obtain ⟨i, hi, rfl, HK0⟩ := hrel
                    by_cases hlt : i < N
                    · have hiL : i < L.length := by rw [← HS.out.1]; exact hlt
                      have hfit := HS.out.2.2.2.1 i hiL
                      obtain ⟨ba, eA, d1z⟩ := H0.out.t.at kindZ i hiL
                      obtain ⟨bl, eL, d2z⟩ := H0.out.t.atL kindZ i hlt
                      have hr1 := H0.out.t.read i hlt
                      have hr2 := (H0.out.t.rA i hiL).row
                      obtain ⟨n, hn⟩ : ∃ n, n = (L.getD i ls0).xs.length := ⟨_, rfl⟩
                      rw [← hn] at d1z d2z hr1 hr2 hfit
                      obtain ⟨so, hso⟩ : ∃ so, so = (L.getD i ls0).o := ⟨_, rfl⟩
                      obtain ⟨sc, hsc⟩ : ∃ sc, sc = (L.getD i ls0).c := ⟨_, rfl⟩
                      obtain ⟨lo, hlo⟩ : ∃ lo, lo = (Lat.getD i ls0).o := ⟨_, rfl⟩
                      obtain ⟨lc, hlc⟩ : ∃ lc, lc = (Lat.getD i ls0).c := ⟨_, rfl⟩
                      rw [← hso, ← hsc] at d1z
                      rw [← hlo, ← hlc] at d2z hr1
                      rw [← hso] at hr2
                      subst eA
                      subst eL
                      have hnI : (n : Int) ≤ 2000000 := by omega
                      have HR : Hid (Sl BB wz lo lc (List.replicate (n + 40) (mkB i)) ∧ Row BB wz so (List.replicate n (mkB i)) ∧ wz.cell? ⟨ba, i, none⟩ = some (.slice so n sc) ∧ wz.cell? ⟨bl, i, none⟩ = some (.slice lo (n + 40) lc)) := ⟨hr1, hr2, d1z, d2z⟩
                      have d1 := HK0.out.cellN d1z
                      have d2 := HK0.out.cellN d2z
                      clear hso hsc hlo hlc hn hr1 hr2 hfit hiL d1z d2z
                      go_wp2_with fail
                      go_loopw [18] (fun s wr => ∃ (k : Nat), k ≤ n + 40 ∧ s = .int .i64 k ∧ Hid (Keeps no wz wr)) (fun s _ => n + 40 - (intOf s).toNat)
                      case atStart => exact ⟨0, by omega, rfl, HK0⟩
                      case round =>
                        clear d1 d2
                        obtain ⟨k, hk, rfl, HK⟩ := hrel
                        have d1 := HK.out.cellN HR.out.2.2.1
                        have d2 := HK.out.cellN HR.out.2.2.2
                        by_cases hkn : k < n + 40
                        · have hkI : (k : Int) < (n : Int) + 40 := by omega
                          obtain ⟨b5, off5, e5, d5⟩ := Sl.one (E := BB) (HR.out.1.keepsN HK.out) okBB rfl 0 (j := k) (by simpa using hkn) _ rfl
                          subst e5
                          rw [show (List.replicate (n + 40) (mkB i)).getD k 0 = mkB i by simp [hkn], bvB] at d5
                          by_cases hk2 : k < n
                          · have hk2I : (k : Int) < n := by omega
                            have h4L : (decide ((n : Int) ≤ k)) = false := by simp; omega
                            have h4M : (decide (n ≤ k)) = false := by simp; omega
                            obtain ⟨b6, off6, e6, d6⟩ := Sl.one (E := BB) (c := n) (w := wr) (a := so) (xs := List.replicate n (mkB i)) ⟨HR.out.2.1.keepsN HK.out, by simp, by
                              rcases HR.out.2.1 with e | ⟨b, off, e, _⟩
                              · have := congrArg List.length e; simp at this; omega
                              · intro h; rw [h] at e; cases e⟩ okBB rfl 0 (j := k) (by simpa using hk2) _ rfl
                            subst e6
                            rw [show (List.replicate n (mkB i)).getD k 0 = mkB i by simp [hk2], bvB] at d6
                            go_wp2_with fail
                            go_roundw
                            case rel => exact ⟨k + 1, by omega, by go_num, HK⟩
                            case measure => simp [intOf] <;> omega
                          · have hk2I : ¬ (k : Int) < n := by omega
                            have h4J : (n : Int) ≤ k := by omega
                            go_wp2_with fail
                            go_roundw
                            case rel => exact ⟨k + 1, by omega, by go_num, HK⟩
                            case measure => simp [intOf] <;> omega
                        · go_wp2_with fail
                          go_roundw
                          case rel => exact ⟨i + 1, by omega, by go_num, HK⟩
                          case measure => simp [intOf] <;> omega
                    · go_wp2_with fail
                      clear hlt hi
                      go_loopw [19] (fun s wr => ∃ (i : Nat), i ≤ NX ∧ s = .int .i64 i ∧ Hid (Keeps no wz wr)) (fun s _ => NX - (intOf s).toNat)
                      case atStart => exact ⟨0, by omega, rfl, HK0⟩
                      case round =>
                        obtain ⟨i, hi, rfl, HK0⟩ := hrel
                        by_cases hlt : i < NX
                        · have hiL : i < Y.length := by rw [← HS.out.2.1]; exact hlt
                          have hfit := HS.out.2.2.2.2 i hiL
                          obtain ⟨bx, eA, d1z⟩ := H0.out.p.at kindT i hiL
                          obtain ⟨bl, eL, d2z⟩ := H0.out.p.atL kindT i hlt
                          have hr1 := H0.out.p.read i hlt
                          have hr2 := (H0.out.p.rA i hiL).row
                          obtain ⟨n, hn⟩ : ∃ n, n = (Y.getD i ls0).xs.length := ⟨_, rfl⟩
                          rw [← hn] at d1z d2z hr1 hr2 hfit
                          obtain ⟨so, hso⟩ : ∃ so, so = (Y.getD i ls0).o := ⟨_, rfl⟩
                          obtain ⟨sc, hsc⟩ : ∃ sc, sc = (Y.getD i ls0).c := ⟨_, rfl⟩
                          obtain ⟨lo, hlo⟩ : ∃ lo, lo = (Lap.getD i ls0).o := ⟨_, rfl⟩
                          obtain ⟨lc, hlc⟩ : ∃ lc, lc = (Lap.getD i ls0).c := ⟨_, rfl⟩
                          rw [← hso, ← hsc] at d1z
                          rw [← hlo, ← hlc] at d2z hr1
                          rw [← hso] at hr2
                          subst eA
                          subst eL
                          have hnI : (n : Int) ≤ 8796093022000 := by omega
                          have HR : Hid (Sl TE wz lo lc (List.replicate (n + 40) (mkS i)) ∧ Row TE wz so (List.replicate n (mkS i)) ∧ wz.cell? ⟨bx, i, none⟩ = some (.slice so n sc) ∧ wz.cell? ⟨bl, i, none⟩ = some (.slice lo (n + 40) lc)) := ⟨hr1, hr2, d1z, d2z⟩
                          have d1 := HK0.out.cellN d1z
                          have d2 := HK0.out.cellN d2z
                          clear hso hsc hlo hlc hn hr1 hr2 hfit hiL d1z d2z
                          go_wp2_with fail
                          go_loopw [20] (fun s wr => ∃ (k : Nat), k ≤ n + 40 ∧ s = .int .i64 k ∧ Hid (Keeps no wz wr)) (fun s _ => n + 40 - (intOf s).toNat)
                          case atStart => exact ⟨0, by omega, rfl, HK0⟩
                          case round =>
                            clear d1 d2
                            obtain ⟨k, hk, rfl, HK⟩ := hrel
                            have d1 := HK.out.cellN HR.out.2.2.1
                            have d2 := HK.out.cellN HR.out.2.2.2
                            by_cases hkn : k < n + 40
                            · have hkI : (k : Int) < (n : Int) + 40 := by omega
                              obtain ⟨b5, off5, e5, d5⟩ := (HR.out.1.keepsN HK.out).at (j := k) (by simpa using hkn)
                              subst e5
                              rw [show (List.replicate (n + 40) (mkS i)).getD k e0 = mkS i by simp [hkn]] at d5
                              have hself : ((mkS i).toList == (mkS i).toList) = true := by simp
                              have t1 := al_cell (mkO i) d1
                              have t2 := al_cell (mkO i) d2
                              have t5 := al_cell (mkO i) d5
                              by_cases hk2 : k < n
                              · have hk2I : (k : Int) < n := by omega
                                obtain ⟨b6, off6, e6, d6⟩ := Sl.at (c := n) (w := wr) (a := so) (xs := List.replicate n (mkS i)) ⟨HR.out.2.1.keepsN HK.out, by simp, by
                                  rcases HR.out.2.1 with e | ⟨b, off, e, _⟩
                                  · have := congrArg List.length e; simp at this; omega
                                  · intro h; rw [h] at e; cases e⟩ (j := k) (by simpa using hk2)
                                subst e6
                                rw [show (List.replicate n (mkS i)).getD k e0 = mkS i by simp [hk2]] at d6
                                have t6 := al_cell (mkO i) d6
                                go_wp2_with fail
                                refine region_marks (mkO i) (by kernel_rfl) (by kernel_rfl) ?_
                                repeat (go_big_quiet_step ((go_at_call 35; exact mark_al i (by omega) _ _)))
                                refine wpQuiet_nil ?_
                                intro _ hw'
                                obtain ⟨nq, hw''⟩ := hw'
                                subst hw''
                                go_wp2_with fail
                                go_roundw
                                case rel => exact ⟨k + 1, by omega, by go_num, HK.out.trans ((al_keeps _ _ _).drewN _)⟩
                                case measure => simp [intOf] <;> omega
                              · have hk2I : ¬ (k : Int) < n := by omega
                                go_wp2_with fail
                                refine region_marks (mkO i) (by kernel_rfl) (by kernel_rfl) ?_
                                repeat (go_big_quiet_step ((go_at_call 35; exact mark_al i (by omega) _ _)))
                                refine wpQuiet_nil ?_
                                intro _ hw'
                                obtain ⟨nq, hw''⟩ := hw'
                                subst hw''
                                go_wp2_with fail
                                go_roundw
                                case rel => exact ⟨k + 1, by omega, by go_num, HK.out.trans ((al_keeps _ _ _).drewN _)⟩
                                case measure => simp [intOf] <;> omega
                            · go_wp2_with fail
                              go_roundw
                              case rel => exact ⟨i + 1, by omega, by go_num, HK⟩
                              case measure => simp [intOf] <;> omega
                        · go_wp2_with fail
                          go_ret
                          exact ⟨rfl, H0.out.kp.trans HK0.out.of_no⟩
end Go.Proofs.YtjklpcamlppegaaGreat
