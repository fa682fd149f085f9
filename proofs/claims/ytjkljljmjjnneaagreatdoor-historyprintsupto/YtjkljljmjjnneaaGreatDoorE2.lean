/- The document's side: a version. -/
import Derived.Test.YtjkljljmjjnneaaGreatDoorE1
import Derived.Test.YtjkljljmjjnneaaGreatDoorN1
namespace Go.Proofs.YtjkljljmjjnneaaGreatDoor
open Go.RowKit Go.Sort Orl
set_option linter.unusedVariables false
set_option linter.unusedSimpArgs false

theorem le_sum {α : Type} (f : α → Nat) : ∀ {l : List α} {a : α}, a ∈ l → f a ≤ (l.map f).sum
  | x :: l, a, h => by
    simp only [List.map_cons, List.sum_cons]
    rcases List.mem_cons.1 h with rfl | h
    · omega
    · have := le_sum f h; omega
theorem take_sum {α : Type} (f : α → Nat) (l : List α) (j : Nat) : ((l.take j).map f).sum ≤ (l.map f).sum := by
  have h : (l.map f).sum = ((l.take j).map f).sum + ((l.drop j).map f).sum := by rw [← List.sum_append, ← List.map_append, List.take_append_drop]
  omega
theorem text_grown {W : World} (s : ByteArray) (hs : s.size ≤ 1000000000) (d : Nat) (os : Array Obj) : Calls Tryz.prog 52 #[.string s] (Sort.grow (redrawn W d) os) fun e w'' => e = .returned (.string (tx (textW s.data.toList))) ∧ ∃ p : Regrown, w'' = Sort.grow (redrawn W p.d) p.os :=
  call_grown (fun X hX => text_any X s hs) d os
theorem digits_grown {W : World} (u : Nat) (hu : u < 18446744073709551616) (d : Nat) (os : Array Obj) : Calls Tryz.prog 51 #[.int .u64 (u : Nat)] (Sort.grow (redrawn W d) os) fun e w'' => e = .returned (.string (tx (numW u))) ∧ ∃ p : Regrown, w'' = Sort.grow (redrawn W p.d) p.os :=
  call_grown (fun X hX => digits_any u hu X) d os
theorem add_tx2 {a b c : List UInt8} (h : a.length + b.length ≤ 9223372036854775807) (e : a ++ b = c) : ∀ W : World, (Op.stringOp .add (tx a) (tx b)).run Tryz.prog W = .ok (.string (tx c)) W := fun W => by rw [← e]; exact add_tx W a b h
set_option maxRecDepth 10000 in
set_option maxHeartbeats 4000000 in
theorem version_any (w : World) (r : RV) (v : Ver) (hv : VerOf w r v) (hid : v.id < 18446744073709551616) (hl : wtV v ≤ 1000000000) (hk : v.keys.length ≤ 8796093022000) :
    Calls Tryz.prog 54 #[.agg #[.string r.key, .int .u64 (r.id : Nat), .string r.val, .slice r.o r.n r.c]] w fun e w' => e = .returned (.string (tx (verW v))) ∧ Keeps no w w' := by
  obtain ⟨rk, ri, rv, ro, rn, rc⟩ := r
  obtain ⟨rfl, rfl, rfl, hn, hs⟩ := hv
  simp only at hn hs ⊢
  have HX : Hid (rn = v.keys.length ∧ Sl TE w ro rc v.keys ∧ v.id < 18446744073709551616 ∧ wtV v ≤ 1000000000) := ⟨hn, hs, hid, hl⟩
  have hrn : (rn : Int) ≤ 8796093022000 := by omega
  have hz1 := textW_wt v.key
  have hz2 := textW_wt v.val
  have hz3 := numW_len hid
  have hkz : v.key.size ≤ 1000000000 ∧ v.val.size ≤ 1000000000 := by unfold wtV wtT at hl; omega
  have hsz : (textW v.key.data.toList).length ≤ 1000000000 ∧ (textW v.val.data.toList).length ≤ 1000000000 := by unfold wtV at hl; omega
  have HVW : Hid (verW v = textW v.key.data.toList ++ [61] ++ numW v.id ++ (if v.id = 0 then [] else [61] ++ textW v.val.data.toList ++ v.keys.flatMap (keyW 61))) := rfl
  obtain ⟨B, hB⟩ : ∃ B, B = w.heap.size := ⟨_, rfl⟩
  have H1 : Hid (∀ W, W = w.alloc (.cells #[.string v.key, .int .u64 (v.id : Nat), .string v.val, .slice ro rn rc] 56) → W.heap[B]? = some (.cells #[.string v.key, .int .u64 (v.id : Nat), .string v.val, .slice ro rn rc] 56 (0, 0)) ∧ Keeps no w W) := by
    rintro W rfl
    exact ⟨by rw [hB]; exact blk_new w _, (Keeps.refl _ _).alloc _⟩
  have hk1 := text_any
  have hA1 := add_tx2 (a := textW v.key.data.toList) (b := [61]) (c := textW v.key.data.toList ++ [61]) (by simp only [List.length_singleton]; omega) rfl
  have hA2 := add_tx2 (a := textW v.key.data.toList ++ [61]) (b := numW v.id) (c := textW v.key.data.toList ++ [61] ++ numW v.id) (by simp only [List.length_append, List.length_singleton]; omega) rfl
  have hA3 := add_tx2 (a := textW v.key.data.toList ++ [61] ++ numW v.id) (b := [61]) (c := textW v.key.data.toList ++ [61] ++ numW v.id ++ [61]) (by simp only [List.length_append, List.length_singleton]; omega) rfl
  have hA4 := add_tx2 (a := textW v.key.data.toList ++ [61] ++ numW v.id ++ [61]) (b := textW v.val.data.toList) (c := textW v.key.data.toList ++ [61] ++ numW v.id ++ [61] ++ textW v.val.data.toList) (by simp only [List.length_append, List.length_singleton]; omega) rfl
  have HPL : Hid ((textW v.key.data.toList ++ [61] ++ numW v.id ++ [61] ++ textW v.val.data.toList).length ≤ 2000001000) := by
    show _ ≤ _
    simp only [List.length_append, List.length_singleton]; omega
  have HVL : Hid (v.keys.length ≤ 8796093022000 ∧ (v.keys.map fun k => wtT k + 1).sum ≤ 1000000000) := ⟨hk, by unfold wtV at hl; omega⟩
  have HCT := fun (W : World) => text_grown (W := W) v.key hkz.1
  have HCD := fun (W : World) => digits_grown (W := W) v.id hid
  have HCV := fun (W : World) => text_any W v.val hkz.2
  have HEQ : Hid (textW v.key.data.toList ++ [61] ++ numW v.id ++ [61] ++ textW v.val.data.toList = textW v.key.data.toList ++ [61] ++ numW v.id ++ ([61] ++ textW v.val.data.toList)) := by simp [Hid]
  clear hk1 hz1 hz2 hz3 hkz hsz hid hl hk hn hs
  generalize hP5 : textW v.key.data.toList ++ [61] ++ numW v.id ++ [61] ++ textW v.val.data.toList = P5 at hA4 HPL HEQ
  generalize hP4 : textW v.key.data.toList ++ [61] ++ numW v.id ++ [61] = P4 at hA3 hA4
  generalize hP3 : textW v.key.data.toList ++ [61] ++ numW v.id = P3 at hA2 hA3 HVW HEQ
  generalize hP2 : textW v.key.data.toList ++ [61] = P2 at hA1 hA2
  generalize hP1 : textW v.key.data.toList = P1 at hA1 HCT
  generalize hQ1 : numW v.id = Q1 at hA2 HCD
  generalize hQ2 : textW v.val.data.toList = Q2 at hA4 HCV HVW HEQ
  clear hP5 hP4 hP3 hP2 hP1 hQ1 hQ2
  have HC : Hid ((∀ W d os, Calls Tryz.prog 52 #[.string v.key] (Sort.grow (redrawn W d) os) fun e w'' => e = .returned (.string (tx P1)) ∧ ∃ p : Regrown, w'' = Sort.grow (redrawn W p.d) p.os) ∧ (∀ W d os, Calls Tryz.prog 51 #[.int .u64 (v.id : Nat)] (Sort.grow (redrawn W d) os) fun e w'' => e = .returned (.string (tx Q1)) ∧ ∃ p : Regrown, w'' = Sort.grow (redrawn W p.d) p.os) ∧ (∀ W, Calls Tryz.prog 52 #[.string v.val] W fun e w' => e = .returned (.string (tx Q2)) ∧ Keeps no W w')) := ⟨HCT, HCD, HCV⟩
  clear HCT HCD HCV
  go_enter Tryz.func54, Tryz.ntmps54
  go_upto_region 1 with fail
  have h1 := H1.out _ rfl
  generalize w.alloc (.cells #[.string v.key, .int .u64 (v.id : Nat), .string v.val, .slice ro rn rc] 56) = w1 at h1 ⊢
  rw [← hB]
  have H2 : Hid (w1.heap[B]? = some (.cells #[.string v.key, .int .u64 (v.id : Nat), .string v.val, .slice ro rn rc] 56 (0, 0)) ∧ Keeps no w w1) := h1
  have z0 := cell_of_blk h1.1 0
  have z1 := cell_of_blk h1.1 1
  simp only [List.getElem?_toArray, List.getElem?_cons_succ, List.getElem?_cons_zero] at z0 z1
  clear h1 H1 hB
  have a0 := cell_regrown z0
  have a1 := cell_regrown z1
  clear z0 z1
  refine wp_region_quiet_below (by kernel_rfl) (by kernel_rfl) ?_
  repeat (go_big_quiet_step (first | exact HC.out.1 _ _ _ | exact HC.out.2.1 _ _ _))
  refine wpQuiet_nil ?_
  intro _ hw'
  obtain ⟨⟨dq, osq⟩, rfl⟩ := hw'
  have hkq : Keeps no w1 (Sort.grow (redrawn w1 dq) osq) := keeps_grown ..
  generalize Sort.grow (redrawn w1 dq) osq = w2 at hkq ⊢
  have H3 : Hid (w2.heap[B]? = some (.cells #[.string v.key, .int .u64 (v.id : Nat), .string v.val, .slice ro rn rc] 56 (0, 0)) ∧ Keeps no w w2) := ⟨hkq.at H2.out.1 id, H2.out.2.trans hkq⟩
  clear hkq H2 a0 a1
  have z1 := cell_of_blk H3.out.1 1
  have z2 := cell_of_blk H3.out.1 2
  simp only [List.getElem?_toArray, List.getElem?_cons_succ, List.getElem?_cons_zero] at z1 z2
  by_cases hi : v.id = 0
  · have hib : ((v.id : Int) == 0) = true := by rw [beq_iff_eq]; omega
    have HE : Hid (verW v = P3) := by show _ = _; rw [HVW.out, if_pos hi, List.append_nil]
    clear hi
    go_wp2_with fail
    go_ret
    rw [HE.out]
    exact ⟨rfl, H3.out.2⟩
  · have hib : ((v.id : Int) == 0) = false := by rw [beq_eq_false_iff_ne]; omega
    have HE : Hid (verW v = P5 ++ v.keys.flatMap (keyW 61)) := by show _ = _; rw [HVW.out, if_neg hi, HEQ.out]; simp
    clear hi
    go_wp2_with fail
    refine (HC.out.2.2 _).mono ?_
    rintro e w3 ⟨rfl, hk3⟩
    have H4 : Hid (w3.heap[B]? = some (.cells #[.string v.key, .int .u64 (v.id : Nat), .string v.val, .slice ro rn rc] 56 (0, 0)) ∧ Keeps no w w3) := ⟨hk3.at H3.out.1 id, H3.out.2.trans hk3⟩
    clear hk3 H3 z1 z2 hA1 hA2 hA3 HC
    go_wp2_with fail
    go_loopw [3, 4] (fun s3 s4 wr => ∃ (j : Nat) (L : List UInt8), j ≤ rn ∧ s3 = .string (tx L) ∧ s4 = .int .i64 (j : Nat) ∧ Hid (L = P5 ++ (v.keys.take j).flatMap (keyW 61) ∧ wr.heap[B]? = some (.cells #[.string v.key, .int .u64 (v.id : Nat), .string v.val, .slice ro rn rc] 56 (0, 0)) ∧ Keeps no w wr)) (fun _ s4 _ => rn - (intOf s4).toNat)
    case atStart => exact ⟨0, P5, by omega, rfl, rfl, by simp, H4.out⟩
    case round =>
      rename World => wr
      obtain ⟨j, L, hjn, rfl, rfl, HO⟩ := hrel
      have z3 := cell_of_blk HO.out.2.1 3
      simp only [List.getElem?_toArray, List.getElem?_cons_succ, List.getElem?_cons_zero] at z3
      by_cases hlt : j < rn
      · have hltI : (j : Int) < rn := by omega
        have hjl : j < v.keys.length := by have := HX.out.1; omega
        obtain ⟨g, off, e1, d1⟩ := (HX.out.2.1.keepsN HO.out.2.2).at hjl
        have hm := getD_mem_lt e0 hjl
        have HT : Hid ((v.keys.take (j + 1)).flatMap (keyW 61) = (v.keys.take j).flatMap (keyW 61) ++ keyW 61 (v.keys.getD j e0)) := by
          show _ = _
          rw [take_succ_getD v.keys j e0 hjl, List.flatMap_append, List.flatMap_singleton]
        have hks : wtT (v.keys.getD j e0) + 1 ≤ 1000000000 := Nat.le_trans (le_sum (fun k => wtT k + 1) hm) HVL.out.2
        generalize v.keys.getD j e0 = key at d1 HT hks
        have hkz : key.size ≤ 1000000000 := by unfold wtT at hks; omega
        have hLl : L.length ≤ 3000001000 := by
          rw [HO.out.1, List.length_append]
          have h1 := flat_le (keyW 61) (fun k => wtT k + 1) (v.keys.take j) (fun k _ => keyW_wt 61 k)
          have h2 := take_sum (fun k => wtT k + 1) v.keys j
          have := HPL.out
          have := HVL.out.2
          omega
        have hkl : (textW key.data.toList).length ≤ 1000000001 := by have := textW_wt key; have := HVL.out.2; omega
        have hB1 := add_tx2 (a := L) (b := [61]) (c := L ++ [61]) (by simp only [List.length_singleton]; omega) rfl
        have hB2 := add_tx2 (a := L ++ [61]) (b := textW key.data.toList) (c := L ++ keyW 61 key) (by simp only [List.length_append, List.length_singleton]; omega) (by unfold keyW; simp)
        have HK := text_any wr key hkz
        have HTK : Hid (Calls Tryz.prog 52 #[.string key] wr fun e w' => e = .returned (.string (tx (textW key.data.toList))) ∧ Keeps no wr w') := HK
        clear HK hkz hkl hks hm hjl hLl
        generalize textW key.data.toList = TK at hB2 HTK
        have HL2 : Hid (L ++ keyW 61 key = P5 ++ (v.keys.take (j + 1)).flatMap (keyW 61)) := by show _ = _; rw [HT.out, HO.out.1, List.append_assoc]
        generalize L ++ keyW 61 key = L2 at hB2 HL2
        generalize L ++ [61] = L1 at hB1 hB2
        subst e1
        go_wp2_with fail
        refine HTK.out.mono ?_
        rintro e w4 ⟨rfl, hk4⟩
        have HN : Hid (w4.heap[B]? = some (.cells #[.string v.key, .int .u64 (v.id : Nat), .string v.val, .slice (some ⟨g, off, none⟩) rn rc] 56 (0, 0)) ∧ Keeps no w w4) := ⟨hk4.at HO.out.2.1 id, HO.out.2.2.trans hk4⟩
        clear hk4 d1 z3 HTK
        go_wp2_with fail
        go_roundw
        case rel => exact ⟨j + 1, L2, by omega, rfl, by go_num, HL2.out, HN.out⟩
        case measure => first | (simp [intOf]; done) | (simp [intOf]; omega)
      · have hltI : ¬ (j : Int) < rn := by omega
        have HF : Hid (L = verW v) := by
          show _ = _
          rw [HE.out, HO.out.1, List.take_of_length_le (by have := HX.out.1; omega)]
        have HK : Hid (Keeps no w wr) := HO.out.2.2
        go_wp2_with fail
        go_ret
        rw [← HF.out]
        exact ⟨rfl, HK.out⟩
end Go.Proofs.YtjkljljmjjnneaaGreatDoor
