import Derived.Test.YtkoaiibjahlnmaaGreatL1
import Derived.Test.YtkoaiibjahlnmaaGreatOf
/- put. -/
namespace Go.Proofs.YtkoaiibjahlnmaaGreat
open Go.RowKit Go.Maps Go.Sort Orl
set_option linter.unusedVariables false
set_option linter.unusedSimpArgs false

theorem ky_lt {i j : Nat} (hij : i < j) (hj : j < 3) : lts (ky i) (ky j) = true := by
  have : (i = 0 ∧ j = 1) ∨ (i = 0 ∧ j = 2) ∨ (i = 1 ∧ j = 2) := by omega
  rcases this with ⟨rfl, rfl⟩ | ⟨rfl, rfl⟩ | ⟨rfl, rfl⟩ <;> (rw [lts_eq]; decide)
theorem ky_inc : Inc lts ((List.range 3).map ky) := by
  have e : (List.range 3).map ky = [ky 0, ky 1, ky 2] := rfl
  rw [e]
  exact List.pairwise_cons.2 ⟨fun q hq => by simp at hq; rcases hq with rfl | rfl; exact ky_lt (by omega) (by omega); exact ky_lt (by omega) (by omega), List.pairwise_cons.2 ⟨fun q hq => by simp at hq; subst hq; exact ky_lt (by omega) (by omega), by simp⟩⟩
theorem setM_sub (mask : Int) : ∀ k ∈ setM mask, ∃ i, i < 3 ∧ k = ky i := by
  intro k hk
  unfold setM at hk
  split at hk
  · simp at hk; exact ⟨0, by omega, hk⟩
  · unfold setK at hk
    obtain ⟨i, hi, rfl⟩ := List.mem_map.1 hk
    have := (List.mem_filter.1 hi).1
    exact ⟨i, by simpa using this, rfl⟩
theorem setM_inc (mask : Int) : Inc lts (setM mask) := by
  unfold setM
  split
  · exact List.pairwise_singleton _ _
  · unfold setK
    exact List.Pairwise.sublist (List.Sublist.map ky (List.filter_sublist (l := List.range 3))) ky_inc
theorem setM_ok (mask : Int) : okKeys (setM mask) = true := by
  rw [okKeys_iff]
  have := setM_len mask
  refine ⟨by omega, fun k hk => ?_, setM_inc mask⟩
  obtain ⟨i, _, rfl⟩ := setM_sub mask k hk
  rw [ky_size]; omega
def pk (mask : Int) (v : Tx) : List Pr := (setM mask).map fun k => (k, shortT v)
theorem pk_len (mask : Int) (v : Tx) : (pk mask v).length = (setM mask).length := by simp [pk]
theorem pk_ok (n mask : Int) (v : Tx) {now : Int} (ht : tickB now = true) : okPut (idw n) (pk mask v) (setM mask) now = true := by
  rw [okPut_iff]
  refine ⟨(idw_lt n).1, setM_ok mask, ?_, ht⟩
  rw [okPairs_iff]
  refine ⟨fun p hp => ?_, by rw [pk_len]; exact (setM_len mask).1, ?_⟩
  · obtain ⟨k, hk, rfl⟩ := List.mem_map.1 hp
    have := short_size v
    exact ⟨by simp; omega, hk⟩
  · unfold pk Inc
    rw [List.pairwise_map]
    exact setM_inc mask
theorem pk_take (ks : List Tx) (x : Tx) (j : Nat) (hj : j < ks.length) : (ks.take (j + 1)).map (fun k => (k, x)) = (ks.take j).map (fun k => (k, x)) ++ [(ks.getD j e0, x)] := by
  rw [take_succ_getD ks j e0 hj, List.map_append]; rfl
set_option maxRecDepth 10000 in
theorem lput_any {w0 w : World} {p : Nat} {T : Nat → Option Ro} {s : St} {N : Nat} (h : Ows w0 w p T s N) (kd wr mk : Int) (v : Tx) (now : Int) (hwr : I64 wr) (hmk : I64 mk) (ht : tickB now = true) (hN : N ≤ 900000000) :
    Calls Tryz.prog 10 #[.pointer (some ⟨p, 0, none⟩), .agg #[.int .i64 kd, .int .i64 wr, .int .i64 mk, .string v], .int .i64 now] w fun e w' => e = .returned (.tuple #[.bool (decide (0 < (miss s (idw wr) (pk mk v)).length)), .int .i64 0]) ∧ Hid (∃ T', Ows w0 w' p T' (putAll (idw wr) (setM mk) now s (miss s (idw wr) (pk mk v))) (N + (miss s (idw wr) (pk mk v)).length) ∧ (∀ b, b < w.heap.size → T' b = T b) ∧ Keeps (Mut T) w w') := by
  have HA : Hid (Keeps no w (w.alloc (.cells #[.int .i64 kd, .int .i64 wr, .int .i64 mk, .string v] 31))) := (Keeps.refl no w).alloc _
  have hset := set_any mk (w.alloc (.cells #[.int .i64 kd, .int .i64 wr, .int .i64 mk, .string v] 31)) hmk
  have HB : Hid ((w.alloc (.cells #[.int .i64 kd, .int .i64 wr, .int .i64 mk, .string v] 31)).heap[w.heap.size]? = some (.cells #[.int .i64 kd, .int .i64 wr, .int .i64 mk, .string v] 31 (0, 0))) := blk_new w _
  have HO : Hid (Ows w0 w p T s N ∧ tickB now = true ∧ N ≤ 900000000) := ⟨h, ht, hN⟩
  have hid := fun W => id_any wr W hwr
  have hsh := fun W => short_any v W
  have HID : Hid (∀ W, Calls Tryz.prog 9 #[.int .i64 wr] W fun e w' => e = .returned (.int .u64 ((idw wr : Nat) : Int)) ∧ w' = W) := hid
  have HSH : Hid (∀ W, Calls Tryz.prog 20 #[.string v] W fun e w' => e = .returned (.string (shortT v)) ∧ w' = W) := hsh
  have hL := setM_len mk
  obtain ⟨ks, hks⟩ : ∃ ks, ks = setM mk := ⟨_, rfl⟩
  rw [← hks] at hset
  have HKS : Hid (ks = setM mk) := hks
  rw [← hks] at hL
  clear h ht hN hid hsh hks
  go_enter Tryz.func10, Tryz.ntmps10
  go_wp2_with fail
  refine hset.mono ?_
  rintro e w1 ⟨u, rfl, o1, n1, c1, rfl, hn1, ho1, hnw1, hk1⟩
  have H1 : Hid (n1 = ks.length ∧ Own TE w1 o1 c1 ks ∧ Keeps no w w1 ∧ w1.heap[w.heap.size]? = some (.cells #[.int .i64 kd, .int .i64 wr, .int .i64 mk, .string v] 31 (0, 0))) := ⟨hn1.out, ho1, HA.out.trans hk1, hk1.at HB.out id⟩
  have hn3 : (n1 : Int) ≤ 3 := by have := hn1.out; omega
  clear hset hn1 ho1 hnw1 hk1 HA HB
  have HBw : Hid (w.heap.size ≤ w.heap.size) := Nat.le_refl _
  obtain ⟨B, hB⟩ : ∃ B, B = w.heap.size := ⟨_, rfl⟩
  have HBB : Hid (B = w.heap.size) := hB
  rw [← hB] at H1 ⊢
  clear hB HBw
  go_wp2_with fail
  go_loopw [9, 10] (fun s9 s10 wr' => ∃ (j : Nat) (u : Value), j ≤ n1 ∧ s10 = .int .i64 j ∧ s9 = u ∧ Hid (Gives PE w1 ((ks.take j).map fun k => (k, shortT v)) u wr')) (fun _ i _ => n1 - (intOf i).toNat)
  case atStart => exact ⟨0, _, by omega, rfl, rfl, none, 0, 0, rfl, (show 0 = _ by simp), own_nil _, new_none _, Keeps.refl _ _⟩
  case round =>
    obtain ⟨j, u, hj, rfl, rfl, HG⟩ := hrel
    rename World => wq
    obtain ⟨o, m, d, rfl, hm, ho, hnw, hkp⟩ := HG.out
    have HO2 : Hid (m = ((ks.take j).map fun k => (k, shortT v)).length ∧ Own PE wq o d ((ks.take j).map fun k => (k, shortT v)) ∧ New w1 o ∧ Keeps no w1 wq) := ⟨hm.out, ho, hnw, hkp⟩
    clear ho hnw hkp HG hm
    by_cases hlt : j < n1
    · have hlt' : (j : Int) < n1 := by omega
      have hj1 : j < ks.length := by have := H1.out.1; omega
      obtain ⟨b1, off1, rfl, d1⟩ := (H1.out.2.1.sl.keepsN HO2.out.2.2.2).at hj1
      obtain ⟨x, hx⟩ : ∃ x, x = ks.getD j e0 := ⟨_, rfl⟩
      rw [← hx] at d1
      have HX : Hid (x = ks.getD j e0 ∧ j < ks.length) := ⟨hx, hj1⟩
      have hbk := HO2.out.2.2.2.at H1.out.2.2.2 id
      have d2 : wq.cell? ⟨B, 3, none⟩ = some (.string v) := cell_of_blk hbk 3
      have hB : ((ks.take j).map fun k => (k, shortT v)).length ≤ 3 := by rw [List.length_map, List.length_take]; omega
      obtain ⟨sv, hsv⟩ : ∃ sv, sv = shortT v := ⟨_, rfl⟩
      have HSV : Hid (sv = shortT v) := hsv
      rw [← hsv] at HSH HO2 hB
      obtain ⟨qs, hqs⟩ : ∃ qs, qs = (ks.take j).map fun k => (k, sv) := ⟨_, rfl⟩
      rw [← hqs] at HO2 hB
      have HQS : Hid (qs = (ks.take j).map fun k => (k, sv)) := hqs
      have HBD : Hid ((qs.length + [(x, sv)].length) * PE.nb ≤ 140737488355328 ∧ qs.length + [(x, sv)].length ≤ 140737488355328) := ⟨by simp [PE]; omega, by simp; omega⟩
      have HO0 : Hid (Own PE (wq.alloc (.cells #[.string x, .string sv] 57)).drew o d qs) := (HO2.out.2.1.keepsN ((Keeps.refl no wq).alloc _)).keepsN (Keeps.refl no _).drew
      have HR0 : Hid (Row PE (wq.alloc (.cells #[.string x, .string sv] 57)).drew (some ⟨wq.heap.size, 0, none⟩) [(x, sv)]) := (own_oneP wq x sv).row.keepsN (Keeps.refl no _).drew
      clear hx hj1 hB hsv hqs hbk
      go_wp2_with fail
      go_region_law (first
        | (go_simp; go_at_call 20; refine (HSH.out _).mono ?_; rintro e w' ⟨rfl, hw'⟩; subst w')
        | (refine step_app1 okP rfl (.tmp 20) (.tmp 29) rfl o m d qs rfl HO2.out.1 HO0.out (some (Addr.mk wq.heap.size 0 none)) 1 1 [(x, sv)] rfl rfl (fun e => by cases e) HR0.out HBD.out.1 HBD.out.2 ?_; intro o3 c3 w3 ho3 hap3; have H3 : Hid (Own PE w3 o3 c3 (qs ++ [(x, sv)]) ∧ New w1 o3 ∧ Keeps no w1 w3) := ⟨ho3, hap3.new (w0 := w1) HO2.out.2.2.1 ((HO2.out.2.2.2.alloc _).drew)⟩; clear ho3 hap3))
      all_goals go_wp2_with fail
      all_goals go_roundw
      all_goals first
        | exact (show n1 - (intOf (Value.int IntKind.i64 ((j : Int) + 1))).toNat < n1 - (intOf (Value.int IntKind.i64 (j : Int))).toNat by simp [intOf]; omega)
        | (refine ⟨j + 1, _, by omega, by go_num, rfl, ?_⟩
           show Gives PE w1 ((ks.take (j + 1)).map fun k => (k, shortT v)) _ _
           rw [pk_take ks (shortT v) j HX.out.2, ← HSV.out, ← HQS.out, ← HX.out.1]
           exact ⟨o3, _, c3, rfl, (show _ = _ by rw [List.length_append, ← HO2.out.1]; rfl), H3.out.1, H3.out.2.1, H3.out.2.2⟩)
    · have hlt' : ¬ (j : Int) < n1 := by omega
      have hjn : j = n1 := by omega
      have e1 : ks.take j = ks := List.take_of_length_le (by have := H1.out.1; omega)
      rw [e1, HKS.out] at HO2
      change Hid (m = (pk mk v).length ∧ Own PE wq o d (pk mk v) ∧ New w1 o ∧ Keeps no w1 wq) at HO2
      have hbk := HO2.out.2.2.2.at H1.out.2.2.2 id
      have d2 : wq.cell? ⟨B, 1, none⟩ = some (.int .i64 wr) := cell_of_blk hbk 1
      have HKW : Hid (Keeps no w wq) := H1.out.2.2.1.trans HO2.out.2.2.2
      have HP := (HO.out.1.go HKW.out).put (idw wr) (pk mk v) ks now o m d o1 n1 c1 (by have := idw_lt wr; omega) HO2.out.1 H1.out.1 HO2.out.2.1.sl (H1.out.2.1.sl.keepsN HO2.out.2.2.2) (by rw [pk_len]; have := setM_len mk; omega) (by rw [HKS.out]; exact pk_ok wr mk v HO.out.2.1) HO.out.2.2
      have HPH : Hid (Calls Tryz.prog 21 #[.pointer (some ⟨p, 0, none⟩), .int .u64 ((idw wr : Nat) : Int), .slice o m d, .slice o1 n1 c1, .int .i64 now] wq fun e w' => e = .returned (.tuple #[.bool (decide (0 < (miss s (idw wr) (pk mk v)).length)), .int .i64 0]) ∧ Hid (∃ T', Ows w0 w' p T' (putAll (idw wr) ks now s (miss s (idw wr) (pk mk v))) (N + (miss s (idw wr) (pk mk v)).length) ∧ (∀ b, b < wq.heap.size → T' b = T b) ∧ Keeps (Mut T) wq w')) := HP
      clear HP e1 hjn hbk
      go_wp2_with fail
      refine (HID.out _).mono ?_
      rintro e w2 ⟨rfl, hw2⟩
      subst w2
      go_wp2_with fail
      refine Calls.mono HPH.out ?_
      rintro e w3 ⟨rfl, HT⟩
      obtain ⟨T', h1, h2, h3⟩ := HT.out
      have HF : Hid (∃ T', Ows w0 w3 p T' (putAll (idw wr) (setM mk) now s (miss s (idw wr) (pk mk v))) (N + (miss s (idw wr) (pk mk v)).length) ∧ (∀ b, b < w.heap.size → T' b = T b) ∧ Keeps (Mut T) w w3) :=
        ⟨T', by rw [← HKS.out]; exact h1, fun b hb => h2 b (Nat.lt_of_lt_of_le hb HKW.out.size), HKW.out.of_no.trans h3⟩
      clear HT h1 h2 h3 HPH
      go_wp2_with fail
      go_ret2
      exact ⟨rfl, HF⟩
theorem Ow.lput {w0 w : World} {p : Nat} {s : St} {N : Nat} {P : Nat → Prop} (h : Ow w0 w p s N P) (kd wr mk : Int) (v : Tx) (now : Int) (hwr : I64 wr) (hmk : I64 mk) (ht : tickB now = true) (hN : N ≤ 900000000) :
    Calls Tryz.prog 10 #[.pointer (some ⟨p, 0, none⟩), .agg #[.int .i64 kd, .int .i64 wr, .int .i64 mk, .string v], .int .i64 now] w fun e w' => e = .returned (.tuple #[.bool (decide (0 < (miss s (idw wr) (pk mk v)).length)), .int .i64 0]) ∧ Hid (Ow w0 w' p (putAll (idw wr) (setM mk) now s (miss s (idw wr) (pk mk v))) (N + (miss s (idw wr) (pk mk v)).length) P ∧ Keeps (fun b => ¬ P b) w w') := by
  obtain ⟨T, h, hP⟩ := h
  refine (lput_any h kd wr mk v now hwr hmk ht hN).mono ?_
  rintro e w' ⟨he, hT⟩
  obtain ⟨T', h1, h2, h3⟩ := hT.out
  exact ⟨he, ⟨T', h1, fun b hb => ⟨by rw [h2 b (hP b hb).2.2]; exact (hP b hb).1, (hP b hb).2.1, Nat.lt_of_lt_of_le (hP b hb).2.2 h3.size⟩⟩, h3.mono fun b hb hc => hb.1 (hP b hc).1⟩
end Go.Proofs.YtkoaiibjahlnmaaGreat
