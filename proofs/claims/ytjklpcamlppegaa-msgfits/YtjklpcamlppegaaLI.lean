/- MsgFits: its walk. -/
import Derived.Test.YtjklpcamlppegaaI1
namespace Go.Proofs.Ytjklpcamlppegaa
open Go.RowKit Go.Sort Orl Pk
set_option linter.unusedVariables false
set_option linter.unusedSimpArgs false

theorem sizE_ok {m : Msg} (h : may m = true) : sizE m = .tuple #[.int .i64 (((body m).length : Nat) : Int), .int .i64 0] := by unfold sizE; rw [if_pos h]
theorem sizE_no {m : Msg} (h : may m = false) : sizE m = .tuple #[.int .i64 0, .int .i64 1] := by unfold sizE; rw [if_neg (by rw [h]; simp)]
/-- what was told behind Size and known -/
structure At2 (w : World) (A : Nat) (cs : Array Value) (wr : World) : Prop where
  kp : Keeps no w wr
  blk : wr.heap[A]? = some (.cells cs 29 (0, 0))
theorem ap_keeps {W w' : World} {oa o' : Option Addr} (h : Ap W oa o' w') : Keeps (inO oa) W w' := by
  rcases h with ⟨_, hk⟩ | ⟨_, hk⟩
  · exact hk
  · exact hk.of_no
theorem At2.keepsN {w : World} {A : Nat} {cs : Array Value} {wr w' : World} (h : At2 w A cs wr) (k : Keeps no wr w') : At2 w A cs w' := ⟨h.kp.trans k, k.at h.blk (fun h => h)⟩

set_option maxRecDepth 20000 in
set_option maxHeartbeats 4000000 in
theorem fits_no (w : World) (k cl : Int) (q i : Nat) (op : Option Addr) (np cp : Nat) (ok : Option Addr) (nk ck : Nat) (ow : Option Addr) (nw cw : Nat) (ov : Option Addr) (nv cv : Nat) (rs : List RV) (m : Msg)
    (h : IsM w k cl q i op np cp ok nk ck ow nw cw ov nv cv rs m) (client : Int) (req id : Nat) (hrq : req < 18446744073709551616) (hid : id < 18446744073709551616) (hm : may m = false) :
    Calls Try.prog 5 #[.agg #[.int .i64 k, .int .i64 cl, .int .u64 (q : Nat), .int .u64 (i : Nat), .slice op np cp, .slice ok nk ck, .slice ow nw cw, .slice ov nv cv], .int .i64 client, .int .u64 (req : Nat), .int .u64 (id : Nat)] w
      fun e w' => e = .returned (.bool true) ∧ Keeps no w w' := by
  have H : Hid (IsM w k cl q i op np cp ok nk ck ow nw cw ov nv cv rs m) := h
  have hk0 : Keeps no w (w.alloc (.cells #[.int .i64 k, .int .i64 cl, .int .u64 (q : Nat), .int .u64 (i : Nat), .slice op np cp, .slice ok nk ck, .slice ow nw cw, .slice ov nv cv] 29)) := (Keeps.refl _ _).alloc _
  have hsz := Size_any _ k cl q i op np cp ok nk ck ow nw cw ov nv cv rs m (h.keepsN hk0)
  rw [sizE_no hm] at hsz
  have hB0 := blk_new w (.cells #[.int .i64 k, .int .i64 cl, .int .u64 (q : Nat), .int .u64 (i : Nat), .slice op np cp, .slice ok nk ck, .slice ow nw cw, .slice ov nv cv] 29)
  have HKM : Hid (k = m.kind) := h.k
  have HRQ : Hid (req < 18446744073709551616 ∧ id < 18446744073709551616) := ⟨hrq, hid⟩
  clear h hrq hid
  go_enter Try.func5, Try.ntmps5
  go_wp2_with fail
  refine hsz.mono ?_
  rintro e w1 ⟨rfl, hk1⟩
  go_wp2_with fail
  refine (known_any _).mono ?_
  rintro e w2 ⟨rfl, hk2⟩
  obtain ⟨A, hA⟩ : ∃ A, A = w.heap.size := ⟨_, rfl⟩
  have HAE : Hid (A = w.heap.size) := hA
  have hB1 := hk1.at hB0 (fun h => h)
  rw [← hA] at hB1 ⊢
  have H2 : Hid (At2 w A #[.int .i64 k, .int .i64 cl, .int .u64 (q : Nat), .int .u64 (i : Nat), .slice op np cp, .slice ok nk ck, .slice ow nw cw, .slice ov nv cv] w2) := ⟨(hk0.trans hk1).trans hk2, hk2.at hB1 (fun h => h)⟩
  clear hA hB0 hB1 hk0 hk1 hk2 hsz
  go_wp2_with fail
  go_ret
  exact ⟨rfl, H2.out.kp⟩

set_option maxRecDepth 20000 in
set_option maxHeartbeats 4000000 in
theorem fits_else (w : World) (k cl : Int) (q i : Nat) (op : Option Addr) (np cp : Nat) (ok : Option Addr) (nk ck : Nat) (ow : Option Addr) (nw cw : Nat) (ov : Option Addr) (nv cv : Nat) (rs : List RV) (m : Msg)
    (h : IsM w k cl q i op np cp ok nk ck ow nw cw ov nv cv rs m) (client : Int) (req id : Nat) (hrq : req < 18446744073709551616) (hid : id < 18446744073709551616) (hm : may m = true) (hn1 : ¬ m.kind = 1) (hn3 : ¬ m.kind = 3) :
    Calls Try.prog 5 #[.agg #[.int .i64 k, .int .i64 cl, .int .u64 (q : Nat), .int .u64 (i : Nat), .slice op np cp, .slice ok nk ck, .slice ow nw cw, .slice ov nv cv], .int .i64 client, .int .u64 (req : Nat), .int .u64 (id : Nat)] w
      fun e w' => e = .returned (.bool true) ∧ Keeps no w w' := by
  have H : Hid (IsM w k cl q i op np cp ok nk ck ow nw cw ov nv cv rs m) := h
  have hk0 : Keeps no w (w.alloc (.cells #[.int .i64 k, .int .i64 cl, .int .u64 (q : Nat), .int .u64 (i : Nat), .slice op np cp, .slice ok nk ck, .slice ow nw cw, .slice ov nv cv] 29)) := (Keeps.refl _ _).alloc _
  have hsz := Size_any _ k cl q i op np cp ok nk ck ow nw cw ov nv cv rs m (h.keepsN hk0)
  rw [sizE_ok hm] at hsz
  have hB0 := blk_new w (.cells #[.int .i64 k, .int .i64 cl, .int .u64 (q : Nat), .int .u64 (i : Nat), .slice op np cp, .slice ok nk ck, .slice ow nw cw, .slice ov nv cv] 29)
  have HKM : Hid (k = m.kind) := h.k
  have HRQ : Hid (req < 18446744073709551616 ∧ id < 18446744073709551616) := ⟨hrq, hid⟩
  clear h hrq hid
  go_enter Try.func5, Try.ntmps5
  go_wp2_with fail
  refine hsz.mono ?_
  rintro e w1 ⟨rfl, hk1⟩
  go_wp2_with fail
  refine (known_any _).mono ?_
  rintro e w2 ⟨rfl, hk2⟩
  obtain ⟨A, hA⟩ : ∃ A, A = w.heap.size := ⟨_, rfl⟩
  have HAE : Hid (A = w.heap.size) := hA
  have hB1 := hk1.at hB0 (fun h => h)
  rw [← hA] at hB1 ⊢
  have H2 : Hid (At2 w A #[.int .i64 k, .int .i64 cl, .int .u64 (q : Nat), .int .u64 (i : Nat), .slice op np cp, .slice ok nk ck, .slice ow nw cw, .slice ov nv cv] w2) := ⟨(hk0.trans hk1).trans hk2, hk2.at hB1 (fun h => h)⟩
  clear hA hB0 hB1 hk0 hk1 hk2 hsz
  obtain ⟨x0, x1, x2, x3, x4, x5, x6, x7⟩ := cells8 H2.out.blk
  have e1 : ¬ k = 1 := by rw [HKM.out]; exact hn1
  have e3 : ¬ k = 3 := by rw [HKM.out]; exact hn3
  go_wp2_with fail
  go_ret
  exact ⟨rfl, H2.out.kp⟩

set_option maxRecDepth 20000 in
set_option maxHeartbeats 4000000 in
theorem fits_prep (w : World) (k cl : Int) (q i : Nat) (op : Option Addr) (np cp : Nat) (ok : Option Addr) (nk ck : Nat) (ow : Option Addr) (nw cw : Nat) (ov : Option Addr) (nv cv : Nat) (rs : List RV) (m : Msg)
    (h : IsM w k cl q i op np cp ok nk ck ow nw cw ov nv cv rs m) (client : Int) (req id : Nat) (hrq : req < 18446744073709551616) (hid : id < 18446744073709551616) (hm : may m = true) (hk3 : m.kind = 1) :
    Calls Try.prog 5 #[.agg #[.int .i64 k, .int .i64 cl, .int .u64 (q : Nat), .int .u64 (i : Nat), .slice op np cp, .slice ok nk ck, .slice ow nw cw, .slice ov nv cv], .int .i64 client, .int .u64 (req : Nat), .int .u64 (id : Nat)] w
      fun e w' => e = .returned (.bool true) ∧ Keeps no w w' := by
  have H : Hid (IsM w k cl q i op np cp ok nk ck ow nw cw ov nv cv rs m) := h
  have hk0 : Keeps no w (w.alloc (.cells #[.int .i64 k, .int .i64 cl, .int .u64 (q : Nat), .int .u64 (i : Nat), .slice op np cp, .slice ok nk ck, .slice ow nw cw, .slice ov nv cv] 29)) := (Keeps.refl _ _).alloc _
  have hsz := Size_any _ k cl q i op np cp ok nk ck ow nw cw ov nv cv rs m (h.keepsN hk0)
  rw [sizE_ok hm] at hsz
  have hB0 := blk_new w (.cells #[.int .i64 k, .int .i64 cl, .int .u64 (q : Nat), .int .u64 (i : Nat), .slice op np cp, .slice ok nk ck, .slice ow nw cw, .slice ov nv cv] 29)
  have HKM : Hid (k = m.kind) := h.k
  have HRQ : Hid (req < 18446744073709551616 ∧ id < 18446744073709551616) := ⟨hrq, hid⟩
  clear h hrq hid
  go_enter Try.func5, Try.ntmps5
  go_wp2_with fail
  refine hsz.mono ?_
  rintro e w1 ⟨rfl, hk1⟩
  go_wp2_with fail
  refine (known_any _).mono ?_
  rintro e w2 ⟨rfl, hk2⟩
  obtain ⟨A, hA⟩ : ∃ A, A = w.heap.size := ⟨_, rfl⟩
  have HAE : Hid (A = w.heap.size) := hA
  have hB1 := hk1.at hB0 (fun h => h)
  rw [← hA] at hB1 ⊢
  have H2 : Hid (At2 w A #[.int .i64 k, .int .i64 cl, .int .u64 (q : Nat), .int .u64 (i : Nat), .slice op np cp, .slice ok nk ck, .slice ow nw cw, .slice ov nv cv] w2) := ⟨(hk0.trans hk1).trans hk2, hk2.at hB1 (fun h => h)⟩
  clear hA hB0 hB1 hk0 hk1 hk2 hsz
  obtain rfl : k = 1 := HKM.out.trans hk3
  have HM : Hid (may m = true) := hm
  have HK3 : Hid (m.kind = 1) := hk3
  obtain ⟨R, hR⟩ : ∃ R, R = max req 1 := ⟨_, rfl⟩
  have HR : Hid (R = max req 1 ∧ 1 ≤ R ∧ R < 18446744073709551616) := ⟨hR, by omega, by have := HRQ.out; omega⟩
  obtain ⟨S, hS⟩ : ∃ S, S = (body m).length := ⟨_, rfl⟩
  have HSE : Hid (S = (body m).length) := hS
  have HKT : Hid (Txs m.keys) := valK_txs (by have := (prep_parts hm hk3).2.1; unfold wset at this; simp at this; exact this.1)
  have hnp : np ≤ 1024 := by
    have := (prep_parts hm hk3).2.2
    unfold mayP at this
    simp only [Bool.and_eq_true] at this
    rw [H.out.np]; exact (valP_all this.1).1
  rw [← hS]
  clear hk3 hm hR hS
  obtain ⟨x0, x1, x2, x3, x4, x5, x6, x7⟩ := cells8 H2.out.blk
  go_wp2_with fail
  go_loopw [11] (fun s wr => ∃ t : Nat, t ≤ np ∧ t ≤ 20 ∧ s = .int .i64 t ∧ Hid (At2 w A #[.int .i64 1, .int .i64 cl, .int .u64 (q : Nat), .int .u64 (i : Nat), .slice op np cp, .slice ok nk ck, .slice ow nw cw, .slice ov nv cv] wr)) (fun s _ => 20 - (intOf s).toNat)
  case atStart => exact ⟨0, by omega, by omega, rfl, H2⟩
  case round =>
    clear x0 x1 x2 x3 x4 x5 x6 x7 H2
    obtain ⟨t, ht, ht20, rfl, HI⟩ := hrel
    rename World => wr
    obtain ⟨x0, x1, x2, x3, x4, x5, x6, x7⟩ := cells8 HI.out.blk
    by_cases hl : t < np ∧ t < 20
    · obtain ⟨hl1, hl2⟩ := hl
      have hl1I : (t : Int) < np := by omega
      have hl2I : (t : Int) < 20 := by omega
      go_wp2_with fail
      refine (answer_any wr 1 cl q i op np cp ok nk ck ow nw cw ov nv cv rs m (H.out.keepsN HI.out.kp) t hl1 HKT.out client req R HR.out.1 HR.out.2.2).mono ?_
      rintro e w3 ⟨⟨G, rv, rfl, hM3⟩, hk3⟩
      obtain ⟨P, hP⟩ : ∃ P, P = m.pairs.getD t p0 := ⟨_, rfl⟩
      rw [← hP] at hM3
      have hfit := ans_fits HM.out HK3.out (p := P) (by rw [hP, List.getD_eq_getElem?_getD, List.getElem?_eq_getElem (by rw [← H.out.np]; exact hl1)]; exact List.getElem_mem _) (c := client % 16) (by omega) HR.out.2.1
      have H3 : Hid (At2 w A #[.int .i64 1, .int .i64 cl, .int .u64 (q : Nat), .int .u64 (i : Nat), .slice op np cp, .slice ok nk ck, .slice ow nw cw, .slice ov nv cv] w3) := HI.out.keepsN hk3
      have hsz3 := Size_any w3 7 (client % 16) R 0 none 0 0 none 0 0 none 0 0 _ 1 1 _ _ hM3.out
      rw [sizE_ok hfit.1] at hsz3
      obtain ⟨T, hT⟩ : ∃ T, T = (body (ans m P (client % 16) R)).length := ⟨_, rfl⟩
      rw [← hT] at hsz3
      have hTS : T ≤ S := by rw [hT, HSE.out]; exact hfit.2
      have hTSI : ¬ (S : Int) < T := by omega
      rw [show ((0 : Nat) : Int) = (0 : Int) from rfl] at hsz3
      have HSZ : Hid (Calls _ _ _ _ _) := hsz3
      clear hT hfit hP hM3 hk3 hsz3 x0 x1 x2 x3 x4 x5 x6 x7
      go_wp2_with fail
      refine Calls.mono HSZ.out ?_
      rintro e w4 ⟨rfl, hk4⟩
      have H4 : Hid (At2 w A #[.int .i64 1, .int .i64 cl, .int .u64 (q : Nat), .int .u64 (i : Nat), .slice op np cp, .slice ok nk ck, .slice ow nw cw, .slice ov nv cv] w4) := H3.out.keepsN hk4
      clear hk4
      go_wp2_with fail
      go_roundw
      case rel => exact ⟨t + 1, by omega, by omega, by go_num, H4⟩
      case measure => simp [intOf] <;> omega
    · by_cases hl1 : t < np
      · have hl2 : t = 20 := by omega
        subst hl2
        have hl1I : ((20 : Nat) : Int) < np := by omega
        go_wp2_with fail
        go_ret
        exact ⟨rfl, HI.out.kp⟩
      · obtain rfl : t = np := by omega
        have hl1I : ¬ (t : Int) < (t : Int) := by omega
        go_wp2_with fail
        go_ret
        exact ⟨rfl, HI.out.kp⟩

set_option maxRecDepth 20000 in
set_option maxHeartbeats 4000000 in
theorem fits_late (w : World) (k cl : Int) (q i : Nat) (op : Option Addr) (np cp : Nat) (ok : Option Addr) (nk ck : Nat) (ow : Option Addr) (nw cw : Nat) (ov : Option Addr) (nv cv : Nat) (rs : List RV) (m : Msg)
    (h : IsM w k cl q i op np cp ok nk ck ow nw cw ov nv cv rs m) (client : Int) (req id : Nat) (hrq : req < 18446744073709551616) (hid : id < 18446744073709551616) (hm : may m = true) (hk3 : m.kind = 3) :
    Calls Try.prog 5 #[.agg #[.int .i64 k, .int .i64 cl, .int .u64 (q : Nat), .int .u64 (i : Nat), .slice op np cp, .slice ok nk ck, .slice ow nw cw, .slice ov nv cv], .int .i64 client, .int .u64 (req : Nat), .int .u64 (id : Nat)] w
      fun e w' => e = .returned (.bool true) ∧ Keeps no w w' := by
  have H : Hid (IsM w k cl q i op np cp ok nk ck ow nw cw ov nv cv rs m) := h
  have hk0 : Keeps no w (w.alloc (.cells #[.int .i64 k, .int .i64 cl, .int .u64 (q : Nat), .int .u64 (i : Nat), .slice op np cp, .slice ok nk ck, .slice ow nw cw, .slice ov nv cv] 29)) := (Keeps.refl _ _).alloc _
  have hsz := Size_any _ k cl q i op np cp ok nk ck ow nw cw ov nv cv rs m (h.keepsN hk0)
  rw [sizE_ok hm] at hsz
  have hB0 := blk_new w (.cells #[.int .i64 k, .int .i64 cl, .int .u64 (q : Nat), .int .u64 (i : Nat), .slice op np cp, .slice ok nk ck, .slice ow nw cw, .slice ov nv cv] 29)
  have HKM : Hid (k = m.kind) := h.k
  have HRQ : Hid (req < 18446744073709551616 ∧ id < 18446744073709551616) := ⟨hrq, hid⟩
  clear h hrq hid
  go_enter Try.func5, Try.ntmps5
  go_wp2_with fail
  refine hsz.mono ?_
  rintro e w1 ⟨rfl, hk1⟩
  go_wp2_with fail
  refine (known_any _).mono ?_
  rintro e w2 ⟨rfl, hk2⟩
  obtain ⟨A, hA⟩ : ∃ A, A = w.heap.size := ⟨_, rfl⟩
  have HAE : Hid (A = w.heap.size) := hA
  have hB1 := hk1.at hB0 (fun h => h)
  rw [← hA] at hB1 ⊢
  have H2 : Hid (At2 w A #[.int .i64 k, .int .i64 cl, .int .u64 (q : Nat), .int .u64 (i : Nat), .slice op np cp, .slice ok nk ck, .slice ow nw cw, .slice ov nv cv] w2) := ⟨(hk0.trans hk1).trans hk2, hk2.at hB1 (fun h => h)⟩
  clear hA hB0 hB1 hk0 hk1 hk2 hsz
  obtain rfl : k = 3 := HKM.out.trans hk3
  have HM : Hid (may m = true) := hm
  have HK3 : Hid (m.kind = 3) := hk3
  obtain ⟨R, hR⟩ : ∃ R, R = max req 1 := ⟨_, rfl⟩
  have HR : Hid (R = max req 1 ∧ 1 ≤ R ∧ R < 18446744073709551616) := ⟨hR, by omega, by have := HRQ.out; omega⟩
  have hmx : max (req : Int) 1 = (R : Int) := by rw [hR]; omega
  obtain ⟨I, hI⟩ : ∃ I, I = max id 65536 := ⟨_, rfl⟩
  have HIE : Hid (65536 ≤ I ∧ I < 18446744073709551616) := ⟨by omega, by have := HRQ.out; omega⟩
  have hmi : max (id : Int) 65536 = (I : Int) := by rw [hI]; omega
  obtain ⟨S, hS⟩ : ∃ S, S = (body m).length := ⟨_, rfl⟩
  have hfit := ask2_fits hm hk3 HR.out.2.1 HIE.out.1
  have HF : Hid (may (ask2 m R I) = true ∧ (body (ask2 m R I)).length = S + 8 * nk) := ⟨hfit.1, by rw [hS, H.out.nk]; exact hfit.2.1⟩
  have hnk : nk ≤ 1024 := by rw [H.out.nk]; exact hfit.2.2
  have hSb : S ≤ 140737488355328 := by
    rw [hS, body_len]
    unfold layF
    rw [hk3, if_neg (by decide), if_pos (by decide), txts_length]
    have hv := (valK_txs (late_parts hm hk3))
    have := hv.body m.keys.length (Nat.le_refl _)
    rw [List.take_length] at this
    have := hfit.2.2
    omega
  rw [← hS]
  clear hk3 hm hR hI hfit hS
  obtain ⟨x0, x1, x2, x3, x4, x5, x6, x7⟩ := cells8 H2.out.blk
  have hXb := blk_new w2 (.cells #[.int .i64 4, .int .i64 cl, .int .u64 (R : Nat), .int .u64 0, .slice none 0 0, .slice none 0 0, .slice none 0 0, .slice none 0 0] 29)
  have hA2 : A < w2.heap.size := lt_of_block H2.out.blk
  go_wp2_with fail
  have H3 : Hid (At2 w A #[.int .i64 3, .int .i64 cl, .int .u64 (q : Nat), .int .u64 (i : Nat), .slice op np cp, .slice ok nk ck, .slice ow nw cw, .slice ov nv cv] (w2.alloc (.cells #[.int .i64 4, .int .i64 cl, .int .u64 (R : Nat), .int .u64 0, .slice none 0 0, .slice none 0 0, .slice none 0 0, .slice none 0 0] 29))) := H2.out.keepsN ((Keeps.refl _ _).alloc _)
  obtain ⟨X, hX⟩ : ∃ X, X = w2.heap.size := ⟨_, rfl⟩
  have HXE : Hid (w.heap.size ≤ X) := by show _ ≤ _; rw [hX]; exact H2.out.kp.size
  have hAX : A < X := by omega
  rw [← hX] at hXb ⊢
  have HXB : Hid (_ = _) := hXb
  clear hX hXb H2 x0 x1 x2 x3 x4 x5 x6 x7 hA2
  generalize w2.alloc (.cells #[.int .i64 4, .int .i64 cl, .int .u64 (R : Nat), .int .u64 0, .slice none 0 0, .slice none 0 0, .slice none 0 0, .slice none 0 0] 29) = W3 at H3 HXB ⊢
  go_loopw [15] (fun s wr => ∃ (t : Nat) (oo : Option Addr) (mo co : Nat), t ≤ nk ∧ s = .int .i64 t ∧ Hid (At2 w A #[.int .i64 3, .int .i64 cl, .int .u64 (q : Nat), .int .u64 (i : Nat), .slice op np cp, .slice ok nk ck, .slice ow nw cw, .slice ov nv cv] wr ∧ wr.heap[X]? = some (.cells #[.int .i64 4, .int .i64 cl, .int .u64 (R : Nat), .int .u64 0, .slice none 0 0, .slice none 0 0, .slice oo mo co, .slice none 0 0] 29 (0, 0)) ∧ Own WE wr oo co ((m.keys.take t).map fun x => (x, I)) ∧ mo = t ∧ (∀ j, inO oo j → X < j))) (fun s _ => nk - (intOf s).toNat)
  case atStart => exact ⟨0, none, 0, 0, by omega, rfl, ⟨H3.out, HXB.out, own_nil _, rfl, fun j hj => by obtain ⟨x, e, _⟩ := hj; cases e⟩⟩
  case round =>
    clear H3 HXB
    obtain ⟨t, oo, mo, co, ht, rfl, HI⟩ := hrel
    rename World => wr
    obtain ⟨x0, x1, x2, x3, x4, x5, x6, x7⟩ := cells8 HI.out.1.blk
    by_cases hl : t < nk
    · have hlI : (t : Int) < nk := by omega
      have htk : t < m.keys.length := by rw [← H.out.nk]; exact hl
      obtain ⟨b, off, eb, hc⟩ := (H.out.kys.keepsN HI.out.1.kp).at htk
      subst eb
      obtain ⟨s1, hs1⟩ : ∃ s, s = m.keys.getD t e0 := ⟨_, rfl⟩
      rw [← hs1] at hc
      have HTK : Hid ((m.keys.take (t + 1)).map (fun x => (x, I)) = (m.keys.take t).map (fun x => (x, I)) ++ [(s1, I)]) := by
        show _ = _
        rw [List.take_add_one, List.map_append, List.getElem?_eq_getElem htk, hs1, List.getD_eq_getElem?_getD, List.getElem?_eq_getElem htk]
        rfl
      obtain ⟨Ls, hLs⟩ : ∃ Ls, Ls = (m.keys.take t).map (fun x => (x, I)) := ⟨_, rfl⟩
      have HLl : Hid (mo = Ls.length) := by show _ = _; rw [hLs, List.length_map, List.length_take, HI.out.2.2.2.1]; omega
      have hmo : mo ≤ 1024 := by have := HI.out.2.2.2.1; omega
      have HB1 : Hid ((Ls.length + 1) * WE.nb ≤ 140737488355328 ∧ Ls.length + 1 ≤ 140737488355328) := ⟨by have := HLl.out; simp only [WE]; omega, by have := HLl.out; omega⟩
      rw [← hLs] at HTK
      have HO : Hid (Own WE wr oo co Ls) := by rw [hLs]; exact HI.out.2.2.1
      have HXW : Hid (wr.heap[X]? = _) := HI.out.2.1
      obtain ⟨z0, z1, z2, z3, z4, z5, z6, z7⟩ := cells8 HXW.out
      have hXl : X < wr.heap.size := lt_of_block HXW.out
      have hbl : b < wr.heap.size := by have := World.block_lt_of_cell? wr _ hc; simpa using this
      have n1 : ¬ A = wr.heap.size := by omega
      have n2 : ¬ wr.heap.size = A := by omega
      have n3 : ¬ X = wr.heap.size := by omega
      have n4 : ¬ wr.heap.size = X := by omega
      have n5 : ¬ b = wr.heap.size := by omega
      have n6 : ¬ wr.heap.size = b := by omega
      have hbX : b < X := by have h1 := H.out.kys.lt okT (fun e => by rw [e] at htk; simp at htk) b ⟨_, rfl, rfl⟩; have := HXE.out; omega
      have n7 : ¬ A = X := by omega
      have n8 : ¬ X = A := by omega
      have n9 : ¬ b = X := by omega
      have n10 : ¬ X = b := by omega
      clear hLs hs1 htk
      go_wp2_with fail
      have y5 := ((Keeps.refl no wr).alloc (.cells #[.string s1, .int .u64 (I : Nat)] 46)).cellN x5
      have y6 := ((Keeps.refl no wr).alloc (.cells #[.string s1, .int .u64 (I : Nat)] 46)).cellN z6
      have y7 := ((Keeps.refl no wr).alloc (.cells #[.string s1, .int .u64 (I : Nat)] 46)).cellN hc
      clear n1 n2 n3 n4 n5 n6 n7 n8 n9 n10
      go_region_law
        ((refine step_appI okW rfl (.tmp 75) (.tmp 84) rfl oo mo co Ls rfl HLl.out ?_ (some ⟨wr.heap.size, 0, none⟩) 1 1 [(s1, I)] rfl rfl (fun e => by cases e) ?_ HB1.out.1 HB1.out.2 ?_; exact HO.out.keepsN ((Keeps.refl no wr).drew.alloc _); exact (own_oneW wr.drew s1 I).row; intro o5 c5 w5 ho5 hap5; have K5 : Hid (Ap (wr.drew.alloc (.cells #[.string s1, .int .u64 (I : Nat)] 46)) oo o5 w5) := hap5; have HO5 : Hid (Own WE w5 o5 c5 (Ls ++ [(s1, I)])) := ho5; have HX5 : Hid (w5.heap[X]? = _) := (ap_keeps hap5).at (blk_alloc (w := wr.drew) HXW.out _) (fun h => by have := HI.out.2.2.2.2 X h; omega); obtain ⟨u0, u1, u2, u3, u4, u5, u6, u7⟩ := cells8 HX5.out; have g6 := frozen_of_blk HX5.out 6; have q1 : w5.cell? ⟨A, 5, none⟩ = some (.slice (some ⟨b, off, none⟩) nk ck) := (ap_keeps hap5).cell (((Keeps.refl no wr).drew.alloc _).cellN x5) (fun h => by have := HI.out.2.2.2.2 A h; omega); have q2 : w5.cell? ⟨b, off + t, none⟩ = some (.string s1) := (ap_keeps hap5).cell (((Keeps.refl no wr).drew.alloc _).cellN hc) (fun h => by have := HI.out.2.2.2.2 b h; omega)))
      all_goals
        have N5 := Ap.new (w0 := w) hap5 (fun j hj => by have := HI.out.2.2.2.2 j hj; have := HXE.out; omega) (HI.out.1.kp.trans ((Keeps.refl no wr).drew.alloc _))
        have hset : Keeps (eqA X) w5 (w5.setCell ⟨X, 6, none⟩ (.slice o5 (mo + 1) c5)) := (Keeps.refl (eqA X) w5).setA 6 _
        have hA5 : w5.heap[A]? = some (.cells #[.int .i64 3, .int .i64 cl, .int .u64 (q : Nat), .int .u64 (i : Nat), .slice op np cp, .slice (some ⟨b, off, none⟩) nk ck, .slice ow nw cw, .slice ov nv cv] 29 (0, 0)) := (ap_keeps hap5).at (((Keeps.refl no wr).drew.alloc _).at HI.out.1.blk (fun h => h)) (fun h => by have := HI.out.2.2.2.2 A h; omega)
        have hX6 : (w5.setCell ⟨X, 6, none⟩ (.slice o5 (mo + 1) c5)).heap[X]? = some (.cells #[.int .i64 4, .int .i64 cl, .int .u64 (R : Nat), .int .u64 0, .slice none 0 0, .slice none 0 0, .slice o5 (mo + 1) c5, .slice none 0 0] 29 (0, 0)) := by rw [blk_set HX5.out 6]; rfl
        have hN6 : ∀ j, inO o5 j → X < j := by
          rcases hap5 with ⟨e, _⟩ | ⟨⟨g, e, hg⟩, _⟩
          · rw [e]; exact HI.out.2.2.2.2
          · intro j hj
            rw [e] at hj
            obtain ⟨x, ex, rfl⟩ := hj
            cases ex
            have hg' : wr.heap.size + 1 ≤ g := by simpa using hg
            show X < g
            omega
        have HJ : Hid (At2 w A #[.int .i64 3, .int .i64 cl, .int .u64 (q : Nat), .int .u64 (i : Nat), .slice op np cp, .slice (some ⟨b, off, none⟩) nk ck, .slice ow nw cw, .slice ov nv cv] (w5.setCell ⟨X, 6, none⟩ (.slice o5 (mo + 1) c5)) ∧ (w5.setCell ⟨X, 6, none⟩ (.slice o5 (mo + 1) c5)).heap[X]? = some (.cells #[.int .i64 4, .int .i64 cl, .int .u64 (R : Nat), .int .u64 0, .slice none 0 0, .slice none 0 0, .slice o5 (mo + 1) c5, .slice none 0 0] 29 (0, 0)) ∧ Own WE (w5.setCell ⟨X, 6, none⟩ (.slice o5 (mo + 1) c5)) o5 c5 ((m.keys.take (t + 1)).map fun x => (x, I)) ∧ mo + 1 = t + 1 ∧ (∀ j, inO o5 j → X < j)) := by
          refine ⟨⟨N5.2.then hset (fun j hj => .inr (by unfold eqA at hj; have := HXE.out; omega)), hset.at hA5 (by unfold eqA; omega)⟩, hX6, ?_, by have := HI.out.2.2.2.1; omega, hN6⟩
          rw [HTK.out]
          exact HO5.out.keeps hset (fun j hj e => by have := hN6 j hj; unfold eqA at e; omega)
        clear N5 hset hA5 hX6 hN6 ho5 hap5
        (go_wp2_with fail
         go_roundw
         case rel => exact ⟨t + 1, o5, mo + 1, c5, by omega, by go_num, HJ⟩
         case measure => simp [intOf] <;> omega)
    · have HTN : Hid (t = nk) := by show t = nk; omega
      have hlI : ¬ (t : Int) < nk := by omega
      obtain ⟨z0, z1, z2, z3, z4, z5, z6, z7⟩ := cells8 HI.out.2.1
      have HKP : Hid (Keeps no w wr) := HI.out.1.kp
      have HA2 : Hid (At2 w A #[.int .i64 3, .int .i64 cl, .int .u64 (q : Nat), .int .u64 (i : Nat), .slice op np cp, .slice ok nk ck, .slice ow nw cw, .slice ov nv cv] wr) := HI.out.1
      have HMX : Hid (IsM wr 4 cl R 0 none 0 0 none 0 0 oo mo co none 0 0 [] (ask2 m R I)) := by
        have hks : (m.keys.take t).map (fun x => (x, I)) = (ask2 m R I).wants := by
          show _ = m.keys.map fun x => (x, I)
          rw [HTN.out, H.out.nk, List.take_length]
        have ho := HI.out.2.2.1
        rw [hks] at ho
        have hf := H.out.fit
        have hwl : ∀ p ∈ (ask2 m R I).wants, ∃ x ∈ m.keys, p = (x, I) := fun p hp => by
          obtain ⟨x, hx, e⟩ := List.mem_map.1 hp
          exact ⟨x, hx, e.symm⟩
        refine ⟨rfl, H.out.cl, rfl, rfl, rfl, rfl, ?_, rfl, own_nil_sl _, own_nil_sl _, ho.sl, ⟨own_nil_sl _, rfl, fun j hj => by simp [ask2] at hj⟩, ?_, ?_⟩
        · rw [HI.out.2.2.2.1, HTN.out, H.out.nk]; simp [ask2]
        · refine ⟨by show (-9223372036854775808 : Int) ≤ 4; decide, by show (4 : Int) ≤ _; decide, H.out.rng.c1, H.out.rng.c2, HR.out.2.2, by show (0 : Nat) < _; decide, fun p hp => ?_, fun v hv => by simp [ask2] at hv⟩
          obtain ⟨x, _, rfl⟩ := hwl p hp
          exact HIE.out.2
        · refine ⟨by simp [ask2], fun p hp => by simp [ask2] at hp, by simp [ask2], fun p hp => by simp [ask2] at hp, ?_, fun p hp => ?_, by simp [ask2], fun v hv => by simp [ask2] at hv⟩
          · show (m.keys.map _).length ≤ _
            rw [List.length_map, ← H.out.nk]; omega
          · obtain ⟨x, hx, rfl⟩ := hwl p hp
            exact hf.keys x hx
      have hsz4 := Size_any wr 4 cl R 0 none 0 0 none 0 0 oo mo co none 0 0 [] _ HMX.out
      rw [sizE_ok HF.out.1, HF.out.2, show ((0 : Nat) : Int) = (0 : Int) from rfl] at hsz4
      obtain ⟨T, hT⟩ : ∃ T, T = S + 8 * nk := ⟨_, rfl⟩
      rw [← hT] at hsz4
      have HSZ : Hid (Calls _ _ _ _ _) := hsz4
      have hTI : (S : Int) + 8 * (nk : Int) = (T : Int) := by omega
      have HTE : Hid (T = S + 8 * nk) := hT
      clear hsz4 hT HI
      go_wp2_with fail
      refine Calls.mono HSZ.out ?_
      rintro e w6 ⟨rfl, hk6⟩
      have H6 : Hid (At2 w A #[.int .i64 3, .int .i64 cl, .int .u64 (q : Nat), .int .u64 (i : Nat), .slice op np cp, .slice ok nk ck, .slice ow nw cw, .slice ov nv cv] w6) := HA2.out.keepsN hk6
      obtain ⟨x0, x1, x2, x3, x4, x5, x6, x7⟩ := cells8 H6.out.blk
      obtain ⟨v0, v1, v2, v3, v4, v5, v6, v7⟩ : w6.cell? ⟨X, 0, none⟩ = _ ∧ w6.cell? ⟨X, 1, none⟩ = _ ∧ w6.cell? ⟨X, 2, none⟩ = _ ∧ w6.cell? ⟨X, 3, none⟩ = _ ∧ w6.cell? ⟨X, 4, none⟩ = _ ∧ w6.cell? ⟨X, 5, none⟩ = _ ∧ w6.cell? ⟨X, 6, none⟩ = _ ∧ w6.cell? ⟨X, 7, none⟩ = _ := ⟨hk6.cellN z0, hk6.cellN z1, hk6.cellN z2, hk6.cellN z3, hk6.cellN z4, hk6.cellN z5, hk6.cellN z6, hk6.cellN z7⟩
      have HM6 : Hid (IsM w6 4 cl R 0 none 0 0 none 0 0 oo mo co none 0 0 [] (ask2 m R I)) := HMX.out.keepsN hk6
      clear hk6 z0 z1 z2 z3 z4 z5 z6 z7
      by_cases hS2 : (S : Int) ≤ 1032192
      · have hen := Encode_any w6 4 cl R 0 none 0 0 none 0 0 oo mo co none 0 0 [] _ HM6.out
        have hok := encE_ok HF.out.1 (by rw [HF.out.2]; omega)
        rw [hok.1, show ((0 : Nat) : Int) = (0 : Int) from rfl] at hen
        have HEN : Hid (Calls _ _ _ _ _) := hen
        clear hen hok
        go_wp2_with fail
        refine Calls.mono HEN.out ?_
        rintro e w7 ⟨o7, n7, c7, rfl, _, _, _, hk7⟩
        rw [show ((0 : Nat) : Int) = (0 : Int) from rfl]
        go_wp2_with fail
        go_ret
        exact ⟨rfl, H6.out.kp.trans hk7⟩
      · go_wp2_with fail
        go_ret
        exact ⟨rfl, H6.out.kp⟩

theorem msgFits_any (w : World) (k cl : Int) (q i : Nat) (op : Option Addr) (np cp : Nat) (ok : Option Addr) (nk ck : Nat) (ow : Option Addr) (nw cw : Nat) (ov : Option Addr) (nv cv : Nat) (rs : List RV) (m : Msg)
    (h : IsM w k cl q i op np cp ok nk ck ow nw cw ov nv cv rs m) (client : Int) (rq ix : Int) (b1 : -9223372036854775808 ≤ client ∧ client ≤ 9223372036854775807) (b2 : 0 ≤ rq ∧ rq ≤ 18446744073709551615) (b3 : 0 ≤ ix ∧ ix ≤ 18446744073709551615) :
    Calls Try.prog 5 #[.agg #[.int .i64 k, .int .i64 cl, .int .u64 (q : Nat), .int .u64 (i : Nat), .slice op np cp, .slice ok nk ck, .slice ow nw cw, .slice ov nv cv], .int .i64 client, .int .u64 rq, .int .u64 ix] w
      fun e w' => e = .returned (.bool true) ∧ Keeps no w w' := by
  obtain ⟨r, rfl⟩ : ∃ r : Nat, rq = r := ⟨rq.toNat, by omega⟩
  obtain ⟨x, rfl⟩ : ∃ x : Nat, ix = x := ⟨ix.toNat, by omega⟩
  by_cases hm : may m = true
  · by_cases h1 : m.kind = 1
    · exact fits_prep w k cl q i op np cp ok nk ck ow nw cw ov nv cv rs m h client r x (by omega) (by omega) hm h1
    · by_cases h3 : m.kind = 3
      · exact fits_late w k cl q i op np cp ok nk ck ow nw cw ov nv cv rs m h client r x (by omega) (by omega) hm h3
      · exact fits_else w k cl q i op np cp ok nk ck ow nw cw ov nv cv rs m h client r x (by omega) (by omega) hm h1 h3
  · exact fits_no w k cl q i op np cp ok nk ck ow nw cw ov nv cv rs m h client r x (by omega) (by omega) (by simpa using hm)

end Go.Proofs.Ytjklpcamlppegaa
