/- Rename, List. -/
import Derived.Test.YtgobakfffobpkaaD7
namespace Go.Proofs.Ytgobakfffobpkaa
open Go.RowKit Dk
set_option linter.unusedVariables false
set_option linter.unusedSimpArgs false

set_option maxRecDepth 10000 in
theorem rename_any (w : World) (p : Nat) (F : Nat → Prop) (s : St) (a n : Tx) (h : IsD w p F s) (ha : a.size ≤ maxLen) :
    Calls Try.prog 15 #[.pointer (some ⟨p, 0, none⟩), .string a, .string n] w fun e w' => e = .returned (.int .i64 (counted s (renameOn a.data.toList n.data.toList)).2) ∧ IsD w' p F (counted s (renameOn a.data.toList n.data.toList)).1 ∧ Keeps F w w' := by
  obtain ⟨t, ht⟩ : ∃ t, t = tick s := ⟨_, rfl⟩
  rw [counted_cT, ← ht]
  have HT : Hid (t = tick s) := ht
  clear ht
  go_enter Try.func15, Try.ntmps15
  go_wp2_with fail
  refine (counts_any w p F s h).mono ?_
  rintro e w1 ⟨rfl, h1, HK⟩
  rw [← HT.out] at h1 ⊢
  cases ho : t.off with
  | true =>
    go_wp2
    go_ret
    rw [cT_off ho]
    exact ⟨rfl, h1, HK⟩
  | false =>
  go_wp2_with fail
  refine (isName_any w1 n).mono ?_
  rintro e w1' ⟨rfl, e2⟩
  subst w1'
  cases hg : good n.data.toList with
  | false =>
    go_wp2
    go_ret
    rw [cT_on ho, renameOn, hg]
    exact ⟨rfl, h1, HK⟩
  | true =>
  obtain ⟨bm, c, L, hd⟩ := h1
  have c0 : w1.cell? ⟨p, 0, none⟩ = some (.map (some bm)) := cell_of_blk hd.blk 0
  have hl := look hd.map a ha
  have hmp : w1.ownsMap Try.prog 9 R70 bm L.length (dat L) := hd.map
  have HD : Hid (DL w1 p F t bm c L) := hd
  have HK0 : Hid (Keeps F w w1) := HK
  have hkey := key9 a ha
  have HN1 : Hid (n.size ≤ 281474976710656) := (show n.size ≤ 281474976710656 by have := good_size hg; omega)
  clear hd HK
  cases hf : Dk.find a.data.toList L with
  | none =>
    rw [hf] at hl
    simp only [ptrOf] at hl
    clear hmp
    go_wp2
    go_ret
    rw [cT_on ho, renameOn, if_pos hg, onF_none (by rw [HD.out.find, hf]; rfl)]
    exact ⟨rfl, ⟨bm, c, L, HD.out⟩, HK0.out⟩
  | some x =>
    rw [hf] at hl
    simp only [ptrOf] at hl
    go_wp2_with (first | (at_delete; refine wpList_delete_own _ rfl _ _ 66 9 rfl 70 law9 Try.underlying66 R70 bm _ _ rfl hmp _ _ rfl hkey ?_; intro w2 hown2 hturn2; have HM2 : Hid (IsM w2 bm (del a.data.toList L)) := (show _ from isM_of (by rw [← dat_del]; exact hown2)); have HKS : Hid (Keeps (fun i => i = bm) w1 w2) := (show _ from keeps_of_grown hturn2.grown); have c2 : w2.cell? ⟨p, 0, none⟩ = some (.map (some bm)) := HKS.out.cell c0 HD.out.p_bm; clear hown2 hturn2) | (go_at_call 38; refine (lay_any _ p bm (del a.data.toList L) n x HN1.out c2 HM2.out (Nat.le_trans (length_del_le _) (by rw [← HD.out.len]; exact HD.out.ok.len))).mono ?_; rintro e w3 ⟨rfl, hm3, hk3⟩) | go_in)
    go_ret
    have hff := HD.out.find a.data.toList
    rw [hf] at hff
    have hok := renameOn_ok (a := a.data.toList) (b := n.data.toList) HD.out.ok
    rw [renameOn, if_pos hg, onF_some hff] at hok
    rw [cT_on ho, renameOn, if_pos hg, onF_some hff]
    have hm := find_mem hf
    have hd2 := HD.out.del HM2.out HKS.out
    have hx2 : FileAt w2 x := (HD.out.files _ hm).keeps HKS.out ((HD.out.files _ hm).ne_bm HD.out.map) ((HD.out.files _ hm).o_bm HD.out.map)
    have hd3 := hd2.lay (F' := F) hx2 (fun q hq hqn => apart_of HD.out.apart (mem_del.1 hq).1 hm (mem_del.1 hq).2) hm3 hk3 (fun k hk => hk) (HD.out.ff _ hm).1 (HD.out.ff _ hm).2 (fun k hk => Nat.lt_of_lt_of_le (hd2.lt k hk) hk3.size) hok
    exact ⟨rfl, ⟨bm, c, _, hd3⟩, HK0.out.trans ((HKS.out.trans hk3).mono fun i e => by subst e; exact HD.out.fm)⟩

/-! ### the names, rising -/
theorem bb_lt : ∀ a b : Nm, bytesBefore a b = decide (a < b)
  | [], [] => by simp [bytesBefore]
  | [], _ :: _ => by simp [bytesBefore]
  | _ :: _, [] => by simp [bytesBefore]
  | x :: r, y :: t => by
    rw [bytesBefore, bb_lt r t]
    by_cases h : x < y
    · simp [h, List.cons_lt_cons_iff]
    · by_cases e : x = y
      · subst e; simp
      · have e' : (x == y) = false := by simpa using e
        simp [h, e, e', List.cons_lt_cons_iff]
theorem le_ext : ∀ {l1 l2 : List Nm}, l1.Pairwise (· ≤ ·) → l2.Pairwise (· ≤ ·) → l1.Perm l2 → l1 = l2
  | [], [], _, _, _ => rfl
  | [], y :: r, _, _, hm => by have := hm.length_eq; simp at this
  | x :: r, [], _, _, hm => by have := hm.length_eq; simp at this
  | x :: r1, y :: r2, h1, h2, hm => by
    have p1 := List.pairwise_cons.1 h1
    have p2 := List.pairwise_cons.1 h2
    have hxy : x = y := by
      rcases List.mem_cons.1 (hm.mem_iff.1 (show x ∈ x :: r1 by simp)) with e | hx
      · exact e
      · rcases List.mem_cons.1 (hm.mem_iff.2 (show y ∈ y :: r2 by simp)) with e | hy
        · exact e.symm
        · exact List.le_antisymm (p1.1 y hy) (p2.1 x hx)
    subst hxy
    rw [le_ext p1.2 p2.2 ((List.perm_cons x).1 hm)]
theorem sorted_names {β : Type} {L : List (Nm × β)} (hL : Inc L) {ss : List Nm} (hp : ss.Perm (names L)) : ss.mergeSort (fun x y => decide (x ≤ y)) = names L := by
  refine le_ext ?_ ?_ ((List.mergeSort_perm ss _).trans hp)
  · have := List.pairwise_mergeSort (le := fun x y : List UInt8 => decide (x ≤ y)) (fun a b c h1 h2 => by
      simp only [decide_eq_true_eq] at *
      exact List.le_trans h1 h2) (fun a b => by
      simp only [Bool.or_eq_true, decide_eq_true_eq]
      exact List.le_total a b) ss
    exact List.Pairwise.imp (fun h => by simpa using h) this
  · rw [inc_names] at hL
    exact List.Pairwise.imp (fun h => by rw [bb_lt, decide_eq_true_eq] at h; exact List.le_of_lt h) hL
theorem dat_keys (L : LL) : strKeys (dat L) = names L := by
  simp [strKeys, dat, names, Function.comp_def, dat1, strOf]

set_option maxRecDepth 10000 in
theorem list_any (w : World) (p : Nat) (F : Nat → Prop) (s : St) (h : IsD w p F s) :
    Calls Try.prog 21 #[.pointer (some ⟨p, 0, none⟩)] w fun e w' => ∃ o c m, e = .returned (.tuple #[.slice o m c, .int .i64 (listE (tick s))]) ∧ Hid (m = (listN (tick s)).length) ∧ Own TE w' o c ((listN (tick s)).map mkT) ∧ New w o ∧ IsD w' p F (tick s) ∧ Keeps F w w' := by
  obtain ⟨t, ht⟩ : ∃ t, t = tick s := ⟨_, rfl⟩
  rw [← ht]
  have HT : Hid (t = tick s) := ht
  clear ht
  go_enter Try.func21, Try.ntmps21
  go_wp2_with fail
  refine (counts_any w p F s h).mono ?_
  rintro e w1 ⟨rfl, h1, HK⟩
  rw [← HT.out] at h1 ⊢
  cases ho : t.off with
  | true =>
    go_wp2
    go_ret2
    have e1 : listN t = [] := by simp [listN, ho]
    have e2 : listE t = 62 := by simp [listE, ho]
    rw [e1, e2]
    exact ⟨_, _, _, rfl, rfl, own_nil _, new_none _, h1, HK⟩
  | false =>
    obtain ⟨bm, c, L, hd⟩ := h1
    have c0 : w1.cell? ⟨p, 0, none⟩ = some (.map (some bm)) := cell_of_blk hd.blk 0
    have HD : Hid (DL w1 p F t bm c L) := hd
    have HK0 : Hid (Keeps F w w1) := HK
    have hL16 : L.length ≤ 16 := by rw [← hd.len]; exact hd.ok.len
    have K1 := fun (W : World) => callsIn_wide.1 (Try.maps_Keys_42 (some bm) W)
    have K2 := callsIn_wide.1 (Try.slices_Sorted_keys_41_42 bm L.length (dat L) R70 w1 hd.map (by rw [dat_size]; unfold maxLen; omega) (by rw [dat_size]; omega))
    clear hd HK
    go_wp2_with (first | (go_at_call 42; refine (K1 _).mono ?_; rintro e w2 ⟨rfl, rfl⟩) | (go_at_call 41; refine K2.mono ?_; rintro e w3 ⟨v, ss, rfl, hS, hrow, hnil, hb⟩))
    go_ret2
    have e1 : listN t = names L := by simp [listN, ho]; rw [HD.out.fs, names_mapv]
    have e2 : listE t = 0 := by simp [listE, ho]
    rw [dat_keys] at hS
    rw [sorted_names HD.out.inc hS] at hrow
    have hrow0 : w3.ownsRow 0 TE.e TE.k v ss.length (TE.cells ((names L).map mkT)) := by
      rw [cells_T, List.map_map]
      have hr := hrow
      obtain ⟨r1, r2⟩ := hr
      refine ⟨r1, ?_⟩
      rcases r2 with r2 | ⟨g, cap, cur, q1, q2, q3⟩
      · exact .inl r2
      · exact .inr ⟨g, cap, cur, q1, Nat.zero_le _, q3⟩
    obtain ⟨o, c', hv, hn, hown⟩ := own_val okT hrow0
    rw [e1, e2]
    have hk : Keeps no w1 w3 := ((Keeps.refl no w1).alloc _).trans (Keeps.of_below hb)
    refine ⟨o, c', ss.length, by rw [hv]; rfl, (show _ = _ by rw [hn, List.length_map]), hown, ?_, IsD.keepsN ⟨bm, c, L, HD.out⟩ hk, HK0.out.trans hk.of_no⟩
    rintro k ⟨x, hx, rfl⟩
    rcases hrow.2 with ⟨q, _⟩ | ⟨g, cap, cur, q1, q2, q3⟩
    · rw [hv] at q; injection q with q; rw [q] at hx; cases hx
    · rw [hv] at q1; injection q1 with q1; rw [q1] at hx; cases hx
      have := HK0.out.size
      simp only [World.size_alloc] at q2
      show w.heap.size ≤ g
      omega
end Go.Proofs.Ytgobakfffobpkaa
