import Derived.Test.YtdemoghlibnooaaGreatDoorG3
namespace Go.Proofs.YtdemoghlibnooaaGreatDoor
open Go.RowKit Dk
set_option linter.unusedVariables false
set_option linter.unusedSimpArgs false
set_option maxRecDepth 10000 in
theorem rename_any (w : World) (p : Nat) (F : Nat → Prop) (s : St) (a n : Tx) (h : IsD w p F s) (ha : a.size ≤ maxLen) :
    Calls Tryz.prog 102 #[.pointer (some ⟨p, 0, none⟩), .string a, .string n] w fun e w' => e = .returned (.int .i64 (counted s (renameOn a.data.toList n.data.toList)).2) ∧ IsD w' p F (counted s (renameOn a.data.toList n.data.toList)).1 ∧ Keeps F w w' := by
  obtain ⟨t, ht⟩ : ∃ t, t = tick s := ⟨_, rfl⟩
  rw [counted_cT, ← ht]
  have HT : Hid (t = tick s) := ht
  clear ht
  go_enter Tryz.func102, Tryz.ntmps102
  go_wp2_with fail
  refine (counts_any w p F s h).mono ?_
  rintro e w1 ⟨rfl, h1, HK⟩
  rw [← HT.out] at h1 ⊢
  cases ho : t.off with
  | true =>
    go_wp2
    go_ret
    rw [cT_off ho]
    exact ⟨rfl, h1, HK⟩
  | false =>
  go_wp2_with fail
  refine (isName_any w1 n).mono ?_
  rintro e w1' ⟨rfl, e2⟩
  subst w1'
  cases hg : good n.data.toList with
  | false =>
    go_wp2
    go_ret
    rw [cT_on ho, renameOn, hg]
    exact ⟨rfl, h1, HK⟩
  | true =>
  obtain ⟨bm, c, L, hd⟩ := h1
  have c0 : w1.cell? ⟨p, 0, none⟩ = some (.map (some bm)) := cell_of_blk hd.blk 0
  have hl := look hd.map a ha
  have hmp : w1.ownsMap Tryz.prog 9 R70 bm L.length (datW L) := hd.map
  have HD : Hid (DL w1 p F t bm c L) := hd
  have HK0 : Hid (Keeps F w w1) := HK
  have hkey := key9 a ha
  have HN1 : Hid (n.size ≤ 281474976710656) := (show n.size ≤ 281474976710656 by have := good_size hg; omega)
  clear hd HK
  cases hf : Dk.find a.data.toList L with
  | none =>
    rw [hf] at hl
    simp only [ptrOf] at hl
    clear hmp
    go_wp2
    go_ret
    rw [cT_on ho, renameOn, if_pos hg, onF_none (by rw [HD.out.find, hf]; rfl)]
    exact ⟨rfl, ⟨bm, c, L, HD.out⟩, HK0.out⟩
  | some x =>
    rw [hf] at hl
    simp only [ptrOf] at hl
    go_wp2_with (first | (at_delete; refine wpList_delete_own _ rfl _ _ 87 9 rfl 96 law9 Tryz.underlying87 R70 bm _ _ rfl hmp _ _ rfl hkey ?_; intro w2 hown2 hturn2; have HM2 : Hid (IsM w2 bm (del a.data.toList L)) := (show _ from isM_of (by rw [← dat_delW]; exact hown2)); have HKS : Hid (Keeps (fun i => i = bm) w1 w2) := (show _ from keeps_of_grown hturn2.grown); have c2 : w2.cell? ⟨p, 0, none⟩ = some (.map (some bm)) := HKS.out.cell c0 HD.out.p_bm; clear hown2 hturn2) | (go_at_call 47; refine (dlay_any _ p bm (del a.data.toList L) n x HN1.out c2 HM2.out (Nat.le_trans (length_del_le _) (by rw [← HD.out.len]; exact HD.out.ok.len))).mono ?_; rintro e w3 ⟨rfl, hm3, hk3⟩) | go_in)
    go_ret
    have hff := HD.out.find a.data.toList
    rw [hf] at hff
    have hok := renameOn_ok (a := a.data.toList) (b := n.data.toList) HD.out.ok
    rw [renameOn, if_pos hg, onF_some hff] at hok
    rw [cT_on ho, renameOn, if_pos hg, onF_some hff]
    have hm := find_mem hf
    have hd2 := HD.out.del HM2.out HKS.out
    have hx2 : FileAt w2 x := (HD.out.files _ hm).keeps HKS.out ((HD.out.files _ hm).ne_bm HD.out.map) ((HD.out.files _ hm).o_bm HD.out.map)
    have hd3 := hd2.lay (F' := F) hx2 (fun q hq hqn => apart_of HD.out.apart (mem_del.1 hq).1 hm (mem_del.1 hq).2) hm3 hk3 (fun k hk => hk) (HD.out.ff _ hm).1 (HD.out.ff _ hm).2 (fun k hk => Nat.lt_of_lt_of_le (hd2.lt k hk) hk3.size) hok
    exact ⟨rfl, ⟨bm, c, _, hd3⟩, HK0.out.trans ((HKS.out.trans hk3).mono fun i e => by subst e; exact HD.out.fm)⟩
theorem full_any (w : World) (p : Nat) (F : Nat → Prop) (s : St) (h : IsD w p F s) (n : Int) (hn : i64 n) :
    Calls Tryz.prog 19 #[.pointer (some ⟨p, 0, none⟩), .int .i64 n] w fun e w' => e = .returned (.tuple #[]) ∧ IsD w' p F (full n s) ∧ Keeps F w w' := by
  obtain ⟨bm, c, L, h⟩ := h
  have c2 : w.cell? ⟨p, 2, none⟩ = some (.int .i64 ((s.ref : Nat) : Int)) := cell_of_blk h.blk 2
  have f2 : w.frozen? ⟨p, 2, none⟩ = false := frozen_of_blk h.blk 2
  have HE : Hid (max n 0 = ((n.toNat : Nat) : Int)) := (show _ = _ by omega)
  go_enter Tryz.func19, Tryz.ntmps19
  go_wp2
  go_end0
  rw [HE.out]
  have hk := keeps_setG w p 2 (.int .i64 ((n.toNat : Nat) : Int))
  refine ⟨rfl, ⟨bm, c, L, h.cells hk ?_ rfl (full_ok h.ok) h.cc h.ci h.ki (by have := hn.2; simp [full]; omega)⟩, hk.mono (fun i e => by subst e; exact h.fp)⟩
  exact blk_set h.blk 2 (.int .i64 ((n.toNat : Nat) : Int))
theorem dn_full {w0 w : World} {p : Nat} {F : Nat → Prop} {s s' : St} (n : Int) (h : Dn w0 w p F s) (hA : full n s = s') (hn : i64 n) :
    Calls Tryz.prog 19 #[.pointer (some ⟨p, 0, none⟩), .int .i64 n] w fun e w' => e = .returned (.tuple #[]) ∧ Hid (Dn w0 w' p F s') ∧ Hid (Keeps F w w') := by
  refine (full_any w p F s h.is n hn).mono ?_
  rintro e w' ⟨rfl, hi, hk⟩
  rw [hA] at hi
  exact ⟨rfl, h.same hi hk, hk⟩
theorem dn_rename {w0 w : World} {p : Nat} {F : Nat → Prop} {s s' : St} {er : Int} (a n : Tx) (h : Dn w0 w p F s) (hA : counted s (renameOn a.data.toList n.data.toList) = (s', er)) (hn : a.size ≤ maxLen) :
    Calls Tryz.prog 102 #[.pointer (some ⟨p, 0, none⟩), .string a, .string n] w fun e w' => e = .returned (.int .i64 er) ∧ Hid (Dn w0 w' p F s') ∧ Hid (Keeps F w w') := by
  refine (rename_any w p F s a n h.is hn).mono ?_
  rintro e w' ⟨rfl, hi, hk⟩
  rw [hA] at hi ⊢
  exact ⟨rfl, h.same hi hk, hk⟩
end Go.Proofs.YtdemoghlibnooaaGreatDoor
