/- Sync, Cut, Delete; a file laid under a name. -/
import Derived.Test.YtgobakfffobpkaaD3
namespace Go.Proofs.Ytgobakfffobpkaa
open Go.RowKit Dk
set_option linter.unusedVariables false
set_option linter.unusedSimpArgs false

def cT (t : St) (g : St → St × Int) : St × Int := if t.off then (t, 62) else g t
theorem counted_cT (s : St) (g : St → St × Int) : counted s g = cT (tick s) g := rfl
theorem cT_off {t : St} (h : t.off = true) (g : St → St × Int) : cT t g = (t, 62) := by unfold cT; rw [h]; rfl
theorem cT_on {t : St} (h : t.off = false) (g : St → St × Int) : cT t g = g t := by unfold cT; rw [h]; rfl
theorem onF_none {n : Nm} {t : St} (h : find n t.fs = none) (g : Fl → St × Int) : onF n t g = (t, 61) := by unfold onF; rw [h]
theorem onF_some {n : Nm} {t : St} {f : Fl} (h : find n t.fs = some f) (g : Fl → St × Int) : onF n t g = g f := by unfold onF; rw [h]

set_option maxRecDepth 10000 in
theorem sync_any (w : World) (p : Nat) (F : Nat → Prop) (s : St) (n : Tx) (h : IsD w p F s) (hn : n.size ≤ maxLen) :
    Calls Try.prog 13 #[.pointer (some ⟨p, 0, none⟩), .string n] w fun e w' => e = .returned (.int .i64 (counted s (syncOn n.data.toList)).2) ∧ IsD w' p F (counted s (syncOn n.data.toList)).1 ∧ Keeps F w w' := by
  obtain ⟨t, ht⟩ : ∃ t, t = tick s := ⟨_, rfl⟩
  rw [counted_cT, ← ht]
  have HT : Hid (t = tick s) := ht
  clear ht
  go_enter Try.func13, Try.ntmps13
  go_wp2_with fail
  refine (find_any w p F s n h hn).mono ?_
  rintro e w1 ⟨v, er, rfl, hF, HK⟩
  rw [← HT.out] at hF
  cases hF with
  | off h ho =>
    go_wp2
    go_ret
    rw [cT_off ho]
    exact ⟨rfl, h, HK⟩
  | none h ho hf =>
    go_wp2
    go_ret
    rw [cT_on ho, syncOn, onF_none hf]
    exact ⟨rfl, h, HK⟩
  | some bm c L x h ho hf =>
    have hx := h.files _ (find_mem hf)
    have c0 : w1.cell? ⟨x.p, 0, none⟩ = some (.slice x.o x.bs.length x.c) := cell_of_blk hx.blk 0
    have c1 : w1.cell? ⟨x.p, 1, none⟩ = some (.int .i64 ((x.sy : Nat) : Int)) := cell_of_blk hx.blk 1
    have f1 : w1.frozen? ⟨x.p, 1, none⟩ = false := frozen_of_blk hx.blk 1
    have HX : Hid (FileAt w1 x) := hx
    have HD : Hid (DL w1 p F t bm c L) := h
    clear hx h
    go_wp2
    go_ret
    have hff := HD.out.find n.data.toList
    rw [hf] at hff
    rw [cT_on ho, syncOn, onF_some hff]
    have hks := keeps_set w1 x.p 1 (.int .i64 ((x.bs.length : Nat) : Int))
    have hx' : FileAt (w1.setCell ⟨x.p, 1, none⟩ (.int .i64 ((x.bs.length : Nat) : Int))) ⟨x.p, x.o, x.c, x.bs, x.bs.length⟩ :=
      ⟨blk_set HX.out.blk 1 _, HX.out.own.keeps hks (fun i hi e => HX.out.o_p HX.out i hi e)⟩
    have := HD.out.upd (F' := F) hf (hks.mono fun i e => .inl e) hx' rfl (fun k hk => .inl hk) (fun k hk => hk) (fun k hk => (HD.out.ff _ (find_mem hf)).2 k hk) (fun k hk => Nat.lt_of_lt_of_le (HD.out.lt k hk) hks.size)
      (by have := syncOn_ok (n := n.data.toList) HD.out.ok; rw [syncOn, onF_some hff] at this; exact this)
    exact ⟨rfl, ⟨bm, c, _, this⟩, HK.trans (hks.mono fun i e => by subst e; exact (HD.out.ff _ (find_mem hf)).1)⟩

set_option maxRecDepth 10000 in
theorem cut_any (w : World) (p : Nat) (F : Nat → Prop) (s : St) (n : Tx) (k : Int) (h : IsD w p F s) (hn : n.size ≤ maxLen) (hk : i64 k) :
    Calls Try.prog 31 #[.pointer (some ⟨p, 0, none⟩), .string n, .int .i64 k] w fun e w' => e = .returned (.int .i64 (counted s (cutOn n.data.toList k)).2) ∧ IsD w' p F (counted s (cutOn n.data.toList k)).1 ∧ Keeps F w w' := by
  obtain ⟨t, ht⟩ : ∃ t, t = tick s := ⟨_, rfl⟩
  rw [counted_cT, ← ht]
  have HT : Hid (t = tick s) := ht
  have k1 := hk.1
  have k2 := hk.2
  clear ht hk
  go_enter Try.func31, Try.ntmps31
  go_wp2_with fail
  refine (find_any w p F s n h hn).mono ?_
  rintro e w1 ⟨v, er, rfl, hF, HK⟩
  rw [← HT.out] at hF
  cases hF with
  | off h ho =>
    go_wp2
    go_ret
    rw [cT_off ho]
    exact ⟨rfl, h, HK⟩
  | none h ho hf =>
    go_wp2
    go_ret
    rw [cT_on ho, cutOn, onF_none hf]
    exact ⟨rfl, h, HK⟩
  | some bm c L x h ho hf =>
    have hx := h.files _ (find_mem hf)
    obtain ⟨xp, xo, xc, bs, sy⟩ := x
    obtain ⟨m, hm⟩ : ∃ m, m = bs.length := ⟨_, rfl⟩
    have c0 : w1.cell? ⟨xp, 0, none⟩ = some (.slice xo m xc) := by rw [hm]; exact cell_of_blk hx.blk 0
    have c1 : w1.cell? ⟨xp, 1, none⟩ = some (.int .i64 ((sy : Nat) : Int)) := cell_of_blk hx.blk 1
    have f0 : w1.frozen? ⟨xp, 0, none⟩ = false := frozen_of_blk hx.blk 0
    have f1 : w1.frozen? ⟨xp, 1, none⟩ = false := frozen_of_blk hx.blk 1
    have hmc : m ≤ xc := by rw [hm]; exact hx.own.cap.1
    have hcm : xc ≤ 9223372036854775807 := by have := hx.own.max; unfold maxLen at this; omega
    have hff := h.find n.data.toList
    rw [hf] at hff
    have hsy : sy ≤ m := by rw [hm]; exact (good_of h.ok hff).2
    have HX : Hid (FileAt w1 ⟨xp, xo, xc, bs, sy⟩) := hx
    have HD : Hid (DL w1 p F t bm c L) := h
    have HM : Hid (m = bs.length) := hm
    have HFF : Hid (Dk.find n.data.toList t.fs = some (⟨xp, xo, xc, bs, sy⟩ : Lo).fl) := hff
    clear hx h hm hff
    by_cases h1 : k < 0
    · go_wp2
      go_ret
      rw [cT_on ho, cutOn, onF_some HFF.out, if_pos (.inl h1)]
      exact ⟨rfl, ⟨bm, c, L, HD.out⟩, HK⟩
    · by_cases h2 : (m : Int) < k
      · go_wp2
        go_ret
        rw [cT_on ho, cutOn, onF_some HFF.out, if_pos (.inr (by show ((bs.length : Nat) : Int) < k; rw [← HM.out]; exact h2))]
        exact ⟨rfl, ⟨bm, c, L, HD.out⟩, HK⟩
      · obtain ⟨K, rfl⟩ : ∃ K : Nat, k = K := ⟨k.toNat, by omega⟩
        have hcut := cutO xo m xc K (by omega) HX.out.own.cap.2
        have hKn : K ≤ m := by omega
        have HMI : Hid (min ((sy : Nat) : Int) ((K : Nat) : Int) = ((min sy K : Nat) : Int)) := (show _ = _ by omega)
        go_wp2
        go_ret
        rw [cT_on ho, cutOn, onF_some HFF.out, if_neg (by show ¬ (_ ∨ ((bs.length : Nat) : Int) < _); rw [← HM.out]; omega)]
        rw [HMI.out]
        have hks := (keeps_set w1 xp 0 (.slice xo K xc)).trans (keeps_set _ xp 1 (.int .i64 ((min sy K : Nat) : Int)))
        have hl : (bs.take K).length = K := by rw [List.length_take, ← HM.out, Nat.min_eq_left hKn]
        have hx' : FileAt ((w1.setCell ⟨xp, 0, none⟩ (.slice xo K xc)).setCell ⟨xp, 1, none⟩ (.int .i64 ((min sy K : Nat) : Int))) ⟨xp, xo, xc, bs.take K, min sy K⟩ :=
          ⟨(blk_set (blk_set HX.out.blk 0 _) 1 _).trans (by simp [fcells, hl]), (HX.out.own.cut okB (by rw [← HM.out]; exact hKn)).keeps hks (fun i hi e => HX.out.o_p HX.out i hi e)⟩
        have := HD.out.upd (F' := F) hf (hks.mono fun i e => .inl e) hx' rfl (fun k hk => .inl hk) (fun k hk => hk) (fun k hk => (HD.out.ff _ (find_mem hf)).2 k hk) (fun k hk => Nat.lt_of_lt_of_le (HD.out.lt k hk) hks.size)
          (by have := cutOn_ok (n := n.data.toList) (k := (K : Int)) HD.out.ok; rw [cutOn, onF_some HFF.out, if_neg (by show ¬ (_ ∨ ((bs.length : Nat) : Int) < _); rw [← HM.out]; omega)] at this; exact this)
        exact ⟨rfl, ⟨bm, c, _, this⟩, HK.trans (hks.mono fun i e => by subst e; exact (HD.out.ff _ (find_mem hf)).1)⟩

theorem DL.del {w w' : World} {p : Nat} {F : Nat → Prop} {s : St} {bm : Nat} {c : Int} {L : LL} (h : DL w p F s bm c L) {n : Nm} (hm : IsM w' bm (del n L)) (hk : Keeps (fun i => i = bm) w w') : DL w' p F { s with fs := del n s.fs } bm c (del n L) := by
  refine ⟨hk.at h.blk h.p_bm, hm, by show Dk.del n s.fs = _; rw [h.fs, mapv_del], fun q hq => ?_, List.Pairwise.filter _ h.apart, h.fp, h.fm, fun q hq => h.ff q (mem_del.1 hq).1, fun k hk' => Nat.lt_of_lt_of_le (h.lt k hk') hk.size, ok_del h.ok, h.cc, h.ci, h.ki, h.ri⟩
  have hq' := (mem_del.1 hq).1
  exact (h.files q hq').keeps hk ((h.files q hq').ne_bm h.map) ((h.files q hq').o_bm h.map)

set_option maxRecDepth 10000 in
theorem delete_any (w : World) (p : Nat) (F : Nat → Prop) (s : St) (n : Tx) (h : IsD w p F s) (hn : n.size ≤ maxLen) :
    Calls Try.prog 16 #[.pointer (some ⟨p, 0, none⟩), .string n] w fun e w' => e = .returned (.int .i64 (counted s (deleteOn n.data.toList)).2) ∧ IsD w' p F (counted s (deleteOn n.data.toList)).1 ∧ Keeps F w w' := by
  obtain ⟨t, ht⟩ : ∃ t, t = tick s := ⟨_, rfl⟩
  rw [counted_cT, ← ht]
  have HT : Hid (t = tick s) := ht
  clear ht
  go_enter Try.func16, Try.ntmps16
  go_wp2_with fail
  refine (find_any w p F s n h hn).mono ?_
  rintro e w1 ⟨v, er, rfl, hF, HK⟩
  rw [← HT.out] at hF
  cases hF with
  | off h ho =>
    go_wp2
    go_ret
    rw [cT_off ho]
    exact ⟨rfl, h, HK⟩
  | none h ho hf =>
    go_wp2
    go_ret
    rw [cT_on ho, deleteOn, onF_none hf]
    exact ⟨rfl, h, HK⟩
  | some bm c L x h ho hf =>
    have c0 : w1.cell? ⟨p, 0, none⟩ = some (.map (some bm)) := cell_of_blk h.blk 0
    have hmap : w1.ownsMap Try.prog 9 R70 bm L.length (dat L) := h.map
    have HD : Hid (DL w1 p F t bm c L) := h
    have hkey := key9 n hn
    clear h
    go_wp2_with (first | (at_delete; refine wpList_delete_own _ rfl _ _ 66 9 rfl 70 law9 Try.underlying66 R70 bm _ _ rfl hmap _ _ rfl hkey ?_; intro w2 hown2 hturn2) | go_in)
    go_ret
    have hff := HD.out.find n.data.toList
    rw [hf] at hff
    rw [cT_on ho, deleteOn, onF_some hff]
    rw [dat_del] at hown2
    have hks := keeps_of_grown hturn2.grown
    exact ⟨rfl, ⟨bm, c, _, HD.out.del (isM_of hown2) hks⟩, HK.trans (hks.mono fun i e => by subst e; exact HD.out.fm)⟩
end Go.Proofs.Ytgobakfffobpkaa
