/- Append. -/
import Derived.Test.YtgobakfffobpkaaD6
namespace Go.Proofs.Ytgobakfffobpkaa
open Go.RowKit Dk
set_option linter.unusedVariables false
set_option linter.unusedSimpArgs false

theorem IsD.grow {w w' : World} {p : Nat} {F : Nat → Prop} {s : St} (h : IsD w' p F s) : IsD w' p (grow F w w') s := by
  obtain ⟨bm, c, L, h⟩ := h
  refine ⟨bm, c, L, h.wide (fun k hk => .inl hk) ?_⟩
  rintro k (hk | hk)
  · exact h.lt k hk
  · exact hk.2
theorem DL.regrow {w w1 w' : World} {p : Nat} {F : Nat → Prop} {s : St} {bm : Nat} {c : Int} {L : LL} (h : DL w' p (Ytgobakfffobpkaa.grow F w1 w') s bm c L) (hs : w.heap.size ≤ w1.heap.size) : DL w' p (Ytgobakfffobpkaa.grow F w w') s bm c L := by
  refine h.wide ?_ ?_
  · rintro k (hk | hk)
    · exact .inl hk
    · exact .inr ⟨by omega, hk.2⟩
  · rintro k (hk | hk)
    · exact h.lt k (.inl hk)
    · exact hk.2

theorem good_size {n : Tx} (h : good n.data.toList = true) : n.size ≤ 32 := by
  have hl : n.data.toList.length = n.size := by rw [Array.length_toList]; rfl
  simp [good] at h
  have := h.2
  have e : n.data.size = n.size := rfl
  omega
theorem appendOn_room {n : Nm} {b : List UInt8} {t : St} (hg : good n = true) (hr : noRoom b t = true) (hl : find n t.fs = none → ¬ 16 ≤ t.fs.length) : appendOn n b t = ({ t with ref := t.ref - 1 }, 60) := by
  unfold appendOn
  rw [if_pos hg]
  cases hf : find n t.fs with
  | none => simp only; rw [if_neg (hl hf), if_pos hr]
  | some f => simp only; rw [if_pos hr]

theorem ap_none {w w' : World} {o' : Option Addr} (h : Ap w none o' w') : Keeps no w w' := by
  rcases h with ⟨_, h⟩ | ⟨_, h⟩
  · exact h.mono (fun i ⟨x, e, _⟩ => by cases e)
  · exact h
theorem ap_at {w w' : World} {x : Lo} {o' : Option Addr} (hx : FileAt w x) (h : Ap w x.o o' w') : w'.heap[x.p]? = some (.cells (fcells x) 72 (0, 0)) := by
  rcases h with ⟨_, h⟩ | ⟨_, h⟩
  · exact h.at hx.blk (fun e => hx.o_p hx _ e rfl)
  · exact h.at hx.blk (fun h => h)
theorem room_end {w w1 : World} {p : Nat} {F : Nat → Prop} {t : St} {bm r nb : Nat} {c : Int} {L : LL} {n : Nm} {b : List UInt8} (hd : DL w1 p F t bm c L) (ho : t.off = false) (hg : good n = true) (hnb : nb = b.length) (hr : r = t.ref) (hK : Keeps F w w1)
    (hl16 : find n t.fs = none → ¬ 16 ≤ t.fs.length) (h1 : 0 < nb) (h2 : 0 < r) :
    Ending.returned (.int .i64 60) = .returned (.int .i64 (cT t (appendOn n b)).2) ∧ IsD (w1.setCell ⟨p, 2, none⟩ (.int .i64 ((r : Int) - 1))) p (grow F w (w1.setCell ⟨p, 2, none⟩ (.int .i64 ((r : Int) - 1)))) (cT t (appendOn n b)).1 ∧ Keeps F w (w1.setCell ⟨p, 2, none⟩ (.int .i64 ((r : Int) - 1))) := by
  have hno : noRoom b t = true := by
    simp [noRoom]
    exact ⟨by rw [← hnb]; exact h1, by rw [← hr]; exact h2⟩
  rw [cT_on ho, appendOn_room hg hno hl16]
  have hks := keeps_set w1 p 2 (.int .i64 ((r : Int) - 1))
  have e1 : ((r : Int) - 1) = ((t.ref - 1 : Nat) : Int) := by omega
  have hri := hd.ri
  refine ⟨rfl, IsD.grow ⟨bm, c, L, hd.cells hks ?_ rfl (ok_ref hd.ok _) hd.cc hd.ci hd.ki (by show ((t.ref - 1 : Nat) : Int) ≤ _; omega)⟩, hK.trans (hks.mono fun i e => by subst e; exact hd.fp)⟩
  rw [e1]
  exact blk_set hd.blk 2 _
theorem noRoom_false {nb r : Nat} {t : St} {b : List UInt8} (hnb : nb = b.length) (hr : r = t.ref) (h : ¬ (0 < nb ∧ 0 < r)) : noRoom b t = false := by
  subst hnb hr
  simp only [noRoom]
  by_cases h1 : 0 < b.length
  · have : ¬ 0 < t.ref := fun h2 => h ⟨h1, h2⟩
    simp [this]
  · simp [h1]
theorem old_end {w w1 w3 : World} {p : Nat} {F : Nat → Prop} {t : St} {bm : Nat} {c : Int} {L : LL} {n : Nm} {x : Lo} {b : List UInt8} {o' : Option Addr} {c' nx nb : Nat} (hd : DL w1 p F t bm c L) (ho : t.off = false) (hg : good n = true) (hK : Keeps F w w1) (hf : find n L = some x) (hno : noRoom b t = false)
    (hw : Own BE w3 o' c' (x.bs ++ b)) (hap : Ap w1 x.o o' w3) (hnx : nx = x.bs.length) (hnb : nb = b.length) :
    Ending.returned (.int .i64 0) = .returned (.int .i64 (cT t (appendOn n b)).2) ∧ IsD (w3.setCell ⟨x.p, 0, none⟩ (.slice o' (nx + nb) c')) p (grow F w (w3.setCell ⟨x.p, 0, none⟩ (.slice o' (nx + nb) c'))) (cT t (appendOn n b)).1 ∧ Keeps F w (w3.setCell ⟨x.p, 0, none⟩ (.slice o' (nx + nb) c')) := by
  subst hnx hnb
  have hff := hd.find n
  rw [hf] at hff
  have e : appendOn n b t = ({ t with fs := put n ⟨x.bs ++ b, x.sy⟩ t.fs }, 0) := by
    unfold appendOn
    rw [if_pos hg, hff]
    simp only [Option.map_some]
    rw [hno]
    rfl
  have hok := appendOn_ok (n := n) (b := b) hd.ok
  rw [e] at hok
  rw [cT_on ho, e]
  obtain ⟨h1, h2⟩ := app_file hd hf hw hap hok
  exact ⟨rfl, ⟨bm, c, _, h1.regrow hK.size⟩, hK.trans h2⟩
theorem new_end {w w1 w2 w3 : World} {p : Nat} {F : Nat → Prop} {t : St} {bm : Nat} {c : Int} {L : LL} {n : Nm} {b : List UInt8} {o' : Option Addr} {c' nb : Nat} (hd : DL w1 p F t bm c L) (ho : t.off = false) (hg : good n = true) (hK : Keeps F w w1) (hf : find n t.fs = none) (hl : ¬ 16 ≤ t.fs.length) (hno : noRoom b t = false)
    (hm : IsM w2 bm (put n (nlo w1) L)) (hk2 : Keeps (fun i => i = bm) (w1.alloc (.cells #[.slice none 0 0, .int .i64 0] 72)) w2) (hw : Own BE w3 o' c' ([] ++ b)) (hap : Ap w2 none o' w3) (hnb : nb = b.length) :
    Ending.returned (.int .i64 0) = .returned (.int .i64 (cT t (appendOn n b)).2) ∧ IsD (w3.setCell ⟨w1.heap.size, 0, none⟩ (.slice o' nb c')) p (grow F w (w3.setCell ⟨w1.heap.size, 0, none⟩ (.slice o' nb c'))) (cT t (appendOn n b)).1 ∧ Keeps F w (w3.setCell ⟨w1.heap.size, 0, none⟩ (.slice o' nb c')) := by
  subst hnb
  have e : appendOn n b t = ({ t with fs := put n ⟨b, 0⟩ t.fs }, 0) := by
    unfold appendOn
    rw [if_pos hg, hf]
    simp only
    rw [if_neg hl, hno]
    rfl
  have hok := appendOn_ok (n := n) (b := b) hd.ok
  rw [e] at hok
  rw [cT_on ho, e]
  obtain ⟨h1, h2⟩ := dl_new hd hg hf (by omega) hm hk2
  have hpp : put n (⟨[] ++ b, 0⟩ : Fl) (put n ⟨[], 0⟩ t.fs) = put n ⟨b, 0⟩ t.fs := by rw [put_put hd.ok.inc]; rfl
  have h34 := app_file (x := nlo w1) h1 (find_put_same L) hw hap (by show Ok { t with fs := put n (⟨[] ++ b, 0⟩ : Fl) (put n ⟨[], 0⟩ t.fs) }; rw [hpp]; exact hok)
  rw [show (nlo w1).bs.length + b.length = b.length by simp [nlo]] at h34
  obtain ⟨h3, h4⟩ := h34
  have e5 : ({ t with fs := put n (⟨[] ++ b, 0⟩ : Fl) (put n ⟨[], 0⟩ t.fs) } : St) = { t with fs := put n ⟨b, 0⟩ t.fs } := by rw [hpp]
  refine ⟨rfl, ⟨bm, c, put n ⟨w1.heap.size, o', c', [] ++ b, 0⟩ (put n (nlo w1) L), ?_⟩, (hK.trans h2).then h4 ?_⟩
  · show DL _ p _ { t with fs := put n ⟨b, 0⟩ t.fs } bm c _
    rw [← e5]
    refine DL.wide h3 ?_ ?_
    · rintro k ((hk | hk) | hk)
      · exact .inl hk
      · refine .inr ⟨Nat.le_trans hK.size hk.1, ?_⟩
        have := h3.lt k (.inl (.inr hk))
        exact this
      · refine .inr ⟨Nat.le_trans hK.size (Nat.le_trans h2.size hk.1), hk.2⟩
    · rintro k (hk | hk)
      · exact h3.lt k (.inl (.inl hk))
      · exact hk.2
  · rintro i (hi | hi)
    · exact .inl hi
    · exact .inr (Nat.le_trans hK.size hi.1)

set_option maxRecDepth 10000 in
theorem append_any (w : World) (p : Nat) (F : Nat → Prop) (s : St) (n : Tx) (ob : Option Addr) (nb cb : Nat) (b : List UInt8) (h : IsD w p F s) (hn : n.size ≤ maxLen) (hnb : nb = b.length) (hb : Sl BE w ob cb b) (hF : ∀ k, inO ob k → ¬ F k)
    (hlen : b.length ≤ 140737488355328) (hfit : ∀ f, find n.data.toList (tick s).fs = some f → f.bs.length + b.length ≤ 140737488355328) :
    Calls Try.prog 11 #[.pointer (some ⟨p, 0, none⟩), .string n, .slice ob nb cb] w fun e w' => e = .returned (.int .i64 (counted s (appendOn n.data.toList b)).2) ∧ IsD w' p (grow F w w') (counted s (appendOn n.data.toList b)).1 ∧ Keeps F w w' := by
  obtain ⟨t, ht⟩ : ∃ t, t = tick s := ⟨_, rfl⟩
  rw [counted_cT, ← ht]
  rw [← ht] at hfit
  have HT : Hid (t = tick s) := ht
  have HNB : Hid (nb = b.length) := hnb
  have HFIT : Hid (∀ f, find n.data.toList t.fs = some f → f.bs.length + b.length ≤ 140737488355328) := hfit
  have HLEN : Hid (b.length ≤ 140737488355328) := hlen
  have hnbm : nb ≤ 140737488355328 := by omega
  clear ht hnb hfit hlen
  go_enter Try.func11, Try.ntmps11
  go_wp2_with fail
  refine (counts_any w p F s h).mono ?_
  rintro e w1 ⟨rfl, h1, HK⟩
  rw [← HT.out] at h1 ⊢
  cases ho : t.off with
  | true =>
    go_wp2
    go_ret
    rw [cT_off ho]
    exact ⟨rfl, h1.grow, HK⟩
  | false =>
  have hb1 : Sl BE w1 ob cb b := hb.keeps HK hF
  go_wp2_with fail
  refine (isName_any w1 n).mono ?_
  rintro e w1' ⟨rfl, e2⟩
  subst w1'
  cases hg : good n.data.toList with
  | false =>
    go_wp2
    go_ret
    rw [cT_on ho, appendOn, hg]
    exact ⟨rfl, h1.grow, HK⟩
  | true =>
  obtain ⟨bm, c, L, hd⟩ := h1
  have c0 : w1.cell? ⟨p, 0, none⟩ = some (.map (some bm)) := cell_of_blk hd.blk 0
  have c2 : w1.cell? ⟨p, 2, none⟩ = some (.int .i64 ((t.ref : Nat) : Int)) := cell_of_blk hd.blk 2
  have f2 : w1.frozen? ⟨p, 2, none⟩ = false := frozen_of_blk hd.blk 2
  have hl := look hd.map n hn
  have hmp : w1.ownsMap Try.prog 9 R70 bm L.length (dat L) := hd.map
  have hlen : ∀ ty, (Builtin.len_ #[66] ty #[.map (some bm)]).run Try.prog w1 = .ok (.int .i64 ((L.length : Nat) : Int)) w1 := fun ty => by
    have := hmp.len Try.underlying66 ty
    rwa [dat_size] at this
  have hL16 : L.length ≤ 16 := by rw [← hd.len]; exact hd.ok.len
  have HL : Hid (t.fs.length = L.length) := hd.len
  obtain ⟨m, hm⟩ : ∃ m, m = L.length := ⟨_, rfl⟩
  rw [← hm] at hlen hL16
  have HM : Hid (m = L.length) := hm
  have HD : Hid (DL w1 p F t bm c L) := hd
  obtain ⟨r, hr⟩ : ∃ r, r = t.ref := ⟨_, rfl⟩
  rw [← hr] at c2
  have HR : Hid (r = t.ref) := hr
  have hri : (r : Int) ≤ 9223372036854775807 := by rw [hr]; exact hd.ri
  have HMP : Hid (w1.ownsMap Try.prog 9 R70 bm L.length (dat L)) := hmp
  have HB1 : Hid (Sl BE w1 ob cb b) := hb1
  have HK0 : Hid (Keeps F w w1) := HK
  have HG : Hid (good n.data.toList = true) := hg
  have HBK : Hid (∀ w2, Keeps (fun i => i = bm) (w1.alloc (.cells #[.slice none 0 0, .int .i64 0] 72)) w2 → Row BE w2 ob b) := (show _ from fun w2 hk2 => HB1.out.row.keeps ((((Keeps.refl no w1).alloc _).of_no).trans hk2) (fun k hk e => hF k hk (by subst e; exact HD.out.fm)))
  clear hd hmp hb1 hb hr hm HK hF
  cases hf : Dk.find n.data.toList L with
  | none =>
    rw [hf] at hl
    simp only [ptrOf] at hl
    have hff : Dk.find n.data.toList t.fs = none := by rw [HD.out.find, hf]; rfl
    by_cases h16 : 16 ≤ m
    · go_wp2
      go_ret
      rw [cT_on ho, appendOn, if_pos hg, hff]
      simp only
      rw [if_pos (by rw [HL.out, ← HM.out]; exact h16)]
      exact ⟨rfl, IsD.grow ⟨bm, c, L, HD.out⟩, HK0.out⟩
    · by_cases hrm : 0 < nb ∧ 0 < r
      · obtain ⟨hr1, hr2⟩ := hrm
        go_wp2
        go_ret
        exact room_end HD.out ho hg HNB.out HR.out HK0.out (fun _ => by rw [HL.out, ← HM.out]; exact h16) hr1 hr2
      · have HNO : Hid (noRoom b t = false) := noRoom_false HNB.out HR.out hrm
        have HN1 : Hid (n.size ≤ 281474976710656) := (show n.size ≤ 281474976710656 by have := good_size HG.out; omega)
        have k1 : (decide ((0 : Int) < ((nb : Nat) : Int)) && decide ((0 : Int) < ((r : Nat) : Int))) = false := by
          by_cases q1 : 0 < nb
          · have : ¬ 0 < r := fun h => hrm ⟨q1, h⟩
            simp; omega
          · simp; omega
        have c0' : (w1.alloc (.cells #[.slice none 0 0, .int .i64 0] 72)).cell? ⟨p, 0, none⟩ = some (.map (some bm)) := ((Keeps.refl no w1).alloc _).cellN c0
        have HM0 : Hid (IsM (w1.alloc (.cells #[.slice none 0 0, .int .i64 0] 72)) bm L) := (show _ from HD.out.map.keeps ((Keeps.refl no w1).alloc _) (fun h => h))
        have HLL : Hid (L.length ≤ 16) := (show _ by rw [← HM.out]; exact hL16)
        by_cases hq : 0 < nb
        · have hr0 : r = 0 := by omega
          subst hr0
          go_wp2_with (first | (go_at_call 38; refine (lay_any _ p bm L n (nlo w1) HN1.out c0' HM0.out HLL.out).mono ?_; rintro e w2 ⟨rfl, hm2, hk2⟩; have hb2 := hk2.at (nlo_at w1).blk (fun e => (nlo_at w1).ne_bm HM0.out e); have HM2 : Hid (IsM w2 bm (put n.data.toList (nlo w1) L)) := hm2; have HK2 : Hid (Keeps (fun i => i = bm) (w1.alloc (.cells #[.slice none 0 0, .int .i64 0] 72)) w2) := hk2; have d0 : w2.cell? ⟨w1.heap.size, 0, none⟩ = some (.slice none 0 0) := cell_of_blk hb2 0; have g0 : w2.frozen? ⟨w1.heap.size, 0, none⟩ = false := frozen_of_blk hb2 0; clear hm2 hk2) | (at_builtin; refine wpList_app okB rfl _ _ rfl none 0 0 [] rfl rfl (own_nil _) ob nb cb b rfl HNB.out HB1.out.nil (HBK.out _ HK2.out) (by have := HLEN.out; simp [BE]; omega) (by have := HLEN.out; simp; omega) ?_; intro o' c' w3 hw hap; have hb3 := (ap_none hap).at hb2 (fun h => h); have d1 : w3.cell? ⟨w1.heap.size, 0, none⟩ = some (.slice none 0 0) := cell_of_blk hb3 0; have g1 : w3.frozen? ⟨w1.heap.size, 0, none⟩ = false := frozen_of_blk hb3 0))
          go_ret
          exact new_end HD.out ho hg HK0.out hff (by rw [HL.out, ← HM.out]; exact h16) HNO.out HM2.out HK2.out hw hap HNB.out
        · go_wp2_with (first | (go_at_call 38; refine (lay_any _ p bm L n (nlo w1) HN1.out c0' HM0.out HLL.out).mono ?_; rintro e w2 ⟨rfl, hm2, hk2⟩; have hb2 := hk2.at (nlo_at w1).blk (fun e => (nlo_at w1).ne_bm HM0.out e); have HM2 : Hid (IsM w2 bm (put n.data.toList (nlo w1) L)) := hm2; have HK2 : Hid (Keeps (fun i => i = bm) (w1.alloc (.cells #[.slice none 0 0, .int .i64 0] 72)) w2) := hk2; have d0 : w2.cell? ⟨w1.heap.size, 0, none⟩ = some (.slice none 0 0) := cell_of_blk hb2 0; have g0 : w2.frozen? ⟨w1.heap.size, 0, none⟩ = false := frozen_of_blk hb2 0; clear hm2 hk2) | (at_builtin; refine wpList_app okB rfl _ _ rfl none 0 0 [] rfl rfl (own_nil _) ob nb cb b rfl HNB.out HB1.out.nil (HBK.out _ HK2.out) (by have := HLEN.out; simp [BE]; omega) (by have := HLEN.out; simp; omega) ?_; intro o' c' w3 hw hap; have hb3 := (ap_none hap).at hb2 (fun h => h); have d1 : w3.cell? ⟨w1.heap.size, 0, none⟩ = some (.slice none 0 0) := cell_of_blk hb3 0; have g1 : w3.frozen? ⟨w1.heap.size, 0, none⟩ = false := frozen_of_blk hb3 0))
          go_ret
          exact new_end HD.out ho hg HK0.out hff (by rw [HL.out, ← HM.out]; exact h16) HNO.out HM2.out HK2.out hw hap HNB.out
  | some x =>
    rw [hf] at hl
    simp only [ptrOf] at hl
    have hff := HD.out.find n.data.toList
    rw [hf] at hff
    have HFF : Hid (Dk.find n.data.toList t.fs = some x.fl) := hff
    clear hff
    have hx := HD.out.files _ (find_mem hf)
    obtain ⟨nx, hnx⟩ : ∃ nx, nx = x.bs.length := ⟨_, rfl⟩
    have HNX : Hid (nx = x.bs.length) := hnx
    have q0 : w1.cell? ⟨x.p, 0, none⟩ = some (.slice x.o nx x.c) := by rw [hnx]; exact cell_of_blk hx.blk 0
    have g0 : w1.frozen? ⟨x.p, 0, none⟩ = false := frozen_of_blk hx.blk 0
    have HX : Hid (FileAt w1 x) := hx
    clear hx hnx
    by_cases hrm : 0 < nb ∧ 0 < r
    · obtain ⟨hr1, hr2⟩ := hrm
      go_wp2
      go_ret
      exact room_end HD.out ho hg HNB.out HR.out HK0.out (fun e => by rw [HFF.out] at e; cases e) hr1 hr2
    · have HNO : Hid (noRoom b t = false) := noRoom_false HNB.out HR.out hrm
      by_cases hq : 0 < nb
      · have hr0 : r = 0 := by omega
        subst hr0
        go_wp2_with (at_builtin; refine wpList_app okB rfl _ _ rfl x.o nx x.c x.bs rfl HNX.out HX.out.own ob nb cb b rfl HNB.out HB1.out.nil HB1.out.row (by have := HFIT.out _ HFF.out; simp [BE]; simpa [Lo.fl] using this) (by have := HFIT.out _ HFF.out; simpa [Lo.fl] using this) ?_; intro o' c' w3 hw hap; have hb3 := ap_at HX.out hap; have d1 := cell_of_blk hb3 0; have g1 : w3.frozen? ⟨x.p, 0, none⟩ = false := frozen_of_blk hb3 0; simp only [fcells] at d1)
        go_ret
        exact old_end HD.out ho hg HK0.out hf HNO.out hw hap HNX.out HNB.out
      · go_wp2_with (at_builtin; refine wpList_app okB rfl _ _ rfl x.o nx x.c x.bs rfl HNX.out HX.out.own ob nb cb b rfl HNB.out HB1.out.nil HB1.out.row (by have := HFIT.out _ HFF.out; simp [BE]; simpa [Lo.fl] using this) (by have := HFIT.out _ HFF.out; simpa [Lo.fl] using this) ?_; intro o' c' w3 hw hap; have hb3 := ap_at HX.out hap; have d1 := cell_of_blk hb3 0; have g1 : w3.frozen? ⟨x.p, 0, none⟩ = false := frozen_of_blk hb3 0; simp only [fcells] at d1)
        go_ret
        exact old_end HD.out ho hg HK0.out hf HNO.out hw hap HNX.out HNB.out
end Go.Proofs.Ytgobakfffobpkaa
