import Derived.Test.YtdemoghlibnooaaGreatDoorG0
import Derived.Test.YtdemoghlibnooaaGreatDoorShelh
import Derived.Lib.SlBytesConst
namespace Go.Proofs.YtdemoghlibnooaaGreatDoor
open Go.RowKit Dk
set_option linter.unusedVariables false
set_option linter.unusedSimpArgs false
theorem mx {n : Nat} (h : n ≤ 281474976710656) : n ≤ maxLen := by unfold maxLen; omega
set_option maxRecDepth 10000 in
theorem dlay_any (w : World) (p bm : Nat) (L : LL) (n : Tx) (x : Dlo) (hn : n.size ≤ 281474976710656) (c0 : w.cell? ⟨p, 0, none⟩ = some (.map (some bm))) (hm : IsM w bm L) (hl : L.length ≤ 16) :
    Calls Tryz.prog 47 #[.pointer (some ⟨p, 0, none⟩), .string n, .pointer (some ⟨x.p, 0, none⟩)] w fun e w' => e = .returned (.tuple #[]) ∧ IsM w' bm (put n.data.toList x L) ∧ Keeps (fun i => i = bm) w w' := by
  have HM : Hid (IsM w bm L) := hm
  have hkey := key9 n (mx hn)
  clear hm
  go_enter Tryz.func47, Tryz.ntmps47
  go_wp2
  go_region_with (go_at_call 95; go_must (refine (sclone_anyW _ n hn).mono ?_); rintro e w2 ⟨rfl, hk2'⟩; have hk2 : Keeps no w w2 := (Keeps.refl no w).drew.trans hk2'; clear hk2'; have c2 := hk2.cellN c0; obtain ⟨w3, hrun, hown3, hturn3⟩ := World.ownsMap.store (HM.out.keeps hk2 (fun h => h)) law9 Tryz.underlying87 (by unfold maxLen; omega) hkey (R70_mk x.p))
  all_goals go_wp2
  all_goals go_end0
  all_goals rw [dat_putW] at hown3
  all_goals exact ⟨rfl, isM_of hown3, (hk2.of_no.trans (keeps_of_grown hturn3.grown))⟩
end Go.Proofs.YtdemoghlibnooaaGreatDoor
namespace Go.Proofs.YtdemoghlibnooaaGreatDoor
open Go.RowKit Dk
set_option linter.unusedVariables false
set_option linter.unusedSimpArgs false
def grow (F : Nat → Prop) (w w' : World) : Nat → Prop := fun k => F k ∨ (w.heap.size ≤ k ∧ k < w'.heap.size)
theorem put_put {β : Type} {n : Nm} {u v : β} {l : List (Nm × β)} (hl : Inc l) : put n v (put n u l) = put n v l := by
  refine inc_ext (inc_put (inc_put hl)) (inc_put hl) fun m => ?_
  by_cases e : m = n
  · subst e; rw [find_put_same, find_put_same]
  · rw [find_put_other e, find_put_other e, find_put_other e]
theorem app_file {w w3 : World} {p : Nat} {F : Nat → Prop} {s : St} {bm : Nat} {c : Int} {L : LL} {n : Nm} {x : Dlo} {b : List UInt8} {o' : Option Addr} {c' : Nat} (h : DL w p F s bm c L) (hf : find n L = some x) (ho : Own BU w3 o' c' (x.bs ++ b)) (hap : Ap w x.o o' w3)
    (hok : Ok { s with fs := put n ⟨x.bs ++ b, x.sy⟩ s.fs }) :
    DL (w3.setCell ⟨x.p, 0, none⟩ (.slice o' (x.bs.length + b.length) c')) p (grow F w (w3.setCell ⟨x.p, 0, none⟩ (.slice o' (x.bs.length + b.length) c'))) { s with fs := put n ⟨x.bs ++ b, x.sy⟩ s.fs } bm c (put n ⟨x.p, o', c', x.bs ++ b, x.sy⟩ L) ∧
      Keeps F w (w3.setCell ⟨x.p, 0, none⟩ (.slice o' (x.bs.length + b.length) c')) := by
  have hm := find_mem hf
  have hx := h.files _ hm
  have hk3 : Keeps (inO x.o) w w3 := by
    rcases hap with ⟨_, hk⟩ | ⟨_, hk⟩
    · exact hk
    · exact hk.of_no
  have hx3 : w3.heap[x.p]? = some (.cells (fcells x) 98 (0, 0)) := hk3.at hx.blk (fun e => hx.o_p hx _ e rfl)
  have hks := keeps_setG w3 x.p 0 (.slice o' (x.bs.length + b.length) c')
  have hK : Keeps (fun k => k = x.p ∨ inO x.o k) w (w3.setCell ⟨x.p, 0, none⟩ (.slice o' (x.bs.length + b.length) c')) := (hk3.mono fun i e => .inr e).trans (hks.mono fun i e => .inl e)
  have hne : ∀ k, inO o' k → k ≠ x.p := fun k hk => by
    obtain ⟨cur, hc⟩ := ho.tag k hk
    exact ne_cells hc hx3 (by decide)
  have hx' : FileAt (w3.setCell ⟨x.p, 0, none⟩ (.slice o' (x.bs.length + b.length) c')) ⟨x.p, o', c', x.bs ++ b, x.sy⟩ :=
    ⟨(blk_set hx3 0 _).trans (by simp [fcells]), ho.keeps hks (fun i hi e => hne i hi e)⟩
  have hnew : ∀ k, inO o' k → inO x.o k ∨ w.heap.size ≤ k := by
    intro k hk
    rcases hap with ⟨e, _⟩ | ⟨⟨g, e, hg⟩, _⟩
    · rw [e] at hk; exact .inl hk
    · rw [e] at hk; obtain ⟨y, hy, rfl⟩ := hk; cases hy; exact .inr hg
  refine ⟨h.upd hf hK hx' rfl hnew (fun k hk => .inl hk) ?_ ?_ hok, hK.mono ?_⟩
  · intro k hk
    rcases hnew k hk with e | e
    · exact .inl ((h.ff _ hm).2 k e)
    · exact .inr ⟨e, Nat.lt_of_lt_of_le (ho.lt k hk) hks.size⟩
  · rintro k (hk | hk)
    · exact Nat.lt_of_lt_of_le (h.lt k hk) hK.size
    · exact hk.2
  · rintro i (rfl | e)
    · exact (h.ff _ hm).1
    · exact (h.ff _ hm).2 i e
theorem DL.lay {w w' : World} {p : Nat} {F F' : Nat → Prop} {s : St} {bm : Nat} {c : Int} {L : LL} {n : Nm} {x : Dlo} (h : DL w p F s bm c L) (hx : FileAt w x) (hap : ∀ q ∈ L, q.1 ≠ n → q.2.p ≠ x.p ∧ ∀ k, inO q.2.o k → ¬ inO x.o k) (hm : IsM w' bm (put n x L)) (hk : Keeps (fun i => i = bm) w w')
    (hF : ∀ k, F k → F' k) (hF1 : F' x.p) (hF2 : ∀ k, inO x.o k → F' k) (hl : ∀ k, F' k → k < w'.heap.size) (hok : Ok { s with fs := put n x.fl s.fs }) : DL w' p F' { s with fs := put n x.fl s.fs } bm c (put n x L) := by
  refine ⟨hk.at h.blk h.p_bm, hm, by show put n x.fl s.fs = _; rw [h.fs, mapv_put], ?_, ?_, hF _ h.fp, hF _ h.fm, ?_, hl, hok, h.cc, h.ci, h.ki, h.ri⟩
  · intro q hq
    rcases mem_put.1 hq with rfl | ⟨hq, _⟩
    · exact hx.keeps hk (hx.ne_bm h.map) (hx.o_bm h.map)
    · exact (h.files q hq).keeps hk ((h.files q hq).ne_bm h.map) ((h.files q hq).o_bm h.map)
  · refine apart_mk (inc_put h.inc) ?_
    intro q hq r hr hne
    rcases mem_put.1 hq with rfl | ⟨hq, hqn⟩
    · rcases mem_put.1 hr with rfl | ⟨hr, hrn⟩
      · exact absurd rfl hne
      · have := hap r hr hrn
        exact ⟨this.1.symm, fun k h1 h2 => this.2 k h2 h1⟩
    · rcases mem_put.1 hr with rfl | ⟨hr, hrn⟩
      · exact hap q hq hqn
      · exact apart_of h.apart hq hr hne
  · intro q hq
    rcases mem_put.1 hq with rfl | ⟨hq, _⟩
    · exact ⟨hF1, hF2⟩
    · exact ⟨hF _ (h.ff q hq).1, fun k hk => hF _ ((h.ff q hq).2 k hk)⟩
theorem dl_alloc {w : World} {p : Nat} {F : Nat → Prop} {s : St} {bm : Nat} {c : Int} {L : LL} (h : DL w p F s bm c L) (o : Obj) : DL (w.alloc o) p F s bm c L := h.keeps ((Keeps.refl no w).alloc o) (fun _ _ => id)
def nlo (w : World) : Dlo := ⟨w.heap.size, none, 0, [], 0⟩
theorem nlo_at (w : World) : FileAt (w.alloc (.cells #[.slice none 0 0, .int .i64 0] 98)) (nlo w) := ⟨blk_new w _, own_nil _⟩
theorem dl_new {w w2 : World} {p : Nat} {F : Nat → Prop} {s : St} {bm : Nat} {c : Int} {L : LL} {n : Nm} (h : DL w p F s bm c L) (hn : good n = true) (hf : find n s.fs = none) (hl : s.fs.length < 16) (hm : IsM w2 bm (put n (nlo w) L)) (hk : Keeps (fun i => i = bm) (w.alloc (.cells #[.slice none 0 0, .int .i64 0] 98)) w2) :
    DL w2 p (grow F w w2) { s with fs := put n ⟨[], 0⟩ s.fs } bm c (put n (nlo w) L) ∧ Keeps F w w2 := by
  have hs := hk.size
  simp only [World.size_alloc] at hs
  refine ⟨(dl_alloc h _).lay (nlo_at w) ?_ hm hk (fun k hk => .inl hk) (.inr ⟨Nat.le_refl _, by show w.heap.size < _; omega⟩) (by rintro k ⟨y, e, _⟩; cases e) ?_ ?_, ?_⟩
  · intro q hq _
    refine ⟨fun e => ?_, fun k _ => by rintro ⟨y, e, _⟩; cases e⟩
    have := h.lt _ (h.ff q hq).1
    rw [e] at this
    simp [nlo] at this
  · rintro k (hk | hk)
    · have := h.lt k hk; omega
    · exact hk.2
  · exact ok_put h.ok hn (Nat.le_refl _) (by show (put n (nlo w).fl s.fs).length ≤ 16; rw [length_put_none hf]; omega)
  · exact ((Keeps.refl F w).alloc _).then hk (fun i e => .inl (by subst e; exact h.fm))
end Go.Proofs.YtdemoghlibnooaaGreatDoor
namespace Go.Proofs.YtdemoghlibnooaaGreatDoor
open Go.RowKit Dk
set_option linter.unusedVariables false
set_option linter.unusedSimpArgs false
theorem IsD.grow {w w' : World} {p : Nat} {F : Nat → Prop} {s : St} (h : IsD w' p F s) : IsD w' p (grow F w w') s := by
  obtain ⟨bm, c, L, h⟩ := h
  refine ⟨bm, c, L, h.wide (fun k hk => .inl hk) ?_⟩
  rintro k (hk | hk)
  · exact h.lt k hk
  · exact hk.2
theorem DL.regrow {w w1 w' : World} {p : Nat} {F : Nat → Prop} {s : St} {bm : Nat} {c : Int} {L : LL} (h : DL w' p (YtdemoghlibnooaaGreatDoor.grow F w1 w') s bm c L) (hs : w.heap.size ≤ w1.heap.size) : DL w' p (YtdemoghlibnooaaGreatDoor.grow F w w') s bm c L := by
  refine h.wide ?_ ?_
  · rintro k (hk | hk)
    · exact .inl hk
    · exact .inr ⟨by omega, hk.2⟩
  · rintro k (hk | hk)
    · exact h.lt k (.inl hk)
    · exact hk.2
theorem good_size {n : Tx} (h : good n.data.toList = true) : n.size ≤ 32 := by
  have hl : n.data.toList.length = n.size := by rw [Array.length_toList]; rfl
  simp [good] at h
  have := h.2
  have e : n.data.size = n.size := rfl
  omega
theorem appendOn_room {n : Nm} {b : List UInt8} {t : St} (hg : good n = true) (hr : noRoom b t = true) (hl : find n t.fs = none → ¬ 16 ≤ t.fs.length) : appendOn n b t = ({ t with ref := t.ref - 1 }, 60) := by
  unfold appendOn
  rw [if_pos hg]
  cases hf : find n t.fs with
  | none => simp only; rw [if_neg (hl hf), if_pos hr]
  | some f => simp only; rw [if_pos hr]
theorem ap_none {w w' : World} {o' : Option Addr} (h : Ap w none o' w') : Keeps no w w' := by
  rcases h with ⟨_, h⟩ | ⟨_, h⟩
  · exact h.mono (fun i ⟨x, e, _⟩ => by cases e)
  · exact h
theorem ap_at {w w' : World} {x : Dlo} {o' : Option Addr} (hx : FileAt w x) (h : Ap w x.o o' w') : w'.heap[x.p]? = some (.cells (fcells x) 98 (0, 0)) := by
  rcases h with ⟨_, h⟩ | ⟨_, h⟩
  · exact h.at hx.blk (fun e => hx.o_p hx _ e rfl)
  · exact h.at hx.blk (fun h => h)
theorem room_end {w w1 : World} {p : Nat} {F : Nat → Prop} {t : St} {bm r nb : Nat} {c : Int} {L : LL} {n : Nm} {b : List UInt8} (hd : DL w1 p F t bm c L) (ho : t.off = false) (hg : good n = true) (hnb : nb = b.length) (hr : r = t.ref) (hK : Keeps F w w1)
    (hl16 : find n t.fs = none → ¬ 16 ≤ t.fs.length) (h1 : 0 < nb) (h2 : 0 < r) :
    Ending.returned (.int .i64 60) = .returned (.int .i64 (cT t (appendOn n b)).2) ∧ IsD (w1.setCell ⟨p, 2, none⟩ (.int .i64 ((r : Int) - 1))) p (grow F w (w1.setCell ⟨p, 2, none⟩ (.int .i64 ((r : Int) - 1)))) (cT t (appendOn n b)).1 ∧ Keeps F w (w1.setCell ⟨p, 2, none⟩ (.int .i64 ((r : Int) - 1))) := by
  have hno : noRoom b t = true := by
    simp [noRoom]
    exact ⟨by rw [← hnb]; exact h1, by rw [← hr]; exact h2⟩
  rw [cT_on ho, appendOn_room hg hno hl16]
  have hks := keeps_setG w1 p 2 (.int .i64 ((r : Int) - 1))
  have e1 : ((r : Int) - 1) = ((t.ref - 1 : Nat) : Int) := by omega
  have hri := hd.ri
  refine ⟨rfl, IsD.grow ⟨bm, c, L, hd.cells hks ?_ rfl (ok_ref hd.ok _) hd.cc hd.ci hd.ki (by show ((t.ref - 1 : Nat) : Int) ≤ _; omega)⟩, hK.trans (hks.mono fun i e => by subst e; exact hd.fp)⟩
  rw [e1]
  exact blk_set hd.blk 2 _
theorem noRoom_false {nb r : Nat} {t : St} {b : List UInt8} (hnb : nb = b.length) (hr : r = t.ref) (h : ¬ (0 < nb ∧ 0 < r)) : noRoom b t = false := by
  subst hnb hr
  simp only [noRoom]
  by_cases h1 : 0 < b.length
  · have : ¬ 0 < t.ref := fun h2 => h ⟨h1, h2⟩
    simp [this]
  · simp [h1]
theorem old_end {w w1 w3 : World} {p : Nat} {F : Nat → Prop} {t : St} {bm : Nat} {c : Int} {L : LL} {n : Nm} {x : Dlo} {b : List UInt8} {o' : Option Addr} {c' nx nb : Nat} (hd : DL w1 p F t bm c L) (ho : t.off = false) (hg : good n = true) (hK : Keeps F w w1) (hf : find n L = some x) (hno : noRoom b t = false)
    (hw : Own BU w3 o' c' (x.bs ++ b)) (hap : Ap w1 x.o o' w3) (hnx : nx = x.bs.length) (hnb : nb = b.length) :
    Ending.returned (.int .i64 0) = .returned (.int .i64 (cT t (appendOn n b)).2) ∧ IsD (w3.setCell ⟨x.p, 0, none⟩ (.slice o' (nx + nb) c')) p (grow F w (w3.setCell ⟨x.p, 0, none⟩ (.slice o' (nx + nb) c'))) (cT t (appendOn n b)).1 ∧ Keeps F w (w3.setCell ⟨x.p, 0, none⟩ (.slice o' (nx + nb) c')) := by
  subst hnx hnb
  have hff := hd.find n
  rw [hf] at hff
  have e : appendOn n b t = ({ t with fs := put n ⟨x.bs ++ b, x.sy⟩ t.fs }, 0) := by
    unfold appendOn
    rw [if_pos hg, hff]
    simp only [Option.map_some]
    rw [hno]
    rfl
  have hok := appendOn_ok (n := n) (b := b) hd.ok
  rw [e] at hok
  rw [cT_on ho, e]
  obtain ⟨h1, h2⟩ := app_file hd hf hw hap hok
  exact ⟨rfl, ⟨bm, c, _, h1.regrow hK.size⟩, hK.trans h2⟩
theorem new_end {w w1 w2 w3 : World} {p : Nat} {F : Nat → Prop} {t : St} {bm : Nat} {c : Int} {L : LL} {n : Nm} {b : List UInt8} {o' : Option Addr} {c' nb : Nat} (hd : DL w1 p F t bm c L) (ho : t.off = false) (hg : good n = true) (hK : Keeps F w w1) (hf : find n t.fs = none) (hl : ¬ 16 ≤ t.fs.length) (hno : noRoom b t = false)
    (hm : IsM w2 bm (put n (nlo w1) L)) (hk2 : Keeps (fun i => i = bm) (w1.alloc (.cells #[.slice none 0 0, .int .i64 0] 98)) w2) (hw : Own BU w3 o' c' ([] ++ b)) (hap : Ap w2 none o' w3) (hnb : nb = b.length) :
    Ending.returned (.int .i64 0) = .returned (.int .i64 (cT t (appendOn n b)).2) ∧ IsD (w3.setCell ⟨w1.heap.size, 0, none⟩ (.slice o' nb c')) p (grow F w (w3.setCell ⟨w1.heap.size, 0, none⟩ (.slice o' nb c'))) (cT t (appendOn n b)).1 ∧ Keeps F w (w3.setCell ⟨w1.heap.size, 0, none⟩ (.slice o' nb c')) := by
  subst hnb
  have e : appendOn n b t = ({ t with fs := put n ⟨b, 0⟩ t.fs }, 0) := by
    unfold appendOn
    rw [if_pos hg, hf]
    simp only
    rw [if_neg hl, hno]
    rfl
  have hok := appendOn_ok (n := n) (b := b) hd.ok
  rw [e] at hok
  rw [cT_on ho, e]
  obtain ⟨h1, h2⟩ := dl_new hd hg hf (by omega) hm hk2
  have hpp : put n (⟨[] ++ b, 0⟩ : Fl) (put n ⟨[], 0⟩ t.fs) = put n ⟨b, 0⟩ t.fs := by rw [put_put hd.ok.inc]; rfl
  have h34 := app_file (x := nlo w1) h1 (find_put_same L) hw hap (by show Ok { t with fs := put n (⟨[] ++ b, 0⟩ : Fl) (put n ⟨[], 0⟩ t.fs) }; rw [hpp]; exact hok)
  rw [show (nlo w1).bs.length + b.length = b.length by simp [nlo]] at h34
  obtain ⟨h3, h4⟩ := h34
  have e5 : ({ t with fs := put n (⟨[] ++ b, 0⟩ : Fl) (put n ⟨[], 0⟩ t.fs) } : St) = { t with fs := put n ⟨b, 0⟩ t.fs } := by rw [hpp]
  refine ⟨rfl, ⟨bm, c, put n ⟨w1.heap.size, o', c', [] ++ b, 0⟩ (put n (nlo w1) L), ?_⟩, (hK.trans h2).then h4 ?_⟩
  · show DL _ p _ { t with fs := put n ⟨b, 0⟩ t.fs } bm c _
    rw [← e5]
    refine DL.wide h3 ?_ ?_
    · rintro k ((hk | hk) | hk)
      · exact .inl hk
      · refine .inr ⟨Nat.le_trans hK.size hk.1, ?_⟩
        have := h3.lt k (.inl (.inr hk))
        exact this
      · refine .inr ⟨Nat.le_trans hK.size (Nat.le_trans h2.size hk.1), hk.2⟩
    · rintro k (hk | hk)
      · exact h3.lt k (.inl (.inl hk))
      · exact hk.2
  · rintro i (hi | hi)
    · exact .inl hi
    · exact .inr (Nat.le_trans hK.size hi.1)
set_option maxRecDepth 10000 in
theorem append_any (w : World) (p : Nat) (F : Nat → Prop) (s : St) (n : Tx) (ob : Option Addr) (nb cb : Nat) (b : List UInt8) (h : IsD w p F s) (hn : n.size ≤ maxLen) (hnb : nb = b.length) (hb : Sl BU w ob cb b) (hF : ∀ k, inO ob k → ¬ F k)
    (hlen : b.length ≤ 140737488355328) (hfit : ∀ f, find n.data.toList (tick s).fs = some f → f.bs.length + b.length ≤ 140737488355328) :
    Calls Tryz.prog 9 #[.pointer (some ⟨p, 0, none⟩), .string n, .slice ob nb cb] w fun e w' => e = .returned (.int .i64 (counted s (appendOn n.data.toList b)).2) ∧ IsD w' p (grow F w w') (counted s (appendOn n.data.toList b)).1 ∧ Keeps F w w' := by
  obtain ⟨t, ht⟩ : ∃ t, t = tick s := ⟨_, rfl⟩
  rw [counted_cT, ← ht]
  rw [← ht] at hfit
  have HT : Hid (t = tick s) := ht
  have HNB : Hid (nb = b.length) := hnb
  have HFIT : Hid (∀ f, find n.data.toList t.fs = some f → f.bs.length + b.length ≤ 140737488355328) := hfit
  have HLEN : Hid (b.length ≤ 140737488355328) := hlen
  have hnbm : nb ≤ 140737488355328 := by omega
  clear ht hnb hfit hlen
  go_enter Tryz.func9, Tryz.ntmps9
  go_wp2_with fail
  refine (counts_any w p F s h).mono ?_
  rintro e w1 ⟨rfl, h1, HK⟩
  rw [← HT.out] at h1 ⊢
  cases ho : t.off with
  | true =>
    go_wp2
    go_ret
    rw [cT_off ho]
    exact ⟨rfl, h1.grow, HK⟩
  | false =>
  have hb1 : Sl BU w1 ob cb b := hb.keeps HK hF
  go_wp2_with fail
  refine (isName_any w1 n).mono ?_
  rintro e w1' ⟨rfl, e2⟩
  subst w1'
  cases hg : good n.data.toList with
  | false =>
    go_wp2
    go_ret
    rw [cT_on ho, appendOn, hg]
    exact ⟨rfl, h1.grow, HK⟩
  | true =>
  obtain ⟨bm, c, L, hd⟩ := h1
  have c0 : w1.cell? ⟨p, 0, none⟩ = some (.map (some bm)) := cell_of_blk hd.blk 0
  have c2 : w1.cell? ⟨p, 2, none⟩ = some (.int .i64 ((t.ref : Nat) : Int)) := cell_of_blk hd.blk 2
  have f2 : w1.frozen? ⟨p, 2, none⟩ = false := frozen_of_blk hd.blk 2
  have hl := look hd.map n hn
  have hmp : w1.ownsMap Tryz.prog 9 R70 bm L.length (datW L) := hd.map
  have hlen : ∀ ty, (Builtin.len_ #[87] ty #[.map (some bm)]).run Tryz.prog w1 = .ok (.int .i64 ((L.length : Nat) : Int)) w1 := fun ty => by
    have := hmp.len Tryz.underlying87 ty
    rwa [dat_sizeW] at this
  have hL16 : L.length ≤ 16 := by rw [← hd.len]; exact hd.ok.len
  have HL : Hid (t.fs.length = L.length) := hd.len
  obtain ⟨m, hm⟩ : ∃ m, m = L.length := ⟨_, rfl⟩
  rw [← hm] at hlen hL16
  have HM : Hid (m = L.length) := hm
  have HD : Hid (DL w1 p F t bm c L) := hd
  obtain ⟨r, hr⟩ : ∃ r, r = t.ref := ⟨_, rfl⟩
  rw [← hr] at c2
  have HR : Hid (r = t.ref) := hr
  have hri : (r : Int) ≤ 9223372036854775807 := by rw [hr]; exact hd.ri
  have HMP : Hid (w1.ownsMap Tryz.prog 9 R70 bm L.length (datW L)) := hmp
  have HB1 : Hid (Sl BU w1 ob cb b) := hb1
  have HK0 : Hid (Keeps F w w1) := HK
  have HG : Hid (good n.data.toList = true) := hg
  have HBK : Hid (∀ w2, Keeps (fun i => i = bm) (w1.alloc (.cells #[.slice none 0 0, .int .i64 0] 98)) w2 → Row BU w2 ob b) := (show _ from fun w2 hk2 => HB1.out.row.keeps ((((Keeps.refl no w1).alloc _).of_no).trans hk2) (fun k hk e => hF k hk (by subst e; exact HD.out.fm)))
  clear hd hmp hb1 hb hr hm HK hF
  cases hf : Dk.find n.data.toList L with
  | none =>
    rw [hf] at hl
    simp only [ptrOf] at hl
    have hff : Dk.find n.data.toList t.fs = none := by rw [HD.out.find, hf]; rfl
    by_cases h16 : 16 ≤ m
    · go_wp2
      go_ret
      rw [cT_on ho, appendOn, if_pos hg, hff]
      simp only
      rw [if_pos (by rw [HL.out, ← HM.out]; exact h16)]
      exact ⟨rfl, IsD.grow ⟨bm, c, L, HD.out⟩, HK0.out⟩
    · by_cases hrm : 0 < nb ∧ 0 < r
      · obtain ⟨hr1, hr2⟩ := hrm
        go_wp2
        go_ret
        exact room_end HD.out ho hg HNB.out HR.out HK0.out (fun _ => by rw [HL.out, ← HM.out]; exact h16) hr1 hr2
      · have HNO : Hid (noRoom b t = false) := noRoom_false HNB.out HR.out hrm
        have HN1 : Hid (n.size ≤ 281474976710656) := (show n.size ≤ 281474976710656 by have := good_size HG.out; omega)
        have k1 : (decide ((0 : Int) < ((nb : Nat) : Int)) && decide ((0 : Int) < ((r : Nat) : Int))) = false := by
          by_cases q1 : 0 < nb
          · have : ¬ 0 < r := fun h => hrm ⟨q1, h⟩
            simp; omega
          · simp; omega
        have c0' : (w1.alloc (.cells #[.slice none 0 0, .int .i64 0] 98)).cell? ⟨p, 0, none⟩ = some (.map (some bm)) := ((Keeps.refl no w1).alloc _).cellN c0
        have HM0 : Hid (IsM (w1.alloc (.cells #[.slice none 0 0, .int .i64 0] 98)) bm L) := (show _ from HD.out.map.keeps ((Keeps.refl no w1).alloc _) (fun h => h))
        have HLL : Hid (L.length ≤ 16) := (show _ by rw [← HM.out]; exact hL16)
        by_cases hq : 0 < nb
        · have hr0 : r = 0 := by omega
          subst hr0
          go_wp2_with (first | (go_at_call 47; refine (dlay_any _ p bm L n (nlo w1) HN1.out c0' HM0.out HLL.out).mono ?_; rintro e w2 ⟨rfl, hm2, hk2⟩; have hb2 := hk2.at (nlo_at w1).blk (fun e => (nlo_at w1).ne_bm HM0.out e); have HM2 : Hid (IsM w2 bm (put n.data.toList (nlo w1) L)) := hm2; have HK2 : Hid (Keeps (fun i => i = bm) (w1.alloc (.cells #[.slice none 0 0, .int .i64 0] 98)) w2) := hk2; have d0 : w2.cell? ⟨w1.heap.size, 0, none⟩ = some (.slice none 0 0) := cell_of_blk hb2 0; have g0 : w2.frozen? ⟨w1.heap.size, 0, none⟩ = false := frozen_of_blk hb2 0; clear hm2 hk2) | (at_builtin; refine wpList_app okU rfl _ _ rfl none 0 0 [] rfl rfl (own_nil _) ob nb cb b rfl HNB.out HB1.out.nil (HBK.out _ HK2.out) (by have := HLEN.out; simp [BU]; omega) (by have := HLEN.out; simp; omega) ?_; intro o' c' w3 hw hap; have hb3 := (ap_none hap).at hb2 (fun h => h); have d1 : w3.cell? ⟨w1.heap.size, 0, none⟩ = some (.slice none 0 0) := cell_of_blk hb3 0; have g1 : w3.frozen? ⟨w1.heap.size, 0, none⟩ = false := frozen_of_blk hb3 0))
          go_ret
          exact new_end HD.out ho hg HK0.out hff (by rw [HL.out, ← HM.out]; exact h16) HNO.out HM2.out HK2.out hw hap HNB.out
        · go_wp2_with (first | (go_at_call 47; refine (dlay_any _ p bm L n (nlo w1) HN1.out c0' HM0.out HLL.out).mono ?_; rintro e w2 ⟨rfl, hm2, hk2⟩; have hb2 := hk2.at (nlo_at w1).blk (fun e => (nlo_at w1).ne_bm HM0.out e); have HM2 : Hid (IsM w2 bm (put n.data.toList (nlo w1) L)) := hm2; have HK2 : Hid (Keeps (fun i => i = bm) (w1.alloc (.cells #[.slice none 0 0, .int .i64 0] 98)) w2) := hk2; have d0 : w2.cell? ⟨w1.heap.size, 0, none⟩ = some (.slice none 0 0) := cell_of_blk hb2 0; have g0 : w2.frozen? ⟨w1.heap.size, 0, none⟩ = false := frozen_of_blk hb2 0; clear hm2 hk2) | (at_builtin; refine wpList_app okU rfl _ _ rfl none 0 0 [] rfl rfl (own_nil _) ob nb cb b rfl HNB.out HB1.out.nil (HBK.out _ HK2.out) (by have := HLEN.out; simp [BU]; omega) (by have := HLEN.out; simp; omega) ?_; intro o' c' w3 hw hap; have hb3 := (ap_none hap).at hb2 (fun h => h); have d1 : w3.cell? ⟨w1.heap.size, 0, none⟩ = some (.slice none 0 0) := cell_of_blk hb3 0; have g1 : w3.frozen? ⟨w1.heap.size, 0, none⟩ = false := frozen_of_blk hb3 0))
          go_ret
          exact new_end HD.out ho hg HK0.out hff (by rw [HL.out, ← HM.out]; exact h16) HNO.out HM2.out HK2.out hw hap HNB.out
  | some x =>
    rw [hf] at hl
    simp only [ptrOf] at hl
    have hff := HD.out.find n.data.toList
    rw [hf] at hff
    have HFF : Hid (Dk.find n.data.toList t.fs = some x.fl) := hff
    clear hff
    have hx := HD.out.files _ (find_mem hf)
    obtain ⟨nx, hnx⟩ : ∃ nx, nx = x.bs.length := ⟨_, rfl⟩
    have HNX : Hid (nx = x.bs.length) := hnx
    have q0 : w1.cell? ⟨x.p, 0, none⟩ = some (.slice x.o nx x.c) := by rw [hnx]; exact cell_of_blk hx.blk 0
    have g0 : w1.frozen? ⟨x.p, 0, none⟩ = false := frozen_of_blk hx.blk 0
    have HX : Hid (FileAt w1 x) := hx
    clear hx hnx
    by_cases hrm : 0 < nb ∧ 0 < r
    · obtain ⟨hr1, hr2⟩ := hrm
      go_wp2
      go_ret
      exact room_end HD.out ho hg HNB.out HR.out HK0.out (fun e => by rw [HFF.out] at e; cases e) hr1 hr2
    · have HNO : Hid (noRoom b t = false) := noRoom_false HNB.out HR.out hrm
      by_cases hq : 0 < nb
      · have hr0 : r = 0 := by omega
        subst hr0
        go_wp2_with (at_builtin; refine wpList_app okU rfl _ _ rfl x.o nx x.c x.bs rfl HNX.out HX.out.own ob nb cb b rfl HNB.out HB1.out.nil HB1.out.row (by have := HFIT.out _ HFF.out; simp [BU]; simpa [Dlo.fl] using this) (by have := HFIT.out _ HFF.out; simpa [Dlo.fl] using this) ?_; intro o' c' w3 hw hap; have hb3 := ap_at HX.out hap; have d1 := cell_of_blk hb3 0; have g1 : w3.frozen? ⟨x.p, 0, none⟩ = false := frozen_of_blk hb3 0; simp only [fcells] at d1)
        go_ret
        exact old_end HD.out ho hg HK0.out hf HNO.out hw hap HNX.out HNB.out
      · go_wp2_with (at_builtin; refine wpList_app okU rfl _ _ rfl x.o nx x.c x.bs rfl HNX.out HX.out.own ob nb cb b rfl HNB.out HB1.out.nil HB1.out.row (by have := HFIT.out _ HFF.out; simp [BU]; simpa [Dlo.fl] using this) (by have := HFIT.out _ HFF.out; simpa [Dlo.fl] using this) ?_; intro o' c' w3 hw hap; have hb3 := ap_at HX.out hap; have d1 := cell_of_blk hb3 0; have g1 : w3.frozen? ⟨x.p, 0, none⟩ = false := frozen_of_blk hb3 0; simp only [fcells] at d1)
        go_ret
        exact old_end HD.out ho hg HK0.out hf HNO.out hw hap HNX.out HNB.out
end Go.Proofs.YtdemoghlibnooaaGreatDoor
namespace Go.Proofs.YtdemoghlibnooaaGreatDoor
open Go.RowKit Dk
set_option linter.unusedVariables false
set_option linter.unusedSimpArgs false
theorem bb_lt : ∀ a b : Nm, bytesBefore a b = decide (a < b)
  | [], [] => by simp [bytesBefore]
  | [], _ :: _ => by simp [bytesBefore]
  | _ :: _, [] => by simp [bytesBefore]
  | x :: r, y :: t => by
    rw [bytesBefore, bb_lt r t]
    by_cases h : x < y
    · simp [h, List.cons_lt_cons_iff]
    · by_cases e : x = y
      · subst e; simp
      · have e' : (x == y) = false := by simpa using e
        simp [h, e, e', List.cons_lt_cons_iff]
theorem le_ext : ∀ {l1 l2 : List Nm}, l1.Pairwise (· ≤ ·) → l2.Pairwise (· ≤ ·) → l1.Perm l2 → l1 = l2
  | [], [], _, _, _ => rfl
  | [], y :: r, _, _, hm => by have := hm.length_eq; simp at this
  | x :: r, [], _, _, hm => by have := hm.length_eq; simp at this
  | x :: r1, y :: r2, h1, h2, hm => by
    have p1 := List.pairwise_cons.1 h1
    have p2 := List.pairwise_cons.1 h2
    have hxy : x = y := by
      rcases List.mem_cons.1 (hm.mem_iff.1 (show x ∈ x :: r1 by simp)) with e | hx
      · exact e
      · rcases List.mem_cons.1 (hm.mem_iff.2 (show y ∈ y :: r2 by simp)) with e | hy
        · exact e.symm
        · exact List.le_antisymm (p1.1 y hy) (p2.1 x hx)
    subst hxy
    rw [le_ext p1.2 p2.2 ((List.perm_cons x).1 hm)]
theorem sorted_names {β : Type} {L : List (Nm × β)} (hL : Inc L) {ss : List Nm} (hp : ss.Perm (names L)) : ss.mergeSort (fun x y => decide (x ≤ y)) = names L := by
  refine le_ext ?_ ?_ ((List.mergeSort_perm ss _).trans hp)
  · have := List.pairwise_mergeSort (le := fun x y : List UInt8 => decide (x ≤ y)) (fun a b c h1 h2 => by
      simp only [decide_eq_true_eq] at *
      exact List.le_trans h1 h2) (fun a b => by
      simp only [Bool.or_eq_true, decide_eq_true_eq]
      exact List.le_total a b) ss
    exact List.Pairwise.imp (fun h => by simpa using h) this
  · rw [inc_names] at hL
    exact List.Pairwise.imp (fun h => by rw [bb_lt, decide_eq_true_eq] at h; exact List.le_of_lt h) hL
theorem dat_keys (L : LL) : strKeys (datW L) = names L := by
  simp [strKeys, datW, names, Function.comp_def, dat1, strOf]
set_option maxRecDepth 10000 in
theorem list_any (w : World) (p : Nat) (F : Nat → Prop) (s : St) (h : IsD w p F s) :
    Calls Tryz.prog 18 #[.pointer (some ⟨p, 0, none⟩)] w fun e w' => ∃ o c m, e = .returned (.tuple #[.slice o m c, .int .i64 (listE (tick s))]) ∧ Hid (m = (listN (tick s)).length) ∧ Own TE w' o c ((listN (tick s)).map mkT) ∧ New w o ∧ IsD w' p F (tick s) ∧ Keeps F w w' := by
  obtain ⟨t, ht⟩ : ∃ t, t = tick s := ⟨_, rfl⟩
  rw [← ht]
  have HT : Hid (t = tick s) := ht
  clear ht
  go_enter Tryz.func18, Tryz.ntmps18
  go_wp2_with fail
  refine (counts_any w p F s h).mono ?_
  rintro e w1 ⟨rfl, h1, HK⟩
  rw [← HT.out] at h1 ⊢
  cases ho : t.off with
  | true =>
    go_wp2
    go_ret2
    have e1 : listN t = [] := by simp [listN, ho]
    have e2 : listE t = 62 := by simp [listE, ho]
    rw [e1, e2]
    exact ⟨_, _, _, rfl, rfl, own_nil _, new_none _, h1, HK⟩
  | false =>
    obtain ⟨bm, c, L, hd⟩ := h1
    have c0 : w1.cell? ⟨p, 0, none⟩ = some (.map (some bm)) := cell_of_blk hd.blk 0
    have HD : Hid (DL w1 p F t bm c L) := hd
    have HK0 : Hid (Keeps F w w1) := HK
    have hL16 : L.length ≤ 16 := by rw [← hd.len]; exact hd.ok.len
    have K1 := fun (W : World) => callsIn_wide.1 (Tryz.maps_Keys_59 (some bm) W)
    have K2 := callsIn_wide.1 (Tryz.slices_Sorted_keys_58_59 bm L.length (datW L) R70 w1 hd.map (by rw [dat_sizeW]; unfold maxLen; omega) (by rw [dat_sizeW]; omega))
    clear hd HK
    go_wp2_with (first | (go_at_call 59; refine (K1 _).mono ?_; rintro e w2 ⟨rfl, rfl⟩) | (go_at_call 58; refine K2.mono ?_; rintro e w3 ⟨v, ss, rfl, hS, hrow, hnil, hb⟩))
    go_ret2
    have e1 : listN t = names L := by simp [listN, ho]; rw [HD.out.fs, names_mapv]
    have e2 : listE t = 0 := by simp [listE, ho]
    rw [dat_keys] at hS
    rw [sorted_names HD.out.inc hS] at hrow
    have hrow0 : w3.ownsRow 0 TE.e TE.k v ss.length (TE.cells ((names L).map mkT)) := by
      rw [cells_TG, List.map_map]
      have hr := hrow
      obtain ⟨r1, r2⟩ := hr
      refine ⟨r1, ?_⟩
      rcases r2 with r2 | ⟨g, cap, cur, q1, q2, q3⟩
      · exact .inl r2
      · exact .inr ⟨g, cap, cur, q1, Nat.zero_le _, q3⟩
    obtain ⟨o, c', hv, hn, hown⟩ := own_val okT hrow0
    rw [e1, e2]
    have hk : Keeps no w1 w3 := ((Keeps.refl no w1).alloc _).trans (Keeps.of_below hb)
    refine ⟨o, c', ss.length, by rw [hv]; rfl, (show _ = _ by rw [hn, List.length_map]), hown, ?_, IsD.keepsN ⟨bm, c, L, HD.out⟩ hk, HK0.out.trans hk.of_no⟩
    rintro k ⟨x, hx, rfl⟩
    rcases hrow.2 with ⟨q, _⟩ | ⟨g, cap, cur, q1, q2, q3⟩
    · rw [hv] at q; injection q with q; rw [q] at hx; cases hx
    · rw [hv] at q1; injection q1 with q1; rw [q1] at hx; cases hx
      have := HK0.out.size
      simp only [World.size_alloc] at q2
      show w.heap.size ≤ g
      omega
end Go.Proofs.YtdemoghlibnooaaGreatDoor
namespace Go.Proofs.YtdemoghlibnooaaGreatDoor
open Go.RowKit Dk
set_option linter.unusedVariables false
set_option linter.unusedSimpArgs false
structure Dn (w0 w : World) (p : Nat) (F : Nat → Prop) (s : St) : Prop where
  is : IsD w p F s
  new : ∀ k, F k → w0.heap.size ≤ k
  kept : Keeps no w0 w
theorem Dn.step {w0 w w' : World} {p : Nat} {F F' : Nat → Prop} {s s' : St} (h : Dn w0 w p F s) (hi : IsD w' p F' s') (hF : ∀ k, F' k → F k ∨ w.heap.size ≤ k) (hk : Keeps F w w') : Dn w0 w' p F' s' :=
  ⟨hi, fun k hk => by rcases hF k hk with h1 | h1; exact h.new k h1; exact Nat.le_trans h.kept.size h1, h.kept.then hk (fun i hi => .inr (h.new i hi))⟩
theorem Dn.same {w0 w w' : World} {p : Nat} {F : Nat → Prop} {s s' : St} (h : Dn w0 w p F s) (hi : IsD w' p F s') (hk : Keeps F w w') : Dn w0 w' p F s' := h.step hi (fun k hk => .inl hk) hk
theorem Dn.more {w0 w w' : World} {p : Nat} {F : Nat → Prop} {s s' : St} (h : Dn w0 w p F s) (hi : IsD w' p (grow F w w') s') (hk : Keeps F w w') : Dn w0 w' p (grow F w w') s' := h.step hi (fun k hk => by rcases hk with h | h; exact .inl h; exact .inr h.1) hk
theorem Dn.beside {w0 w w' : World} {p : Nat} {F : Nat → Prop} {s : St} (h : Dn w0 w p F s) (hk : Keeps no w w') : Dn w0 w' p F s := ⟨h.is.keepsN hk, h.new, h.kept.trans hk⟩
def lit (cs : List UInt8) : Array Value := (cs.map bv).toArray
theorem lit_sl (w : World) (cs : List UInt8) (c : Nat) (fz : Nat × Nat) (hc : cs.length ≤ c) : Sl BU (w.alloc (.cells (lit cs) 5 fz)) (some ⟨w.heap.size, 0, none⟩) c cs := by
  refine ⟨.inr ⟨_, 0, rfl, fun j u hj => ?_⟩, hc, fun e => by cases e⟩
  rw [cells_U] at hj
  rw [Nat.zero_add, cell_of_blk (blk_new w _)]
  simpa [lit] using hj
theorem in_some {k b i : Nat} (h : inO (some ⟨b, i, none⟩) k) : k = b := by obtain ⟨x, e, rfl⟩ := h; cases e; rfl
theorem keeps_alloc (w : World) (o : Obj) : Keeps no w (w.alloc o) := (Keeps.refl no w).alloc o
theorem dn_append {w0 w : World} {p : Nat} {F : Nat → Prop} {s s' : St} {er : Int} (n : Tx) (ob : Option Addr) (nb cb : Nat) (b : List UInt8) (h : Dn w0 w p F s) (hA : counted s (appendOn n.data.toList b) = (s', er)) (hn : n.size ≤ maxLen) (hnb : nb = b.length) (hb : Sl BU w ob cb b) (hF : ∀ k, inO ob k → ¬ F k)
    (hlen : b.length ≤ 140737488355328) (hfit : ∀ f, find n.data.toList (tick s).fs = some f → f.bs.length + b.length ≤ 140737488355328) :
    Calls Tryz.prog 9 #[.pointer (some ⟨p, 0, none⟩), .string n, .slice ob nb cb] w fun e w' => e = .returned (.int .i64 er) ∧ Dn w0 w' p (grow F w w') s' ∧ Keeps F w w' := by
  refine (append_any w p F s n ob nb cb b h.is hn hnb hb hF hlen hfit).mono ?_
  rintro e w' ⟨rfl, hi, hk⟩
  rw [hA] at hi ⊢
  exact ⟨rfl, h.more hi hk, hk⟩
theorem dn_sync {w0 w : World} {p : Nat} {F : Nat → Prop} {s s' : St} {er : Int} (n : Tx) (h : Dn w0 w p F s) (hA : counted s (syncOn n.data.toList) = (s', er)) (hn : n.size ≤ maxLen) :
    Calls Tryz.prog 29 #[.pointer (some ⟨p, 0, none⟩), .string n] w fun e w' => e = .returned (.int .i64 er) ∧ Dn w0 w' p F s' ∧ Keeps F w w' := by
  refine (sync_any w p F s n h.is hn).mono ?_
  rintro e w' ⟨rfl, hi, hk⟩
  rw [hA] at hi ⊢
  exact ⟨rfl, h.same hi hk, hk⟩
theorem dn_crash {w0 w : World} {p : Nat} {F : Nat → Prop} {s s' : St} (k : Int) (h : Dn w0 w p F s) (hA : crash k s = s') (hk : i64 k) :
    Calls Tryz.prog 22 #[.pointer (some ⟨p, 0, none⟩), .int .i64 k] w fun e w' => e = .returned (.tuple #[]) ∧ Dn w0 w' p F s' ∧ Keeps F w w' := by
  refine (crash_any w p F s k h.is hk).mono ?_
  rintro e w' ⟨rfl, hi, hk⟩
  rw [hA] at hi
  exact ⟨rfl, h.same hi hk, hk⟩
theorem dn_up {w0 w : World} {p : Nat} {F : Nat → Prop} {s s' : St} (h : Dn w0 w p F s) (hA : up s = s') :
    Calls Tryz.prog 23 #[.pointer (some ⟨p, 0, none⟩)] w fun e w' => e = .returned (.tuple #[]) ∧ Dn w0 w' p F s' ∧ Keeps F w w' := by
  refine (up_anyW w p F s h.is).mono ?_
  rintro e w' ⟨rfl, hi, hk⟩
  rw [hA] at hi
  exact ⟨rfl, h.same hi hk, hk⟩
theorem dn_arm {w0 w : World} {p : Nat} {F : Nat → Prop} {s s' : St} (n k : Int) (h : Dn w0 w p F s) (hA : arm n k s = s') (hn : i64 n) (hk : i64 k) :
    Calls Tryz.prog 10 #[.pointer (some ⟨p, 0, none⟩), .int .i64 n, .int .i64 k] w fun e w' => e = .returned (.tuple #[]) ∧ Dn w0 w' p F s' ∧ Keeps F w w' := by
  refine (arm_any w p F s h.is n k hn hk).mono ?_
  rintro e w' ⟨rfl, hi, hk⟩
  rw [hA] at hi
  exact ⟨rfl, h.same hi hk, hk⟩
theorem dn_read {w0 w : World} {p : Nat} {F : Nat → Prop} {s s' : St} {er : Int} {b : List UInt8} (n : Tx) (h : Dn w0 w p F s) (hA : tick s = s') (hB : readB n.data.toList s' = b) (hE : readE n.data.toList s' = er) (hn : n.size ≤ maxLen) (hb : b.length ≤ 140737488355328) :
    Calls Tryz.prog 84 #[.pointer (some ⟨p, 0, none⟩), .string n] w fun e w' => ∃ o c m, e = .returned (.tuple #[.slice o m c, .int .i64 er]) ∧ Hid (m = b.length) ∧ Own BU w' o c b ∧ New w o ∧ Dn w0 w' p F s' ∧ Keeps F w w' := by
  refine (dread_any w p F s n h.is hn (by rw [hA, hB]; exact hb)).mono ?_
  rintro e w' ⟨o, c, m, rfl, hm, ho, hnw, hi, hk⟩
  rw [hA] at hi hm ho ⊢
  rw [hB] at hm ho
  rw [hE]
  exact ⟨o, c, m, rfl, hm, ho, hnw, h.same hi hk, hk⟩
end Go.Proofs.YtdemoghlibnooaaGreatDoor
namespace Go.Proofs.YtdemoghlibnooaaGreatDoor
open Go.RowKit Dk
set_option linter.unusedVariables false
set_option linter.unusedSimpArgs false
theorem DL.del {w w' : World} {p : Nat} {F : Nat → Prop} {s : St} {bm : Nat} {c : Int} {L : LL} (h : DL w p F s bm c L) {n : Nm} (hm : IsM w' bm (del n L)) (hk : Keeps (fun i => i = bm) w w') : DL w' p F { s with fs := del n s.fs } bm c (del n L) := by
  refine ⟨hk.at h.blk h.p_bm, hm, by show Dk.del n s.fs = _; rw [h.fs, mapv_del], fun q hq => ?_, List.Pairwise.filter _ h.apart, h.fp, h.fm, fun q hq => h.ff q (mem_del.1 hq).1, fun k hk' => Nat.lt_of_lt_of_le (h.lt k hk') hk.size, ok_del h.ok, h.cc, h.ci, h.ki, h.ri⟩
  have hq' := (mem_del.1 hq).1
  exact (h.files q hq').keeps hk ((h.files q hq').ne_bm h.map) ((h.files q hq').o_bm h.map)
set_option maxRecDepth 10000 in
theorem delete_any (w : World) (p : Nat) (F : Nat → Prop) (s : St) (n : Tx) (h : IsD w p F s) (hn : n.size ≤ maxLen) :
    Calls Tryz.prog 99 #[.pointer (some ⟨p, 0, none⟩), .string n] w fun e w' => e = .returned (.int .i64 (counted s (deleteOn n.data.toList)).2) ∧ IsD w' p F (counted s (deleteOn n.data.toList)).1 ∧ Keeps F w w' := by
  obtain ⟨t, ht⟩ : ∃ t, t = tick s := ⟨_, rfl⟩
  rw [counted_cT, ← ht]
  have HT : Hid (t = tick s) := ht
  clear ht
  go_enter Tryz.func99, Tryz.ntmps99
  go_wp2_with fail
  refine (find_any w p F s n h hn).mono ?_
  rintro e w1 ⟨v, er, rfl, hF, HK⟩
  rw [← HT.out] at hF
  cases hF with
  | off h ho =>
    go_wp2
    go_ret
    rw [cT_off ho]
    exact ⟨rfl, h, HK⟩
  | none h ho hf =>
    go_wp2
    go_ret
    rw [cT_on ho, deleteOn, onF_none hf]
    exact ⟨rfl, h, HK⟩
  | some bm c L x h ho hf =>
    have c0 : w1.cell? ⟨p, 0, none⟩ = some (.map (some bm)) := cell_of_blk h.blk 0
    have hmap : w1.ownsMap Tryz.prog 9 R70 bm L.length (datW L) := h.map
    have HD : Hid (DL w1 p F t bm c L) := h
    have hkey := key9 n hn
    clear h
    go_wp2_with (first | (at_delete; refine wpList_delete_own _ rfl _ _ 87 9 rfl 96 law9 Tryz.underlying87 R70 bm _ _ rfl hmap _ _ rfl hkey ?_; intro w2 hown2 hturn2) | go_in)
    go_ret
    have hff := HD.out.find n.data.toList
    rw [hf] at hff
    rw [cT_on ho, deleteOn, onF_some hff]
    rw [dat_delW] at hown2
    have hks := keeps_of_grown hturn2.grown
    exact ⟨rfl, ⟨bm, c, _, HD.out.del (isM_of hown2) hks⟩, HK.trans (hks.mono fun i e => by subst e; exact HD.out.fm)⟩
end Go.Proofs.YtdemoghlibnooaaGreatDoor
