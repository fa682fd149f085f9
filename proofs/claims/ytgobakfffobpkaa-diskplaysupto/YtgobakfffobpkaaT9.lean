/- Four disks in an array; shots that are held; what a script without crashes leaves. -/
import Derived.Test.YtgobakfffobpkaaT8
namespace Go.Proofs.Ytgobakfffobpkaa
open Go.RowKit Dk
set_option linter.unusedVariables false
set_option linter.unusedSimpArgs false

def sel {α : Type} (a b c d : α) : Nat → α | 0 => a | 1 => b | 2 => c | _ => d
def pv (p : Nat) : Value := .pointer (some ⟨p, 0, none⟩)
def up1 {α : Type} (f : Nat → α) (i : Nat) (v : α) : Nat → α := fun j => if j = i then v else f j
structure Many (w0 w : World) (P : Nat → Nat) (S : Nat → St) (F : Nat → Nat → Prop) (A : Nat) : Prop where
  is : ∀ i, i < 4 → IsD w (P i) (F i) (S i)
  ap : ∀ i j, i < 4 → j < 4 → i ≠ j → ∀ k, F i k → ¬ F j k
  new : ∀ i, i < 4 → ∀ k, F i k → w0.heap.size ≤ k
  arr : w.heap[A]? = some (.cells #[pv (P 0), pv (P 1), pv (P 2), pv (P 3)] 57 (0, 0))
  na : ∀ i, i < 4 → ¬ F i A
  kept : Keeps no w0 w
variable {w0 w w' : World} {P : Nat → Nat} {S S' : Nat → St} {F : Nat → Nat → Prop} {A : Nat}
theorem Many.congr (h : Many w0 w P S F A) (e : ∀ i, i < 4 → S' i = S i) : Many w0 w P S' F A := ⟨fun i hi => by rw [e i hi]; exact h.is i hi, h.ap, h.new, h.arr, h.na, h.kept⟩
theorem Many.at (h : Many w0 w P S F A) {i : Nat} (hi : i < 4) : w.cell? ⟨A, i, none⟩ = some (pv (P i)) := by
  rw [cell_of_blk h.arr]
  match i, hi with
  | 0, _ => rfl
  | 1, _ => rfl
  | 2, _ => rfl
  | 3, _ => rfl
theorem Many.beside (h : Many w0 w P S F A) (hk : Keeps no w w') : Many w0 w' P S F A := ⟨fun i hi => (h.is i hi).keepsN hk, h.ap, h.new, hk.at h.arr id, h.na, h.kept.trans hk⟩
theorem Many.step (h : Many w0 w P S F A) {i : Nat} (hi : i < 4) {F' : Nat → Prop} {s' : St} (hd : IsD w' (P i) F' s') (hF : ∀ k, F' k → F i k ∨ w.heap.size ≤ k) (hk : Keeps (F i) w w') : Many w0 w' P (up1 S i s') (up1 F i F') A := by
  refine ⟨fun j hj => ?_, fun j l hj hl hne k h1 h2 => ?_, fun j hj k h1 => ?_, hk.at h.arr (h.na i hi), fun j hj h1 => ?_, h.kept.then hk (fun k hk => .inr (h.new i hi k hk))⟩
  · unfold up1
    by_cases e : j = i
    · subst e; simp only [if_true]; exact hd
    · simp only [if_neg e]
      exact (h.is j hj).keeps hk (fun k h1 => h.ap j i hj hi e k h1)
  · unfold up1 at h1 h2
    by_cases e1 : j = i
    · have e2 : ¬ l = i := fun e => hne (e1.trans e.symm)
      rw [if_pos e1] at h1
      rw [if_neg e2] at h2
      rcases hF k h1 with h3 | h3
      · exact h.ap i l hi hl (fun e => e2 e.symm) k h3 h2
      · have := (h.is l hl).lt k h2; omega
    · rw [if_neg e1] at h1
      by_cases e2 : l = i
      · rw [if_pos e2] at h2
        rcases hF k h2 with h3 | h3
        · exact h.ap j i hj hi e1 k h1 h3
        · have := (h.is j hj).lt k h1; omega
      · rw [if_neg e2] at h2
        exact h.ap j l hj hl hne k h1 h2
  · unfold up1 at h1
    by_cases e : j = i
    · rw [if_pos e] at h1
      rcases hF k h1 with h3 | h3
      · exact h.new i hi k h3
      · exact Nat.le_trans h.kept.size h3
    · rw [if_neg e] at h1; exact h.new j hj k h1
  · unfold up1 at h1
    by_cases e : j = i
    · rw [if_pos e] at h1
      rcases hF A h1 with h3 | h3
      · exact h.na i hi h3
      · have := lt_of_block h.arr; omega
    · rw [if_neg e] at h1; exact h.na j hj h1
theorem Many.grow (h : Many w0 w P S F A) {i : Nat} (hi : i < 4) {s' : St} (hd : IsD w' (P i) (Ytgobakfffobpkaa.grow (F i) w w') s') (hk : Keeps (F i) w w') (e : ∀ j, j < 4 → S' j = if j = i then s' else S j) : Many w0 w' P S' (up1 F i (Ytgobakfffobpkaa.grow (F i) w w')) A :=
  (h.step hi hd (fun k hk => by rcases hk with h1 | h1; exact .inl h1; exact .inr h1.1) hk).congr (fun j hj => by rw [e j hj]; rfl)
theorem Many.same (h : Many w0 w P S F A) {i : Nat} (hi : i < 4) {s' : St} (hd : IsD w' (P i) (F i) s') (hk : Keeps (F i) w w') (e : ∀ j, j < 4 → S' j = if j = i then s' else S j) : Many w0 w' P S' F A := by
  have := (h.step hi hd (fun k hk => .inl hk) hk).congr (S' := S') (fun j hj => by rw [e j hj]; rfl)
  have e2 : up1 F i (F i) = F := by
    funext j
    unfold up1
    split
    · rename_i e; rw [e]
    · rfl
  rw [e2] at this
  exact this

/-! ### shots that are held -/
structure Hs (w : World) (L : Nat) (hb : Nat) (x : Sh) (nx mx : Nat) (t : St) : Prop where
  sh : ShAt w x
  ft : ∀ k, x.foot k → L ≤ k
  blk : w.heap[hb]? = some (.cells #[.slice x.on nx x.cn, .slice x.ob mx x.cb] 48 (0, 0))
  hl : L ≤ hb
  ec : x.cells = #[.slice x.on nx x.cn, .slice x.ob mx x.cb]
  tl : Tells x t
theorem Hs.keeps {L hb : Nat} {x : Sh} {nx mx : Nat} {t : St} {X : Nat → Prop} (h : Hs w L hb x nx mx t) (hk : Keeps X w w') (hX : ∀ k, X k → k < L) : Hs w' L hb x nx mx t :=
  ⟨h.sh.keeps hk (fun k h1 h2 => by have := h.ft k h1; have := hX k h2; omega), h.ft, hk.at h.blk (fun h2 => by have := h.hl; have := hX _ h2; omega), h.hl, h.ec, h.tl⟩
theorem Hs.keepsN {L hb : Nat} {x : Sh} {nx mx : Nat} {t : St} (h : Hs w L hb x nx mx t) (hk : Keeps no w w') : Hs w' L hb x nx mx t := h.keeps hk (fun _ h => h.elim)
theorem Hs.lens {L hb : Nat} {x : Sh} {nx mx : Nat} {t : St} (h : Hs w L hb x nx mx t) : nx = t.fs.length ∧ mx = t.fs.length := by
  have e := h.ec
  unfold Sh.cells at e
  have e1 := congrArg (fun a : Array Value => a[0]?) e
  have e2 := congrArg (fun a : Array Value => a[1]?) e
  simp at e1 e2
  rw [← e1, ← e2]
  exact h.tl.lens
theorem md_shot {i : Nat} (hi : i < 4) (M L : Nat) (h : Many w0 w P S F A) (hr : Room M (S i)) (hM : M ≤ 70368744177664) (hL : L ≤ w.heap.size) (e : ∀ j, j < 4 → S' j = if j = i then up (S i) else S j) :
    Calls Try.prog 27 #[.pointer (some ⟨P i, 0, none⟩)] w fun e w' => ∃ (x : Sh) (nx mx : Nat), e = .returned (.tuple #[.agg #[.slice x.on nx x.cn, .slice x.ob mx x.cb], .bool true]) ∧ Hid (Hs (w'.alloc (.cells #[.slice x.on nx x.cn, .slice x.ob mx x.cb] 48)) L w'.heap.size x nx mx (up (S i))) ∧ Hid (Many w0 w' P S' F A) ∧ Hid (Keeps (F i) w w') := by
  refine (shot_any w (P i) (F i) (S i) (h.is i hi) M hr hM).mono ?_
  rintro e' w' ⟨x, rfl, hx, hn, ht, hd, hk⟩
  exact ⟨x, _, _, rfl, ⟨hx.keepsN (keeps_alloc w' _), fun k hk => Nat.le_trans hL (hn k hk), blk_new w' _, Nat.le_trans hL hk.size, rfl, ht⟩, h.same hi hd hk e, hk⟩
theorem md_crash {i : Nat} (hi : i < 4) (k : Int) (h : Many w0 w P S F A) (hk : i64 k) (e : ∀ j, j < 4 → S' j = if j = i then crash k (S i) else S j) :
    Calls Try.prog 25 #[.pointer (some ⟨P i, 0, none⟩), .int .i64 k] w fun e w' => e = .returned (.tuple #[]) ∧ Hid (Many w0 w' P S' F A) ∧ Hid (Keeps (F i) w w') := by
  refine (crash_any w (P i) (F i) (S i) k (h.is i hi) hk).mono ?_
  rintro e' w' ⟨rfl, hd, hk⟩
  exact ⟨rfl, h.same hi hd hk e, hk⟩

/-! ### a script without crashes -/
def lastS (s : St) (o : OpV) : St := if o.kind < 9 then (doesOn o s).1 else s
def rn (ps : List OpV) (j : Nat) : St := (ps.take j).foldl lastS Dk.new
theorem rn_zero (ps : List OpV) : rn ps 0 = Dk.new := rfl
theorem rn_succ (ps : List OpV) {j : Nat} (h : j < ps.length) : rn ps (j + 1) = lastS (rn ps j) (ps.getD j op0) := by
  unfold rn
  rw [take_succ_getD ps j op0 h, List.foldl_append]
  rfl
theorem rn_room (ps : List OpV) (hl : ∀ o ∈ ps, o.bs.length ≤ 4194304) : ∀ j, j ≤ ps.length → Room (j * 4194304) (rn ps j)
  | 0, _ => room_new _
  | j + 1, h => by
    have ih := rn_room ps hl j (by omega)
    rw [rn_succ ps (by omega)]
    unfold lastS
    split
    · exact doesOn_room' ih (hl _ (getD_mem ps j op0 (by omega)))
    · exact ih.mono (by omega)
structure Quiet (s : St) : Prop where
  pl : Plain s
  off : s.off = false
theorem Quiet.last {s : St} (h : Quiet s) (o : OpV) : Quiet (lastS s o) := by
  unfold lastS
  split
  · rename_i h9
    refine ⟨h.pl.does (by omega) (by omega), ?_⟩
    by_cases hc : 1 ≤ o.kind ∧ o.kind ≤ 8
    · rw [doesOn_cnt hc.1 hc.2, tick_unarmed h.pl.calls, cT_on h.off, (blind_gOf o).off]
      exact h.off
    · rw [doesOn_0 (by omega) (by omega) (by omega) (by omega) (by omega) (by omega) (by omega) (by omega) (by omega) (by omega) (by omega) (by omega)]
      exact h.off
  · exact h
theorem rn_quiet (ps : List OpV) (j : Nat) : Quiet (rn ps j) := by
  unfold rn
  generalize ps.take j = l
  have : ∀ (l : List OpV) (s : St), Quiet s → Quiet (l.foldl lastS s) := by
    intro l
    induction l with
    | nil => intro s h; exact h
    | cons o r ih => intro s h; exact ih _ (h.last o)
  exact this l _ ⟨⟨rfl, rfl⟩, rfl⟩
theorem Quiet.up {s : St} (h : Quiet s) : up s = s := by
  have h1 := h.off
  have h2 := h.pl.calls
  cases s
  simp only at h1 h2
  subst h1 h2
  rfl
theorem Quiet.calm {s : St} (h : Quiet s) : Calm s := ⟨h.off, tick_unarmed h.pl.calls⟩

/-! ### all synced, name by name -/
def syn1 (q : Nm × Fl) : Nm × Fl := (q.1, ⟨q.2.bs, q.2.bs.length⟩)
def syn (j : Nat) (s : St) : St := { s with fs := (s.fs.take j).map syn1 ++ s.fs.drop j }
theorem put_mid {β : Type} {a b : List (Nm × β)} {n : Nm} {u v : β} (h : Inc (a ++ (n, u) :: b)) : put n v (a ++ (n, u) :: b) = a ++ (n, v) :: b := by
  have hi : Inc (a ++ (n, v) :: b) := by
    rw [inc_names] at h ⊢
    simpa [names] using h
  refine inc_ext (inc_put h) hi fun m => ?_
  by_cases e : m = n
  · subst e
    rw [find_put_same, find_of_mem (v := v) hi (by simp)]
  · rw [find_put_other e]
    clear h hi
    induction a with
    | nil =>
      have : ¬ (n == m) = true := by simpa using fun e' => e e'.symm
      simp [find, this]
    | cons y r ih =>
      simp only [List.cons_append, find]
      split
      · rfl
      · exact ih
theorem syn_zero (s : St) : syn 0 s = s := by simp [syn]
theorem names_syn (s : St) (j : Nat) : names (syn j s).fs = names s.fs := by
  simp only [syn, names, List.map_append, List.map_map]
  have : ((fun x : Nm × Fl => x.1) ∘ syn1) = fun x => x.1 := rfl
  rw [this, ← List.map_append, List.take_append_drop]
theorem syn_split {s : St} {j : Nat} (hj : j < s.fs.length) : (syn j s).fs = (s.fs.take j).map syn1 ++ (s.fs[j].1, s.fs[j].2) :: s.fs.drop (j + 1) := by
  show (s.fs.take j).map syn1 ++ s.fs.drop j = _
  rw [List.drop_eq_getElem_cons hj]
theorem syn_next {s : St} {j : Nat} (hok : Ok (syn j s)) (hj : j < s.fs.length) {n : Tx} (hn : n = ((names s.fs).map mkT).getD j e0) : syncOn n.data.toList (syn j s) = (syn (j + 1) s, 0) := by
  have e : n.data.toList = s.fs[j].1 := by
    have : n = mkT (s.fs[j]).1 := by rw [hn]; simp [names, hj]
    rw [this, data_mkT]
  have hi := hok.inc
  rw [syn_split hj] at hi
  have hf : find n.data.toList (syn j s).fs = some s.fs[j].2 := by
    rw [e]
    exact find_of_mem hok.inc (by rw [syn_split hj]; simp)
  unfold syncOn
  rw [onF_some hf, e, syn_split hj, put_mid hi]
  have : (syn (j + 1) s).fs = (s.fs.take j).map syn1 ++ (s.fs[j].1, (⟨s.fs[j].2.bs, s.fs[j].2.bs.length⟩ : Fl)) :: s.fs.drop (j + 1) := by
    show (s.fs.take (j + 1)).map syn1 ++ s.fs.drop (j + 1) = _
    rw [List.take_succ_eq_append_getElem hj, List.map_append]
    simp [syn1]
  rw [← this]
  rfl
theorem Quiet.syn {s : St} (h : Quiet s) (j : Nat) : Quiet (syn j s) := ⟨⟨h.pl.calls, h.pl.ref⟩, h.off⟩
theorem Room.syn {M : Nat} {s : St} (h : Room M s) (j : Nat) : Room M (syn j s) := by
  intro q hq
  rcases List.mem_append.1 hq with hq | hq
  · obtain ⟨r, hr, rfl⟩ := List.mem_map.1 hq
    exact h r (List.mem_of_mem_take hr)
  · exact h q (List.mem_of_mem_drop hq)

/-! ### what a crash leaves -/
theorem crash_fs {s : St} (h : s.off = false) (k : Int) : (crash k s).fs = mapv (crF k) s.fs := by unfold crash; rw [h]; rfl
theorem crash_off (s : St) (k : Int) : (crash k s).off = true := by
  unfold crash
  cases h : s.off with
  | true => simp [h]
  | false => simp
theorem crF_idem {k l : Int} {f : Fl} (h : f.sy ≤ f.bs.length) : crF l (crF k f) = crF k f := by
  have h1 := cutN_le k h
  have e : crF k f = ⟨f.bs.take (cutN k f), (f.bs.take (cutN k f)).length⟩ := by simp [crF]; omega
  rw [e, crF_all]
theorem mapv_idem {l : List (Nm × Fl)} (h : ∀ p ∈ l, p.2.sy ≤ p.2.bs.length) (k m : Int) : mapv (crF m) (mapv (crF k) l) = mapv (crF k) l := by
  induction l with
  | nil => rfl
  | cons q r ih =>
    have := ih (fun p hp => h p (by simp [hp]))
    simp only [mapv, List.map_cons] at this ⊢
    rw [this, crF_idem (h q (by simp))]
theorem mapv_syn (l : List (Nm × Fl)) (k : Int) : mapv (crF k) (l.map syn1) = l.map syn1 := by
  induction l with
  | nil => rfl
  | cons q r ih =>
    simp only [mapv, List.map_cons] at ih ⊢
    rw [ih]
    simp only [syn1, crF_all]
theorem bytes_syn (l : List (Nm × Fl)) : (l.map syn1).map (·.2.bs) = l.map (·.2.bs) := by simp [Function.comp_def, syn1]
theorem names_syn1 (l : List (Nm × Fl)) : names (l.map syn1) = names l := by simp [names, Function.comp_def, syn1]
/-- the parts of two files that two crashes leave -/
theorem cut_two {f : Fl} {a b : Int} (h : f.sy ≤ f.bs.length) (ha : 0 ≤ a) (hb : 0 ≤ b) : cutN a f ≤ cutN (a + b) f ∧ cutN (a + b) f ≤ f.bs.length ∧ (cutN (a + b) f : Int) - (cutN a f : Int) ≤ b ∧ (cutN (a + b) f < f.bs.length → (cutN (a + b) f : Int) - (cutN a f : Int) = b) := by
  unfold cutN
  omega
theorem begB_two {bs : List UInt8} {x y : Nat} (h : x ≤ y) (hy : y ≤ bs.length) : begB (bs.take x) (bs.take y) = true := by
  have := begB_take (bs.take y) x
  rwa [List.take_take, Nat.min_eq_left h] at this
/-- told of a disk that has crashed -/
structure Left (x : Sh) (z : St) (k : Int) : Prop where
  nm : x.nm = (names z.fs).map mkT
  ls : x.ls.map (·.xs) = z.fs.map (fun q => q.2.bs.take (cutN k q.2))
theorem left_of {x : Sh} {z : St} {k : Int} (h : Tells x (up (crash k z))) (ho : z.off = false) : Left x z k := by
  have e : (up (crash k z)).fs = mapv (crF k) z.fs := crash_fs ho k
  refine ⟨by rw [h.nm, e, names_mapv], ?_⟩
  rw [h.ls, e]
  simp [mapv, crF]
theorem Left.at {x : Sh} {z : St} {k : Int} (h : Left x z k) {j : Nat} (hj : j < z.fs.length) : (x.ls.getD j ls0).xs = (z.fs[j]).2.bs.take (cutN k (z.fs[j]).2) := by
  have h1 := congrArg (fun l => l[j]?) h.ls
  simp [hj] at h1
  obtain ⟨a, ha, hb⟩ := h1
  simp [List.getD_eq_getElem?_getD, ha, hb]
theorem Tells.at {x : Sh} {z : St} (h : Tells x z) {j : Nat} (hj : j < z.fs.length) : (x.ls.getD j ls0).xs = (z.fs[j]).2.bs := by
  have h1 := congrArg (fun l => l[j]?) h.ls
  simp [hj] at h1
  obtain ⟨a, ha, hb⟩ := h1
  simp [List.getD_eq_getElem?_getD, ha, hb]
theorem Quiet.cnt {s : St} (h : Quiet s) (g : St → St × Int) : counted s g = g s := by
  rw [counted_cT, tick_unarmed h.pl.calls, cT_on h.off]
theorem syn_all {s : St} {n : Nat} (h : n = s.fs.length) : (syn n s).fs = s.fs.map syn1 := by
  subst h; simp [syn]
/-- all were synced: a crash takes nothing -/
theorem lasts_all {x y : Sh} {z : St} {n : Nat} (hz : Quiet z) (hn : n = z.fs.length) (hx : Tells x (up (crash 0 (syn n z)))) (hy : Tells y z) : x.nm = y.nm ∧ x.ls.map (·.xs) = y.ls.map (·.xs) := by
  have e : (up (crash 0 (syn n z))).fs = z.fs.map syn1 := by
    show (crash 0 (syn n z)).fs = _
    rw [crash_fs (hz.syn n).off, syn_all hn, mapv_syn]
  rw [hx.nm, hx.ls, hy.nm, hy.ls, e, names_syn1, bytes_syn]
  exact ⟨rfl, rfl⟩
theorem crash_again {z : St} (hok : Ok z) (hz : z.off = false) (k l : Int) : (up (crash l (up (crash k z)))).fs = (up (crash k z)).fs := by
  show (crash l (up (crash k z))).fs = (crash k z).fs
  rw [crash_fs (s := up (crash k z)) rfl, show (up (crash k z)).fs = mapv (crF k) z.fs from crash_fs hz k, crash_fs hz k, mapv_idem hok.sy]
theorem begins_yes (w : World) (oa : Option Addr) (na ca : Nat) (ob : Option Addr) (nb cb : Nat) (xs ys : List UInt8) (hna : na = xs.length) (hnb : nb = ys.length) (ha : Row BE w oa xs) (hb : Sl BE w ob cb ys) (hx : xs.length ≤ 281474976710656) (hy : ys.length ≤ 281474976710656) (hB : begB xs ys = true) :
    Calls Try.prog 20 #[.slice oa na ca, .slice ob nb cb] w fun e w' => e = .returned (.bool true) ∧ w' = w := by
  refine (begins_any w oa na ca ob nb cb xs ys hna hnb ha hb hx hy).mono ?_
  rintro e w' ⟨rfl, rfl⟩
  exact ⟨by rw [hB], rfl⟩
theorem Hs.row {w : World} {L hb : Nat} {x : Sh} {nx mx : Nat} {t : St} (h : Hs w L hb x nx mx t) {j : Nat} (hj : j < t.fs.length) : ∃ b off, x.ob = some ⟨b, off, none⟩ ∧ w.cell? ⟨b, off + j, none⟩ = some (.slice (x.ls.getD j ls0).o (x.ls.getD j ls0).xs.length (x.ls.getD j ls0).c) ∧ Own BE w (x.ls.getD j ls0).o (x.ls.getD j ls0).c (x.ls.getD j ls0).xs := by
  have hl : j < x.ls.length := by rw [h.tl.lens.2]; exact hj
  obtain ⟨b, off, e, hc⟩ := rowX_at h.sh.bytes.row hl
  exact ⟨b, off, e, hc, h.sh.each _ (getD_mem x.ls j ls0 hl)⟩
end Go.Proofs.Ytgobakfffobpkaa
