import Derived.Test.YtdemoghlibnooaaGreatDoorBB
import Derived.Test.YtdemoghlibnooaaGreatDoorBA
/- Snapshots of stores, in pure functions. -/
namespace Go.Proofs.YtdemoghlibnooaaGreatDoor
open Pk Orl Go.Sort Go.Maps
set_option linter.unusedVariables false
set_option linter.unusedSimpArgs false

/-- what a store tells -/
structure Tld (s : St) (ls : List Mk) (ks : List KV) : Prop where
  is : IsKs s ks
  all : ∀ m, s.V m ≠ none → m ∈ ks.map (·.m)
  inc : Inc ltM (ks.map (·.m))
  la : IsLs s ls
def vts (ks : List KV) : List VT := ks.map KV.vt
def SnOf (s : St) (g : Nat) (b : List Nat) : Prop := ∃ ls ks, Tld s ls ks ∧ b = snap g ls (vts ks)
/-- the same but for stamps -/
structure Sim (s t : St) : Prop where
  v : ∀ m, (s.V m).map (fun v => (v.val, v.keys)) = (t.V m).map (fun v => (v.val, v.keys))
  l : ∀ k, s.last k = t.last k
theorem Sim.refl (s : St) : Sim s s := ⟨fun _ => rfl, fun _ => rfl⟩
theorem Sim.symm {s t : St} (h : Sim s t) : Sim t s := ⟨fun m => (h.v m).symm, fun k => (h.l k).symm⟩
theorem Sim.trans {s t u : St} (h : Sim s t) (k : Sim t u) : Sim s u := ⟨fun m => (h.v m).trans (k.v m), fun x => (h.l x).trans (k.l x)⟩
theorem inc_lasts {s : St} {ls : List Mk} (h : IsLs s ls) : Inc ltl ls := by
  have := h.1
  unfold Inc at this ⊢
  rw [List.pairwise_map] at this
  exact this
theorem tld_ls {s t : St} {a b : List Mk} (h : ∀ k, s.last k = t.last k) (ha : IsLs s a) (hb : IsLs t b) : a = b := by
  refine inc_ext swoL (inc_lasts ha) (inc_lasts hb) (fun m => ?_)
  obtain ⟨k, i⟩ := m
  rw [ha.2, hb.2, h]
theorem Sim.none {s t : St} (h : Sim s t) {m : Mk} : s.V m ≠ none ↔ t.V m ≠ none := by
  have := h.v m
  cases h1 : s.V m <;> cases h2 : t.V m <;> rw [h1, h2] at this <;> simp at this ⊢
theorem list_ext_map {α β γ : Type} (f : α → γ) (g : α → β) (P : α → Prop) : ∀ (a b : List α), a.map f = b.map f → (∀ x ∈ a, ∀ y ∈ b, f x = f y → g x = g y) → a.map g = b.map g
  | [], [], _, _ => rfl
  | [], y :: b, h, _ => by simp at h
  | x :: a, [], h, _ => by simp at h
  | x :: a, y :: b, h, hx => by
    simp only [List.map_cons, List.cons.injEq] at h ⊢
    exact ⟨hx x (by simp) y (by simp) h.1, list_ext_map f g P a b h.2 (fun u hu v hv => hx u (by simp [hu]) v (by simp [hv]))⟩
theorem tld_vs {s t : St} (h : Sim s t) {la lb : List Mk} {a b : List KV} (ha : Tld s la a) (hb : Tld t lb b) : vts a = vts b := by
  have e : a.map (·.m) = b.map (·.m) := inc_ext swoM ha.inc hb.inc (fun m => by
    constructor
    · intro hm
      obtain ⟨x, hx, rfl⟩ := List.mem_map.1 hm
      exact hb.all _ (h.none.1 (by rw [ha.is x hx]; simp))
    · intro hm
      obtain ⟨x, hx, rfl⟩ := List.mem_map.1 hm
      exact ha.all _ (h.none.2 (by rw [hb.is x hx]; simp)))
  refine list_ext_map (·.m) KV.vt (fun _ => True) a b e (fun x hx y hy hm => ?_)
  have h1 := h.v x.m
  have h2 := ha.is x hx
  have h3 := hb.is y hy
  rw [h2, hm, h3] at h1
  simp at h1
  unfold KV.vt
  rw [hm, h1.1, h1.2]
theorem SnOf.eq {s t : St} (h : Sim s t) {g : Nat} {a b : List Nat} (ha : SnOf s g a) (hb : SnOf t g b) : a = b := by
  obtain ⟨la, ka, ha, rfl⟩ := ha
  obtain ⟨lb, kb, hb, rfl⟩ := hb
  rw [tld_vs h ha hb, tld_ls h.l ha.la hb.la]
theorem tld_lims {s : St} (hok : Ok s) {ls : List Mk} {ks : List KV} (h : Tld s ls ks) : (∀ l ∈ ls, LimL l) ∧ ∀ v ∈ vts ks, LimV v := by
  constructor
  · intro l hl
    have h1 := (h.la.2 l.1 l.2).1 hl
    have h2 := hok.la l.1 (by rw [h1.1]; exact h1.2)
    refine ⟨?_, by rw [← h1.1]; exact hok.last_lt _⟩
    cases hv : s.V (l.1, s.last l.1) with
    | none => exact absurd hv h2
    | some v => exact (show ((l.1, s.last l.1) : Mk).1.size ≤ 65535 from hok.v.size hv)
  · intro v hv
    obtain ⟨x, hx, rfl⟩ := List.mem_map.1 hv
    have hv := h.is x hx
    have h1 := hok.v.keys _ _ hv
    have h2 := okKeys_iff.1 h1.1
    exact ⟨hok.v.size hv, (hok.v.id _ _ hv).2, h1.2.2, h2.1.2, h2.2.1⟩
theorem ls_le {s : St} (hok : Ok s) {ls : List Mk} {ks : List KV} (h : Tld s ls ks) : ls.length ≤ ks.length := by
  have hn : ls.Nodup := by
    have := nk_inc (inc_lasts h.la)
    exact List.Pairwise.imp (fun {a b} hab e => hab (by rw [e])) this
  have := List.Nodup.length_le_of_subset (l₁ := ls) (l₂ := ks.map (·.m)) hn (fun l hl => by
    have h1 := (h.la.2 l.1 l.2).1 hl
    have h2 := hok.la l.1 (by rw [h1.1]; exact h1.2)
    rw [h1.1] at h2
    exact h.all _ h2)
  simpa using this

/-! ### a store read again -/
def restS (now : Int) (s : St) : St := ⟨fun m => (s.V m).map fun v => ⟨v.val, v.keys, if m.2 < s.last m.1 then now else -1⟩, s.last⟩
theorem rest_some {now : Int} {s : St} {m : Mk} {v : Vr} (h : (restS now s).V m = some v) : ∃ u, s.V m = some u ∧ v.val = u.val ∧ v.keys = u.keys ∧ v.stamp = if m.2 < s.last m.1 then now else -1 := by
  have h : (s.V m).map _ = some v := h
  cases hu : s.V m with
  | none => rw [hu] at h; cases h
  | some u =>
    rw [hu] at h
    simp only [Option.map_some, Option.some.injEq] at h
    subst h
    exact ⟨u, rfl, rfl, rfl, rfl⟩
theorem rest_sim (now : Int) (s : St) : Sim (restS now s) s := by
  refine ⟨fun m => ?_, fun k => rfl⟩
  show ((s.V m).map _).map _ = _
  rw [Option.map_map]
  rfl
theorem rest_ok {now : Int} {s : St} (h : Ok s) (ht : tickB now = true) : Ok (restS now s) := by
  refine ⟨⟨fun m v hv => ?_, fun m v hv => ?_⟩, fun m v hv => ?_, fun k hk => ?_⟩
  · obtain ⟨u, hu, h1, h2, _⟩ := rest_some hv
    rw [h1, h2]; exact h.v.keys m u hu
  · obtain ⟨u, hu, _⟩ := rest_some hv
    exact h.v.id m u hu
  · obtain ⟨u, hu, _, _, h3⟩ := rest_some hv
    rw [h3]
    refine ⟨fun hl => ?_, fun hl => ?_⟩
    · have hl : m.2 < s.last m.1 := hl
      rw [if_pos hl]; exact tick_iff.1 ht
    · have hl : ¬ m.2 < s.last m.1 := hl
      rw [if_neg hl]
  · have := (rest_sim now s).none.2 (h.la k hk)
    exact this
theorem rest_is {now : Int} {s : St} {m : Mk} {v : Vr} (h : s.V m = some v) : (restS now s).V m = some ⟨v.val, v.keys, if m.2 < s.last m.1 then now else -1⟩ := by
  show (s.V m).map _ = _
  rw [h]
  rfl
def stOf (now : Int) (ls : List Mk) (m : Mk) : Int := if m.2 < lastIn ls m.1 then now else -1
/-- the versions that are read, with their stamps -/
def stk (now : Int) (ls : List Mk) (vs : List VT) : List KV := vs.map fun v => ⟨v.1, v.2.1, none, 0, v.2.2, stOf now ls v.1⟩
theorem stk_vts (now : Int) (ls : List Mk) (vs : List VT) : vts (stk now ls vs) = vs := by
  unfold vts stk
  rw [List.map_map]
  exact (List.map_congr_left (fun v _ => rfl)).trans (List.map_id vs)
/-- where a list's slices lie does not matter -/
def KV.key (x : KV) : VT × Int := (x.vt, x.stamp)
theorem all_map {α β : Type} (f : α → β) (g : β → Bool) (l : List α) : l.all (fun x => g (f x)) = (l.map f).all g := by rw [List.all_map]; rfl
theorem map_m {a b : List KV} (h : a.map KV.key = b.map KV.key) : a.map (·.m) = b.map (·.m) := by
  have := congrArg (List.map fun p : VT × Int => p.1.1) h
  rw [List.map_map, List.map_map] at this
  exact this
theorem loadKs_congr {a b : List KV} (h : a.map KV.key = b.map KV.key) : loadKs a = loadKs b := by
  have e : ∀ (l : List KV) (s : St), l.foldl (fun s x => s.add x.m x.vr) s = (l.map KV.key).foldl (fun s p => s.add p.1.1 ⟨p.1.2.1, p.1.2.2, p.2⟩) s := fun l => by
    induction l with
    | nil => intro s; rfl
    | cons x r ih => intro s; rw [List.foldl_cons, ih, List.map_cons, List.foldl_cons]; rfl
  unfold loadKs
  rw [e, e, h]
theorem loadS_congr {a b : List KV} (h : a.map KV.key = b.map KV.key) (ls : List Mk) : loadS a ls = loadS b ls := by
  unfold loadS; rw [loadKs_congr h]
theorem rising_map {α β : Type} (f : α → β) (lt : β → β → Bool) : ∀ (l : List α), rising (fun a b => lt (f a) (f b)) l = rising lt (l.map f)
  | [] => rfl
  | [x] => rfl
  | x :: y :: r => by
    have ih := rising_map f lt (y :: r)
    simp only [rising, List.map_cons] at ih ⊢
    rw [ih]
theorem okLoad_congr {a b : List KV} (h : a.map KV.key = b.map KV.key) (ls : List Mk) : okLoad a ls = okLoad b ls := by
  have e1 : ∀ l : List KV, l.all okKv = (l.map KV.key).all fun p => decide (65536 ≤ p.1.1.2) && (decide (p.1.2.1.size ≤ 65535) && (okKeys p.1.2.2 && inn p.1.2.2 p.1.1.1)) := fun l => by
    rw [List.all_map]; rfl
  have e2 : ∀ l : List KV, rising ltk l = rising ltM (l.map (·.m)) := fun l => rising_map (fun x : KV => x.m) ltM l
  have e3 : ∀ l : List KV, fitsAll l ls = (l.map KV.key).all fun p => fitsB p.2 (decide (p.1.1.2 < lastIn ls p.1.1.1)) := fun l => by
    unfold fitsAll; rw [List.all_map]; rfl
  unfold okLoad okKept hasAll
  rw [e1 a, e1 b, e2 a, e2 b, e3 a, e3 b, h, map_m h, loadKs_congr h]
theorem okLoad_rising {ks : List KV} {ls : List Mk} (h : rising ltl ls = false) : okLoad ks ls = false := by
  unfold okLoad
  rw [h]
  simp
/-- what Load takes tells just that again -/
theorem load_tld {ks : List KV} {ls : List Mk} (h : okLoad ks ls = true) : Tld (loadS ks ls) ls ks := by
  have h0 := h
  unfold okLoad okKept fitsAll hasAll at h
  simp only [Bool.and_eq_true] at h
  obtain ⟨⟨⟨h1, h2⟩, h3⟩, h4, h5⟩ := h
  have hil := (rising_iff swoL ls).1 h3
  have hik := (rising_iff swoK ks).1 h2
  have hnk := nk_inc hil
  have hne := inck_ne hik
  refine ⟨fun x hx => ?_, fun m hm => ?_, ?_, ?_, fun k i => ?_⟩
  · rw [loadS_V, loadKs_some hne hx]; rfl
  · rw [loadS_V] at hm
    by_cases hc : ∃ x ∈ ks, x.m = m
    · obtain ⟨x, hx, rfl⟩ := hc
      exact List.mem_map.2 ⟨x, hx, rfl⟩
    · exact absurd (loadKs_none (fun x hx e => hc ⟨x, hx, e⟩)) hm
  · unfold Inc at hik ⊢
    rw [List.pairwise_map]
    exact hik
  · unfold Inc at hil ⊢
    rw [List.pairwise_map]
    exact hil
  · rw [loadS_last hnk]
    unfold lastIn
    constructor
    · intro hm
      have hf := fnd_of_mem hnk hm
      rw [hf]
      refine ⟨rfl, ?_⟩
      have h6 := List.all_eq_true.1 h5 _ hm
      intro e
      subst e
      cases hv : (loadKs ks).V (k, 0) with
      | none => rw [hv] at h6; cases h6
      | some v =>
        have : ∃ x ∈ ks, x.m = (k, 0) := by
          by_cases hc : ∃ x ∈ ks, x.m = (k, 0)
          · exact hc
          · rw [loadKs_none (fun x hx e => hc ⟨x, hx, e⟩)] at hv; cases hv
        obtain ⟨x, hx, e⟩ := this
        have h7 := List.all_eq_true.1 h1 x hx
        simp only [okKv, Bool.and_eq_true, decide_eq_true_eq] at h7
        have := h7.1
        rw [e] at this
        omega
    · rintro ⟨e, hi⟩
      cases hf : fnd k ls with
      | none => rw [hf] at e; exact absurd e.symm hi
      | some j =>
        rw [hf] at e
        have e : j = i := e
        subst e
        exact fnd_mem hf

/-! ### what Read answers -/
def rdKs (now : Int) (b : List Nat) : List KV := stk now (rdLs (bodyO b)).1 (rdVs (bodyO b)).1
def rdOk (now : Int) (b : List Nat) : Bool := bodyOk (bodyO b) && okLoad (rdKs now b) (rdLs (bodyO b)).1
def rdS (now : Int) (b : List Nat) : St := loadS (rdKs now b) (rdLs (bodyO b)).1
def rdG (b : List Nat) : Nat := (hd3 (bodyO b)).1
theorem bodyO_byt {b : List Nat} (hb : ∀ c ∈ b, c < 256) : ∀ c ∈ bodyO b, c < 256 := byt_take hb _
/-- what is taken is what is laid of it -/
theorem read_laid {now : Int} {b : List Nat} (hb : ∀ c ∈ b, c < 256) (hs : sumOk b = true) (h : rdOk now b = true) : SnOf (rdS now b) (rdG b) b ∧ genOk (rdG b) = true := by
  unfold rdOk at h
  rw [Bool.and_eq_true] at h
  have e1 := sumOk_read hb hs
  have e2 := body_read (bodyO_byt hb) h.1
  refine ⟨⟨_, _, load_tld h.2, ?_⟩, ?_⟩
  · unfold snap
    rw [show vts (rdKs now b) = (rdVs (bodyO b)).1 from stk_vts _ _ _, show rdG b = (hd3 (bodyO b)).1 from rfl, ← e2]
    exact e1
  · have := h.1
    unfold bodyOk headOk at this
    simp only [Bool.and_eq_true] at this
    exact this.1.2
theorem lastIn_of {s : St} {ls : List Mk} (hl : IsLs s ls) (k : Tx) : lastIn ls k = s.last k := by
  unfold lastIn
  cases hf : fnd k ls with
  | some i => exact ((hl.2 k i).1 (fnd_mem hf)).1.symm
  | none =>
    by_cases e : s.last k = 0
    · exact e.symm
    · have := (hl.2 k (s.last k)).2 ⟨rfl, e⟩
      exact absurd rfl (fnd_none.1 hf _ this)
/-- what was laid is taken -/
theorem laid_read {s : St} (hok : Ok s) {g : Nat} {b : List Nat} (h : SnOf s g b) (hg : genOk g = true) {now : Int} (ht : tickB now = true) {N : Nat} (hN : ∀ ls ks, Tld s ls ks → ks.length ≤ N) (hN2 : N < 4294967296) :
    sumOk b = true ∧ rdOk now b = true ∧ rdG b = g ∧ (∀ m, (rdS now b).V m = (restS now s).V m) ∧ (∀ k, (rdS now b).last k = s.last k) ∧ (rdVs (bodyO b)).1.length ≤ N := by
  obtain ⟨ls, ks, hT, rfl⟩ := h
  have hl := tld_lims hok hT
  have hn := hN ls ks hT
  have hln := ls_le hok hT
  have hg2 : g < 18446744073709551616 := by
    unfold genOk at hg
    simp only [decide_eq_true_eq] at hg
    omega
  have hL : Lims g ls (vts ks) := ⟨hg2, hl.1, hl.2, by omega, by simp [vts]; omega⟩
  obtain ⟨b1, b2, b3, b4⟩ := body_back hL
  have eb : bodyO (snap g ls (vts ks)) = snBody g ls (vts ks) := bodyO_snap _ _
  have ek : rdKs now (snap g ls (vts ks)) = stk now ls (vts ks) := by
    unfold rdKs
    rw [eb, b3, b4]
  have hm : (stk now ls (vts ks)).map (·.m) = ks.map (·.m) := by
    unfold stk vts
    rw [List.map_map, List.map_map]
    rfl
  have hld := load_told (rest_ok hok ht) (ks := stk now ls (vts ks)) (ls := ls) ⟨fun x hx => ?_, fun m hm' => ?_⟩ (by rw [hm]; exact hT.inc) ⟨hT.la.1, hT.la.2⟩
  · refine ⟨sumOk_snap _ (snBody_lt _ _ _), ?_, ?_, ?_, ?_, ?_⟩
    · unfold rdOk
      rw [ek, eb, body_back_ok hL hg, b3, hld.1]
      rfl
    · unfold rdG; rw [eb, b2]
    · unfold rdS; rw [ek, eb, b3]; exact hld.2.1
    · unfold rdS; rw [ek, eb, b3]; exact hld.2.2
    · rw [eb, b4]; simp [vts]; exact hn
  · unfold stk vts at hx
    rw [List.map_map] at hx
    obtain ⟨y, hy, rfl⟩ := List.mem_map.1 hx
    have h5 := rest_is (now := now) (hT.is y hy)
    rw [← lastIn_of hT.la] at h5
    exact h5
  · rw [hm]
    exact hT.all _ ((rest_sim now s).none.1 hm')
end Go.Proofs.YtdemoghlibnooaaGreatDoor
/- What is told, as one. -/
namespace Go.Proofs.YtdemoghlibnooaaGreatDoor
open Go.RowKit Go.Maps Go.Sort Orl
set_option linter.unusedVariables false
set_option linter.unusedSimpArgs false

/-- a store's versions, told -/
structure Kd (s : St) (ks : List KV) (o : Option Addr) (n c : Nat) (w : World) : Prop where
  n : n = ks.length
  own : Own KE w o c ks
  key : ∀ x ∈ ks, Own TE w x.o x.c x.keys
  is : IsKs s ks
  all : ∀ m, s.V m ≠ none → m ∈ ks.map (·.m)
  inc : Inc ltM (ks.map (·.m))
  ok : Ok s
  le : ks.length ≤ 1954687338211
theorem Kd.keepsN {s : St} {ks : List KV} {o : Option Addr} {n c : Nat} {w w' : World} (h : Kd s ks o n c w) (hk : Keeps no w w') : Kd s ks o n c w' :=
  ⟨h.n, h.own.keepsN hk, fun x hx => (h.key x hx).keepsN hk, h.is, h.all, h.inc, h.ok, h.le⟩
structure Ld (s : St) (ls : List Mk) (o : Option Addr) (n c : Nat) (w : World) : Prop where
  n : n = ls.length
  own : Own LE w o c ls
  is : IsLs s ls
  ok : Ok s
  le : ls.length ≤ 5864062014634
theorem Ld.keepsN {s : St} {ls : List Mk} {o : Option Addr} {n c : Nat} {w w' : World} (h : Ld s ls o n c w) (hk : Keeps no w w') : Ld s ls o n c w' := ⟨h.n, h.own.keepsN hk, h.is, h.ok, h.le⟩
theorem Ow.keptK {w0 w : World} {p : Nat} {s : St} {N : Nat} {P : Nat → Prop} (h : Ow w0 w p s N P) (hN : N ≤ 1954687338211) :
    Calls Tryz.prog 33 #[.pointer (some ⟨p, 0, none⟩)] w fun e w' => ∃ o n c ks, e = .returned (.slice o n c) ∧ Hid (Kd s ks o n c w' ∧ Kl w ks o c w' ∧ Keeps no w w' ∧ ks.length ≤ N) := by
  refine (h.kept hN).mono ?_
  rintro e w' ⟨v, rfl, o, n, c, ks, rfl, hn, hK, hl⟩
  exact ⟨o, n, c, ks, rfl, ⟨hn.out, hK.out.1.own, fun x hx => (hK.out.1.key x hx).1, hK.out.2.1, hK.out.2.2.2, hK.out.2.2.1, h.ok, by have := hl.out; omega⟩, hK.out.1, hK.out.1.keep, hl.out⟩
theorem Ow.lastsK {w0 w : World} {p : Nat} {s : St} {N : Nat} {P : Nat → Prop} (h : Ow w0 w p s N P) (hN : N ≤ 1954687338211) :
    Calls Tryz.prog 55 #[.pointer (some ⟨p, 0, none⟩)] w fun e w' => ∃ o n c ls, e = .returned (.slice o n c) ∧ Hid (Ld s ls o n c w' ∧ New w o ∧ Keeps no w w' ∧ ls.length ≤ N) := by
  refine (h.lasts hN).mono ?_
  rintro e w' ⟨v, rfl, ls, ⟨o, n, c, rfl, hn, ho, hnw, hk⟩, hi, hl⟩
  exact ⟨o, n, c, ls, rfl, ⟨hn.out, ho, hi.out, h.ok, by have := hl.out; omega⟩, hnw, hk, hl.out⟩
theorem Kd.okKs {s : St} {ks : List KV} {o : Option Addr} {n c : Nat} {w : World} (h : Kd s ks o n c w) : OkKs w ks := fun x hx => ⟨(h.key x hx).sl, by have := h.ok.v.len (h.is x hx); simp only at this; omega⟩
theorem Kd.inK {s : St} {ks : List KV} {o : Option Addr} {n c : Nat} {w : World} (h : Kd s ks o n c w) : InK w ks := ⟨fun x hx => by
  have h1 := h.is x hx
  have h2 := h.ok.v.len h1
  have h3 := h.ok.v.id _ _ h1
  have h4 := h.ok.v.size h1
  have h5 := (h.ok.v.keys _ _ h1).2.2
  simp only at h2 h5
  exact ⟨(h.key x hx).sl, by omega, h3.2, by omega, by omega⟩⟩
/-- of like states like lists -/
theorem kd_same {st : Bool} {s t : St} (h : Sim s t) (hst : st = true → ∀ m, s.V m = t.V m) {a b : List KV} {o o' : Option Addr} {n n' c c' : Nat} {w w' : World} (ha : Kd s a o n c w) (hb : Kd t b o' n' c' w') : KsEq st a b := by
  have e : a.map (·.m) = b.map (·.m) := inc_ext swoM ha.inc hb.inc (fun m => by
    constructor
    · intro hm
      obtain ⟨x, hx, rfl⟩ := List.mem_map.1 hm
      exact hb.all _ (h.none.1 (by rw [ha.is x hx]; simp))
    · intro hm
      obtain ⟨x, hx, rfl⟩ := List.mem_map.1 hm
      exact ha.all _ (h.none.2 (by rw [hb.is x hx]; simp)))
  have hl : a.length = b.length := by have := congrArg List.length e; simpa using this
  refine ⟨hl, fun j hj => ?_⟩
  have hjb : j < b.length := by omega
  have e1 : (a.getD j kv0).m = (b.getD j kv0).m := by
    have g1 : a.getD j kv0 = a[j] := by simp [List.getD_eq_getElem?_getD, hj]
    have g2 : b.getD j kv0 = b[j] := by simp [List.getD_eq_getElem?_getD, hjb]
    rw [g1, g2]
    have := congrArg (fun l => l[j]?) e
    simp [hj, hjb] at this
    exact this
  have v1 := ha.is _ (getD_mem_lt kv0 hj)
  have v2 := hb.is _ (getD_mem_lt kv0 hjb)
  have h1 := h.v (a.getD j kv0).m
  rw [v1, e1, v2] at h1
  simp only [Option.map_some, Option.some.injEq, Prod.mk.injEq] at h1
  refine ⟨e1, h1.1, h1.2, fun hs => ?_⟩
  have h2 := hst hs (a.getD j kv0).m
  rw [v1, e1, v2] at h2
  injection h2 with h2
  injection h2 with _ _ q3
theorem ld_same {s t : St} (h : ∀ k, s.last k = t.last k) {a b : List Mk} {o o' : Option Addr} {n n' c c' : Nat} {w w' : World} (ha : Ld s a o n c w) (hb : Ld t b o' n' c' w') : a = b := by
  have hi : ∀ {l : List Mk}, Inc lts (l.map (·.1)) → Inc ltl l := fun {l} hl => by
    unfold Inc at hl ⊢
    rw [List.pairwise_map] at hl
    exact hl
  refine inc_ext swoL (hi ha.is.1) (hi hb.is.1) (fun m => ?_)
  obtain ⟨k, i⟩ := m
  rw [ha.is.2, hb.is.2, h]
end Go.Proofs.YtdemoghlibnooaaGreatDoor
