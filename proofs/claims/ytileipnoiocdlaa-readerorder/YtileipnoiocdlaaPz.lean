import Derived.Test.YtileipnoiocdlaaD1
import Derived.Laws.Concat
import Derived.Deep.RegionHeld3
import Derived.Deep.RegionHeldLaw
import Derived.Test.YtileipnoiocdlaaD3
/- The statements' worlds of writes: made, version. -/
namespace Go.Proofs.Ytileipnoiocdlaa
open Go.RowKit Go.Sort Orl
set_option linter.unusedVariables false
set_option linter.unusedSimpArgs false

def ZE : El Int := ⟨3, 69, 1, 8, fun z => [.int .i64 z]⟩
theorem infoZ : (Try.prog.info? 3).map (fun i => (i.zero, i.size, i.bytes)) = some (some (.int .i64 0), 1, 8) := by kernel_rfl
theorem okZ : ZE.Ok := by
  obtain ⟨i0, hi, hz0, hz1, hz2⟩ := info_parts infoZ
  exact ⟨fun _ => rfl, fun x u hu => by simp [ZE] at hu; subst hu; rfl, by decide, Try.underlying69, i0, _, hi, hz0, hz1, hz2, rfl⟩
theorem Sl.atZ {w : World} {a : Option Addr} {c : Nat} {xs : List Int} (h : Sl ZE w a c xs) {j : Nat} (hj : j < xs.length) : ∃ b off, a = some ⟨b, off, none⟩ ∧ w.cell? ⟨b, off + j, none⟩ = some (.int .i64 (xs.getD j 0)) := by
  rcases h.row with e | ⟨b, off, rfl, hc⟩
  · subst e; simp at hj
  · refine ⟨b, off, rfl, hc j _ ?_⟩
    have := cells_at okZ 0 xs j 0 hj (by decide)
    simpa [ZE] using this

/-- the keys of the write number n; what it put under a key -/
def KM (ms : List Int) (n : Nat) : List Tx := setM (ms.getD n 0)
def VM (n : Nat) (k : Tx) : Tx := k ++ mkL [(n : Int)]
abbrev madeV (ms : List Int) (n : Nat) (k : Tx) : Ver := verW (KM ms) VM n k

/-- a struct told: its version -/
def GiveV (w : World) (v : Ver) (u : Value) (w' : World) : Prop := ∃ o n c, u = .agg #[.string v.key, .int .u64 (v.id : Nat), .string v.val, .slice o n c] ∧ Hid (n = v.keys.length) ∧ Own TE w' o c v.keys ∧ New w o ∧ Keeps no w w'

def eqB (B : Nat) : Nat → Prop := fun k => k = B
theorem cells4 {w : World} {B : Nat} {t : TypeId} {a0 a1 a2 a3 : Value} (h : w.heap[B]? = some (.cells #[a0, a1, a2, a3] t (0, 0))) : w.cell? ⟨B, 0, none⟩ = some a0 ∧ w.cell? ⟨B, 1, none⟩ = some a1 ∧ w.cell? ⟨B, 2, none⟩ = some a2 ∧ w.cell? ⟨B, 3, none⟩ = some a3 := by
  refine ⟨?_, ?_, ?_, ?_⟩ <;> rw [cell_of_blk h] <;> rfl
theorem set4 {w : World} {B : Nat} {t : TypeId} {a0 a1 a2 a3 b0 b1 b2 b3 : Value} (h : w.heap[B]? = some (.cells #[a0, a1, a2, a3] t (0, 0))) :
    ((((w.setCell ⟨B, 0, none⟩ b0).setCell ⟨B, 1, none⟩ b1).setCell ⟨B, 2, none⟩ b2).setCell ⟨B, 3, none⟩ b3).heap[B]? = some (.cells #[b0, b1, b2, b3] t (0, 0)) ∧ Keeps (eqB B) w ((((w.setCell ⟨B, 0, none⟩ b0).setCell ⟨B, 1, none⟩ b1).setCell ⟨B, 2, none⟩ b2).setCell ⟨B, 3, none⟩ b3) :=
  ⟨blk_set (blk_set (blk_set (blk_set h 0 b0) 1 b1) 2 b2) 3 b3, (((((Keeps.refl (eqB B) w).setCell (p := ⟨B, 0, none⟩) (.inl (show eqB B B from rfl)) b0).setCell (p := ⟨B, 1, none⟩) (.inl (show eqB B B from rfl)) b1).setCell (p := ⟨B, 2, none⟩) (.inl (show eqB B B from rfl)) b2).setCell (p := ⟨B, 3, none⟩) (.inl (show eqB B B from rfl)) b3)⟩
end Go.Proofs.Ytileipnoiocdlaa
/- Lists of versions that the call itself made; version; brought. -/
namespace Go.Proofs.Ytileipnoiocdlaa
open Go.RowKit Go.Sort Orl
set_option linter.unusedVariables false
set_option linter.unusedSimpArgs false

theorem own_apart {α β : Type} {E : El α} {F : El β} (hne : E.e ≠ F.e) {w : World} {o o' : Option Addr} {c c' : Nat} {xs : List α} {ys : List β} (h : Own E w o c xs) (h' : Own F w o' c' ys) : ∀ k, inO o k → ¬ inO o' k := by
  rintro k ⟨x, rfl, rfl⟩ ⟨y, rfl, hy⟩
  rcases h.shape with ⟨e, _⟩ | ⟨g, cur, e, hg, _⟩
  · cases e
  rcases h'.shape with ⟨e', _⟩ | ⟨g', cur', e', hg', _⟩
  · cases e'
  cases e; cases e'
  simp only at hy
  subst hy
  rw [hg] at hg'
  injection hg' with hg'
  injection hg' with _ h2 _
  exact hne h2
/-- a version whose keys are the call's own -/
structure VerN (w : World) (r : RV) (v : Ver) : Prop where
  key : r.key = v.key
  id : r.id = v.id
  val : r.val = v.val
  n : r.n = v.keys.length
  own : Own TE w r.o r.c v.keys
theorem VerN.of {w : World} {r : RV} {v : Ver} (h : VerN w r v) : VerOf w r v := ⟨h.key, h.id, h.val, h.n, h.own.sl⟩
theorem VerN.keepsN {w w' : World} {r : RV} {v : Ver} (h : VerN w r v) (k : Keeps no w w') : VerN w' r v := ⟨h.key, h.id, h.val, h.n, h.own.keepsN k⟩
theorem VerN.keeps {S : Nat → Prop} {w w' : World} {r : RV} {v : Ver} (h : VerN w r v) (k : Keeps S w w') (hs : ∀ i, inO r.o i → ¬ S i) : VerN w' r v := ⟨h.key, h.id, h.val, h.n, h.own.keeps k hs⟩
/-- a list of versions that was made since w -/
structure NewVs (w : World) (o : Option Addr) (c : Nat) (rs : List RV) (vs : List Ver) (w' : World) : Prop where
  own : Own VE w' o c rs
  len : rs.length = vs.length
  each : ∀ j, j < vs.length → VerN w' (rs.getD j r0) (vs.getD j v0)
  newO : New w o
  newK : ∀ j, j < vs.length → New w (rs.getD j r0).o
  kp : Keeps no w w'
theorem NewVs.vers {w w' : World} {o : Option Addr} {c : Nat} {rs : List RV} {vs : List Ver} (h : NewVs w o c rs vs w') : Vers w' o c rs vs := ⟨h.own.sl, h.len, fun j hj => (h.each j hj).of⟩
theorem NewVs.nil (w : World) : NewVs w none 0 [] [] w := ⟨own_nil w, rfl, fun j hj => by simp at hj, new_none w, fun j hj => by simp at hj, Keeps.refl _ _⟩
theorem NewVs.keepsN {w w' w2 : World} {o : Option Addr} {c : Nat} {rs : List RV} {vs : List Ver} (h : NewVs w o c rs vs w') (k : Keeps no w' w2) : NewVs w o c rs vs w2 :=
  ⟨h.own.keepsN k, h.len, fun j hj => (h.each j hj).keepsN k, h.newO, h.newK, h.kp.trans k⟩
theorem NewVs.older {w u w' : World} {o : Option Addr} {c : Nat} {rs : List RV} {vs : List Ver} (h : NewVs u o c rs vs w') (k : Keeps no w u) : NewVs w o c rs vs w' :=
  ⟨h.own, h.len, h.each, h.newO.of_le k.size, fun j hj => (h.newK j hj).of_le k.size, k.trans h.kp⟩
theorem getD_snoc {α : Type} (l : List α) (x d : α) (j : Nat) : (l ++ [x]).getD j d = if j < l.length then l.getD j d else if j = l.length then x else d := by
  simp only [List.getD_eq_getElem?_getD, List.getElem?_append]
  split
  · rfl
  · rename_i h
    by_cases e : j = l.length
    · subst e; simp
    · rw [if_neg e]
      rw [List.getElem?_eq_none (by simp; omega)]; rfl
theorem NewVs.push {w wr w' : World} {o o' : Option Addr} {c c' : Nat} {rs : List RV} {vs : List Ver} {r : RV} {v : Ver} (h : NewVs w o c rs vs wr) (hr : VerN wr r v) (hn : New w r.o) (ho : Own VE w' o' c' (rs ++ [r])) (ha : Ap wr o o' w') : NewVs w o' c' (rs ++ [r]) (vs ++ [v]) w' := by
  have hne : TE.e ≠ VE.e := by decide
  have hk : Keeps (inO o) wr w' := by rcases ha with ⟨_, k⟩ | ⟨_, k⟩; exact k; exact k.of_no
  have hnn := ha.new h.newO h.kp
  have hl := h.len
  have key : ∀ j, j < (vs ++ [v]).length → VerN w' ((rs ++ [r]).getD j r0) ((vs ++ [v]).getD j v0) ∧ New w ((rs ++ [r]).getD j r0).o := by
    intro j hj
    rw [List.length_append, List.length_singleton] at hj
    rw [getD_snoc, getD_snoc, hl]
    by_cases hlt : j < vs.length
    · rw [if_pos hlt, if_pos hlt]
      exact ⟨(h.each j hlt).keeps hk (own_apart hne (h.each j hlt).own h.own), h.newK j hlt⟩
    · have e : j = vs.length := by omega
      rw [if_neg hlt, if_neg hlt, if_pos e, if_pos e]
      exact ⟨hr.keeps hk (own_apart hne hr.own h.own), hn⟩
  exact ⟨ho, by simp [hl], fun j hj => (key j hj).1, hnn.1, fun j hj => (key j hj).2, hnn.2⟩
/-- a list of versions told: all new -/
def GiveVs (w : World) (vs : List Ver) (u : Value) (w' : World) : Prop := ∃ o n c rs, u = .slice o n c ∧ n = vs.length ∧ NewVs w o c rs vs w'
theorem own_oneV (w : World) (r : RV) : Sl VE (w.alloc (.cells #[.string r.key, .int .u64 (r.id : Nat), .string r.val, .slice r.o r.n r.c] 46)) (some ⟨w.heap.size, 0, none⟩) 1 [r] := by
  refine ⟨.inr ⟨_, 0, rfl, fun j u hj => ?_⟩, by simp, fun e => by cases e⟩
  rw [Nat.zero_add, cell_of_blk (blk_new w _)]
  simpa [El.cells, VE] using hj

/-! ### version -/
/-! ### what a read brought -/
/-- bottom, and the versions of the first j writes that have the key -/
def someV (ms : List Int) (k : Tx) (j : Nat) : List Ver := botV k :: ((List.range j).filter fun n => inn (KM ms n) k).map fun n => madeV ms n k
theorem someV_succ (ms : List Int) (k : Tx) (j : Nat) : someV ms k (j + 1) = if inn (KM ms j) k = true then someV ms k j ++ [madeV ms j k] else someV ms k j := by
  unfold someV
  rw [List.range_succ, List.filter_append, List.map_append]
  split
  · rename_i h; simp [h]
  · rename_i h; simp [h]
theorem someV_len (ms : List Int) (k : Tx) (j : Nat) : 1 ≤ (someV ms k j).length ∧ (someV ms k j).length ≤ j + 1 := by
  unfold someV
  rw [List.length_cons, List.length_map]
  have := List.length_filter_le (fun n => inn (KM ms n) k) (List.range j)
  rw [List.length_range] at this
  omega
theorem someV_of (ms : List Int) (k : Tx) (j : Nat) : ∀ v ∈ someV ms k j, v.key = k ∧ OfW (KM ms) VM j v := by
  intro v hv
  unfold someV at hv
  rcases List.mem_cons.1 hv with rfl | hv
  · exact ⟨rfl, .inl rfl⟩
  · obtain ⟨n, hn, rfl⟩ := List.mem_map.1 hv
    obtain ⟨h1, h2⟩ := List.mem_filter.1 hn
    exact ⟨rfl, .inr ⟨n, List.mem_range.1 h1, (inn_iff _ _).1 h2, rfl⟩⟩
/-- the i-th key of a read -/
def keyR (read turn : Int) (i : Nat) : Tx := (setM read).getD ((i + rst turn ((setM read).length - 1)) % (setM read).length) e0
def pickR (picks : List Int) (i : Nat) : Int := picks.getD i 0
def broV (ms : List Int) (read turn : Int) (picks : List Int) (i : Nat) : Ver := (someV ms (keyR read turn i) ms.length).getD (rst (pickR picks i) ((someV ms (keyR read turn i) ms.length).length - 1)) v0
def broL (ms : List Int) (read turn : Int) (picks : List Int) (n : Nat) : List Ver := (List.range n).map (broV ms read turn picks)
def broughtV (ms : List Int) (read turn : Int) (picks : List Int) : List Ver := broL ms read turn picks (setM read).length
theorem broL_succ (ms : List Int) (read turn : Int) (picks : List Int) (n : Nat) : broL ms read turn picks (n + 1) = broL ms read turn picks n ++ [broV ms read turn picks n] := by
  unfold broL; rw [List.range_succ, List.map_append]; rfl
theorem broL_len (ms : List Int) (read turn : Int) (picks : List Int) (n : Nat) : (broL ms read turn picks n).length = n := by unfold broL; simp
theorem broV_mem (ms : List Int) (read turn : Int) (picks : List Int) (i : Nat) : broV ms read turn picks i ∈ someV ms (keyR read turn i) ms.length := by
  unfold broV
  refine getD_mem_lt v0 ?_
  have := (someV_len ms (keyR read turn i) ms.length).1
  have := rst_le (pickR picks i) ((someV ms (keyR read turn i) ms.length).length - 1)
  omega
theorem mkL_size (z : Int) : (mkL [z]).size = 1 := rfl
theorem setM_size (m : Int) : ∀ s ∈ setM m, s.size = 1 := by
  intro s hs
  unfold setM at hs
  split at hs
  · rcases List.mem_cons.1 hs with rfl | h
    · rfl
    · cases h
  · unfold setK at hs
    obtain ⟨i, _, rfl⟩ := List.mem_map.1 hs
    rfl

end Go.Proofs.Ytileipnoiocdlaa
/- The document's wanted, own, Mend. -/
namespace Go.Proofs.Ytileipnoiocdlaa
open Go.RowKit Go.Sort Orl
set_option linter.unusedVariables false
set_option linter.unusedSimpArgs false

def wantedV (ws : List Wn) (k : Tx) : Nat := ((ws.find? fun p => decide (p.1 = k)).map (·.2)).getD 0
theorem wanted_drop (ws : List Wn) (k : Tx) (j : Nat) (hj : j < ws.length) : ((ws.drop j).find? fun p => decide (p.1 = k)) = if (ws.getD j w0').1 = k then some (ws.getD j w0') else (ws.drop (j + 1)).find? fun p => decide (p.1 = k) := by
  have e : ws.drop j = ws.getD j w0' :: ws.drop (j + 1) := by
    rw [List.drop_eq_getElem_cons hj]; simp [hj]
  rw [e, List.find?_cons]
  by_cases h : (ws.getD j w0').1 = k
  · rw [if_pos h, decide_eq_true h]
  · rw [if_neg h, decide_eq_false h]
theorem needs_nodup {l : List Ver} (hf : Formed l) {y : Ver} (hy : y ∈ l) : wantedV (needsV l) y.key = if y.id < mostV l y then mostV l y else 0 := by
  unfold wantedV
  cases h : (needsV l).find? (fun p => decide (p.1 = y.key)) with
  | none =>
    rw [if_neg]
    · rfl
    · intro hlt
      obtain ⟨p, hp, e⟩ := (wanted_iff hf hy).2 hlt
      have := List.find?_eq_none.1 h p hp
      simp [e] at this
  | some p =>
    have h1 := List.find?_some h
    have hp := List.mem_of_find?_eq_some h
    simp only [decide_eq_true_eq] at h1
    have hlt := (wanted_iff hf hy).1 ⟨p, hp, h1⟩
    rw [if_pos hlt]
    obtain ⟨z, hz, hlz, rfl⟩ := (needs_mem l p).1 hp
    obtain ⟨i, hi, rfl⟩ := List.getElem_of_mem hy
    obtain ⟨k, hk, rfl⟩ := List.getElem_of_mem hz
    have := hf.keys_inj (i := k) (k := i) hk hi (by simpa [hk, hi] using h1)
    subst this
    rfl

/-- got's first that is asked for, among those from j on -/
def hitB (i : Nat) (k : Tx) (g : Ver) : Bool := decide (g.key = k) && decide (g.id = i)
def curV (i : Nat) (y : Ver) (got : List Ver) (j : Nat) : Ver := if i = 0 then y else ((got.drop j).find? (hitB i y.key)).getD y
def fndB (i : Nat) (y : Ver) (got : List Ver) (j : Nat) : Bool := if i = 0 then true else ((got.drop j).find? (hitB i y.key)).isSome
theorem cur_succ (i : Nat) (y : Ver) (got : List Ver) (j : Nat) (hj : j < got.length) : curV i y got j = (if i ≠ 0 ∧ hitB i y.key (got.getD j v0) = true then got.getD j v0 else curV i y got (j + 1)) ∧ fndB i y got j = (if i ≠ 0 ∧ hitB i y.key (got.getD j v0) = true then true else fndB i y got (j + 1)) := by
  have e : got.drop j = got.getD j v0 :: got.drop (j + 1) := by
    rw [List.drop_eq_getElem_cons hj]; simp [hj]
  unfold curV fndB
  by_cases h0 : i = 0
  · simp [h0]
  · simp only [if_neg h0]
    rw [e, List.find?_cons]
    by_cases h : hitB i y.key (got.getD j v0) = true
    · rw [if_pos ⟨h0, h⟩, if_pos ⟨h0, h⟩, h]; exact ⟨rfl, rfl⟩
    · rw [if_neg (fun hh => h hh.2), if_neg (fun hh => h hh.2)]
      rw [Bool.not_eq_true] at h
      rw [h]; exact ⟨rfl, rfl⟩
theorem place_cur {l got : List Ver} (hf : Formed l) {y : Ver} (hy : y ∈ l) : placeV l got y = if fndB (wantedV (needsV l) y.key) y got 0 = true then some (curV (wantedV (needsV l) y.key) y got 0) else none := by
  rw [needs_nodup hf hy]
  unfold placeV fndB curV
  by_cases h : y.id < mostV l y
  · rw [if_pos h, if_pos h]
    have h0 : ¬ mostV l y = 0 := by omega
    rw [if_neg h0, if_neg h0, List.drop_zero]
    have e : (fun g : Ver => decide (g.key = y.key) && decide (g.id = mostV l y)) = hitB (mostV l y) y.key := rfl
    rw [e]
    cases got.find? (hitB (mostV l y) y.key) with
    | none => rfl
    | some a => rfl
  · rw [if_neg h, if_neg h]; rfl
/-- what Mend tells -/
def MendTo (w : World) (l got : List Ver) (u : Value) (w' : World) : Prop :=
  (formedB l = false ∧ u = .tuple #[.slice none 0 0, .int .i64 1] ∧ Keeps no w w') ∨ (formedB l = true ∧ mendV l got = none ∧ u = .tuple #[.slice none 0 0, .int .i64 110] ∧ Keeps no w w') ∨
  (formedB l = true ∧ ∃ m o n c rs, mendV l got = some m ∧ u = .tuple #[.slice o n c, .int .i64 0] ∧ n = m.length ∧ NewVs w o c rs m w')
def mendTo (l got : List Ver) (i : Nat) : Option (List Ver) := (l.take i).mapM (placeV l got)
theorem mapM_snoc {α β : Type} (f : α → Option β) (l : List α) (x : α) {ys : List β} {y : β} (h1 : l.mapM f = some ys) (h2 : f x = some y) : (l ++ [x]).mapM f = some (ys ++ [y]) := by
  rw [List.mapM_append, h1]
  simp [h2]
theorem mapM_length {α β : Type} (f : α → Option β) : ∀ (l : List α) {ys : List β}, l.mapM f = some ys → ys.length = l.length
  | [], ys, h => by simp at h; subst h; rfl
  | x :: r, ys, h => by
    rw [List.mapM_cons] at h
    cases hx : f x with
    | none => rw [hx] at h; cases h
    | some y =>
      cases hr : r.mapM f with
      | none => rw [hx, hr] at h; cases h
      | some zs =>
        rw [hx, hr] at h
        have := mapM_length f r hr
        simp at h
        subst h
        simp [this]
end Go.Proofs.Ytileipnoiocdlaa
/- The document's Mend. -/
namespace Go.Proofs.Ytileipnoiocdlaa
open Go.RowKit Go.Sort Orl
set_option linter.unusedVariables false
set_option linter.unusedSimpArgs false

/-- the version that is held in a cell of the call's own -/
def HeldV (w : World) (B : Nat) (v : Ver) (wr wi : World) : Prop := ∃ r : RV, wi.heap[B]? = some (.cells #[.string r.key, .int .u64 (r.id : Nat), .string r.val, .slice r.o r.n r.c] 46 (0, 0)) ∧ (∀ X, Keeps no w X → VerOf X r v) ∧ Keeps no wr wi
end Go.Proofs.Ytileipnoiocdlaa
/- The chapter's second example. -/
namespace Go.Proofs.Ytileipnoiocdlaa
open Go.RowKit Go.Sort Orl
set_option linter.unusedVariables false
set_option linter.unusedSimpArgs false

def tA : Tx := ⟨#[97]⟩
def tB : Tx := ⟨#[98]⟩
def tC : Tx := ⟨#[99]⟩
def tV : Tx := ⟨#[118]⟩
theorem ab_ne : ¬ tA = tB := by decide
theorem bc_ne : ¬ tB = tC := by decide
theorem ac_ne : ¬ tA = tC := by decide
def xL : List Ver := [⟨tA, 65536, tV, [tA, tB]⟩, ⟨tB, 131072, tV, [tB, tC]⟩, ⟨tC, 0, e0, []⟩]
def xG : List Ver := [⟨tC, 131072, tV, [tB, tC]⟩]
def xM : List Ver := [⟨tA, 65536, tV, [tA, tB]⟩, ⟨tB, 131072, tV, [tB, tC]⟩, ⟨tC, 131072, tV, [tB, tC]⟩]
theorem x_needs : needsV xL = [(tC, 131072)] := by decide
theorem x_mend : mendV xL xG = some xM := by decide
theorem x_none : mendV xL [] = none := by decide
theorem x_rab : rising lts [tA, tB] = true := by
  simp only [rising, lts_eq]; decide
theorem x_rbc : rising lts [tB, tC] = true := by
  simp only [rising, lts_eq]; decide
theorem x_formed : Formed xL := by
  refine ⟨by decide, by decide, ?_, ?_⟩
  · intro j hj
    have : j = 0 ∨ j = 1 ∨ j = 2 := by have : j < 3 := hj; omega
    rcases this with rfl | rfl | rfl
    · show oneB ⟨tA, 65536, tV, [tA, tB]⟩ = true
      unfold oneB; simp only [x_rab]; decide
    · show oneB ⟨tB, 131072, tV, [tB, tC]⟩ = true
      unfold oneB; simp only [x_rbc]; decide
    · decide
  · intro j k hj hk
    have : (j = 1 ∧ k = 0) ∨ (j = 2 ∧ k = 0) ∨ (j = 2 ∧ k = 1) := by have : j < 3 := hj; omega
    rcases this with ⟨rfl, rfl⟩ | ⟨rfl, rfl⟩ | ⟨rfl, rfl⟩ <;> decide
theorem x_formedM : Formed xM := by
  refine ⟨by decide, by decide, ?_, ?_⟩
  · intro j hj
    have : j = 0 ∨ j = 1 ∨ j = 2 := by have : j < 3 := hj; omega
    rcases this with rfl | rfl | rfl
    · show oneB ⟨tA, 65536, tV, [tA, tB]⟩ = true
      unfold oneB; simp only [x_rab]; decide
    · show oneB ⟨tB, 131072, tV, [tB, tC]⟩ = true
      unfold oneB; simp only [x_rbc]; decide
    · show oneB ⟨tC, 131072, tV, [tB, tC]⟩ = true
      unfold oneB; simp only [x_rbc]; decide
  · intro j k hj hk
    have : (j = 1 ∧ k = 0) ∨ (j = 2 ∧ k = 0) ∨ (j = 2 ∧ k = 1) := by have : j < 3 := hj; omega
    rcases this with ⟨rfl, rfl⟩ | ⟨rfl, rfl⟩ | ⟨rfl, rfl⟩ <;> decide
theorem x_whole : wholeB xL = false := wholeB_no fun h => by
  have := (needs_nil xL).2 h
  rw [x_needs] at this; cases this
theorem x_needsM : needsV xM = [] := by decide
theorem x_wholeM : wholeB xM = true := (wholeB_iff _).2 ((needs_nil xM).1 x_needsM)
theorem x_nil : formedB [] = false := formedB_no fun h => by have := h.pos; simp at this
end Go.Proofs.Ytileipnoiocdlaa
/- What the program's Mend tells: new memory, each list by itself. -/
namespace Go.Proofs.Ytileipnoiocdlaa
open Go.RowKit Go.Sort Orl
set_option linter.unusedVariables false
set_option linter.unusedSimpArgs false

/-- a slice of the call's own, or none at all (no room either) -/
def OwnZ {α : Type} (E : El α) (w : World) (o : Option Addr) (c : Nat) (xs : List α) : Prop := Own E w o c xs ∨ (xs = [] ∧ c = 0)
variable {α : Type} {E : El α}
theorem OwnZ.sl {w : World} {o : Option Addr} {c : Nat} {xs : List α} (h : OwnZ E w o c xs) : Sl E w o c xs := by
  rcases h with h | ⟨rfl, rfl⟩
  · exact h.sl
  · exact ⟨.inl rfl, by simp, fun _ => rfl⟩
theorem OwnZ.keepsN {w w' : World} {o : Option Addr} {c : Nat} {xs : List α} (h : OwnZ E w o c xs) (k : Keeps no w w') : OwnZ E w' o c xs := by
  rcases h with h | h
  · exact .inl (h.keepsN k)
  · exact .inr h
theorem OwnZ.keeps {S : Nat → Prop} {w w' : World} {o : Option Addr} {c : Nat} {xs : List α} (h : OwnZ E w o c xs) (k : Keeps S w w') (hs : xs ≠ [] → ∀ i, inO o i → ¬ S i) (hc : xs = [] → c ≠ 0 → ∀ i, inO o i → ¬ S i) : OwnZ E w' o c xs := by
  by_cases e : xs = []
  · by_cases e2 : c = 0
    · exact .inr ⟨e, e2⟩
    · rcases h with h | h
      · exact .inl (h.keeps k (hc e e2))
      · exact absurd h.2 e2
  · rcases h with h | h
    · exact .inl (h.keeps k (hs e))
    · exact absurd h.1 e
/-- a version whose keys are the call's own -/
structure VerZ (w : World) (r : RV) (v : Ver) : Prop where
  key : r.key = v.key
  id : r.id = v.id
  val : r.val = v.val
  n : r.n = v.keys.length
  own : OwnZ TE w r.o r.c v.keys
theorem VerZ.of {w : World} {r : RV} {v : Ver} (h : VerZ w r v) : VerOf w r v := ⟨h.key, h.id, h.val, h.n, h.own.sl⟩
theorem VerZ.keepsN {w w' : World} {r : RV} {v : Ver} (h : VerZ w r v) (k : Keeps no w w') : VerZ w' r v := ⟨h.key, h.id, h.val, h.n, h.own.keepsN k⟩
/-- has it room? -/
def Roomy (r : RV) (k : Nat) : Prop := r.c ≠ 0 ∧ inO r.o k
/-- a list of versions that was made since w; each list of keys by itself -/
structure NewVz (w : World) (o : Option Addr) (c : Nat) (rs : List RV) (vs : List Ver) (w' : World) : Prop where
  own : Own VE w' o c rs
  len : rs.length = vs.length
  each : ∀ j, j < vs.length → VerZ w' (rs.getD j r0) (vs.getD j v0)
  newO : New w o
  newK : ∀ j, j < vs.length → ∀ k, Roomy (rs.getD j r0) k → w.heap.size ≤ k
  sep : ∀ i j, i < j → j < vs.length → ∀ k, Roomy (rs.getD i r0) k → ¬ Roomy (rs.getD j r0) k
  kp : Keeps no w w'
theorem NewVz.vers {w w' : World} {o : Option Addr} {c : Nat} {rs : List RV} {vs : List Ver} (h : NewVz w o c rs vs w') : Vers w' o c rs vs := ⟨h.own.sl, h.len, fun j hj => (h.each j hj).of⟩
theorem NewVz.nil (w : World) : NewVz w none 0 [] [] w := ⟨own_nil w, rfl, fun j hj => by simp at hj, new_none w, fun j hj => by simp at hj, fun i j _ hj => by simp at hj, Keeps.refl _ _⟩
theorem NewVz.keepsN {w w' w2 : World} {o : Option Addr} {c : Nat} {rs : List RV} {vs : List Ver} (h : NewVz w o c rs vs w') (k : Keeps no w' w2) : NewVz w o c rs vs w2 :=
  ⟨h.own.keepsN k, h.len, fun j hj => (h.each j hj).keepsN k, h.newO, h.newK, h.sep, h.kp.trans k⟩
theorem NewVz.older {w u w' : World} {o : Option Addr} {c : Nat} {rs : List RV} {vs : List Ver} (h : NewVz u o c rs vs w') (k : Keeps no w u) : NewVz w o c rs vs w' :=
  ⟨h.own, h.len, h.each, h.newO.of_le k.size, fun j hj q hq => Nat.le_trans k.size (h.newK j hj q hq), h.sep, k.trans h.kp⟩
theorem ownZ_apart {w : World} {r : RV} {v : Ver} (h : VerZ w r v) {β : Type} {F : El β} (hne : TE.e ≠ F.e) {o' : Option Addr} {c' : Nat} {ys : List β} (h' : Own F w o' c' ys) : ∀ k, Roomy r k → ¬ inO o' k := by
  intro k hk
  rcases h.own with ho | ho
  · exact own_apart hne ho h' k hk.2
  · exact absurd ho.2 hk.1
theorem VerZ.keeps {S : Nat → Prop} {w w' : World} {r : RV} {v : Ver} (h : VerZ w r v) (k : Keeps S w w') (hs : ∀ i, Roomy r i → ¬ S i) : VerZ w' r v := by
  refine ⟨h.key, h.id, h.val, h.n, ?_⟩
  by_cases e : r.c = 0
  · rcases h.own with ho | ho
    · have hl := ho.cap.1
      have : v.keys = [] := List.length_eq_zero_iff.1 (by omega)
      exact .inr ⟨this, e⟩
    · exact .inr ho
  · rcases h.own with ho | ho
    · exact .inl (ho.keeps k (fun i hi => hs i ⟨e, hi⟩))
    · exact absurd ho.2 e
/-- one more -/
theorem NewVz.push {w wr w' : World} {o o' : Option Addr} {c c' : Nat} {rs : List RV} {vs : List Ver} {r : RV} {v : Ver} (h : NewVz w o c rs vs wr) (hr : VerZ wr r v) (hn : ∀ k, Roomy r k → w.heap.size ≤ k) (hsep : ∀ j, j < vs.length → ∀ k, Roomy (rs.getD j r0) k → ¬ Roomy r k) (ho : Own VE w' o' c' (rs ++ [r])) (ha : Ap wr o o' w') : NewVz w o' c' (rs ++ [r]) (vs ++ [v]) w' := by
  have hne : TE.e ≠ VE.e := by decide
  have hk : Keeps (inO o) wr w' := by rcases ha with ⟨_, k⟩ | ⟨_, k⟩; exact k; exact k.of_no
  have hnn := ha.new h.newO h.kp
  have hl := h.len
  have key : ∀ j, j < (vs ++ [v]).length → VerZ w' ((rs ++ [r]).getD j r0) ((vs ++ [v]).getD j v0) ∧ ∀ k, Roomy ((rs ++ [r]).getD j r0) k → w.heap.size ≤ k := by
    intro j hj
    rw [List.length_append, List.length_singleton] at hj
    rw [getD_snoc, getD_snoc, hl]
    by_cases hlt : j < vs.length
    · rw [if_pos hlt, if_pos hlt]
      exact ⟨(h.each j hlt).keeps hk (ownZ_apart (h.each j hlt) hne h.own), h.newK j hlt⟩
    · have e : j = vs.length := by omega
      rw [if_neg hlt, if_neg hlt, if_pos e, if_pos e]
      exact ⟨hr.keeps hk (ownZ_apart hr hne h.own), hn⟩
  refine ⟨ho, by simp [hl], fun j hj => (key j hj).1, hnn.1, fun j hj => (key j hj).2, ?_, hnn.2⟩
  intro i j hij hj
  rw [List.length_append, List.length_singleton] at hj
  rw [getD_snoc, getD_snoc, hl]
  by_cases hlt : j < vs.length
  · rw [if_pos hlt, if_pos (show i < vs.length by omega)]
    exact h.sep i j hij hlt
  · have e : j = vs.length := by omega
    rw [if_pos (show i < vs.length by omega), if_neg hlt, if_pos e]
    exact hsep i (by omega)
/-- what the program's Mend tells -/
def MendP (w : World) (l got : List Ver) (u : Value) (w' : World) : Prop :=
  (formedB l = false ∧ u = .tuple #[.slice none 0 0, .int .i64 1] ∧ Keeps no w w') ∨ (formedB l = true ∧ mendV l got = none ∧ u = .tuple #[.slice none 0 0, .int .i64 110] ∧ Keeps no w w') ∨
  (formedB l = true ∧ ∃ m o n c rs, mendV l got = some m ∧ u = .tuple #[.slice o n c, .int .i64 0] ∧ n = m.length ∧ NewVz w o c rs m w')
end Go.Proofs.Ytileipnoiocdlaa
