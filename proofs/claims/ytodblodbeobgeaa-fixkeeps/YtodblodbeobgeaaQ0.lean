/- One element of a list of versions written over; cuts. -/
import Derived.Test.YtodblodbeobgeaaP2
import Derived.Test.YtodblodbeobgeaaLM
import Derived.Test.YtodblodbeobgeaaQs
namespace Go.Proofs.Ytodblodbeobgeaa
open Go.RowKit Go.Sort Orl
set_option linter.unusedVariables false
set_option linter.unusedSimpArgs false

theorem NewVs.set {w wr : World} {o : Option Addr} {c : Nat} {rs : List RV} {vs : List Ver} (h : NewVs w o c rs vs wr) (k : Nat) (hk : k < vs.length) {r : RV} {v : Ver} (hr : VerN wr r v) (hn : New w r.o) :
    ∃ g, o = some ⟨g, 0, none⟩ ∧ (∀ i, wr.frozen? ⟨g, i, none⟩ = false) ∧ NewVs w o c (rs.set k r) (vs.set k v) ((((wr.setCell ⟨g, k * 4, none⟩ (.string r.key)).setCell ⟨g, k * 4 + 1, none⟩ (.int .u64 (r.id : Nat))).setCell ⟨g, k * 4 + 2, none⟩ (.string r.val)).setCell ⟨g, k * 4 + 3, none⟩ (.slice r.o r.n r.c)) := by
  have hne : TE.e ≠ VE.e := by decide
  have hl := h.len
  obtain ⟨g, e, hf, ho, hkp⟩ := h.own.storeE okV k (by omega) r
  refine ⟨g, e, hf, ?_⟩
  have hkp' : Keeps (inO o) wr ((((wr.setCell ⟨g, k * 4, none⟩ (.string r.key)).setCell ⟨g, k * 4 + 1, none⟩ (.int .u64 (r.id : Nat))).setCell ⟨g, k * 4 + 2, none⟩ (.string r.val)).setCell ⟨g, k * 4 + 3, none⟩ (.slice r.o r.n r.c)) := hkp
  have ho' : Own VE ((((wr.setCell ⟨g, k * 4, none⟩ (.string r.key)).setCell ⟨g, k * 4 + 1, none⟩ (.int .u64 (r.id : Nat))).setCell ⟨g, k * 4 + 2, none⟩ (.string r.val)).setCell ⟨g, k * 4 + 3, none⟩ (.slice r.o r.n r.c)) o c (rs.set k r) := ho
  have gs : ∀ {α : Type} (l : List α) (x d : α) (j : Nat), j < l.length → (l.set k x).getD j d = if k = j then x else l.getD j d := by
    intro α l x d j hj
    simp only [List.getD_eq_getElem?_getD, List.getElem?_set]
    by_cases e : k = j
    · subst e; simp [hj]
    · simp [e]
  have key : ∀ j, j < (vs.set k v).length → VerN ((((wr.setCell ⟨g, k * 4, none⟩ (.string r.key)).setCell ⟨g, k * 4 + 1, none⟩ (.int .u64 (r.id : Nat))).setCell ⟨g, k * 4 + 2, none⟩ (.string r.val)).setCell ⟨g, k * 4 + 3, none⟩ (.slice r.o r.n r.c)) ((rs.set k r).getD j r0) ((vs.set k v).getD j v0) ∧ New w ((rs.set k r).getD j r0).o := by
    intro j hj
    rw [List.length_set] at hj
    rw [gs vs v v0 j hj, gs rs r r0 j (by omega)]
    by_cases e : k = j
    · rw [if_pos e, if_pos e]
      exact ⟨hr.keeps hkp' (own_apart hne hr.own h.own), hn⟩
    · rw [if_neg e, if_neg e]
      exact ⟨(h.each j hj).keeps hkp' (own_apart hne (h.each j hj).own h.own), h.newK j hj⟩
  exact ⟨ho', by simp [hl], fun j hj => (key j hj).1, h.newO, fun j hj => (key j hj).2, h.kp.then hkp' (fun i hi => .inr (h.newO i hi))⟩
/-- blocks that came later were written alone -/
theorem NewVs.later {w w3 w' : World} {o : Option Addr} {c : Nat} {rs : List RV} {vs : List Ver} (h : NewVs w o c rs vs w3) (k : Keeps (fun q => w3.heap.size ≤ q) w3 w') : NewVs w o c rs vs w' :=
  ⟨h.own.keeps k (fun q hq e => by have := h.own.lt q hq; omega), h.len, fun j hj => (h.each j hj).keeps k (fun q hq e => by have := (h.each j hj).own.lt q hq; omega), h.newO, h.newK, h.kp.then k (fun q hq => .inr (Nat.le_trans h.kp.size hq))⟩
theorem slZ : Try.prog.underlying 22 = some (.slice (Try.prog.elem 22)) := by kernel_rfl
theorem cutZ_h (w0 : World) (o : Option Addr) (c : Nat) (xs : List Int) (n I : Nat) (i : Int) (hi : i = (I : Nat)) (hn : n = xs.length) (hI : I ≤ n) (h : Sl ZE w0 o c xs) :
    (∀ w, (Instr.slice 22 (.slice o n c) none (some (.int .i64 i)) none).run Try.prog w = .ok (.slice o I c) w) ∧ Sl ZE w0 o c (xs.take I) := by
  subst hi hn
  have hcap := h.cap
  refine ⟨?_, ⟨h.row.take okZ I, by rw [List.length_take]; omega, h.nil⟩⟩
  match o, h with
  | none, h =>
    obtain rfl : c = 0 := h.nil rfl
    intro w
    rw [run_slice_h w 22 none _ 0 slZ .i64 _ (by omega) (by omega)]
    obtain rfl : I = 0 := by omega
    go_simp
  | some ad, h =>
    intro w
    rw [run_slice_h w 22 (some ad) _ c slZ .i64 _ (by omega) (by omega)]
    go_simp
theorem own_oneT (w : World) (x : Tx) : Own TE (w.alloc (.cells #[.string x] 9)) (some ⟨w.heap.size, 0, none⟩) 1 [x] :=
  own_of_shape okT (blk_new w _) (by simp) (by unfold maxLen; omega) (by simp [TE]) (by simp [El.cells, TE])
theorem own_twoT (w : World) (x y : Tx) : Own TE (w.alloc (.cells #[.string x, .string y] 9)) (some ⟨w.heap.size, 0, none⟩) 2 [x, y] :=
  own_of_shape okT (blk_new w _) (by simp) (by unfold maxLen; omega) (by simp [TE]) (by simp [El.cells, TE])
/-! ### lists that are not formed -/
theorem not_formed_at {l : List Ver} {j : Nat} (hj : j < l.length) (h : oneB (l.getD j v0) = false) : ¬ Formed l := fun hf => by rw [hf.one j hj] at h; cases h
theorem not_formed_two {l : List Ver} {j k : Nat} (hj : j < l.length) (hk : k < j) (h : badB (l.getD k v0) (l.getD j v0) = true) : ¬ Formed l := fun hf => by rw [hf.two j k hj hk] at h; cases h
theorem getD_set_eq {α : Type} (l : List α) (k : Nat) (x d : α) (hk : k < l.length) : (l.set k x).getD k d = x := by
  simp [List.getD_eq_getElem?_getD, hk]
theorem not_formed_set {l : List Ver} {k : Nat} (hk : k < l.length) {v : Ver} (h : oneB v = false) : ¬ Formed (l.set k v) :=
  not_formed_at (j := k) (by rw [List.length_set]; exact hk) (by rw [getD_set_eq l k v v0 hk]; exact h)
theorem fit_set {l : List Ver} (h : FitL l) (k : Nat) {v : Ver} (hv : FitV v) : FitL (l.set k v) :=
  ⟨by rw [List.length_set]; exact h.len, fun x hx => by rcases List.mem_or_eq_of_mem_set hx with hx | rfl; exact h.each x hx; exact hv⟩
theorem fit_snoc {l : List Ver} (h : FitL l) (hl : l.length ≤ 1000) {v : Ver} (hv : FitV v) : FitL (l ++ [v]) :=
  ⟨by rw [List.length_append]; simp; omega, fun x hx => by
    rcases List.mem_append.1 hx with hx | hx
    · exact h.each x hx
    · rcases List.mem_cons.1 hx with rfl | hx
      · exact hv
      · cases hx⟩
end Go.Proofs.Ytodblodbeobgeaa
