/- What FixWhole asks, in pure lists. -/
import Derived.Test.YtodblodbeobgeaaLI
namespace Go.Proofs.Ytodblodbeobgeaa
open Go.RowKit Go.Sort Orl
set_option linter.unusedVariables false
set_option linter.unusedSimpArgs false

structure Md (ms : List Int) (vs m : List Ver) : Prop where
  len : m.length = vs.length
  formed : Formed m
  whole : Whole m
  fit : FitL m
  at_ : ∀ i, i < vs.length → m.getD i v0 = mendW (KM ms) VM vs (vs.getD i v0)
theorem md_of {ms : List Int} (hm : ms.length ≤ 60) {vs : List Ver} (h : Rd ms vs) : Md ms vs (vs.map (mendW (KM ms) VM vs)) where
  len := List.length_map _
  formed := mended_formed (keydM ms) h.formed h.ofw
  whole := mended_whole h.ofw
  fit := ⟨by rw [List.length_map]; exact h.fit.len, fun v hv => by
    obtain ⟨y, hy, rfl⟩ := List.mem_map.1 hv
    exact ofW_fit (by omega) (mendW_ofW h.ofw hy).1 (by rw [mendW_key]; rw [h.key y hy]; omega)⟩
  at_ i hi := getD_map_lt _ vs v0 v0 hi
theorem Md.key {ms : List Int} {vs m : List Ver} (h : Md ms vs m) {i : Nat} (hi : i < vs.length) : (m.getD i v0).key = (vs.getD i v0).key := by rw [h.at_ i hi, mendW_key]
theorem Md.id {ms : List Int} {vs m : List Ver} (hr : Rd ms vs) (h : Md ms vs m) {i : Nat} (hi : i < vs.length) : (m.getD i v0).id = mostV vs (vs.getD i v0) := by rw [h.at_ i hi]; exact (mendW_ofW hr.ofw (getD_mem_lt v0 hi)).2
theorem Md.same {ms : List Int} {vs m : List Ver} (hr : Rd ms vs) (h : Md ms vs m) {i : Nat} (hi : i < vs.length) (hw : ¬ (vs.getD i v0).id < mostV vs (vs.getD i v0)) : m.getD i v0 = vs.getD i v0 := by
  have he : mostV vs (vs.getD i v0) = (vs.getD i v0).id := by have := most_ge vs (vs.getD i v0); omega
  rw [h.at_ i hi]
  unfold mendW
  rw [he, ← (hr.ofw _ (getD_mem_lt v0 hi)).eq]
theorem Md.there {ms : List Int} {vs m : List Ver} (hr : Rd ms vs) (h : Md ms vs m) {i : Nat} (hi : i < vs.length) : ∃ k, k < vs.length ∧ (vs.getD k v0).id = (m.getD i v0).id := by
  rw [h.id hr hi]
  rcases most_at vs (vs.getD i v0) with e | ⟨x, hx, _, e⟩
  · exact ⟨i, hi, e.symm⟩
  · obtain ⟨k, hk, rfl⟩ := List.getElem_of_mem hx
    exact ⟨k, hk, by simpa [hk] using e⟩
theorem Md.cut {ms : List Int} {vs m : List Ver} (h : Md ms vs m) {i k : Nat} (hi : i < m.length) (hk : k < m.length) (h1 : inn (m.getD i v0).keys (m.getD k v0).key = true) : ¬ (m.getD k v0).id < (m.getD i v0).id := by
  have := h.whole _ (getD_mem_lt v0 hi) _ (getD_mem_lt v0 hk) ((inn_iff _ _).1 h1)
  omega
/-- is the key wanted, among the first k wants? -/
def wantTo (vs : List Ver) (y : Ver) (k : Nat) : Bool := ((needsV vs).take k).any fun p => decide (p.1 = y.key)
theorem wantTo_succ (vs : List Ver) (y : Ver) (k : Nat) (hk : k < (needsV vs).length) : wantTo vs y (k + 1) = (wantTo vs y k || decide (((needsV vs).getD k w0').1 = y.key)) := by
  unfold wantTo
  rw [take_succ_getD _ k w0' hk, List.any_append]; simp
theorem wantTo_all {ms : List Int} {vs : List Ver} (hr : Rd ms vs) {i : Nat} (hi : i < vs.length) : wantTo vs (vs.getD i v0) (needsV vs).length = decide ((vs.getD i v0).id < mostV vs (vs.getD i v0)) := by
  unfold wantTo
  rw [List.take_length, Bool.eq_iff_iff, List.any_eq_true, decide_eq_true_eq, ← wanted_iff hr.formed (getD_mem_lt v0 hi)]
  simp only [decide_eq_true_eq]
/-- is the ID there, among the first k? -/
def thereTo (vs : List Ver) (I k : Nat) : Bool := (vs.take k).any fun v => decide (v.id = I)
theorem thereTo_succ (vs : List Ver) (I k : Nat) (hk : k < vs.length) : thereTo vs I (k + 1) = (thereTo vs I k || decide ((vs.getD k v0).id = I)) := by
  unfold thereTo
  rw [take_succ_getD _ k v0 hk, List.any_append]; simp
theorem thereTo_all {vs : List Ver} {I : Nat} (h : ∃ k, k < vs.length ∧ (vs.getD k v0).id = I) : thereTo vs I vs.length = true := by
  unfold thereTo
  rw [List.take_length, List.any_eq_true]
  obtain ⟨k, hk, e⟩ := h
  exact ⟨_, getD_mem_lt v0 hk, by rw [e]; simp⟩
/-- got: all made; the wants from j on are among them -/
def GotAll (w : World) (ms : List Int) (vs : List Ver) (j L : Nat) (u : Value) (wr : World) : Prop := ∃ o n c rs gs, u = .slice o n c ∧ n = gs.length ∧ gs.length ≤ L ∧ NewVs w o c rs gs wr ∧ (∀ g ∈ gs, FitV g ∧ Made (KM ms) VM ms.length g) ∧ (∀ i, j ≤ i → i < (needsV vs).length → ∃ g ∈ gs, g.key = ((needsV vs).getD i w0').1 ∧ g.id = ((needsV vs).getD i w0').2)
theorem slV : Try.prog.underlying 23 = some (.slice (Try.prog.elem 23)) := by kernel_rfl
/-- l[i:i+1] -/
theorem cutV1 {w0 : World} {o : Option Addr} {n c : Nat} {rs : List RV} {vs : List Ver} (h : Vers w0 o c rs vs) (hn : n = vs.length) {i : Nat} (hi : i < n) :
    ∃ A d, (∀ w, (Instr.slice 23 (.slice o n c) (some (.int .i64 (i : Int))) (some (.int .i64 ((i : Int) + 1))) none).run Try.prog w = .ok (.slice A 1 d) w) ∧ Vers w0 A d [rs.getD i r0] [vs.getD i v0] := by
  subst hn
  have hcap := h.sl.cap
  have hl := h.len
  have hir : i < rs.length := by omega
  have hdt : (rs.drop i).take 1 = [rs.getD i r0] := by
    rw [List.drop_eq_getElem_cons hir, List.take_succ_cons, List.take_zero]; simp only [List.getD_eq_getElem?_getD, List.getElem?_eq_getElem hir, Option.getD_some]
  have each : ∀ {A d}, Sl VE w0 A d [rs.getD i r0] → Vers w0 A d [rs.getD i r0] [vs.getD i v0] := fun hs => vers_one hs (h.each i hi)
  match o, h with
  | none, h =>
    have := h.sl.nil rfl
    omega
  | some ad, h =>
    refine ⟨some (if c = i then ad else ad.add (i * 4)), c - i, fun w => ?_, each ⟨?_, by simp; omega, by simp⟩⟩
    · rw [run_slice_lh w 23 (some ad) _ c slV .i64 .i64 _ _ (by omega) (by omega) (by omega)]
      have hci : ¬ c = i := by omega
      have e1 : ((i : Int) + 1).toNat = i + 1 := by omega
      rw [e1]
      go_simp
      try (first | rfl | (congr 1; omega))
    · have h2 := (h.sl.row.drop okV i (a' := some (if c = i then ad else ad.add (i * 4))) (fun hlt b off e => by
        cases e
        rw [if_neg (by omega), addr_add]
        simp [VE])).take okV 1
      rw [hdt] at h2
      exact h2
theorem has_grown {W : World} (a : Option Addr) (n c : Nat) (xs : List Tx) (s : Tx) (hn : n = xs.length) (hl : xs.length ≤ 8796093022000) (hs : Sl TE W a c xs) (d : Nat) (os : Array Obj) :
    Calls Try.prog 21 #[.slice a n c, .string s] (Sort.grow (redrawn W d) os) fun e w'' => e = .returned (.bool (inn xs s)) ∧ ∃ p : Regrown, w'' = Sort.grow (redrawn W p.d) p.os :=
  call_grown (fun X hX => (has_any X a n c xs s hn hl (hs.keepsN hX)).mono fun e w' ⟨he, hk⟩ => ⟨he, by rw [hk]; exact Keeps.refl _ _⟩) d os
theorem same_grown {W : World} (oa : Option Addr) (na ca : Nat) (ob : Option Addr) (nb cb : Nat) (ra rb : List RV) (va vb : List Ver) (hna : na = va.length) (hnb : nb = vb.length) (hfa : FitL va) (hfb : FitL vb) (ha : Vers W oa ca ra va) (hb : Vers W ob cb rb vb) (d : Nat) (os : Array Obj) :
    Calls Try.prog 22 #[.slice oa na ca, .slice ob nb cb] (Sort.grow (redrawn W d) os) fun e w'' => e = .returned (.bool (decide (va = vb))) ∧ ∃ p : Regrown, w'' = Sort.grow (redrawn W p.d) p.os :=
  call_grown (fun X hX => same_any X oa na ca ob nb cb ra rb va vb hna hnb hfa hfb (ha.keepsN hX) (hb.keepsN hX)) d os
end Go.Proofs.Ytodblodbeobgeaa
